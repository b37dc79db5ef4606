/-
  What follows a region that draws its order, told once for all its orders.
-/
import Derived.Test.YtbobgebhdafciabDoorJsN
namespace Go.Proofs.YtbobgebhdafciabDoor
open Go.Shelf Go.RowKit
set_option linter.unusedVariables false
set_option linter.unusedSimpArgs false

/-- At its end, not otherwise. -/
def NmE : Exit → Prop → Prop
  | .normal, p => p
  | _, _ => False
/-- .. by a place and a world. -/
theorem wp_framesN {P : Program} {c : Code} {Q' : Exit → Act → World → Prop} {a : Act} {w : World} (R : Nat → World → Prop) (Fr : Nat → World → Act)
    (reg : c.wp P (fun e a W => NmE e (∃ g, R g W ∧ a = Fr g W)) a w) (rest : ∀ g W, R g W → Q' Exit.normal (Fr g W) W) : c.wp P Q' a w :=
  Code.wp_mono (fun e a W h => by
    cases e with
    | normal =>
      obtain ⟨g, hR, rfl⟩ := h
      exact rest g W hR
    | _ => exact h.elim) reg
theorem rest_bwU (W : World) (l : Bs) (hl : l.length ≤ 9223372036854775807) : RestV (Lib.bytesWorld W 5 ⟨l.toArray⟩) (Lib.bytesWorld W 5 ⟨l.toArray⟩).heap.size (some ⟨W.heap.size, 0, none⟩) (grownCap W l.length 0 5) l := by
  have h := rest_bw W l
  refine ⟨h.cap, ?_, h.lies, fun a ha => ?_, fun h => by cases h⟩
  · have := grownCap_le_maxLen W l.length 0 5 (by unfold maxLen; omega)
    unfold maxLen at this
    omega
  · cases ha
    exact ⟨by rw [Lib.bytesWorld_size]; simp, rfl⟩
/-- Parse of a text. -/
theorem parse_txt (W : World) (l : Bs) (m : Nat) (hm : l.length = m) (hl : m ≤ 1000000) (hT : Tabs W) :
    Calls Tryd.prog 6 #[.slice (some ⟨W.heap.size, 0, none⟩) m (grownCap W m 0 5)] (Lib.bytesWorld W 5 ⟨l.toArray⟩) fun e w' => Below W.heap.size W w' ∧ ((∃ ns p c, parseS l = .ok ns ∧ e = .returned (.tuple #[.slice p ns.length c, .int .i64 0]) ∧ LiesN w' p ns ∧ ns.length ≤ 256) ∨ (∃ k : Nat, parseS l = .error k ∧ 0 < k ∧ k < 100 ∧ e = .returned (.tuple #[.slice none 0 0, .int .i64 k]))) := by
  have hr := rest_bwU W l (by omega)
  have hc := Parse_any _ _ l _ hr (hT.below (below_bw W l))
  rw [hm] at hc
  refine hc.mono ?_
  rintro e w' ⟨hb, (⟨ns, nv, hs, q1, rfl, N2, l2⟩ | ⟨k, q1, k1, k2, rfl⟩)⟩
  · obtain ⟨pa, ca, rfl, L2⟩ := N2.lies
    exact ⟨(below_bw W l).trans (hb.mono (below_bw W l).size), .inl ⟨ns, pa, ca, q1, rfl, L2, l2⟩⟩
  · exact ⟨(below_bw W l).trans (hb.mono (below_bw W l).size), .inr ⟨k, q1, k1, k2, rfl⟩⟩
end Go.Proofs.YtbobgebhdafciabDoor
