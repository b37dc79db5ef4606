/-
  The walk of JsonsNumbers.
-/
import Derived.Test.YtbobgebhdafciabDoorJsP
namespace Go.Proofs.YtbobgebhdafciabDoor
open Go.Shelf Go.RowKit
set_option linter.unusedVariables false
set_option linter.unusedSimpArgs false

def digL : Bs := [48, 49, 50, 51, 52, 53, 54, 55, 56, 57, 45, 43, 46, 101, 69, 48]
theorem str_app (a b : Bs) : (⟨a.toArray⟩ : ByteArray) ++ ⟨b.toArray⟩ = ⟨(a ++ b).toArray⟩ := by
  apply ByteArray.ext
  simp
theorem below_bw (W : World) (l : Bs) : Below W.heap.size W (Lib.bytesWorld W 5 ⟨l.toArray⟩) := ⟨rfl, rfl, rfl, by rw [Lib.bytesWorld_size]; omega, fun k hk => Lib.bytesWorld_at_old _ _ _ _ hk⟩
/-- A text as bytes. -/
theorem rest_bw (W : World) (l : Bs) : RestD (Lib.bytesWorld W 5 ⟨l.toArray⟩) (Lib.bytesWorld W 5 ⟨l.toArray⟩).heap.size (some ⟨W.heap.size, 0, none⟩) (grownCap W l.length 0 5) l := by
  have hsz : (⟨l.toArray⟩ : ByteArray).size = l.length := rfl
  refine ⟨grownCap_ge _ _ _ _, fun h0 => ⟨W.heap.size, 0, rfl, fun i hi => ?_⟩, fun a ha h0 => ?_⟩
  · rw [Nat.zero_add, Lib.bytesWorld_cell _ _ _ i (by rw [hsz]; exact hi)]
  · cases ha
    exact ⟨by rw [Lib.bytesWorld_size]; simp, rfl⟩
theorem conv_bw (W : World) (l : Bs) (m : Nat) (hm : l.length = m) : (convert 9 27 (.string ⟨l.toArray⟩)).run Tryd.prog W = .ok (.slice (some ⟨W.heap.size, 0, none⟩) m (grownCap W m 0 5)) (Lib.bytesWorld W 5 ⟨l.toArray⟩) := by
  subst hm
  rw [Lib.run_convert_string_bytes W _ _ _ _ Tryd.underlying9 Tryd.underlying27 Tryd.underlying5]
  rfl
/-- told of a text. -/
theorem told_bw (W : World) (l : Bs) (m : Nat) (hm : l.length = m) (hl : m ≤ 1000000) (hT : Tabs W) :
    Calls Tryd.prog 7 #[.slice (some ⟨W.heap.size, 0, none⟩) m (grownCap W m 0 5)] (Lib.bytesWorld W 5 ⟨l.toArray⟩) fun e w' => e = .returned (.bool true) ∧ Below W.heap.size W w' := by
  have hr := rest_bw W l
  rw [hm] at hr
  refine (told_any _ m _ l _ hm hr (fun h => by cases h) (hT.below (below_bw W l)) hl).mono ?_
  rintro e w' ⟨rfl, hb⟩
  exact ⟨rfl, (below_bw W l).trans (hb.mono (below_bw W l).size)⟩
/-- One byte as a text. -/
theorem conv_one (W : World) (d : UInt8) : (convert 27 9 (.slice (some ⟨W.heap.size, 0, none⟩) 1 1)).run Tryd.prog (W.alloc (.cells #[.int .u8 (d.toNat : Int)] 5)) = .ok (.string ⟨[d].toArray⟩) (W.alloc (.cells #[.int .u8 (d.toNat : Int)] 5)) :=
  conv_own (base := W.heap.size) (l := [d]) ⟨rfl, .inr ⟨W.heap.size, 1, #[.int .u8 (d.toNat : Int)], rfl, Nat.le_refl _, alloc_new W _, Nat.le_refl _, by decide, rfl, rfl⟩⟩

end Go.Proofs.YtbobgebhdafciabDoor
