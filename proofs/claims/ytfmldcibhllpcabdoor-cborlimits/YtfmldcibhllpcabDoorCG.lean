/-
  Bytes of the call's own: append, bytes.Clone.
-/
import Derived.Test.YtfmldcibhllpcabDoorCL
import Derived.Lib.SliceRun
namespace Go.Proofs.YtfmldcibhllpcabDoor
open Go.Shelf Go.RowKit
set_option linter.unusedVariables false
set_option linter.unusedSimpArgs false

theorem infoU8 : (Tryd.prog.info? 5).map (fun i => (i.zero, i.size, i.bytes)) = some (some (.int .u8 0), 1, 1) := by kernel_rfl
theorem byteCells_len (l : Bs) : (Lib.byteCells l).length = l.length := by simp [Lib.byteCells]
theorem byteCells_app (a b : Bs) : Lib.byteCells a ++ Lib.byteCells b = Lib.byteCells (a ++ b) := by simp [Lib.byteCells]
theorem own_byv {w : World} {base : Nat} {v : Value} {l : Bs} (h : w.ownsRow base 5 1 v l.length (Lib.byteCells l)) : ∃ p c, v = .slice p l.length c ∧ ByV w (fun b => base ≤ b) p c l := by
  rcases h.2 with ⟨e, h0⟩ | ⟨g, cap, cur, e, hb, hr, h1, h2, _⟩
  · have : l = [] := List.eq_nil_of_length_eq_zero h0
    subst this
    exact ⟨none, 0, e, ByV.nil w _⟩
  · refine ⟨some ⟨g, 0, none⟩, cap, e, ⟨h1, by unfold maxLen at h2; omega, fun _ => ⟨g, 0, rfl, fun i hi => ?_⟩, fun a ha _ => by cases ha; exact hb⟩⟩
    rw [e] at h
    rw [Nat.zero_add, owns_cell h i (by omega)]
    unfold Lib.byteCells
    rw [List.getElem?_map, List.getElem?_eq_getElem hi]
    simp [List.getD, hi]
/-- Bytes appended to bytes of the call's own. -/
theorem wpList_append_bat {w : World} {ops : Array Oper} {rest : List Oper} {o : Oper} {a : Act} {Q : Exit → Act → World → Prop} (hgd : o.guard = none) (s x : Operand)
    (ho : o.op = .call { callee := .builtin .append, args := #[s, x], argTypes := #[25, 25] }) (base : Nat) (v : Value) (hs : a.eval s = v) (old : Bs) (m : Nat) (hm : old.length = m) (hown : w.ownsRow base 5 1 v m (Lib.byteCells old)) (ad : Addr) (n c : Nat) (l : Bs) (hn : l.length = n) (hx : a.eval x = .slice (some ad) n c) (hr : BAt w (some ad) n l) (hlen : m + n ≤ 100000000) (hbase : base ≤ w.heap.size)
    (h : ∀ v' w', w'.ownsRow base 5 1 v' (m + n) (Lib.byteCells (old ++ l)) → w.grownBy w' v.ownBlock → wpList Tryd.prog ops Q rest (a.put o.dst v') w') : wpList Tryd.prog ops Q (o :: rest) a w := by
  obtain ⟨i0, hi0, hz0, hz1, hz2⟩ := info_parts infoU8
  refine wpList_append_own (w := w) hgd s x _ ho base 5 i0 (.int .u8 0) 1 1 Tryd.underlying25 hi0 hz0 hz1 hz2 rfl (by decide) v m (Lib.byteCells old) hs hown ad n c (Lib.byteCells l) hx (by rw [byteCells_len, hn, Nat.mul_one]) ?_ (by intro u hu; simp only [Lib.byteCells, List.mem_map] at hu; obtain ⟨x, _, rfl⟩ := hu; rfl) (by unfold maxLen; omega) (by omega) hbase ?_
  · intro j u hj
    obtain ⟨hj1, hj2⟩ := List.getElem?_eq_some_iff.1 hj
    have hj3 : j < l.length := by simpa [Lib.byteCells] using hj1
    obtain ⟨b, f, e, hc⟩ := hr (by omega)
    cases e
    rw [Addr.add_mid, hc j (by omega), ← hj2]
    simp [Lib.byteCells, List.getD, hj3]
  · intro v' w' hown' hgr _
    rw [byteCells_app] at hown'
    exact h v' w' hown' hgr
set_option maxRecDepth 100000 in
set_option maxHeartbeats 1000000 in
/-- bytes.Clone. -/
theorem clone_any (p : Option Addr) (n c : Nat) (l : Bs) (w : World) (hl : l.length = n) (h : BAt w p n l) (hn : n ≤ 1000000) :
    Calls Tryd.prog 16 #[.slice p n c] w fun e w' => Below w.heap.size w w' ∧ ∃ p' c', e = .returned (.slice p' n c') ∧ ByV w' (fun b => w.heap.size ≤ b) p' c' l := by
  have heq := fun (q : Option Addr) (m d : Nat) (W : World) => Lib.run_eql_slice_nil (P := Tryd.prog) W 25 5 q m d 0 0 Tryd.underlying25
  cases p with
  | none =>
    have h0 : n = 0 := by
      rcases Nat.eq_zero_or_pos n with h1 | h1
      · exact h1
      · obtain ⟨b, o, e, _⟩ := h h1
        cases e
    subst h0
    have : l = [] := List.eq_nil_of_length_eq_zero hl
    subst this
    have hq := heq none 0 c
    go_enter Tryd.func16, Tryd.ntmps16
    go_wp2
    go_ret
    exact ⟨Below.refl _ _, none, 0, rfl, ByV.nil w _⟩
  | some ad =>
    have hq := heq (some ad) n c
    have hown0 : (w.alloc (.cells #[] 5)).ownsRow w.heap.size 5 1 (.slice (some ⟨w.heap.size, 0, none⟩) 0 0) 0 [] := World.ownsRow_lit w #[] 0 (Nat.le_refl _) (Nat.zero_le _) (by simp)
    have hb0 : Below w.heap.size w (w.alloc (.cells #[] 5)) := (Below.refl _ _).alloc (Nat.le_refl _) _
    go_enter Tryd.func16, Tryd.ntmps16
    go_wp2_with (at_builtin; refine wpList_append_bat rfl (.tmp 5) (.tmp 6) rfl w.heap.size (.slice (some ⟨w.heap.size, 0, none⟩) 0 0) rfl [] 0 rfl hown0 ad n c l hl rfl (h.below hb0) (by omega) hb0.size ?_; intro v1 w1 o1 gr1)
    go_ret
    have hsz := alloc_sz w (.cells #[] 5)
    subst hl
    rw [Nat.zero_add, List.nil_append] at o1
    obtain ⟨p', c', e, hv⟩ := own_byv o1
    refine ⟨⟨gr1.os.trans hb0.os, gr1.tape.trans hb0.tape, gr1.output.trans hb0.output, Nat.le_trans hb0.size gr1.size, fun k hk => (gr1.block k (by omega) (fun e => by injection e with e; have e' : k = w.heap.size := e; omega)).trans (hb0.block k hk)⟩, p', c', by rw [← e]; rfl, hv⟩
end Go.Proofs.YtfmldcibhllpcabDoor
