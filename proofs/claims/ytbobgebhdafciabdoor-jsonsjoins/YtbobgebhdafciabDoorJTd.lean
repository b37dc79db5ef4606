/-
  told: the code's nodes and the document's.
-/
import Derived.Test.YtbobgebhdafciabDoorJRs
import Derived.Test.YtbobgebhdafciabDoorJAw
import Derived.Laws.AppendOwnNone
namespace Go.Proofs.YtbobgebhdafciabDoor
open Go.Shelf Go.RowKit
set_option linter.unusedVariables false
set_option linter.unusedSimpArgs false

theorem RestD.grow {w w' : World} {p : Option Addr} {c : Nat} {bs : Bs} (h : RestD w w.heap.size p c bs) (hb : Below w.heap.size w w') : RestD w' w'.heap.size p c bs :=
  ⟨h.cap, (h.keep (fun k hk => hb.block k hk)).lies, fun a ha h0 => ⟨Nat.lt_of_lt_of_le (h.early a ha h0).1 hb.size, (h.early a ha h0).2⟩⟩
theorem rest_of_own {w : World} {base : Nat} {v : Value} {l : Bs} (h : w.ownsRow base 5 1 v l.length (Lib.byteCells l)) : ∃ p c, v = .slice p l.length c ∧ RestV w w.heap.size p c l := by
  have hh := h
  rcases h.2 with ⟨rfl, h0⟩ | ⟨g, cap, cur, rfl, hg, hrow, h1, h2, h3, h4⟩
  · have : l = [] := List.eq_nil_of_length_eq_zero h0
    subst this
    exact ⟨none, 0, rfl, RestV.empty _ _⟩
  · refine ⟨some ⟨g, 0, none⟩, cap, rfl, ⟨h1, by unfold maxLen at h2; omega, fun _ => ⟨g, 0, rfl, fun i hi => ?_⟩, fun a ha => ?_, fun h => by cases h⟩⟩
    · rw [Nat.zero_add, owns_cell hh i (by omega)]
      unfold Lib.byteCells
      rw [List.getElem?_map, List.getElem?_eq_getElem hi]
      simp [List.getD, hi]
    · cases ha
      exact ⟨(Array.getElem?_eq_some_iff.1 hrow).1, rfl⟩
/-- append of bytes that came in to an empty slice of the call's own. -/
theorem wpList_append_rest {w : World} {ops : Array Oper} {rest : List Oper} {o : Oper} {a : Act} {Q : Exit → Act → World → Prop} (hgd : o.guard = none) (s x : Operand)
    (ho : o.op = .call { callee := .builtin .append, args := #[s, x], argTypes := #[27, 27] }) (base : Nat) (v : Value) (hs : a.eval s = v) (hown : w.ownsRow base 5 1 v 0 []) (G : Nat) (p : Option Addr) (n c : Nat) (bs : Bs) (hn : bs.length = n) (hx : a.eval x = .slice p n c) (hr : RestD w G p c bs) (hnil : p = none → c = 0) (hlen : n ≤ 1000000) (hbase : base ≤ w.heap.size)
    (h : ∀ v' w', w'.ownsRow base 5 1 v' n (Lib.byteCells bs) → w.grownBy w' v.ownBlock → wpList Tryd.prog ops Q rest (a.put o.dst v') w') : wpList Tryd.prog ops Q (o :: rest) a w := by
  obtain ⟨i0, hi0, hz0, hz1, hz2⟩ := info_parts infoU8
  subst hn
  cases p with
  | none =>
    have h0 : bs = [] := by
      cases bs with
      | nil => rfl
      | cons x xs => obtain ⟨b, o, e, _⟩ := hr.lies (by simp); cases e
    subst h0
    obtain rfl := hnil rfl
    refine wpList_append_own_none hgd s x _ ho base 5 i0 1 Tryd.underlying27 hi0 v 0 [] hs hown hx ?_
    exact h v w hown ⟨rfl, rfl, rfl, Nat.le_refl _, fun _ _ _ => rfl⟩
  | some ad =>
    refine wpList_append_own (w := w) hgd s x _ ho base 5 i0 (.int .u8 0) 1 1 Tryd.underlying27 hi0 hz0 hz1 hz2 rfl (by decide) v 0 [] hs hown ad bs.length c (Lib.byteCells bs) hx (by simp [Lib.byteCells]) ?_ (by intro u hu; simp only [Lib.byteCells, List.mem_map] at hu; obtain ⟨x, _, rfl⟩ := hu; rfl) (by unfold maxLen; omega) (by omega) hbase ?_
    · intro j u hj
      obtain ⟨hj1, hj2⟩ := List.getElem?_eq_some_iff.1 hj
      have hj3 : j < bs.length := by simpa [Lib.byteCells] using hj1
      obtain ⟨b, f, e, hc⟩ := hr.lies (by omega)
      cases e
      rw [Addr.add_mid, hc j hj3, ← hj2]
      simp [Lib.byteCells, List.getD, hj3]
    · intro v' w' hown' hgr _
      rw [Nat.zero_add, List.nil_append] at hown'
      exact h v' w' hown' hgr

set_option maxRecDepth 100000 in
set_option maxHeartbeats 4000000 in
/-- told. -/
theorem told_any (p : Option Addr) (n c : Nat) (bs : Bs) (w : World) (hn : bs.length = n) (hR : RestD w w.heap.size p c bs) (hnil : p = none → c = 0) (hT : Tabs w) (hl : n ≤ 1000000) :
    Calls Tryd.prog 7 #[.slice p n c] w fun e w' => e = .returned (.bool true) ∧ Below w.heap.size w w' := by
  have hb0 := below_one w (.cells #[] 5)
  have hown0 : (w.alloc (.cells #[] 5)).ownsRow w.heap.size 5 1 (.slice (some ⟨w.heap.size, 0, none⟩) 0 0) 0 [] := World.ownsRow_lit w #[] 0 (Nat.le_refl _) (Nat.zero_le _) (by simp)
  have hR0 : RestD (w.alloc (.cells #[] 5)) w.heap.size p c bs := hR.keep (fun k hk => hb0.block k hk)
  have HN : Hid (bs.length = n) := hn
  go_enter Tryd.func7, Tryd.ntmps7
  go_wp2_with (at_builtin; refine wpList_append_rest rfl (.tmp 8) (.tmp 9) rfl w.heap.size (.slice (some ⟨w.heap.size, 0, none⟩) 0 0) rfl hown0 w.heap.size p n c bs HN.out rfl hR0 hnil hl hb0.size ?_; intro v1 w1 o1 gr1)
  have b1 : Below w.heap.size w w1 := ⟨gr1.os, gr1.tape, gr1.output, Nat.le_trans hb0.size gr1.size, fun k hk => (gr1.block k (Nat.lt_of_lt_of_le hk hb0.size) (by simp [Value.ownBlock]; omega)).trans (hb0.block k hk)⟩
  rw [← HN.out] at o1
  obtain ⟨p1, c1, rfl, R1⟩ := rest_of_own o1
  go_at_call 6
  refine (Parse_any p1 c1 bs w1 R1 (hT.below b1)).mono ?_
  rintro e w2 ⟨b2, (⟨ns, nv, hs, q1, rfl, N2, l2⟩ | ⟨k, q1, k1, k2, rfl⟩)⟩
  · have b12 : Below w.heap.size w w2 := b1.trans (b2.mono b1.size)
    obtain ⟨pa, ca, rfl, L2⟩ := N2.lies
    go_wp2_with fail
    go_at_call 13
    rw [← HN.out]
    refine (dParse p c bs w2 (hR.grow b12) (hT.below b12)).mono ?_
    rintro e w3 ⟨b3, (⟨ns', nv', hs', q2, rfl, N3, l3⟩ | ⟨k', q2, k1', k2', rfl⟩)⟩
    · rw [q1] at q2
      cases q2
      obtain ⟨pb, cb, rfl, L3⟩ := N3.lies
      go_wp2_with fail
      go_at_call 10
      refine (same_yes pa pb ca cb ns w3 (L2.keep b3) L3 (by omega)).mono ?_
      rintro e w4 ⟨rfl, k4, rfl⟩
      go_wp2_with fail
      go_ret
      exact ⟨rfl, (b12.trans (b3.mono b12.size)).trans ((below_drewN _ _).mono (Nat.le_trans b12.size b3.size))⟩
    · rw [q1] at q2; cases q2
  · have b12 : Below w.heap.size w w2 := b1.trans (b2.mono b1.size)
    go_wp2_with fail
    go_at_call 13
    rw [← HN.out]
    refine (dParse p c bs w2 (hR.grow b12) (hT.below b12)).mono ?_
    rintro e w3 ⟨b3, (⟨ns', nv', hs', q2, rfl, N3, l3⟩ | ⟨k', q2, k1', k2', rfl⟩)⟩
    · rw [q1] at q2; cases q2
    · rw [q1] at q2
      cases q2
      go_wp2_with fail
      go_at_call 10
      refine (same_yes none none 0 0 [] w3 (LiesN.nil _ _) (LiesN.nil _ _) (by simp)).mono ?_
      rintro e w4 ⟨rfl, k4, rfl⟩
      go_wp2_with fail
      go_ret
      exact ⟨rfl, (b12.trans (b3.mono b12.size)).trans ((below_drewN _ _).mono (Nat.le_trans b12.size b3.size))⟩
end Go.Proofs.YtbobgebhdafciabDoor
