/-
  The reader's plain values.
-/
import Derived.Test.YtbobgebhdafciabDoorJMn
namespace Go.Proofs.YtbobgebhdafciabDoor
open Go.Shelf Go.RowKit
set_option linter.unusedVariables false
set_option linter.unusedSimpArgs false

/-- A node as a value, without names and kids. -/
def ndV (k : Nat) (s : Bs) : Value := .agg #[.int .u8 k, .string ⟨s.toArray⟩, .slice none 0 0, .slice none 0 0]

/-- A reader beside a node's box. -/
structure PlSt (w W : World) (g B : Nat) (zs : Bs) (nv : Value) (o : Nat) : Prop where
  but : But g w W
  rd : Rd W g zs nv o
  nb : W.heap[B]? = some (.cells #[.int .u8 0, .string ⟨#[]⟩, .slice none 0 0, .slice none 0 0] 38 (0, 0))
  tabs : Tabs W
theorem PlSt.next {w W w' : World} {g B : Nat} {zs ys : Bs} {nv : Value} {o : Nat} (h : PlSt w W g B zs nv o) (hb : But g W w') (hr : Rd w' g ys nv o) (hB : B ≠ g) : PlSt w w' g B ys nv o :=
  ⟨h.but.trans hb, hr, (hb.block B (Array.getElem?_eq_some_iff.1 h.nb).1 hB).trans h.nb, h.tabs.but h.rd hb⟩
theorem PlSt.facts {w W : World} {g B : Nat} {zs : Bs} {nv : Value} {o : Nat} (h : PlSt w W g B zs nv o) : (∃ q m k, W.cell? ⟨g, 0, none⟩ = some (.slice q m k)) ∧ W.cell? ⟨B, 0, none⟩ = some (.int .u8 0) ∧ W.cell? ⟨B, 1, none⟩ = some (.string ⟨#[]⟩) ∧ W.cell? ⟨B, 2, none⟩ = some (.slice none 0 0) ∧ W.cell? ⟨B, 3, none⟩ = some (.slice none 0 0) ∧ W.frozen? ⟨B, 0, none⟩ = false ∧ W.frozen? ⟨B, 1, none⟩ = false ∧ W.frozen? ⟨B, 2, none⟩ = false ∧ W.frozen? ⟨B, 3, none⟩ = false := by
  obtain ⟨q, k, h1, h2⟩ := h.rd
  refine ⟨⟨q, _, k, h1.rest⟩, ?_, ?_, ?_, ?_, frozen_of_row W B 0 _ _ h.nb, frozen_of_row W B 1 _ _ h.nb, frozen_of_row W B 2 _ _ h.nb, frozen_of_row W B 3 _ _ h.nb⟩
  all_goals (rw [cell_of_row W B _ _ _ _ h.nb]; rfl)
theorem plTake (s : ByteArray) {w W : World} {g B : Nat} {zs : Bs} {nv : Value} {o : Nat} (h : PlSt w W g B zs nv o) (hB : B ≠ g) :
    Calls Tryd.prog 15 #[.pointer (some ⟨g, 0, none⟩), .string s] W fun e w' => (∃ ys, Hid (tk s.data.toList zs = some ys) ∧ e = .returned (.bool true) ∧ PlSt w w' g B ys nv o) ∨ (Hid (tk s.data.toList zs = none) ∧ e = .returned (.bool false) ∧ PlSt w w' g B zs nv o) := by
  refine (take_any s g zs nv o W h.rd).mono ?_
  rintro e w' ⟨hb, (⟨ys, h1, rfl, h3⟩ | ⟨h1, rfl, h3⟩)⟩
  · exact .inl ⟨ys, h1, rfl, h.next hb h3 hB⟩
  · exact .inr ⟨h1, rfl, h.next hb h3 hB⟩

theorem plHas {w W : World} {g B : Nat} {zs : Bs} {nv : Value} {o : Nat} (h : PlSt w W g B zs nv o) (hB : B ≠ g) (q : Option Addr) (m k : Nat) (hc : W.cell? ⟨g, 0, none⟩ = some (.slice q m k)) :
    Calls Tryd.prog 29 #[.slice q m k, .slice (some ⟨W.heap.size, 0, none⟩) 1 1] (W.alloc (.cells #[.int .u8 34] 5 (1, 2))) fun e w' => e = .returned (.bool ([34].isPrefixOf zs)) ∧ PlSt w w' g B zs nv o := by
  obtain ⟨q', k', h1, h2⟩ := h.rd
  have := h1.rest
  rw [hc] at this
  cases this
  have hb : Below W.heap.size W (W.alloc (.cells #[.int .u8 34] 5 (1, 2))) := (Below.refl _ _).alloc (Nat.le_refl _) _
  refine (has_any q (some ⟨W.heap.size, 0, none⟩) k 1 zs [34] _ h2.cap (h2.keep (fun j hj => hb.block j (Nat.lt_trans hj h.rd.lt))).lies (one_bytes W 34 (1, 2))).mono ?_
  rintro e w' ⟨rfl, rfl⟩
  exact ⟨rfl, h.next (But.ofBelow hb) (h.rd.below hb) hB⟩
theorem plEnd {w W : World} {g B : Nat} {zs : Bs} {nv : Value} {o : Nat} (h : PlSt w W g B zs nv o) (hwB : w.heap.size ≤ B) (hgB : g < B) (a b c d : Value) :
    But g w ((((W.setCell ⟨B, 0, none⟩ a).setCell ⟨B, 1, none⟩ b).setCell ⟨B, 2, none⟩ c).setCell ⟨B, 3, none⟩ d) ∧ Rd ((((W.setCell ⟨B, 0, none⟩ a).setCell ⟨B, 1, none⟩ b).setCell ⟨B, 2, none⟩ c).setCell ⟨B, 3, none⟩ d) g zs nv o := by
  have hb : Below B W ((((W.setCell ⟨B, 0, none⟩ a).setCell ⟨B, 1, none⟩ b).setCell ⟨B, 2, none⟩ c).setCell ⟨B, 3, none⟩ d) := ((((Below.refl B W).setCell (Nat.le_refl _) _).setCell (Nat.le_refl _) _).setCell (Nat.le_refl _) _).setCell (Nat.le_refl _) _
  exact ⟨h.but.behind hb hwB, h.rd.keep (hb.mono (by omega))⟩

set_option maxRecDepth 100000 in
set_option maxHeartbeats 8000000 in
/-- plain. -/
theorem plain_any (g : Nat) (bs : Bs) (nv : Value) (o : Nat) (w : World) (h : Rd w g bs nv o) (hT : Tabs w) (hl : bs.length ≤ 100000) :
    Calls Tryd.prog 19 #[.pointer (some ⟨g, 0, none⟩)] w fun e w' => But g w w' ∧ ((∃ (k : Nat) (s ys : Bs), plainS bs = some (⟨k, s, [], []⟩, ys) ∧ e = .returned (.tuple #[ndV k s, .bool true]) ∧ Rd w' g ys nv o) ∨ (plainS bs = none ∧ (∃ (k : Nat) (s : ByteArray), e = .returned (.tuple #[.agg #[.int .u8 k, .string s, .slice none 0 0, .slice none 0 0], .bool false])) ∧ ∃ ys, Rd w' g ys nv o)) := by
  have hg := h.lt
  obtain ⟨B, hB⟩ : ∃ B, w.heap.size = B := ⟨_, rfl⟩
  have hBg : B ≠ g := by omega
  obtain ⟨W, hW⟩ : ∃ W, w.alloc (.cells #[.int .u8 0, .string ⟨#[]⟩, .slice none 0 0, .slice none 0 0] 38) = W := ⟨_, rfl⟩
  have hb : Below w.heap.size w W := by rw [← hW]; exact (Below.refl _ _).alloc (Nat.le_refl _) _
  have S0 : PlSt w W g B bs nv o := ⟨But.ofBelow hb, h.below hb, by rw [← hW, ← hB]; exact alloc_new _ _, hT.below hb⟩
  go_enter Tryd.func19, Tryd.ntmps19
  go_wp2_with fail
  have hwB : w.heap.size ≤ B := by omega
  have hgB : g < B := by omega
  go_at_call 15
  refine (plTake ⟨#[116, 114, 117, 101]⟩ S0 hBg).mono ?_
  clear S0 hb hT h hW
  rintro e w1 (⟨y1, h1, rfl, S1⟩ | ⟨h1, rfl, S1⟩)
  · obtain ⟨⟨q, m, k, e0⟩, f0, f1, f2, f3, g0, g1, g2, g3⟩ := S1.facts
    go_wp2_with fail
    have hE := plEnd S1 hwB hgB (.int .u8 5) (.string ⟨#[]⟩) (.slice none 0 0) (.slice none 0 0)
    exact bodyPost_ret (v := .tuple #[.agg #[.int .u8 5, .string ⟨#[]⟩, .slice none 0 0, .slice none 0 0], .bool true]) (by simp [results, Tryd.results19, go_sem, f0, f1, f2, f3]) rfl ⟨hE.1, .inl ⟨5, [], y1, by unfold plainS; rw [show tk [116, 114, 117, 101] bs = some y1 from h1.out], rfl, hE.2⟩⟩
  go_wp2_with fail
  go_at_call 15
  refine (plTake ⟨#[102, 97, 108, 115, 101]⟩ S1 hBg).mono ?_
  rintro e w2 (⟨y2, h2, rfl, S2⟩ | ⟨h2, rfl, S2⟩)
  · obtain ⟨⟨q, m, k, e0⟩, f0, f1, f2, f3, g0, g1, g2, g3⟩ := S2.facts
    go_wp2_with fail
    have hE := plEnd S2 hwB hgB (.int .u8 6) (.string ⟨#[]⟩) (.slice none 0 0) (.slice none 0 0)
    exact bodyPost_ret (v := .tuple #[.agg #[.int .u8 6, .string ⟨#[]⟩, .slice none 0 0, .slice none 0 0], .bool true]) (by simp [results, Tryd.results19, go_sem, f0, f1, f2, f3]) rfl ⟨hE.1, .inl ⟨6, [], y2, by unfold plainS; rw [show tk [116, 114, 117, 101] bs = none from h1.out, show tk [102, 97, 108, 115, 101] bs = some y2 from h2.out], rfl, hE.2⟩⟩
  go_wp2_with fail
  go_at_call 15
  refine (plTake ⟨#[110, 117, 108, 108]⟩ S2 hBg).mono ?_
  rintro e w3 (⟨y3, h3, rfl, S3⟩ | ⟨h3, rfl, S3⟩)
  · obtain ⟨⟨q, m, k, e0⟩, f0, f1, f2, f3, g0, g1, g2, g3⟩ := S3.facts
    go_wp2_with fail
    have hE := plEnd S3 hwB hgB (.int .u8 7) (.string ⟨#[]⟩) (.slice none 0 0) (.slice none 0 0)
    exact bodyPost_ret (v := .tuple #[.agg #[.int .u8 7, .string ⟨#[]⟩, .slice none 0 0, .slice none 0 0], .bool true]) (by simp [results, Tryd.results19, go_sem, f0, f1, f2, f3]) rfl ⟨hE.1, .inl ⟨7, [], y3, by unfold plainS; rw [show tk [116, 114, 117, 101] bs = none from h1.out, show tk [102, 97, 108, 115, 101] bs = none from h2.out, show tk [110, 117, 108, 108] bs = some y3 from h3.out], rfl, hE.2⟩⟩
  have hS : plainS bs = if [34].isPrefixOf bs then (textS bs).map fun p => (⟨3, p.1, [], []⟩, p.2) else (numS bs).map fun p => (⟨4, p.1, [], []⟩, p.2) := by unfold plainS; rw [show tk [116, 114, 117, 101] bs = none from h1.out, show tk [102, 97, 108, 115, 101] bs = none from h2.out, show tk [110, 117, 108, 108] bs = none from h3.out]
  obtain ⟨⟨q, m, k, e0⟩, _⟩ := S3.facts
  have HP := plHas S3 hBg q m k e0
  have hcl := conv_lit #[.int .u8 34] 1 rfl w3
  obtain ⟨Z, hZ⟩ : ∃ Z, [34].isPrefixOf bs = Z := ⟨_, rfl⟩
  rw [hZ] at HP hS
  have HS : Hid (plainS bs = if Z then (textS bs).map fun p => (⟨3, p.1, [], []⟩, p.2) else (numS bs).map fun p => (⟨4, p.1, [], []⟩, p.2)) := hS
  clear hS hZ h1 h2 h3 S1 S2 S3
  cases Z
  · go_wp2_with (go_at_call 29; refine HP.mono ?_; clear HP; rintro e w4 ⟨rfl, S4⟩)
    go_at_call 30
    refine (number_any g bs nv o _ S4.rd).mono ?_
    rintro e w5 ⟨c5, (⟨s, ys, d1, rfl, d3⟩ | ⟨d1, ⟨s, rfl⟩, ys, d3⟩)⟩
    · have S5 := S4.next c5 d3 hBg
      obtain ⟨⟨q, m, k, e0⟩, f0, f1, f2, f3, g0, g1, g2, g3⟩ := S5.facts
      go_wp2_with fail
      have hE := plEnd S5 hwB hgB (.int .u8 4) (.string ⟨s.toArray⟩) (.slice none 0 0) (.slice none 0 0)
      exact bodyPost_ret (v := .tuple #[.agg #[.int .u8 4, .string ⟨s.toArray⟩, .slice none 0 0, .slice none 0 0], .bool true]) (by simp [results, Tryd.results19, go_sem, f0, f1, f2, f3]) rfl ⟨hE.1, .inl ⟨4, s, ys, by rw [HS.out, d1]; rfl, rfl, hE.2⟩⟩
    · have S5 := S4.next c5 d3 hBg
      obtain ⟨⟨q, m, k, e0⟩, f0, f1, f2, f3, g0, g1, g2, g3⟩ := S5.facts
      go_wp2_with fail
      have hE := plEnd S5 hwB hgB (.int .u8 4) (.string s) (.slice none 0 0) (.slice none 0 0)
      exact bodyPost_ret (v := .tuple #[.agg #[.int .u8 4, .string s, .slice none 0 0, .slice none 0 0], .bool false]) (by simp [results, Tryd.results19, go_sem, f0, f1, f2, f3]) rfl ⟨hE.1, .inr ⟨by rw [HS.out, d1]; rfl, ⟨4, s, rfl⟩, ys, hE.2⟩⟩
  · go_wp2_with (go_at_call 29; refine HP.mono ?_; clear HP; rintro e w4 ⟨rfl, S4⟩)
    go_at_call 27
    refine (text_any g bs nv o _ S4.rd S4.tabs hl).mono ?_
    rintro e w5 ⟨c5, (⟨s, ys, d1, rfl, d3⟩ | ⟨d1, rfl, ys, d3⟩)⟩
    · have S5 := S4.next c5 d3 hBg
      obtain ⟨⟨q, m, k, e0⟩, f0, f1, f2, f3, g0, g1, g2, g3⟩ := S5.facts
      go_wp2_with fail
      have hE := plEnd S5 hwB hgB (.int .u8 3) (.string ⟨s.toArray⟩) (.slice none 0 0) (.slice none 0 0)
      exact bodyPost_ret (v := .tuple #[.agg #[.int .u8 3, .string ⟨s.toArray⟩, .slice none 0 0, .slice none 0 0], .bool true]) (by simp [results, Tryd.results19, go_sem, f0, f1, f2, f3]) rfl ⟨hE.1, .inl ⟨3, s, ys, by rw [HS.out, d1]; rfl, rfl, hE.2⟩⟩
    · have S5 := S4.next c5 d3 hBg
      obtain ⟨⟨q, m, k, e0⟩, f0, f1, f2, f3, g0, g1, g2, g3⟩ := S5.facts
      go_wp2_with fail
      have hE := plEnd S5 hwB hgB (.int .u8 3) (.string ⟨#[]⟩) (.slice none 0 0) (.slice none 0 0)
      exact bodyPost_ret (v := .tuple #[.agg #[.int .u8 3, .string ⟨#[]⟩, .slice none 0 0, .slice none 0 0], .bool false]) (by simp [results, Tryd.results19, go_sem, f0, f1, f2, f3]) rfl ⟨hE.1, .inr ⟨by rw [HS.out, d1]; rfl, ⟨3, _, rfl⟩, ys, hE.2⟩⟩
end Go.Proofs.YtbobgebhdafciabDoor
