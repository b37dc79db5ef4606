/-
  The code's comesBack and Check.
-/
import Derived.Test.YtdojbknkaoiioaaHU
namespace Go.Proofs.Ytdojbknkaoiioaa
open Go.Shelf Go.RowKit
set_option linter.unusedVariables false
set_option linter.unusedSimpArgs false

def backB (K : Cz) (r : Option Pz) : Bool := match r with
  | none => false
  | some p => p.inf
theorem Cu.slices {w : World} {c : Value} {K : Cz} {L : Nat} (h : Cu w c K L) : ∃ (g1 g2 : Int) (oo : Option Addr) (lo co : Nat) (a1 : Option Addr) (a2 a3 : Nat) (b1 : Option Addr) (b2 b3 : Nat) (d1 : Option Addr) (d2 d3 : Nat) (e1 : Option Addr) (e2 e3 : Nat) (f1 : Option Addr) (f2 f3 : Nat) (j1 : Option Addr) (j2 j3 : Nat), c = .agg #[.int .i64 g1, .int .i64 g2, .slice oo lo co, .slice a1 a2 a3, .slice b1 b2 b3, .slice d1 d2 d3, .slice e1 e2 e3, .slice f1 f2 f3, .slice j1 j2 j3] ∧ Nv w (.slice a1 a2 a3) K.p L ∧ Nv w (.slice b1 b2 b3) K.a L ∧ Nv w (.slice d1 d2 d3) K.b L ∧ Nv w (.slice e1 e2 e3) K.gx L ∧ Nv w (.slice f1 f2 f3) K.gy L ∧ Nv w (.slice j1 j2 j3) K.n L := by
  obtain ⟨g1, g2, oo, lo, co, vp, va, vb, vx, vy, vn, rfl, c1, c2, c3, c4, c5, c6⟩ := h
  obtain ⟨a1, a2, a3, a4, rfl, a5⟩ := c1
  obtain ⟨b1, b2, b3, b4, rfl, b5⟩ := c2
  obtain ⟨d1, d2, d3, d4, rfl, d5⟩ := c3
  obtain ⟨e1, e2, e3, e4, rfl, e5⟩ := c4
  obtain ⟨f1, f2, f3, f4, rfl, f5⟩ := c5
  obtain ⟨j1, j2, j3, j4, rfl, j5⟩ := c6
  exact ⟨g1, g2, oo, lo, co, a1, a2, a3, b1, b2, b3, d1, d2, d3, e1, e2, e3, f1, f2, f3, j1, j2, j3, rfl, ⟨a1, a2, a3, a4, rfl, a5⟩, ⟨b1, b2, b3, b4, rfl, b5⟩, ⟨d1, d2, d3, d4, rfl, d5⟩, ⟨e1, e2, e3, e4, rfl, e5⟩, ⟨f1, f2, f3, f4, rfl, f5⟩, ⟨j1, j2, j3, j4, rfl, j5⟩⟩
/-- The cells of a box with nine values. -/
theorem cells9 {W : World} {g : Nat} {v0 v1 v2 v3 v4 v5 v6 v7 v8 : Value} {t : TypeId} (h : W.heap[g]? = some (.cells #[v0, v1, v2, v3, v4, v5, v6, v7, v8] t (0, 0))) : W.cell? ⟨g, 0, none⟩ = some v0 ∧ W.cell? ⟨g, 1, none⟩ = some v1 ∧ W.cell? ⟨g, 2, none⟩ = some v2 ∧ W.cell? ⟨g, 3, none⟩ = some v3 ∧ W.cell? ⟨g, 4, none⟩ = some v4 ∧ W.cell? ⟨g, 5, none⟩ = some v5 ∧ W.cell? ⟨g, 6, none⟩ = some v6 ∧ W.cell? ⟨g, 7, none⟩ = some v7 ∧ W.cell? ⟨g, 8, none⟩ = some v8 := by
  refine ⟨?_, ?_, ?_, ?_, ?_, ?_, ?_, ?_, ?_⟩ <;> (rw [cell_of_row _ _ _ _ _ _ h]; rfl)
set_option maxRecDepth 100000 in
set_option maxHeartbeats 4000000 in
theorem back_any (c : Value) (K : Cz) (L : Nat) (w : World) (hc : Cu w c K L) (h0 : K.p ≠ 0) (hL : 1 ≤ L ∧ L ≤ 70) :
    Calls Try.prog 49 #[c] w fun e w' => ∃ r, MulZ K (baseZ K) (bitsOf K.n (blen K.n.toNat) (blen K.n.toNat)) r ∧ e = .returned (.bool (backB K r)) ∧ Below w.heap.size w w' := by
  have HCU : Hid (Cu w c K L) := hc
  obtain ⟨g1, g2, oo, lo, co, a1, a2, a3, b1, b2, b3, d1, d2, d3, e1, e2, e3, f1, f2, f3, j1, j2, j3, rfl, -, -, -, -, -, c6⟩ := hc.slices
  have HN : Hid (Nv w (.slice j1 j2 j3) K.n L) := c6
  obtain ⟨W0, hW0⟩ : ∃ W0, w.alloc (.cells #[.int .i64 g1, .int .i64 g2, .slice oo lo co, .slice a1 a2 a3, .slice b1 b2 b3, .slice d1 d2 d3, .slice e1 e2 e3, .slice f1 f2 f3, .slice j1 j2 j3] 29) = W0 := ⟨_, rfl⟩
  have HW : Hid (W0.heap[w.heap.size]? = some (.cells #[.int .i64 g1, .int .i64 g2, .slice oo lo co, .slice a1 a2 a3, .slice b1 b2 b3, .slice d1 d2 d3, .slice e1 e2 e3, .slice f1 f2 f3, .slice j1 j2 j3] 29 (0, 0)) ∧ Below w.heap.size w W0) := by rw [← hW0]; exact ⟨heap_alloc_new w _, (Below.refl _ _).alloc (Nat.le_refl _) _⟩
  clear hc c6
  go_enter Try.func49, Try.ntmps49
  go_wp2_with fail

  clear hW0
  refine wp_region_frames 9 [[6], [7], [8], [9], [10], [11], [5, 11], [12, 5], [13, 5], [3], [3, 12], [4, 13]] (([.eq (Value.agg #[Value.int IntKind.i64 g1, Value.int IntKind.i64 g2, Value.slice oo lo co, Value.slice a1 a2 a3, Value.slice b1 b2 b3, Value.slice d1 d2 d3, Value.slice e1 e2 e3, Value.slice f1 f2 f3, Value.slice j1 j2 j3]), .eq (Value.pointer (some { block := w.heap.size, off := 8 })), .eq (Value.slice j1 j2 j3), .eq (Value.agg #[Value.int IntKind.i64 g1, Value.int IntKind.i64 g2, Value.slice oo lo co, Value.slice a1 a2 a3, Value.slice b1 b2 b3, Value.slice d1 d2 d3, Value.slice e1 e2 e3, Value.slice f1 f2 f3, Value.slice j1 j2 j3]), .pv (fun p => p = baseZ K) L, .pr (fun r => MulZ K (baseZ K) (bitsOf K.n (blen K.n.toNat) (blen K.n.toNat)) r) L, .same, .ext 0, .ext 1, .box W0.heap.size, .sto W0.heap.size, .same] : List Fk).map Fk.sem) [0, 1, 2, 3, 4, 5, 6, 7, 8, 9, 10, 11] (by kernel_rfl) (by kernel_rfl) (by kernel_rfl) ?step ?done
  case step =>
    intro i o ho listed a wx hI hli hne KK hK
    have hlt : i < 12 := (Array.getElem?_eq_some_iff.1 ho).1
    have hsz : Hid (a.tmps.size = 19) := hI.slots
    have hbw : Below W0.heap.size W0 wx := (Below.refl _ _).drew.trans hI.below
    obtain rfl | rfl | rfl | rfl | rfl | rfl | rfl | rfl | rfl | rfl | rfl | rfl : i = 0 ∨ i = 1 ∨ i = 2 ∨ i = 3 ∨ i = 4 ∨ i = 5 ∨ i = 6 ∨ i = 7 ∨ i = 8 ∨ i = 9 ∨ i = 10 ∨ i = 11 := by omega
    · simp only [List.getElem?_toArray, List.getElem?_cons_succ, List.getElem?_cons_zero, Option.some.injEq] at ho
      subst ho
      rw [if_pos (by rfl)]
      have eH1 : a.tmps.getD 1 undef = Value.pointer (some { block := w.heap.size, off := 0 }) := hI.stays hli 9 1 (by decide +kernel)
      obtain ⟨c0, c1, c2, c3, c4, c5, c6, c7, c8⟩ := cells9 (blk_old HW.out.1 hbw)
      go_simp
      exact hI.grow hK _ _ (Below.refl _ _) (put_self _ _ _ (by rw [hsz.out]; decide))
    · simp only [List.getElem?_toArray, List.getElem?_cons_succ, List.getElem?_cons_zero, Option.some.injEq] at ho
      subst ho
      rw [if_pos (by rfl)]
      have eH1 : a.tmps.getD 1 undef = Value.pointer (some { block := w.heap.size, off := 0 }) := hI.stays hli 9 1 (by decide +kernel)
      go_simp
      exact hI.grow hK _ _ (Below.refl _ _) (put_self _ _ _ (by rw [hsz.out]; decide))
    · simp only [List.getElem?_toArray, List.getElem?_cons_succ, List.getElem?_cons_zero, Option.some.injEq] at ho
      subst ho
      rw [if_pos (by rfl)]
      have eH7 : a.tmps.getD 7 undef = (Value.pointer (some { block := w.heap.size, off := 8 })) := hI.deep hne 9 1 (by decide +kernel)
      obtain ⟨c0, c1, c2, c3, c4, c5, c6, c7, c8⟩ := cells9 (blk_old HW.out.1 hbw)
      go_simp
      exact hI.grow hK _ _ (Below.refl _ _) (put_self _ _ _ (by rw [hsz.out]; decide))
    · simp only [List.getElem?_toArray, List.getElem?_cons_succ, List.getElem?_cons_zero, Option.some.injEq] at ho
      subst ho
      rw [if_pos (by rfl)]
      have eH1 : a.tmps.getD 1 undef = Value.pointer (some { block := w.heap.size, off := 0 }) := hI.stays hli 9 1 (by decide +kernel)
      obtain ⟨c0, c1, c2, c3, c4, c5, c6, c7, c8⟩ := cells9 (blk_old HW.out.1 hbw)
      go_simp
      exact hI.grow hK _ _ (Below.refl _ _) (put_self _ _ _ (by rw [hsz.out]; decide))
    · simp only [List.getElem?_toArray, List.getElem?_cons_succ, List.getElem?_cons_zero, Option.some.injEq] at ho
      subst ho
      rw [if_pos (by rfl)]
      have eH9 : a.tmps.getD 9 undef = (Value.agg #[Value.int IntKind.i64 g1, Value.int IntKind.i64 g2, Value.slice oo lo co, Value.slice a1 a2 a3, Value.slice b1 b2 b3, Value.slice d1 d2 d3, Value.slice e1 e2 e3, Value.slice f1 f2 f3, Value.slice j1 j2 j3]) := hI.deep hne 9 3 (by decide +kernel)
      go_simp
      go_at_call 18
      refine (Base_any _ K L wx (HCU.out.old (HW.out.2.trans (hbw.mono HW.out.2.size)))).mono ?_
      rintro e w5 ⟨v5, rfl, hv5, hb5⟩
      exact hI.grow hK _ _ hb5 ⟨_, rfl, by have hp := put_self a 10 v5 (by rw [hsz.out]; decide); show Pv w5 ((a.put (some 10) v5).tmps.getD 10 undef) _ _; rw [hp]; exact hv5⟩
    · simp only [List.getElem?_toArray, List.getElem?_cons_succ, List.getElem?_cons_zero, Option.some.injEq] at ho
      subst ho
      rw [if_pos (by rfl)]
      have eH6 : a.tmps.getD 6 undef = (Value.agg #[Value.int IntKind.i64 g1, Value.int IntKind.i64 g2, Value.slice oo lo co, Value.slice a1 a2 a3, Value.slice b1 b2 b3, Value.slice d1 d2 d3, Value.slice e1 e2 e3, Value.slice f1 f2 f3, Value.slice j1 j2 j3]) := hI.deep hne 9 0 (by decide +kernel)
      have eH8 : a.tmps.getD 8 undef = (Value.slice j1 j2 j3) := hI.deep hne 9 2 (by decide +kernel)
      have fA4 : Fk.sem (.pv (fun p => p = baseZ K) L) [a.tmps.getD 10 undef] wx := hI.deep hne 9 4 (by decide +kernel)
      obtain ⟨zX10, eH10⟩ : ∃ x, a.tmps.getD 10 undef = x := ⟨_, rfl⟩
      simp only [eH10] at fA4
      obtain ⟨pz, rfl, hpv⟩ := fA4
      have hpv' : Pv wx zX10 (baseZ K) L := hpv
      clear hpv
      go_simp
      go_at_call 17
      refine (Mul_pt _ _ _ K K.n (baseZ K) L wx (HCU.out.old (HW.out.2.trans (hbw.mono HW.out.2.size))) (HN.out.old (HW.out.2.trans (hbw.mono HW.out.2.size))) hpv' hL h0).mono ?_
      rintro e w5 ⟨r, hr, hpa⟩
      obtain ⟨hb5, v5, rfl, hpr⟩ := hpa.pr
      exact hI.grow hK _ _ hb5 ⟨_, hr, by have hp := put_self a 11 v5 (by rw [hsz.out]; decide); show Pr w5 ((a.put (some 11) v5).tmps.getD 11 undef) _ _; rw [hp]; exact hpr⟩
    · simp only [List.getElem?_toArray, List.getElem?_cons_succ, List.getElem?_cons_zero, Option.some.injEq] at ho
      subst ho
      rw [if_pos (by rfl)]
      have fA5 : Fk.sem (.pr (fun r => MulZ K (baseZ K) (bitsOf K.n (blen K.n.toNat) (blen K.n.toNat)) r) L) [a.tmps.getD 11 undef] wx := hI.deep hne 9 5 (by decide +kernel)
      obtain ⟨zX11, eH11⟩ : ∃ x, a.tmps.getD 11 undef = x := ⟨_, rfl⟩
      simp only [eH11] at fA5
      have eK11 := eH11
      rw [Array.getD_eq_getD_getElem?] at eK11
      go_simp
      exact hI.grow hK _ _ (Below.refl _ _) ((put_self _ _ _ (by rw [hsz.out]; decide)).trans ((put_get _ _ _ _ (by decide)).trans eH11).symm)
    · simp only [List.getElem?_toArray, List.getElem?_cons_succ, List.getElem?_cons_zero, Option.some.injEq] at ho
      subst ho
      rw [if_pos (by rfl)]
      have fA5 : Fk.sem (.pr (fun r => MulZ K (baseZ K) (bitsOf K.n (blen K.n.toNat) (blen K.n.toNat)) r) L) [a.tmps.getD 11 undef] wx := hI.deep hne 9 5 (by decide +kernel)
      have fA6 : Fk.sem (.same) [a.tmps.getD 5 undef, a.tmps.getD 11 undef] wx := hI.deep hne 9 6 (by decide +kernel)
      obtain ⟨zX5, eH5⟩ : ∃ x, a.tmps.getD 5 undef = x := ⟨_, rfl⟩
      obtain ⟨zX11, eH11⟩ : ∃ x, a.tmps.getD 11 undef = x := ⟨_, rfl⟩
      simp only [eH5, eH11] at fA5 fA6
      have eG5 : zX5 = zX11 := fA6
      obtain ⟨rr, hrr, hpr⟩ := fA5
      obtain ⟨pP1, pP2, pP3, pP4, pP5, pP6, pP7, pP8, hpp⟩ := hpr.parts
      have hT : zX5 = .tuple #[.agg #[.slice pP1 pP2 pP3, .slice pP4 pP5 pP6, .bool pP7], .bool pP8] := eG5.trans (hpp)
      clear hpp hpr eG5
      subst hT
      have eK5 := eH5
      rw [Array.getD_eq_getD_getElem?] at eK5
      go_simp
      exact hI.grow hK (.agg #[.slice pP1 pP2 pP3, .slice pP4 pP5 pP6, .bool pP7]) _ (Below.refl _ _) ⟨_, (put_get _ _ _ _ (by decide)).trans eH5, put_self _ _ _ (by rw [hsz.out]; decide)⟩
    · simp only [List.getElem?_toArray, List.getElem?_cons_succ, List.getElem?_cons_zero, Option.some.injEq] at ho
      subst ho
      rw [if_pos (by rfl)]
      have fA5 : Fk.sem (.pr (fun r => MulZ K (baseZ K) (bitsOf K.n (blen K.n.toNat) (blen K.n.toNat)) r) L) [a.tmps.getD 11 undef] wx := hI.deep hne 9 5 (by decide +kernel)
      have fA6 : Fk.sem (.same) [a.tmps.getD 5 undef, a.tmps.getD 11 undef] wx := hI.deep hne 9 6 (by decide +kernel)
      obtain ⟨zX5, eH5⟩ : ∃ x, a.tmps.getD 5 undef = x := ⟨_, rfl⟩
      obtain ⟨zX11, eH11⟩ : ∃ x, a.tmps.getD 11 undef = x := ⟨_, rfl⟩
      simp only [eH5, eH11] at fA5 fA6
      have eG5 : zX5 = zX11 := fA6
      obtain ⟨rr, hrr, hpr⟩ := fA5
      obtain ⟨pP1, pP2, pP3, pP4, pP5, pP6, pP7, pP8, hpp⟩ := hpr.parts
      have hT : zX5 = .tuple #[.agg #[.slice pP1 pP2 pP3, .slice pP4 pP5 pP6, .bool pP7], .bool pP8] := eG5.trans (hpp)
      clear hpp hpr eG5
      subst hT
      have eK5 := eH5
      rw [Array.getD_eq_getD_getElem?] at eK5
      go_simp
      exact hI.grow hK (.bool pP8) _ (Below.refl _ _) ⟨_, (put_get _ _ _ _ (by decide)).trans eH5, put_self _ _ _ (by rw [hsz.out]; decide)⟩
    · simp only [List.getElem?_toArray, List.getElem?_cons_succ, List.getElem?_cons_zero, Option.some.injEq] at ho
      subst ho
      rw [if_pos (by rfl)]
      go_simp
      exact hI.grow hK _ _ ((Below.refl _ _).alloc (Nat.le_refl _) _) ⟨_, _, _, wx.heap.size, _, _, _, _, _, _, _, put_self _ _ _ (by rw [hsz.out]; decide), hbw.size, rfl, rfl, rfl, heap_alloc_new _ _⟩
    · simp only [List.getElem?_toArray, List.getElem?_cons_succ, List.getElem?_cons_zero, Option.some.injEq] at ho
      subst ho
      rw [if_pos (by rfl)]
      have fA5 : Fk.sem (.pr (fun r => MulZ K (baseZ K) (bitsOf K.n (blen K.n.toNat) (blen K.n.toNat)) r) L) [a.tmps.getD 11 undef] wx := hI.deep hne 9 5 (by decide +kernel)
      have fA6 : Fk.sem (.same) [a.tmps.getD 5 undef, a.tmps.getD 11 undef] wx := hI.deep hne 9 6 (by decide +kernel)
      have fA7 : Fk.sem (.ext 0) [a.tmps.getD 12 undef, a.tmps.getD 5 undef] wx := hI.deep hne 9 7 (by decide +kernel)
      have fA9 : Fk.sem (.box W0.heap.size) [a.tmps.getD 3 undef] wx := hI.deep hne 9 9 (by decide +kernel)
      obtain ⟨zX3, eH3⟩ : ∃ x, a.tmps.getD 3 undef = x := ⟨_, rfl⟩
      obtain ⟨zX12, eH12⟩ : ∃ x, a.tmps.getD 12 undef = x := ⟨_, rfl⟩
      obtain ⟨zX5, eH5⟩ : ∃ x, a.tmps.getD 5 undef = x := ⟨_, rfl⟩
      obtain ⟨zX11, eH11⟩ : ∃ x, a.tmps.getD 11 undef = x := ⟨_, rfl⟩
      simp only [eH3, eH12, eH5, eH11] at fA5 fA6 fA7 fA9
      have eG5 : zX5 = zX11 := fA6
      obtain ⟨rr, hrr, hpr⟩ := fA5
      obtain ⟨pP1, pP2, pP3, pP4, pP5, pP6, pP7, pP8, hpp⟩ := hpr.parts
      have hT : zX5 = .tuple #[.agg #[.slice pP1 pP2 pP3, .slice pP4 pP5 pP6, .bool pP7], .bool pP8] := eG5.trans (hpp)
      clear hpp hpr eG5
      obtain ⟨tt, ht1, ht2⟩ := fA7
      have ht1' : zX5 = .tuple tt := ht1
      rw [hT] at ht1'
      injection ht1' with ht1'
      subst ht1'
      have hP : zX12 = .agg #[.slice pP1 pP2 pP3, .slice pP4 pP5 pP6, .bool pP7] := ht2
      subst hP
      obtain ⟨q0, q1, q2, bx, r1, r2, r3, r4, r5, r6, r7, hx, hbx, rfl, rfl, rfl, hs⟩ := fA9
      have hx' : zX3 = .pointer (some ⟨bx, 0, none⟩) := hx
      subst hx'
      obtain ⟨y0, y1, y2, y3, y4, y5⟩ := hs.facts
      clear hx
      have eK3 := eH3
      have eK12 := eH12
      rw [Array.getD_eq_getD_getElem?] at eK3 eK12
      go_simp
      exact hI.fill hK hli undef bx hs _ _ _ _ _ _ _ hbx (by intro j hj; revert hj; revert j; exact box_but 10 _ (by kernel_rfl)) ⟨_, _, _, eH12, bx, _, _, _, _, _, _, _, eH3, hbx, rfl, rfl, rfl, hs.set3 _ _ _⟩
    · simp only [List.getElem?_toArray, List.getElem?_cons_succ, List.getElem?_cons_zero, Option.some.injEq] at ho
      subst ho
      rw [if_pos (by rfl)]
      have fA5 : Fk.sem (.pr (fun r => MulZ K (baseZ K) (bitsOf K.n (blen K.n.toNat) (blen K.n.toNat)) r) L) [a.tmps.getD 11 undef] wx := hI.deep hne 9 5 (by decide +kernel)
      have fA6 : Fk.sem (.same) [a.tmps.getD 5 undef, a.tmps.getD 11 undef] wx := hI.deep hne 9 6 (by decide +kernel)
      have fA8 : Fk.sem (.ext 1) [a.tmps.getD 13 undef, a.tmps.getD 5 undef] wx := hI.deep hne 9 8 (by decide +kernel)
      obtain ⟨zX13, eH13⟩ : ∃ x, a.tmps.getD 13 undef = x := ⟨_, rfl⟩
      obtain ⟨zX5, eH5⟩ : ∃ x, a.tmps.getD 5 undef = x := ⟨_, rfl⟩
      obtain ⟨zX11, eH11⟩ : ∃ x, a.tmps.getD 11 undef = x := ⟨_, rfl⟩
      simp only [eH13, eH5, eH11] at fA5 fA6 fA8
      have eK13 := eH13
      have eK5 := eH5
      have eK11 := eH11
      rw [Array.getD_eq_getD_getElem?] at eK13 eK5 eK11
      go_simp
      exact hI.grow hK _ _ (Below.refl _ _) ((put_self _ _ _ (by rw [hsz.out]; decide)).trans ((put_get _ _ _ _ (by decide)).trans eH13).symm)
  case done =>
    intro listed a W hI hall
    obtain ⟨tm, df⟩ := a
    have hdf : df = [] := hI.defers
    subst hdf
    have hTM : tm = #[tm.getD 0 undef, tm.getD 1 undef, tm.getD 2 undef, tm.getD 3 undef, tm.getD 4 undef, tm.getD 5 undef, tm.getD 6 undef, tm.getD 7 undef, tm.getD 8 undef, tm.getD 9 undef, tm.getD 10 undef, tm.getD 11 undef, tm.getD 12 undef, tm.getD 13 undef, tm.getD 14 undef, tm.getD 15 undef, tm.getD 16 undef, tm.getD 17 undef, tm.getD 18 undef] := arr_of tm 19 hI.slots
    have oS0 : tm.getD 0 undef = Value.agg #[Value.int IntKind.i64 g1, Value.int IntKind.i64 g2, Value.slice oo lo co, Value.slice a1 a2 a3, Value.slice b1 b2 b3, Value.slice d1 d2 d3, Value.slice e1 e2 e3, Value.slice f1 f2 f3, Value.slice j1 j2 j3] := hI.kept 0 (by decide +kernel)
    have oS1 : tm.getD 1 undef = Value.pointer (some { block := w.heap.size, off := 0 }) := hI.kept 1 (by decide +kernel)
    have oS2 : tm.getD 2 undef = Value.bool false := hI.kept 2 (by decide +kernel)
    have oS14 : tm.getD 14 undef = undef := hI.kept 14 (by decide +kernel)
    have oS15 : tm.getD 15 undef = undef := hI.kept 15 (by decide +kernel)
    have oS16 : tm.getD 16 undef = undef := hI.kept 16 (by decide +kernel)
    have oS17 : tm.getD 17 undef = undef := hI.kept 17 (by decide +kernel)
    have oS18 : tm.getD 18 undef = undef := hI.kept 18 (by decide +kernel)
    have fA5 : Fk.sem (.pr (fun r => MulZ K (baseZ K) (bitsOf K.n (blen K.n.toNat) (blen K.n.toNat)) r) L) [tm.getD 11 undef] W := hI.facts 5 (hall 5 (by decide))
    have fA6 : Fk.sem (.same) [tm.getD 5 undef, tm.getD 11 undef] W := hI.facts 6 (hall 6 (by decide))
    have fA7 : Fk.sem (.ext 0) [tm.getD 12 undef, tm.getD 5 undef] W := hI.facts 7 (hall 7 (by decide))
    have fA8 : Fk.sem (.ext 1) [tm.getD 13 undef, tm.getD 5 undef] W := hI.facts 8 (hall 8 (by decide))
    have fA10 : Fk.sem (.sto W0.heap.size) [tm.getD 3 undef, tm.getD 12 undef] W := hI.facts 10 (hall 10 (by decide))
    have fA11 : Fk.sem (.same) [tm.getD 4 undef, tm.getD 13 undef] W := hI.facts 11 (hall 11 (by decide))
    have fA0 : tm.getD 6 undef = (Value.agg #[Value.int IntKind.i64 g1, Value.int IntKind.i64 g2, Value.slice oo lo co, Value.slice a1 a2 a3, Value.slice b1 b2 b3, Value.slice d1 d2 d3, Value.slice e1 e2 e3, Value.slice f1 f2 f3, Value.slice j1 j2 j3]) := hI.facts 0 (hall 0 (by decide))
    have fA1 : tm.getD 7 undef = (Value.pointer (some { block := w.heap.size, off := 8 })) := hI.facts 1 (hall 1 (by decide))
    have fA2 : tm.getD 8 undef = (Value.slice j1 j2 j3) := hI.facts 2 (hall 2 (by decide))
    have fA3 : tm.getD 9 undef = (Value.agg #[Value.int IntKind.i64 g1, Value.int IntKind.i64 g2, Value.slice oo lo co, Value.slice a1 a2 a3, Value.slice b1 b2 b3, Value.slice d1 d2 d3, Value.slice e1 e2 e3, Value.slice f1 f2 f3, Value.slice j1 j2 j3]) := hI.facts 3 (hall 3 (by decide))
    have hbw : Below W0.heap.size W0 W := (Below.refl _ _).drew.trans hI.below
    clear hI hall listed
    simp only [oS0, oS1, oS2, oS14, oS15, oS16, oS17, oS18, fA0, fA1, fA2, fA3] at hTM
    clear oS0 oS1 oS2 oS14 oS15 oS16 oS17 oS18 fA0 fA1 fA2 fA3
    generalize tm.getD 3 undef = zX3 at hTM fA10
    generalize tm.getD 4 undef = zX4 at hTM fA11
    generalize tm.getD 5 undef = zX5 at hTM fA6 fA7 fA8
    generalize tm.getD 10 undef = zX10 at hTM 
    generalize tm.getD 11 undef = zX11 at hTM fA5 fA6
    generalize tm.getD 12 undef = zX12 at hTM fA7 fA10
    generalize tm.getD 13 undef = zX13 at hTM fA8 fA11
    subst hTM
    obtain ⟨r, b, hr, hb3, hr2⟩ := pair_end fA5 fA6 fA7 fA8 fA10 fA11 rfl rfl rfl rfl rfl
    have hb3' : zX3 = .pointer (some ⟨b, 0, none⟩) := hb3
    subst hb3'
    clear fA5 fA6 fA7 fA8 fA10 fA11
    have HR : Hid (MulZ K (baseZ K) (bitsOf K.n (blen K.n.toNat) (blen K.n.toNat)) r ∧ Below w.heap.size w W) := ⟨hr, HW.out.2.trans (hbw.mono HW.out.2.size)⟩
    clear hr hb3 hbw HCU HN HW
    rcases hr2 with ⟨p, rfl, h4, _, o1, l1, k1, o2, l2, k2, hs, _, _⟩ | ⟨rfl, h4, _, o1, l1, k1, o2, l2, k2, hs, _, _⟩
    all_goals
      have h4' : zX4 = _ := h4
      subst h4'
      obtain ⟨y0, y1, y2, _, _, _⟩ := hs.facts
      clear h4 hs
    · go_wp2
      go_ret
      exact ⟨_, HR.out.1, rfl, HR.out.2⟩
    · go_wp2
      go_ret
      exact ⟨_, HR.out.1, rfl, HR.out.2⟩
end Go.Proofs.Ytdojbknkaoiioaa
