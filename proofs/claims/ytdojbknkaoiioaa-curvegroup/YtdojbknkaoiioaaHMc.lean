/-
  CurveGroup: its mul, add, same.
-/
import Derived.Test.YtdojbknkaoiioaaHZ
namespace Go.Proofs.Ytdojbknkaoiioaa
open Go.Shelf Go.RowKit
set_option linter.unusedVariables false
set_option linter.unusedSimpArgs false

set_option maxRecDepth 100000 in
set_option maxHeartbeats 4000000 in
theorem gmul_any {P N : Nat} [NeZero P] {K : Cz} (R : RightK K P N) (gc : Nat) (k : Int) (m : Nat) (w : World) (v0 v1 v2 v3 v4 v5 v6 v7 v8 : Value) (hbx : w.heap[gc]? = some (.cells #[v0, v1, v2, v3, v4, v5, v6, v7, v8] 29 (0, 0))) (hc : Cu w (.agg #[v0, v1, v2, v3, v4, v5, v6, v7, v8]) K 3) (hk : 0 ≤ k ∧ k < 18446744073709551616) (hm : k = (m : Int)) :
    Calls Try.prog 16 #[.int .u64 k, .pointer (some ⟨gc, 0, none⟩)] w fun e w' => ∃ v, e = .returned v ∧ ∃ s, Pv w' v s 3 ∧ Mt K P (baseZ K) m s ∧ Below w.heap.size w w' := by
  obtain ⟨g1, g2, oo, lo, co, a1, a2, a3, b1, b2, b3, d1, d2, d3, e1, e2, e3, f1, f2, f3, j1, j2, j3, hag, -, -, -, -, -, -⟩ := hc.slices
  rw [hag] at hc
  injection hag with hag
  rw [hag] at hbx
  clear hag
  have HR : Hid (RightK K P N) := R
  have HCU : Hid (Cu w (Value.agg #[Value.int IntKind.i64 g1, Value.int IntKind.i64 g2, Value.slice oo lo co, Value.slice a1 a2 a3, Value.slice b1 b2 b3, Value.slice d1 d2 d3, Value.slice e1 e2 e3, Value.slice f1 f2 f3, Value.slice j1 j2 j3]) K 3) := hc
  have HW : Hid (w.heap[gc]? = some (.cells #[Value.int IntKind.i64 g1, Value.int IntKind.i64 g2, Value.slice oo lo co, Value.slice a1 a2 a3, Value.slice b1 b2 b3, Value.slice d1 d2 d3, Value.slice e1 e2 e3, Value.slice f1 f2 f3, Value.slice j1 j2 j3] 29 (0, 0))) := hbx
  have HM : Hid (k = (m : Int)) := hm
  clear hc hbx R hm
  obtain ⟨W0, hW0⟩ : ∃ W0, w.alloc (.cells #[.slice none 0 0, .slice none 0 0, .bool false] 43) = W0 := ⟨_, rfl⟩
  have hbw : Below w.heap.size w W0 := by rw [← hW0]; exact (Below.refl _ _).alloc (Nat.le_refl _) _
  have HRS : Hid (PSl W0 w.heap.size (.slice none 0 0) (.slice none 0 0) (.bool false)) := by rw [← hW0]; exact heap_alloc_new w _
  have HBW : Hid (Below w.heap.size w W0) := hbw
  replace HCU : Hid (Cu W0 _ K 3) := HCU.out.old hbw
  replace HW : Hid (W0.heap[gc]? = _) := blk_old HW.out hbw
  clear hbw
  go_enter Try.func16, Try.ntmps16
  go_wp2_with fail
  clear hW0
  refine wp_region_frames 1 [[7], [8], [9], [10], [11], [12], [6, 12], [13, 6], [14, 6], [4], [4, 13], [5, 14]] (([.eq (Value.agg #[Value.int IntKind.i64 g1, Value.int IntKind.i64 g2, Value.slice oo lo co, Value.slice a1 a2 a3, Value.slice b1 b2 b3, Value.slice d1 d2 d3, Value.slice e1 e2 e3, Value.slice f1 f2 f3, Value.slice j1 j2 j3]), .eq (Value.int IntKind.u64 k), .nv (fun n => n = k) 3, .eq (Value.agg #[Value.int IntKind.i64 g1, Value.int IntKind.i64 g2, Value.slice oo lo co, Value.slice a1 a2 a3, Value.slice b1 b2 b3, Value.slice d1 d2 d3, Value.slice e1 e2 e3, Value.slice f1 f2 f3, Value.slice j1 j2 j3]), .pv (fun p => p = baseZ K) 3, .pr (fun r => ∃ s, r = some s ∧ Mt K P (baseZ K) (m) s) 3, .same, .ext 0, .ext 1, .box W0.heap.size, .sto W0.heap.size, .same] : List Fk).map Fk.sem) [0, 1, 2, 3, 4, 5, 6, 7, 8, 9, 10, 11] (by kernel_rfl) (by kernel_rfl) (by kernel_rfl) ?step ?done
  case step =>
    intro i o ho listed a wx hI hli hne KK hK
    have hlt : i < 12 := (Array.getElem?_eq_some_iff.1 ho).1
    have hsz : Hid (a.tmps.size = 16) := hI.slots
    have hbw : Below W0.heap.size W0 wx := (Below.refl _ _).drew.trans hI.below
    obtain rfl | rfl | rfl | rfl | rfl | rfl | rfl | rfl | rfl | rfl | rfl | rfl : i = 0 ∨ i = 1 ∨ i = 2 ∨ i = 3 ∨ i = 4 ∨ i = 5 ∨ i = 6 ∨ i = 7 ∨ i = 8 ∨ i = 9 ∨ i = 10 ∨ i = 11 := by omega
    · simp only [List.getElem?_toArray, List.getElem?_cons_succ, List.getElem?_cons_zero, Option.some.injEq] at ho
      subst ho
      rw [if_pos (by rfl)]
      have eH1 : a.tmps.getD 1 undef = Value.pointer (some { block := gc, off := 0 }) := hI.stays hli 1 1 (by decide +kernel)
      obtain ⟨cC0, cC1, cC2, cC3, cC4, cC5, cC6, cC7, cC8⟩ := cells9 (blk_old HW.out hbw)
      go_simp
      exact hI.grow hK _ _ (Below.refl _ _) (put_self _ _ _ (by rw [hsz.out]; decide))
    · simp only [List.getElem?_toArray, List.getElem?_cons_succ, List.getElem?_cons_zero, Option.some.injEq] at ho
      subst ho
      rw [if_pos (by rfl)]
      have eH0 : a.tmps.getD 0 undef = Value.int IntKind.u64 k := hI.stays hli 1 0 (by decide +kernel)
      go_simp
      exact hI.grow hK _ _ (Below.refl _ _) (put_self _ _ _ (by rw [hsz.out]; decide))
    · simp only [List.getElem?_toArray, List.getElem?_cons_succ, List.getElem?_cons_zero, Option.some.injEq] at ho
      subst ho
      rw [if_pos (by rfl)]
      have eH8 : a.tmps.getD 8 undef = (Value.int IntKind.u64 k) := hI.deep hne 0 1 (by decide +kernel)
      go_simp
      go_at_call 12
      refine (of_nv k wx (by omega) (by omega)).mono ?_
      rintro e w5 ⟨v5, rfl, hv5, hb5⟩
      exact hI.grow hK _ _ hb5 ⟨_, rfl, by have hp := put_self a 9 v5 (by rw [hsz.out]; decide); show Nv w5 ((a.put (some 9) v5).tmps.getD 9 undef) _ _; rw [hp]; exact hv5.up (by decide)⟩
    · simp only [List.getElem?_toArray, List.getElem?_cons_succ, List.getElem?_cons_zero, Option.some.injEq] at ho
      subst ho
      rw [if_pos (by rfl)]
      have eH1 : a.tmps.getD 1 undef = Value.pointer (some { block := gc, off := 0 }) := hI.stays hli 1 1 (by decide +kernel)
      obtain ⟨cC0, cC1, cC2, cC3, cC4, cC5, cC6, cC7, cC8⟩ := cells9 (blk_old HW.out hbw)
      go_simp
      exact hI.grow hK _ _ (Below.refl _ _) (put_self _ _ _ (by rw [hsz.out]; decide))
    · simp only [List.getElem?_toArray, List.getElem?_cons_succ, List.getElem?_cons_zero, Option.some.injEq] at ho
      subst ho
      rw [if_pos (by rfl)]
      have eH10 : a.tmps.getD 10 undef = (Value.agg #[Value.int IntKind.i64 g1, Value.int IntKind.i64 g2, Value.slice oo lo co, Value.slice a1 a2 a3, Value.slice b1 b2 b3, Value.slice d1 d2 d3, Value.slice e1 e2 e3, Value.slice f1 f2 f3, Value.slice j1 j2 j3]) := hI.deep hne 0 3 (by decide +kernel)
      go_simp
      go_at_call 18
      refine (Base_any _ K 3 wx (HCU.out.old hbw)).mono ?_
      rintro e w5 ⟨v5, rfl, hv5, hb5⟩
      exact hI.grow hK _ _ hb5 ⟨_, rfl, by have hp := put_self a 11 v5 (by rw [hsz.out]; decide); show Pv w5 ((a.put (some 11) v5).tmps.getD 11 undef) _ _; rw [hp]; exact hv5⟩
    · simp only [List.getElem?_toArray, List.getElem?_cons_succ, List.getElem?_cons_zero, Option.some.injEq] at ho
      subst ho
      rw [if_pos (by rfl)]
      have eH7 : a.tmps.getD 7 undef = (Value.agg #[Value.int IntKind.i64 g1, Value.int IntKind.i64 g2, Value.slice oo lo co, Value.slice a1 a2 a3, Value.slice b1 b2 b3, Value.slice d1 d2 d3, Value.slice e1 e2 e3, Value.slice f1 f2 f3, Value.slice j1 j2 j3]) := hI.deep hne 0 0 (by decide +kernel)
      have fA2 : Fk.sem (.nv (fun n => n = k) 3) [a.tmps.getD 9 undef] wx := hI.deep hne 0 2 (by decide +kernel)
      have fA4 : Fk.sem (.pv (fun p => p = baseZ K) 3) [a.tmps.getD 11 undef] wx := hI.deep hne 0 4 (by decide +kernel)
      obtain ⟨zX9, eH9⟩ : ∃ x, a.tmps.getD 9 undef = x := ⟨_, rfl⟩
      obtain ⟨zX11, eH11⟩ : ∃ x, a.tmps.getD 11 undef = x := ⟨_, rfl⟩
      simp only [eH9, eH11] at fA2 fA4
      obtain ⟨nz, hnz, hnv0⟩ := fA2
      rw [hnz] at hnv0
      have hnv : Nv wx zX9 (k) 3 := hnv0
      clear hnv0 hnz
      obtain ⟨pz, rfl, hpv⟩ := fA4
      have hpv' : Pv wx zX11 (baseZ K) 3 := hpv
      clear hpv
      go_simp
      go_at_call 17
      refine (Mul_right HR.out _ _ _ (k) (m) 3 wx (HCU.out.old hbw) hnv hpv' (by decide) (HM.out)).mono ?_
      rintro e w5 ⟨s, hs, hb5, v5, rfl, hpr⟩
      exact hI.grow hK _ _ hb5 ⟨_, ⟨s, rfl, hs⟩, by have hp := put_self a 12 v5 (by rw [hsz.out]; decide); show Pr w5 ((a.put (some 12) v5).tmps.getD 12 undef) _ _; rw [hp]; exact hpr⟩
    · simp only [List.getElem?_toArray, List.getElem?_cons_succ, List.getElem?_cons_zero, Option.some.injEq] at ho
      subst ho
      rw [if_pos (by rfl)]
      have fA5 : Fk.sem (.pr (fun r => ∃ s, r = some s ∧ Mt K P (baseZ K) (m) s) 3) [a.tmps.getD 12 undef] wx := hI.deep hne 0 5 (by decide +kernel)
      obtain ⟨zX12, eH12⟩ : ∃ x, a.tmps.getD 12 undef = x := ⟨_, rfl⟩
      simp only [eH12] at fA5
      have eK12 := eH12
      rw [Array.getD_eq_getD_getElem?] at eK12
      go_simp
      exact hI.grow hK _ _ (Below.refl _ _) ((put_self _ _ _ (by rw [hsz.out]; decide)).trans ((put_get _ _ _ _ (by decide)).trans eH12).symm)
    · simp only [List.getElem?_toArray, List.getElem?_cons_succ, List.getElem?_cons_zero, Option.some.injEq] at ho
      subst ho
      rw [if_pos (by rfl)]
      have fA5 : Fk.sem (.pr (fun r => ∃ s, r = some s ∧ Mt K P (baseZ K) (m) s) 3) [a.tmps.getD 12 undef] wx := hI.deep hne 1 5 (by decide +kernel)
      have fA6 : Fk.sem (.same) [a.tmps.getD 6 undef, a.tmps.getD 12 undef] wx := hI.deep hne 0 6 (by decide +kernel)
      obtain ⟨zX6, eH6⟩ : ∃ x, a.tmps.getD 6 undef = x := ⟨_, rfl⟩
      obtain ⟨zX12, eH12⟩ : ∃ x, a.tmps.getD 12 undef = x := ⟨_, rfl⟩
      simp only [eH6, eH12] at fA5 fA6
      have eG6 : zX6 = zX12 := fA6
      obtain ⟨rr, hrr, hpr⟩ := fA5
      obtain ⟨pP1, pP2, pP3, pP4, pP5, pP6, pP7, pP8, hpp⟩ := hpr.parts
      have hT : zX6 = .tuple #[.agg #[.slice pP1 pP2 pP3, .slice pP4 pP5 pP6, .bool pP7], .bool pP8] := eG6.trans (hpp)
      clear hpp hpr eG6
      subst hT
      have eK6 := eH6
      rw [Array.getD_eq_getD_getElem?] at eK6
      go_simp
      exact hI.grow hK (.agg #[.slice pP1 pP2 pP3, .slice pP4 pP5 pP6, .bool pP7]) _ (Below.refl _ _) ⟨_, (put_get _ _ _ _ (by decide)).trans eH6, put_self _ _ _ (by rw [hsz.out]; decide)⟩
    · simp only [List.getElem?_toArray, List.getElem?_cons_succ, List.getElem?_cons_zero, Option.some.injEq] at ho
      subst ho
      rw [if_pos (by rfl)]
      have fA5 : Fk.sem (.pr (fun r => ∃ s, r = some s ∧ Mt K P (baseZ K) (m) s) 3) [a.tmps.getD 12 undef] wx := hI.deep hne 1 5 (by decide +kernel)
      have fA6 : Fk.sem (.same) [a.tmps.getD 6 undef, a.tmps.getD 12 undef] wx := hI.deep hne 0 6 (by decide +kernel)
      obtain ⟨zX6, eH6⟩ : ∃ x, a.tmps.getD 6 undef = x := ⟨_, rfl⟩
      obtain ⟨zX12, eH12⟩ : ∃ x, a.tmps.getD 12 undef = x := ⟨_, rfl⟩
      simp only [eH6, eH12] at fA5 fA6
      have eG6 : zX6 = zX12 := fA6
      obtain ⟨rr, hrr, hpr⟩ := fA5
      obtain ⟨pP1, pP2, pP3, pP4, pP5, pP6, pP7, pP8, hpp⟩ := hpr.parts
      have hT : zX6 = .tuple #[.agg #[.slice pP1 pP2 pP3, .slice pP4 pP5 pP6, .bool pP7], .bool pP8] := eG6.trans (hpp)
      clear hpp hpr eG6
      subst hT
      have eK6 := eH6
      rw [Array.getD_eq_getD_getElem?] at eK6
      go_simp
      exact hI.grow hK (.bool pP8) _ (Below.refl _ _) ⟨_, (put_get _ _ _ _ (by decide)).trans eH6, put_self _ _ _ (by rw [hsz.out]; decide)⟩
    · simp only [List.getElem?_toArray, List.getElem?_cons_succ, List.getElem?_cons_zero, Option.some.injEq] at ho
      subst ho
      rw [if_pos (by rfl)]
      go_simp
      exact hI.grow hK _ _ ((Below.refl _ _).alloc (Nat.le_refl _) _) ⟨_, _, _, wx.heap.size, _, _, _, _, _, _, _, put_self _ _ _ (by rw [hsz.out]; decide), hbw.size, rfl, rfl, rfl, heap_alloc_new _ _⟩
    · simp only [List.getElem?_toArray, List.getElem?_cons_succ, List.getElem?_cons_zero, Option.some.injEq] at ho
      subst ho
      rw [if_pos (by rfl)]
      have fA5 : Fk.sem (.pr (fun r => ∃ s, r = some s ∧ Mt K P (baseZ K) (m) s) 3) [a.tmps.getD 12 undef] wx := hI.deep hne 0 5 (by decide +kernel)
      have fA6 : Fk.sem (.same) [a.tmps.getD 6 undef, a.tmps.getD 12 undef] wx := hI.deep hne 0 6 (by decide +kernel)
      have fA7 : Fk.sem (.ext 0) [a.tmps.getD 13 undef, a.tmps.getD 6 undef] wx := hI.deep hne 0 7 (by decide +kernel)
      have fA9 : Fk.sem (.box W0.heap.size) [a.tmps.getD 4 undef] wx := hI.deep hne 0 9 (by decide +kernel)
      obtain ⟨zX4, eH4⟩ : ∃ x, a.tmps.getD 4 undef = x := ⟨_, rfl⟩
      obtain ⟨zX13, eH13⟩ : ∃ x, a.tmps.getD 13 undef = x := ⟨_, rfl⟩
      obtain ⟨zX6, eH6⟩ : ∃ x, a.tmps.getD 6 undef = x := ⟨_, rfl⟩
      obtain ⟨zX12, eH12⟩ : ∃ x, a.tmps.getD 12 undef = x := ⟨_, rfl⟩
      simp only [eH4, eH13, eH6, eH12] at fA5 fA6 fA7 fA9
      have eG6 : zX6 = zX12 := fA6
      obtain ⟨rr, hrr, hpr⟩ := fA5
      obtain ⟨pP1, pP2, pP3, pP4, pP5, pP6, pP7, pP8, hpp⟩ := hpr.parts
      have hT : zX6 = .tuple #[.agg #[.slice pP1 pP2 pP3, .slice pP4 pP5 pP6, .bool pP7], .bool pP8] := eG6.trans (hpp)
      clear hpp hpr eG6
      obtain ⟨tt, ht1, ht2⟩ := fA7
      have ht1' : zX6 = .tuple tt := ht1
      rw [hT] at ht1'
      injection ht1' with ht1'
      subst ht1'
      have hP : zX13 = .agg #[.slice pP1 pP2 pP3, .slice pP4 pP5 pP6, .bool pP7] := ht2
      subst hP
      obtain ⟨q0, q1, q2, bx, r1, r2, r3, r4, r5, r6, r7, hx, hbx, rfl, rfl, rfl, hs⟩ := fA9
      have hx' : zX4 = .pointer (some ⟨bx, 0, none⟩) := hx
      subst hx'
      obtain ⟨y0, y1, y2, y3, y4, y5⟩ := hs.facts
      clear hx
      have eK4 := eH4
      have eK13 := eH13
      rw [Array.getD_eq_getD_getElem?] at eK4 eK13
      go_simp
      exact hI.fill hK hli undef bx hs _ _ _ _ _ _ _ hbx (by intro j hj; revert hj; revert j; exact box_but 10 _ (by kernel_rfl)) ⟨_, _, _, eH13, bx, _, _, _, _, _, _, _, eH4, hbx, rfl, rfl, rfl, hs.set3 _ _ _⟩
    · simp only [List.getElem?_toArray, List.getElem?_cons_succ, List.getElem?_cons_zero, Option.some.injEq] at ho
      subst ho
      rw [if_pos (by rfl)]
      have fA5 : Fk.sem (.pr (fun r => ∃ s, r = some s ∧ Mt K P (baseZ K) (m) s) 3) [a.tmps.getD 12 undef] wx := hI.deep hne 0 5 (by decide +kernel)
      have fA6 : Fk.sem (.same) [a.tmps.getD 6 undef, a.tmps.getD 12 undef] wx := hI.deep hne 0 6 (by decide +kernel)
      have fA8 : Fk.sem (.ext 1) [a.tmps.getD 14 undef, a.tmps.getD 6 undef] wx := hI.deep hne 0 8 (by decide +kernel)
      obtain ⟨zX14, eH14⟩ : ∃ x, a.tmps.getD 14 undef = x := ⟨_, rfl⟩
      obtain ⟨zX6, eH6⟩ : ∃ x, a.tmps.getD 6 undef = x := ⟨_, rfl⟩
      obtain ⟨zX12, eH12⟩ : ∃ x, a.tmps.getD 12 undef = x := ⟨_, rfl⟩
      simp only [eH14, eH6, eH12] at fA5 fA6 fA8
      have eK14 := eH14
      have eK6 := eH6
      have eK12 := eH12
      rw [Array.getD_eq_getD_getElem?] at eK14 eK6 eK12
      go_simp
      exact hI.grow hK _ _ (Below.refl _ _) ((put_self _ _ _ (by rw [hsz.out]; decide)).trans ((put_get _ _ _ _ (by decide)).trans eH14).symm)
  case done =>
    intro listed a W1 hI hall
    obtain ⟨tm, df⟩ := a
    have hdf : df = [] := hI.defers
    subst hdf
    have hTM : tm = #[tm.getD 0 undef, tm.getD 1 undef, tm.getD 2 undef, tm.getD 3 undef, tm.getD 4 undef, tm.getD 5 undef, tm.getD 6 undef, tm.getD 7 undef, tm.getD 8 undef, tm.getD 9 undef, tm.getD 10 undef, tm.getD 11 undef, tm.getD 12 undef, tm.getD 13 undef, tm.getD 14 undef, tm.getD 15 undef] := arr_of tm 16 hI.slots
    have oS0 : tm.getD 0 undef = Value.int IntKind.u64 k := hI.kept 0 (by decide +kernel)
    have oS1 : tm.getD 1 undef = Value.pointer (some { block := gc, off := 0 }) := hI.kept 1 (by decide +kernel)
    have oS2 : tm.getD 2 undef = undef := hI.kept 2 (by decide +kernel)
    have oS3 : tm.getD 3 undef = Value.pointer (some { block := w.heap.size, off := 0 }) := hI.kept 3 (by decide +kernel)
    have oS15 : tm.getD 15 undef = undef := hI.kept 15 (by decide +kernel)
    have fA5 : Fk.sem (.pr (fun r => ∃ s, r = some s ∧ Mt K P (baseZ K) (m) s) 3) [tm.getD 12 undef] W1 := hI.facts 5 (hall 5 (by decide))
    have fA6 : Fk.sem (.same) [tm.getD 6 undef, tm.getD 12 undef] W1 := hI.facts 6 (hall 6 (by decide))
    have fA7 : Fk.sem (.ext 0) [tm.getD 13 undef, tm.getD 6 undef] W1 := hI.facts 7 (hall 7 (by decide))
    have fA8 : Fk.sem (.ext 1) [tm.getD 14 undef, tm.getD 6 undef] W1 := hI.facts 8 (hall 8 (by decide))
    have fA10 : Fk.sem (.sto W0.heap.size) [tm.getD 4 undef, tm.getD 13 undef] W1 := hI.facts 10 (hall 10 (by decide))
    have fA11 : Fk.sem (.same) [tm.getD 5 undef, tm.getD 14 undef] W1 := hI.facts 11 (hall 11 (by decide))
    have fA0 : tm.getD 7 undef = (Value.agg #[Value.int IntKind.i64 g1, Value.int IntKind.i64 g2, Value.slice oo lo co, Value.slice a1 a2 a3, Value.slice b1 b2 b3, Value.slice d1 d2 d3, Value.slice e1 e2 e3, Value.slice f1 f2 f3, Value.slice j1 j2 j3]) := hI.facts 0 (hall 0 (by decide))
    have fA1 : tm.getD 8 undef = (Value.int IntKind.u64 k) := hI.facts 1 (hall 1 (by decide))
    have fA3 : tm.getD 10 undef = (Value.agg #[Value.int IntKind.i64 g1, Value.int IntKind.i64 g2, Value.slice oo lo co, Value.slice a1 a2 a3, Value.slice b1 b2 b3, Value.slice d1 d2 d3, Value.slice e1 e2 e3, Value.slice f1 f2 f3, Value.slice j1 j2 j3]) := hI.facts 3 (hall 3 (by decide))
    have hbw : Below W0.heap.size W0 W1 := (Below.refl _ _).drew.trans hI.below
    clear hI hall listed
    simp only [oS0, oS1, oS2, oS3, oS15, fA0, fA1, fA3] at hTM
    clear oS0 oS1 oS2 oS3 oS15 fA0 fA1 fA3
    generalize tm.getD 4 undef = zX4 at hTM fA10
    generalize tm.getD 5 undef = zX5 at hTM fA11
    generalize tm.getD 6 undef = zX6 at hTM fA6 fA7 fA8
    generalize tm.getD 9 undef = zX9 at hTM 
    generalize tm.getD 11 undef = zX11 at hTM 
    generalize tm.getD 12 undef = zX12 at hTM fA5 fA6
    generalize tm.getD 13 undef = zX13 at hTM fA7 fA10
    generalize tm.getD 14 undef = zX14 at hTM fA8 fA11
    subst hTM
    replace HW : Hid (W1.heap[gc]? = some (.cells #[Value.int IntKind.i64 g1, Value.int IntKind.i64 g2, Value.slice oo lo co, Value.slice a1 a2 a3, Value.slice b1 b2 b3, Value.slice d1 d2 d3, Value.slice e1 e2 e3, Value.slice f1 f2 f3, Value.slice j1 j2 j3] 29 (0, 0))) := blk_old HW.out hbw
    replace HCU : Hid (Cu W1 (Value.agg #[Value.int IntKind.i64 g1, Value.int IntKind.i64 g2, Value.slice oo lo co, Value.slice a1 a2 a3, Value.slice b1 b2 b3, Value.slice d1 d2 d3, Value.slice e1 e2 e3, Value.slice f1 f2 f3, Value.slice j1 j2 j3]) K 3) := HCU.out.old hbw
    replace HBW : Hid (Below w.heap.size w W1) := HBW.out.trans (hbw.mono HBW.out.size)
    replace HRS : Hid (PSl W1 w.heap.size (.slice none 0 0) (.slice none 0 0) (.bool false)) := HRS.out.keep hbw
    obtain ⟨rr, bA, ⟨sA, hrs, hmtA⟩, hb3, hr2⟩ := pair_end fA5 fA6 fA7 fA8 fA10 fA11 rfl rfl rfl rfl rfl
    have hb3' : zX4 = .pointer (some ⟨bA, 0, none⟩) := hb3
    subst hb3'
    clear fA5 fA6 fA7 fA8 fA10 fA11 hb3
    have HMA : Hid (Mt K P (baseZ K) (m) sA) := hmtA
    clear hmtA
    rcases hr2 with ⟨pp, hpp, h4, hpt⟩ | ⟨hpp, _⟩
    rotate_left
    · rw [hpp] at hrs; cases hrs
    rw [hpp] at hrs
    injection hrs with hrs
    have hrs2 := hrs.symm
    subst hrs2
    have h4' : zX5 = .bool true := h4
    subst h4'
    obtain ⟨_, Ao1, Ao2, Ao3, Ar1, Ar2, Ar3, hs5, hx5, hy5⟩ := hpt
    have HA : Hid (PSl W1 bA (.slice Ao1 Ao2 Ao3) (.slice Ar1 Ar2 Ar3) (.bool sA.inf)) := hs5
    have HAV : Hid (Nv W1 (.slice Ao1 Ao2 Ao3) sA.x 3 ∧ Nv W1 (.slice Ar1 Ar2 Ar3) sA.y 3) := ⟨hx5, hy5⟩
    clear hs5 hx5 hy5 hbw h4 hpp
    obtain ⟨yA0, yA1, yA2, _, _, _⟩ := HA.out.facts
    obtain ⟨yR0, yR1, yR2, yR3, yR4, yR5⟩ := HRS.out.facts
    go_wp2_with fail
    have bt := Bt.set3 W1 w.heap.size (.slice Ao1 Ao2 Ao3) (.slice Ar1 Ar2 Ar3) (.bool sA.inf)
    refine bodyPost_ret (ret_pt1 rfl _ _ w.heap.size _ _ _ rfl (HRS.out.set3 (.slice Ao1 Ao2 Ao3) (.slice Ar1 Ar2 Ar3) (.bool sA.inf))) rfl ?_
    exact ⟨_, rfl, sA, ⟨_, _, rfl, HAV.out.1.apart HRS.out bt, HAV.out.2.apart HRS.out bt⟩, HMA.out, HBW.out.trans (bt.below (Nat.le_refl _) HBW.out.size)⟩
/-- Three places, one behind the other. -/
theorem three_new (w : World) (pv qv : Array Value) : PSl (((w.alloc (.cells pv 43)).alloc (.cells qv 43)).alloc (.cells #[.slice none 0 0, .slice none 0 0, .bool false] 43)) (w.heap.size + 1 + 1) (.slice none 0 0) (.slice none 0 0) (.bool false) ∧ (((w.alloc (.cells pv 43)).alloc (.cells qv 43)).alloc (.cells #[.slice none 0 0, .slice none 0 0, .bool false] 43)).heap[w.heap.size]? = some (.cells pv 43 (0, 0)) ∧ (((w.alloc (.cells pv 43)).alloc (.cells qv 43)).alloc (.cells #[.slice none 0 0, .slice none 0 0, .bool false] 43)).heap[w.heap.size + 1]? = some (.cells qv 43 (0, 0)) ∧ Below w.heap.size w (((w.alloc (.cells pv 43)).alloc (.cells qv 43)).alloc (.cells #[.slice none 0 0, .slice none 0 0, .bool false] 43)) := by
  obtain ⟨n1, n2, hb⟩ := pair_new w pv qv 43 43
  have z : ((w.alloc (.cells pv 43)).alloc (.cells qv 43)).heap.size = w.heap.size + 1 + 1 := by rw [alloc_sz7, alloc_sz7]
  have n3 := heap_alloc_new ((w.alloc (.cells pv 43)).alloc (.cells qv 43)) (.cells #[.slice none 0 0, .slice none 0 0, .bool false] 43)
  rw [z] at n3
  exact ⟨n3, heap_new n1 (by omega), heap_new n2 (by omega), hb.alloc (by omega) _⟩
set_option maxRecDepth 100000 in
set_option maxHeartbeats 4000000 in
theorem gadd_any {P N : Nat} [NeZero P] {K : Cz} (R : RightK K P N) (gc : Nat) (p q : Value) (p' q' : Pz) (a b : Nat) (w : World) (v0 v1 v2 v3 v4 v5 v6 v7 v8 : Value) (hbx : w.heap[gc]? = some (.cells #[v0, v1, v2, v3, v4, v5, v6, v7, v8] 29 (0, 0))) (hc : Cu w (.agg #[v0, v1, v2, v3, v4, v5, v6, v7, v8]) K 3) (hp : Pv w p p' 3) (hq : Pv w q q' 3) (ha : Mt K P (baseZ K) a p') (hb : Mt K P (baseZ K) b q') :
    Calls Try.prog 19 #[p, q, .pointer (some ⟨gc, 0, none⟩)] w fun e w' => ∃ v, e = .returned v ∧ ∃ s, Pv w' v s 3 ∧ Mt K P (baseZ K) (a + b) s ∧ Below w.heap.size w w' := by
  obtain ⟨g1, g2, oo, lo, co, a1, a2, a3, b1, b2, b3, d1, d2, d3, e1, e2, e3, f1, f2, f3, j1, j2, j3, hag, -, -, -, -, -, -⟩ := hc.slices
  rw [hag] at hc
  injection hag with hag
  rw [hag] at hbx
  clear hag
  have HA := fun W (hW : Below w.heap.size w W) => Add_right R _ p q p' q' a b 3 W (hc.old hW) (hp.old hW) (hq.old hW) (by decide) ha hb
  obtain ⟨px, py, rfl, ⟨k1, k2, k3, k4, rfl, k5⟩, ⟨l1, l2, l3, l4, rfl, l5⟩⟩ := hp
  obtain ⟨qx, qy, rfl, ⟨m1, m2, m3, m4, rfl, m5⟩, ⟨n1, n2, n3, n4, rfl, n5⟩⟩ := hq
  obtain ⟨s0, s1, s2, hb0⟩ := three_new w #[.slice k1 k2 k3, .slice l1 l2 l3, .bool p'.inf] #[.slice m1 m2 m3, .slice n1 n2 n3, .bool q'.inf]
  obtain ⟨W, hW⟩ : ∃ W, ((w.alloc (.cells #[.slice k1 k2 k3, .slice l1 l2 l3, .bool p'.inf] 43)).alloc (.cells #[.slice m1 m2 m3, .slice n1 n2 n3, .bool q'.inf] 43)).alloc (.cells #[.slice none 0 0, .slice none 0 0, .bool false] 43) = W := ⟨_, rfl⟩
  rw [hW] at s0 s1 s2 hb0
  have HAW := HA W hb0
  have q1 : PSl W w.heap.size (.slice k1 k2 k3) (.slice l1 l2 l3) (.bool p'.inf) := s1
  have q2 : PSl W (w.heap.size + 1) (.slice m1 m2 m3) (.slice n1 n2 n3) (.bool q'.inf) := s2
  obtain ⟨y0, y1, y2, _, _, _⟩ := q1.facts
  obtain ⟨z0, z1, z2, _, _, _⟩ := q2.facts
  obtain ⟨c0, c1, c2, c3, c4, c5, c6, c7, c8⟩ := cells9 (blk_old hbx hb0)
  have HB0 : Hid (Below w.heap.size w W ∧ PSl W (w.heap.size + 1 + 1) (.slice none 0 0) (.slice none 0 0) (.bool false)) := ⟨hb0, s0⟩
  clear HA s1 s2 q1 q2 hb0 s0 hbx
  go_enter Try.func19, Try.ntmps19
  go_wp2_with fail
  clear c0 c1 c2 c3 c4 c5 c6 c7 c8 y0 y1 y2 z0 z1 z2
  go_at_call 20
  refine HAW.mono ?_
  rintro e w3 ⟨s, hs, hb3, v, rfl, hpr⟩
  rcases hpr with ⟨u, p5, h5, rfl, hv5⟩ | ⟨h5, _⟩
  rotate_left
  · cases h5
  injection h5 with h5
  subst h5
  obtain ⟨_, _, rfl, ⟨t1, t2, t3, t4, rfl, t5⟩, ⟨u1, u2, u3, u4, rfl, u5⟩⟩ := hv5
  have hr3 := HB0.out.2.keep hb3
  have B3 := HB0.out.1.trans (hb3.mono HB0.out.1.size)
  have hg := (Below.refl w3.heap.size w3).alloc (Nat.le_refl _) (.cells #[.slice t1 t2 t3, .slice u1 u2 u3, .bool s.inf] 43)
  obtain ⟨W4, hW4⟩ : ∃ W4, w3.alloc (.cells #[.slice t1 t2 t3, .slice u1 u2 u3, .bool s.inf] 43) = W4 := ⟨_, rfl⟩
  have hbx4 : PSl W4 w3.heap.size (.slice t1 t2 t3) (.slice u1 u2 u3) (.bool s.inf) := by rw [← hW4]; exact heap_alloc_new w3 _
  rw [hW4] at hg
  have hr4 := hr3.keep hg
  obtain ⟨y0, y1, y2, _, _, _⟩ := hbx4.facts
  obtain ⟨z0, z1, z2, z3, z4, z5⟩ := hr4.facts
  have B4 := B3.trans (hg.mono B3.size)
  have HV : Hid (Nv W4 (.slice t1 t2 t3) s.x 3 ∧ Nv W4 (.slice u1 u2 u3) s.y 3) := ⟨Nv.old ⟨t1, t2, t3, t4, rfl, t5⟩ hg, Nv.old ⟨u1, u2, u3, u4, rfl, u5⟩ hg⟩
  have HR4 : Hid (PSl W4 (w.heap.size + 1 + 1) (.slice none 0 0) (.slice none 0 0) (.bool false) ∧ Below w.heap.size w W4) := ⟨hr4, B4⟩
  clear hr3 B3 hg hr4 B4 hbx4 t5 u5 HAW
  go_wp2_with fail
  have bt := Bt.set3 W4 (w.heap.size + 1 + 1) (.slice t1 t2 t3) (.slice u1 u2 u3) (.bool s.inf)
  refine bodyPost_ret (ret_pt1 rfl _ _ (w.heap.size + 1 + 1) _ _ _ rfl (HR4.out.1.set3 (.slice t1 t2 t3) (.slice u1 u2 u3) (.bool s.inf))) rfl ?_
  exact ⟨_, rfl, s, ⟨_, _, rfl, HV.out.1.apart HR4.out.1 bt, HV.out.2.apart HR4.out.1 bt⟩, hs, HR4.out.2.trans (bt.below (by omega) HR4.out.2.size)⟩
set_option maxRecDepth 100000 in
set_option maxHeartbeats 4000000 in
theorem gsame_any (p q : Value) (z : Pz) (w : World) (hp : Pv w p z 3) (hq : Pv w q z 3) :
    Calls Try.prog 21 #[p, q] w fun e w' => e = .returned (.bool true) ∧ Below w.heap.size w w' := by
  have HX := fun W (hW : Below w.heap.size w W) => hp.old hW
  obtain ⟨px, py, rfl, p1, p2⟩ := hp
  obtain ⟨qx, qy, rfl, q1, q2⟩ := hq
  have HCX := fun W (hW : Below w.heap.size w W) => cmp_nv px qx z.x z.x 3 W (p1.old hW) (q1.old hW)
  have HCY := fun W (hW : Below w.heap.size w W) => cmp_nv py qy z.y z.y 3 W (p2.old hW) (q2.old hW)
  simp only [show cmpI z.x z.x = 0 by simp [cmpI]] at HCX
  simp only [show cmpI z.y z.y = 0 by simp [cmpI]] at HCY
  obtain ⟨k1, k2, k3, k4, rfl, k5⟩ := p1
  obtain ⟨l1, l2, l3, l4, rfl, l5⟩ := p2
  obtain ⟨m1, m2, m3, m4, rfl, m5⟩ := q1
  obtain ⟨n1, n2, n3, n4, rfl, n5⟩ := q2
  cases hi : z.inf with
  | true =>
    obtain ⟨_, _, hb⟩ := pair_new w #[.slice k1 k2 k3, .slice l1 l2 l3, .bool true] #[.slice m1 m2 m3, .slice n1 n2 n3, .bool true] 43 43
    go_enter Try.func21, Try.ntmps21
    go_wp2_with fail
    go_ret
    exact ⟨rfl, hb⟩
  | false =>
    obtain ⟨f1, f2, hb⟩ := pair_new w #[.slice k1 k2 k3, .slice l1 l2 l3, .bool false] #[.slice m1 m2 m3, .slice n1 n2 n3, .bool false] 43 43
    obtain ⟨W, hW⟩ : ∃ W, (w.alloc (.cells #[.slice k1 k2 k3, .slice l1 l2 l3, .bool false] 43)).alloc (.cells #[.slice m1 m2 m3, .slice n1 n2 n3, .bool false] 43) = W := ⟨_, rfl⟩
    rw [hW] at f1 f2 hb
    have q1 : PSl W w.heap.size (.slice k1 k2 k3) (.slice l1 l2 l3) (.bool false) := f1
    have q2 : PSl W (w.heap.size + 1) (.slice m1 m2 m3) (.slice n1 n2 n3) (.bool false) := f2
    obtain ⟨y0, y1, y2, _, _, _⟩ := q1.facts
    obtain ⟨z0, z1, z2, _, _, _⟩ := q2.facts
    go_enter Try.func21, Try.ntmps21
    go_wp2_with fail
    go_at_call 22
    refine (HCX W hb).mono ?_
    rintro e w2 ⟨rfl, hb2⟩
    have q3 := q1.keep hb2
    have q4 := q2.keep hb2
    have B2 := hb.trans (hb2.mono hb.size)
    clear y0 y1 y2 z0 z1 z2
    obtain ⟨y0, y1, y2, _, _, _⟩ := q3.facts
    obtain ⟨z0, z1, z2, _, _, _⟩ := q4.facts
    go_wp2_with fail
    go_at_call 22
    refine (HCY w2 B2).mono ?_
    rintro e w3 ⟨rfl, hb3⟩
    go_wp2
    go_ret
    exact ⟨rfl, B2.trans (hb3.mono B2.size)⟩
end Go.Proofs.Ytdojbknkaoiioaa
