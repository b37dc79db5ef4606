import Derived.Test.YtagljkbfgldlgaaK16
import Derived.Test.YtagljkbfgldlgaaK11
/-
  A signer's key, by a curve.
-/
namespace Go.Proofs.Ytagljkbfgldlgaa
open Go.RowKit Go.Shelf
set_option linter.unusedVariables false
set_option linter.unusedSimpArgs false

set_option maxRecDepth 100000 in
set_option maxHeartbeats 8000000 in
theorem sgKey_any {P N : Nat} [NeZero P] (j : Nat) (hj3 : j < 3) (hR : RightK (curZ j) P N) (hpN : PrimeN N) (hN2 : 270 < N) (k s : Int) (hk : 0 ≤ k ∧ k < 256) (hs : 0 ≤ s ∧ s < 256) (hsg : sgC k = (j : Int)) (q : Pz) (hq : Mt (curZ j) P (baseZ (curZ j)) (1 + s).toNat q) (w : World) :
    Calls Try.prog 9 #[.agg #[.int .u8 k, .int .u8 s]] w fun e w' => ∃ vx vy, e = .returned (.agg #[.int .u8 1, .int .i64 (j : Int), vx, vy, .bool false, .slice none 0 0, .slice none 0 0]) ∧ Nv w' vx q.x 2 ∧ Nv w' vy q.y 2 ∧ Below w.heap.size w w' := by
  have hqi : q.inf = false := mt_fin hR hpN rfl (by omega) (by omega) hq
  have hcx := curS31 j
  have hqr : 0 ≤ q.x ∧ q.x < 2147483648 ∧ 0 ≤ q.y ∧ q.y < 2147483648 := by
    have h1 := gd_rng (hq.gd hR.base) hqi
    have h2 := hR.good.p
    have h3 := hcx.1.2
    omega
  have hcn := curN j hj3
  have hb0 := balloc w (.cells #[.int .u8 k, .int .u8 s] 23)
  have hc0 := heap_alloc_new w (.cells #[.int .u8 k, .int .u8 s] 23)
  have hz1 : (w.alloc (.cells #[.int .u8 k, .int .u8 s] 23)).heap.size = w.heap.size + 1 := Array.size_push ..
  have hb1 := balloc (w.alloc (.cells #[.int .u8 k, .int .u8 s] 23)) (.cells #[.int .u8 0, .int .i64 0, .slice none 0 0, .slice none 0 0, .bool false, .slice none 0 0, .slice none 0 0] 46)
  have hc1 := heap_alloc_new (w.alloc (.cells #[.int .u8 k, .int .u8 s] 23)) (.cells #[.int .u8 0, .int .i64 0, .slice none 0 0, .slice none 0 0, .bool false, .slice none 0 0, .slice none 0 0] 46)
  have hc2 := blk_old hc0 hb1
  have hb2 := bstep hb0 hb1
  rw [hz1] at hc1
  obtain ⟨W, hW⟩ : ∃ W, (w.alloc (.cells #[.int .u8 k, .int .u8 s] 23)).alloc (.cells #[.int .u8 0, .int .i64 0, .slice none 0 0, .slice none 0 0, .bool false, .slice none 0 0, .slice none 0 0] 46) = W := ⟨_, rfl⟩
  rw [hW] at hc1 hc2 hb2
  have HW : Hid (_ = W) := hW
  have HF : Hid (W.heap[w.heap.size]? = some (.cells #[.int .u8 k, .int .u8 s] 23 (0, 0)) ∧ KyB W (w.heap.size + 1) (.slice none 0 0) (.slice none 0 0) (.slice none 0 0) (.slice none 0 0) 0 0 false ∧ Below w.heap.size w W) := ⟨hc2, hc1, hb2⟩
  clear hW hb0 hc0 hb1 hc1 hb2 hc2 hz1
  go_enter Try.func9, Try.ntmps9
  go_wp2_with fail
  rw [HW.out]
  refine (sgCurve_any k s hk W).mono ?_
  rintro e w1 ⟨rfl, hb1⟩
  rw [hsg]
  replace HF : Hid (w1.heap[w.heap.size]? = some (.cells #[.int .u8 k, .int .u8 s] 23 (0, 0)) ∧ KyB w1 (w.heap.size + 1) (.slice none 0 0) (.slice none 0 0) (.slice none 0 0) (.slice none 0 0) 0 0 false ∧ Below w.heap.size w w1) := ⟨blk_old HF.out.1 hb1, blk_old HF.out.2.1 hb1, bstep HF.out.2.2 hb1⟩
  clear HW hb1 hsg
  have j0 : ¬ ((j : Int) < 0) := by omega
  go_wp2_with fail
  refine (Curves_any w1).mono ?_
  rintro e w2 ⟨v, xs, rfl, ho, hlc, hb2⟩
  obtain ⟨g, cap, rfl, hcap, hcm, hall⟩ := cur_at ho hlc
  obtain ⟨g1, g2, oo, lo, co, b0, b1, b2, b3, b4, b5, hA, hcu⟩ := hall j hj3
  rw [Nat.mul_comm 9 j] at hA
  obtain ⟨x0, x1, x2, x3, x4, x5, x6, x7, x8⟩ := hA
  have hcm2 := hcm
  unfold maxLen at hcm2
  obtain ⟨K, hKe⟩ : ∃ K, curZ j = K := ⟨_, rfl⟩
  rw [hKe] at hR hq hcu hcx hcn
  have HR : Hid (RightK K P N ∧ S31 K.p ∧ S31 K.a ∧ S31 K.b ∧ S31 K.gx ∧ S31 K.gy ∧ S31 K.n ∧ 0 < K.n) := ⟨hR, hcx.1, hcx.2.1, hcx.2.2.1, hcx.2.2.2.1, hcx.2.2.2.2.1, hcx.2.2.2.2.2, hcn⟩
  replace HF : Hid (w2.heap[w.heap.size]? = some (.cells #[.int .u8 k, .int .u8 s] 23 (0, 0)) ∧ KyB w2 (w.heap.size + 1) (.slice none 0 0) (.slice none 0 0) (.slice none 0 0) (.slice none 0 0) 0 0 false ∧ Below w.heap.size w w2) := ⟨blk_old HF.out.1 hb2, blk_old HF.out.2.1 hb2, bstep HF.out.2.2 hb2⟩
  have HQ : Hid (Mt K P (baseZ K) (1 + s).toNat q) := hq
  replace hcu := hcu.up (show 1 ≤ 4 by decide)
  unfold curV at hcu
  have HS := fun W0 (hW : Below w2.heap.size w2 W0) => rSmallC_any _ K 4 W0 (hcu.old hW) hcx.1 hcx.2.1 hcx.2.2.1 hcx.2.2.2.1 hcx.2.2.2.2.1 hcx.2.2.2.2.2
  clear hall ho hlc hR hcx hcn hb2 hq hKe hcu
  go_wp2_with fail
  refine (HS w2 (Below.refl _ _)).mono ?_
  rintro e w3 ⟨rfl, hb3⟩
  replace HF : Hid (w3.heap[w.heap.size]? = some (.cells #[.int .u8 k, .int .u8 s] 23 (0, 0)) ∧ KyB w3 (w.heap.size + 1) (.slice none 0 0) (.slice none 0 0) (.slice none 0 0) (.slice none 0 0) 0 0 false ∧ Below w.heap.size w w3) := ⟨blk_old HF.out.1 hb3, blk_old HF.out.2.1 hb3, bstep HF.out.2.2 hb3⟩
  have HSE := fun W => sgSecret_any k s hs W
  have HSU := fun W => rSmall_own (1 + s) W (by omega) (by omega)
  have HBA := fun W => rBase_any K W
  have HM1 := fun W v (hv : Rv W v (1 + s) 4) => rMul_is HR.out.1.good HR.out.2.1 HR.out.2.2.1 (baseZ K) HR.out.1.base q v (1 + s).toNat 4 HQ.out W (by rw [show (((1 + s).toNat : Nat) : Int) = 1 + s by omega]; exact hv) (by decide)
  clear HS hb3 x0 x1 x2 x3 x4 x5 x6 x7 x8 hcm2 hcap hcm
  obtain ⟨kp, ka, kb, kx, ky, kn⟩ := K
  obtain ⟨px, py, pi⟩ := q
  have hqi' : pi = false := hqi
  subst hqi'
  have HXY : Hid (0 ≤ px ∧ px < 2147483648 ∧ 0 ≤ py ∧ py < 2147483648) := hqr
  clear hqi hqr hpN hN2
  unfold rcv at HBA HM1 ⊢
  unfold rpv at HBA HM1
  unfold baseZ at HBA HM1
  simp only at HBA HM1 ⊢
  have hb4 := balloc w3 (.cells #[.int .i64 kp, .int .i64 ka, .int .i64 kb, .int .i64 kx, .int .i64 ky, .int .i64 kn] 35)
  have hc4 := heap_alloc_new w3 (.cells #[.int .i64 kp, .int .i64 ka, .int .i64 kb, .int .i64 kx, .int .i64 ky, .int .i64 kn] 35)
  obtain ⟨W3, hW3⟩ : ∃ W3, w3.alloc (.cells #[.int .i64 kp, .int .i64 ka, .int .i64 kb, .int .i64 kx, .int .i64 ky, .int .i64 kn] 35) = W3 := ⟨_, rfl⟩
  rw [hW3] at hb4 hc4
  have HW3 : Hid (_ = W3) := hW3
  obtain ⟨cq, hcq⟩ : ∃ cq, w3.heap.size = cq := ⟨_, rfl⟩
  rw [hcq] at hc4
  have HCQ : Hid (w3.heap.size = cq) := hcq
  replace HF : Hid (W3.heap[w.heap.size]? = some (.cells #[.int .u8 k, .int .u8 s] 23 (0, 0)) ∧ KyB W3 (w.heap.size + 1) (.slice none 0 0) (.slice none 0 0) (.slice none 0 0) (.slice none 0 0) 0 0 false ∧ Below w.heap.size w W3 ∧ W3.heap[cq]? = some (.cells #[.int .i64 kp, .int .i64 ka, .int .i64 kb, .int .i64 kx, .int .i64 ky, .int .i64 kn] 35 (0, 0))) := ⟨blk_old HF.out.1 hb4, blk_old HF.out.2.1 hb4, bstep HF.out.2.2 hb4, hc4⟩
  clear hb4 hc4 hW3 hcq
  go_wp2_with fail
  rw [HCQ.out, HW3.out]
  refine wp_region_frames 1 [[38], [39], [40], [41], [42], [43], [44], [37], [45], [46], [9], [9], [10]] (([.eq (Value.agg #[Value.int IntKind.i64 kp, Value.int IntKind.i64 ka, Value.int IntKind.i64 kb, Value.int IntKind.i64 kx, Value.int IntKind.i64 ky, Value.int IntKind.i64 kn]), .eq (Value.agg #[Value.int IntKind.u8 k, Value.int IntKind.u8 s]), .eq (Value.int IntKind.i64 (1 + s)), .num (1 + s), .eq (Value.agg #[Value.int IntKind.i64 kp, Value.int IntKind.i64 ka, Value.int IntKind.i64 kb, Value.int IntKind.i64 kx, Value.int IntKind.i64 ky, Value.int IntKind.i64 kn]), .eq (Value.agg #[Value.int IntKind.i64 kx, Value.int IntKind.i64 ky, Value.bool false]), .eq (Value.tuple #[Value.agg #[Value.int IntKind.i64 px, Value.int IntKind.i64 py, Value.bool false], Value.bool true]), .eq (Value.tuple #[Value.agg #[Value.int IntKind.i64 px, Value.int IntKind.i64 py, Value.bool false], Value.bool true]), .eq (Value.agg #[Value.int IntKind.i64 px, Value.int IntKind.i64 py, Value.bool false]), .eq (Value.bool true), .box W3.heap.size, .sto W3.heap.size (Value.int IntKind.i64 px) (Value.int IntKind.i64 py) (Value.bool false), .eq (Value.bool true)] : List Fdp).map Fdp.sem) [0, 1, 2, 3, 4, 5, 6, 7, 8, 9, 10, 11, 12] (by kernel_rfl) (by kernel_rfl) (by kernel_rfl) ?step ?done
  case step =>
    intro i o ho listed a wx hI hli hne KK hK
    have hlt : i < 13 := (Array.getElem?_eq_some_iff.1 ho).1
    have hsz : Hid (a.tmps.size = 58) := hI.slots
    have hbw : Below W3.heap.size W3 wx := (Below.refl _ _).drew.trans hI.below
    obtain rfl | rfl | rfl | rfl | rfl | rfl | rfl | rfl | rfl | rfl | rfl | rfl | rfl : i = 0 ∨ i = 1 ∨ i = 2 ∨ i = 3 ∨ i = 4 ∨ i = 5 ∨ i = 6 ∨ i = 7 ∨ i = 8 ∨ i = 9 ∨ i = 10 ∨ i = 11 ∨ i = 12 := by omega
    · simp only [List.getElem?_toArray, List.getElem?_cons_succ, List.getElem?_cons_zero, Option.some.injEq] at ho
      subst ho
      rw [if_pos (by rfl)]
      have eH7 : a.tmps.getD 7 undef = Value.pointer (some { block := cq, off := 0 }) := hI.stays hli 1 7 (by decide +kernel)
      obtain ⟨cC0, cC1, cC2, cC3, cC4, cC5⟩ := cells6 (blk_old HF.out.2.2.2 hbw)
      go_simp
      exact hI.growD hK _ _ (Below.refl _ _) (put_self _ _ _ (by rw [hsz.out]; decide))
    · simp only [List.getElem?_toArray, List.getElem?_cons_succ, List.getElem?_cons_zero, Option.some.injEq] at ho
      subst ho
      rw [if_pos (by rfl)]
      have eH1 : a.tmps.getD 1 undef = Value.pointer (some { block := w.heap.size, off := 0 }) := hI.stays hli 1 1 (by decide +kernel)
      have cS0 := cell_of_row _ _ 0 _ _ _ (blk_old HF.out.1 hbw)
      have cS1 := cell_of_row _ _ 1 _ _ _ (blk_old HF.out.1 hbw)
      go_simp
      exact hI.growD hK _ _ (Below.refl _ _) (put_self _ _ _ (by rw [hsz.out]; decide))
    · simp only [List.getElem?_toArray, List.getElem?_cons_succ, List.getElem?_cons_zero, Option.some.injEq] at ho
      subst ho
      rw [if_pos (by rfl)]
      have eH39 : a.tmps.getD 39 undef = (Value.agg #[Value.int IntKind.u8 k, Value.int IntKind.u8 s]) := hI.deep hne 0 1 (by decide +kernel)
      go_simp
      go_at_call 24
      refine (HSE wx).mono ?_
      rintro e w5 ⟨rfl, hb5⟩
      exact hI.growD hK _ _ hb5 (put_self _ _ _ (by rw [hsz.out]; decide))
    · simp only [List.getElem?_toArray, List.getElem?_cons_succ, List.getElem?_cons_zero, Option.some.injEq] at ho
      subst ho
      rw [if_pos (by rfl)]
      have eH40 : a.tmps.getD 40 undef = (Value.int IntKind.i64 (1 + s)) := hI.deep hne 0 2 (by decide +kernel)
      go_simp
      go_at_call 14
      refine (HSU wx).mono ?_
      rintro e w5 ⟨v5, rfl, hv5, hb5⟩
      exact hI.growD hK _ _ hb5 (by have hp := put_self a 41 v5 (by rw [hsz.out]; decide); show RvO w5 ((a.put (some 41) v5).tmps.getD 41 undef) _; rw [hp]; exact hv5)
    · simp only [List.getElem?_toArray, List.getElem?_cons_succ, List.getElem?_cons_zero, Option.some.injEq] at ho
      subst ho
      rw [if_pos (by rfl)]
      have eH7 : a.tmps.getD 7 undef = Value.pointer (some { block := cq, off := 0 }) := hI.stays hli 1 7 (by decide +kernel)
      obtain ⟨cC0, cC1, cC2, cC3, cC4, cC5⟩ := cells6 (blk_old HF.out.2.2.2 hbw)
      go_simp
      exact hI.growD hK _ _ (Below.refl _ _) (put_self _ _ _ (by rw [hsz.out]; decide))
    · simp only [List.getElem?_toArray, List.getElem?_cons_succ, List.getElem?_cons_zero, Option.some.injEq] at ho
      subst ho
      rw [if_pos (by rfl)]
      have eH42 : a.tmps.getD 42 undef = (Value.agg #[Value.int IntKind.i64 kp, Value.int IntKind.i64 ka, Value.int IntKind.i64 kb, Value.int IntKind.i64 kx, Value.int IntKind.i64 ky, Value.int IntKind.i64 kn]) := hI.deep hne 0 4 (by decide +kernel)
      go_simp
      go_at_call 19
      refine (HBA wx).mono ?_
      rintro e w5 ⟨rfl, hb5⟩
      exact hI.growD hK _ _ hb5 (put_self _ _ _ (by rw [hsz.out]; decide))
    · simp only [List.getElem?_toArray, List.getElem?_cons_succ, List.getElem?_cons_zero, Option.some.injEq] at ho
      subst ho
      rw [if_pos (by rfl)]
      have eH38 : a.tmps.getD 38 undef = (Value.agg #[Value.int IntKind.i64 kp, Value.int IntKind.i64 ka, Value.int IntKind.i64 kb, Value.int IntKind.i64 kx, Value.int IntKind.i64 ky, Value.int IntKind.i64 kn]) := hI.deep hne 0 0 (by decide +kernel)
      have eH43 : a.tmps.getD 43 undef = (Value.agg #[Value.int IntKind.i64 kx, Value.int IntKind.i64 ky, Value.bool false]) := hI.deep hne 0 5 (by decide +kernel)
      have fA3 : Fdp.sem (.num (1 + s)) [a.tmps.getD 41 undef] wx := hI.deep hne 0 3 (by decide +kernel)
      obtain ⟨zX41, eH41⟩ : ∃ x, a.tmps.getD 41 undef = x := ⟨_, rfl⟩
      simp only [eH41] at fA3
      have hrv : Rv wx zX41 (1 + s) 4 := RvO.rv fA3
      clear fA3
      go_simp
      go_at_call 18
      refine (HM1 wx zX41 hrv).mono ?_
      rintro e w5 ⟨rfl, hb5⟩
      exact hI.growD hK _ _ hb5 (put_self _ _ _ (by rw [hsz.out]; decide))
    · simp only [List.getElem?_toArray, List.getElem?_cons_succ, List.getElem?_cons_zero, Option.some.injEq] at ho
      subst ho
      rw [if_pos (by rfl)]
      have eH44 : a.tmps.getD 44 undef = (Value.tuple #[Value.agg #[Value.int IntKind.i64 px, Value.int IntKind.i64 py, Value.bool false], Value.bool true]) := hI.deep hne 0 6 (by decide +kernel)
      go_simp
      exact hI.growD hK _ _ (Below.refl _ _) (put_self _ _ _ (by rw [hsz.out]; decide))
    · simp only [List.getElem?_toArray, List.getElem?_cons_succ, List.getElem?_cons_zero, Option.some.injEq] at ho
      subst ho
      rw [if_pos (by rfl)]
      have eH37 : a.tmps.getD 37 undef = (Value.tuple #[Value.agg #[Value.int IntKind.i64 px, Value.int IntKind.i64 py, Value.bool false], Value.bool true]) := hI.deep hne 0 7 (by decide +kernel)
      go_simp
      exact hI.growD hK _ _ (Below.refl _ _) (put_self _ _ _ (by rw [hsz.out]; decide))
    · simp only [List.getElem?_toArray, List.getElem?_cons_succ, List.getElem?_cons_zero, Option.some.injEq] at ho
      subst ho
      rw [if_pos (by rfl)]
      have eH37 : a.tmps.getD 37 undef = (Value.tuple #[Value.agg #[Value.int IntKind.i64 px, Value.int IntKind.i64 py, Value.bool false], Value.bool true]) := hI.deep hne 0 7 (by decide +kernel)
      go_simp
      exact hI.growD hK _ _ (Below.refl _ _) (put_self _ _ _ (by rw [hsz.out]; decide))
    · simp only [List.getElem?_toArray, List.getElem?_cons_succ, List.getElem?_cons_zero, Option.some.injEq] at ho
      subst ho
      rw [if_pos (by rfl)]
      go_simp
      exact hI.growD hK _ _ ((Below.refl _ _).alloc (Nat.le_refl _) _) ⟨wx.heap.size, _, _, _, put_self _ _ _ (by rw [hsz.out]; decide), hbw.size, heap_alloc_new _ _⟩
    · simp only [List.getElem?_toArray, List.getElem?_cons_succ, List.getElem?_cons_zero, Option.some.injEq] at ho
      subst ho
      rw [if_pos (by rfl)]
      have fA10 : Fdp.sem (.box W3.heap.size) [a.tmps.getD 9 undef] wx := hI.deep hne 0 10 (by decide +kernel)
      have eH45 : a.tmps.getD 45 undef = (Value.agg #[Value.int IntKind.i64 px, Value.int IntKind.i64 py, Value.bool false]) := hI.deep hne 0 8 (by decide +kernel)
      obtain ⟨bx, q0, q1, q2, hpx, hbx, hs⟩ := fA10
      have eH9 : a.tmps.getD 9 undef = .pointer (some ⟨bx, 0, none⟩) := hpx
      clear hpx
      obtain ⟨y0, y1, y2, y3, y4, y5⟩ := hs.facts
      have eP := eH9
      go_simp
      exact hI.fillD hK hli undef bx hs _ _ _ hbx (by intro j hj; revert hj; revert j; exact fdp_but 11 _ (by kernel_rfl)) ⟨bx, eP, hbx, hs.set3 _ _ _⟩
    · simp only [List.getElem?_toArray, List.getElem?_cons_succ, List.getElem?_cons_zero, Option.some.injEq] at ho
      subst ho
      rw [if_pos (by rfl)]
      have eH46 : a.tmps.getD 46 undef = (Value.bool true) := hI.deep hne 0 9 (by decide +kernel)
      go_simp
      exact hI.growD hK _ _ (Below.refl _ _) (put_self _ _ _ (by rw [hsz.out]; decide))
  case done =>
    intro listed a W1 hI hall
    obtain ⟨tm, df⟩ := a
    have hdf : df = [] := hI.defers
    subst hdf
    have hTM : tm = #[tm.getD 0 undef, tm.getD 1 undef, tm.getD 2 undef, tm.getD 3 undef, tm.getD 4 undef, tm.getD 5 undef, tm.getD 6 undef, tm.getD 7 undef, tm.getD 8 undef, tm.getD 9 undef, tm.getD 10 undef, tm.getD 11 undef, tm.getD 12 undef, tm.getD 13 undef, tm.getD 14 undef, tm.getD 15 undef, tm.getD 16 undef, tm.getD 17 undef, tm.getD 18 undef, tm.getD 19 undef, tm.getD 20 undef, tm.getD 21 undef, tm.getD 22 undef, tm.getD 23 undef, tm.getD 24 undef, tm.getD 25 undef, tm.getD 26 undef, tm.getD 27 undef, tm.getD 28 undef, tm.getD 29 undef, tm.getD 30 undef, tm.getD 31 undef, tm.getD 32 undef, tm.getD 33 undef, tm.getD 34 undef, tm.getD 35 undef, tm.getD 36 undef, tm.getD 37 undef, tm.getD 38 undef, tm.getD 39 undef, tm.getD 40 undef, tm.getD 41 undef, tm.getD 42 undef, tm.getD 43 undef, tm.getD 44 undef, tm.getD 45 undef, tm.getD 46 undef, tm.getD 47 undef, tm.getD 48 undef, tm.getD 49 undef, tm.getD 50 undef, tm.getD 51 undef, tm.getD 52 undef, tm.getD 53 undef, tm.getD 54 undef, tm.getD 55 undef, tm.getD 56 undef, tm.getD 57 undef] := arr_of tm 58 hI.slots
    have oS0 : tm.getD 0 undef = Value.agg #[Value.int IntKind.u8 k, Value.int IntKind.u8 s] := hI.kept 0 (by decide +kernel)
    have oS1 : tm.getD 1 undef = Value.pointer (some { block := w.heap.size, off := 0 }) := hI.kept 1 (by decide +kernel)
    have oS2 : tm.getD 2 undef = Value.pointer (some { block := w.heap.size + 1, off := 0 }) := hI.kept 2 (by decide +kernel)
    have oS3 : tm.getD 3 undef = Value.int IntKind.i64 ↑j := hI.kept 3 (by decide +kernel)
    have oS4 : tm.getD 4 undef = undef := hI.kept 4 (by decide +kernel)
    have oS5 : tm.getD 5 undef = undef := hI.kept 5 (by decide +kernel)
    have oS6 : tm.getD 6 undef = undef := hI.kept 6 (by decide +kernel)
    have oS7 : tm.getD 7 undef = Value.pointer (some { block := cq, off := 0 }) := hI.kept 7 (by decide +kernel)
    have oS8 : tm.getD 8 undef = Value.bool true := hI.kept 8 (by decide +kernel)
    have oS11 : tm.getD 11 undef = Value.agg #[Value.int IntKind.u8 k, Value.int IntKind.u8 s] := hI.kept 11 (by decide +kernel)
    have oS12 : tm.getD 12 undef = Value.int IntKind.i64 ↑j := hI.kept 12 (by decide +kernel)
    have oS13 : tm.getD 13 undef = Value.int IntKind.i64 ↑j := hI.kept 13 (by decide +kernel)
    have oS14 : tm.getD 14 undef = Value.bool (decide (↑j < 0)) := hI.kept 14 (by decide +kernel)
    have oS15 : tm.getD 15 undef = undef := hI.kept 15 (by decide +kernel)
    have oS16 : tm.getD 16 undef = undef := hI.kept 16 (by decide +kernel)
    have oS17 : tm.getD 17 undef = undef := hI.kept 17 (by decide +kernel)
    have oS18 : tm.getD 18 undef = undef := hI.kept 18 (by decide +kernel)
    have oS19 : tm.getD 19 undef = undef := hI.kept 19 (by decide +kernel)
    have oS20 : tm.getD 20 undef = undef := hI.kept 20 (by decide +kernel)
    have oS21 : tm.getD 21 undef = undef := hI.kept 21 (by decide +kernel)
    have oS22 : tm.getD 22 undef = undef := hI.kept 22 (by decide +kernel)
    have oS23 : tm.getD 23 undef = undef := hI.kept 23 (by decide +kernel)
    have oS24 : tm.getD 24 undef = undef := hI.kept 24 (by decide +kernel)
    have oS25 : tm.getD 25 undef = undef := hI.kept 25 (by decide +kernel)
    have oS26 : tm.getD 26 undef = undef := hI.kept 26 (by decide +kernel)
    have oS27 : tm.getD 27 undef = undef := hI.kept 27 (by decide +kernel)
    have oS28 : tm.getD 28 undef = undef := hI.kept 28 (by decide +kernel)
    have oS29 : tm.getD 29 undef = Value.tuple #[Value.agg #[Value.int IntKind.i64 kp, Value.int IntKind.i64 ka, Value.int IntKind.i64 kb, Value.int IntKind.i64 kx, Value.int IntKind.i64 ky, Value.int IntKind.i64 kn], Value.bool true] := hI.kept 29 (by decide +kernel)
    have oS30 : tm.getD 30 undef = Value.slice (some { block := g, off := 0 }) 3 cap := hI.kept 30 (by decide +kernel)
    have oS31 : tm.getD 31 undef = Value.int IntKind.i64 ↑j := hI.kept 31 (by decide +kernel)
    have oS32 : tm.getD 32 undef = Value.pointer (some { block := g, off := j * 9 }) := hI.kept 32 (by decide +kernel)
    have oS33 : tm.getD 33 undef = Value.agg #[Value.int IntKind.i64 g1, Value.int IntKind.i64 g2, Value.slice oo lo co, Value.slice (some { block := b0, off := 0 }) 1 1, Value.slice (some { block := b1, off := 0 }) 1 1, Value.slice (some { block := b2, off := 0 }) 1 1, Value.slice (some { block := b3, off := 0 }) 1 1, Value.slice (some { block := b4, off := 0 }) 1 1, Value.slice (some { block := b5, off := 0 }) 1 1] := hI.kept 33 (by decide +kernel)
    have oS34 : tm.getD 34 undef = Value.tuple #[Value.agg #[Value.int IntKind.i64 kp, Value.int IntKind.i64 ka, Value.int IntKind.i64 kb, Value.int IntKind.i64 kx, Value.int IntKind.i64 ky, Value.int IntKind.i64 kn], Value.bool true] := hI.kept 34 (by decide +kernel)
    have oS35 : tm.getD 35 undef = Value.agg #[Value.int IntKind.i64 kp, Value.int IntKind.i64 ka, Value.int IntKind.i64 kb, Value.int IntKind.i64 kx, Value.int IntKind.i64 ky, Value.int IntKind.i64 kn] := hI.kept 35 (by decide +kernel)
    have oS36 : tm.getD 36 undef = Value.bool true := hI.kept 36 (by decide +kernel)
    have oS47 : tm.getD 47 undef = undef := hI.kept 47 (by decide +kernel)
    have oS48 : tm.getD 48 undef = undef := hI.kept 48 (by decide +kernel)
    have oS49 : tm.getD 49 undef = undef := hI.kept 49 (by decide +kernel)
    have oS50 : tm.getD 50 undef = undef := hI.kept 50 (by decide +kernel)
    have oS51 : tm.getD 51 undef = undef := hI.kept 51 (by decide +kernel)
    have oS52 : tm.getD 52 undef = undef := hI.kept 52 (by decide +kernel)
    have oS53 : tm.getD 53 undef = undef := hI.kept 53 (by decide +kernel)
    have oS54 : tm.getD 54 undef = undef := hI.kept 54 (by decide +kernel)
    have oS55 : tm.getD 55 undef = undef := hI.kept 55 (by decide +kernel)
    have oS56 : tm.getD 56 undef = undef := hI.kept 56 (by decide +kernel)
    have oS57 : tm.getD 57 undef = undef := hI.kept 57 (by decide +kernel)
    have fA11 : Fdp.sem (.sto W3.heap.size (Value.int IntKind.i64 px) (Value.int IntKind.i64 py) (Value.bool false)) [tm.getD 9 undef] W1 := hI.facts 11 (hall 11 (by decide))
    have fA0 : tm.getD 38 undef = (Value.agg #[Value.int IntKind.i64 kp, Value.int IntKind.i64 ka, Value.int IntKind.i64 kb, Value.int IntKind.i64 kx, Value.int IntKind.i64 ky, Value.int IntKind.i64 kn]) := hI.facts 0 (hall 0 (by decide))
    have fA1 : tm.getD 39 undef = (Value.agg #[Value.int IntKind.u8 k, Value.int IntKind.u8 s]) := hI.facts 1 (hall 1 (by decide))
    have fA2 : tm.getD 40 undef = (Value.int IntKind.i64 (1 + s)) := hI.facts 2 (hall 2 (by decide))
    have fA4 : tm.getD 42 undef = (Value.agg #[Value.int IntKind.i64 kp, Value.int IntKind.i64 ka, Value.int IntKind.i64 kb, Value.int IntKind.i64 kx, Value.int IntKind.i64 ky, Value.int IntKind.i64 kn]) := hI.facts 4 (hall 4 (by decide))
    have fA5 : tm.getD 43 undef = (Value.agg #[Value.int IntKind.i64 kx, Value.int IntKind.i64 ky, Value.bool false]) := hI.facts 5 (hall 5 (by decide))
    have fA6 : tm.getD 44 undef = (Value.tuple #[Value.agg #[Value.int IntKind.i64 px, Value.int IntKind.i64 py, Value.bool false], Value.bool true]) := hI.facts 6 (hall 6 (by decide))
    have fA7 : tm.getD 37 undef = (Value.tuple #[Value.agg #[Value.int IntKind.i64 px, Value.int IntKind.i64 py, Value.bool false], Value.bool true]) := hI.facts 7 (hall 7 (by decide))
    have fA8 : tm.getD 45 undef = (Value.agg #[Value.int IntKind.i64 px, Value.int IntKind.i64 py, Value.bool false]) := hI.facts 8 (hall 8 (by decide))
    have fA9 : tm.getD 46 undef = (Value.bool true) := hI.facts 9 (hall 9 (by decide))
    have fA12 : tm.getD 10 undef = (Value.bool true) := hI.facts 12 (hall 12 (by decide))
    have hbw : Below W3.heap.size W3 W1 := (Below.refl _ _).drew.trans hI.below
    clear hI hall listed
    simp only [oS0, oS1, oS2, oS3, oS4, oS5, oS6, oS7, oS8, oS11, oS12, oS13, oS14, oS15, oS16, oS17, oS18, oS19, oS20, oS21, oS22, oS23, oS24, oS25, oS26, oS27, oS28, oS29, oS30, oS31, oS32, oS33, oS34, oS35, oS36, oS47, oS48, oS49, oS50, oS51, oS52, oS53, oS54, oS55, oS56, oS57, fA0, fA1, fA2, fA4, fA5, fA6, fA7, fA8, fA9, fA12] at hTM
    clear oS0 oS1 oS2 oS3 oS4 oS5 oS6 oS7 oS8 oS11 oS12 oS13 oS14 oS15 oS16 oS17 oS18 oS19 oS20 oS21 oS22 oS23 oS24 oS25 oS26 oS27 oS28 oS29 oS30 oS31 oS32 oS33 oS34 oS35 oS36 oS47 oS48 oS49 oS50 oS51 oS52 oS53 oS54 oS55 oS56 oS57 fA0 fA1 fA2 fA4 fA5 fA6 fA7 fA8 fA9 fA12
    generalize tm.getD 9 undef = zX9 at hTM fA11
    generalize tm.getD 41 undef = zX41 at hTM 
    subst hTM
    obtain ⟨bp, hp1, hb1, hs1⟩ := fA11
    have hp1' : zX9 = .pointer (some ⟨bp, 0, none⟩) := hp1
    subst hp1'
    clear hp1
    replace HF : Hid (KyB W1 (w.heap.size + 1) (.slice none 0 0) (.slice none 0 0) (.slice none 0 0) (.slice none 0 0) 0 0 false ∧ Below w.heap.size w W1) := ⟨blk_old HF.out.2.1 hbw, bstep HF.out.2.2.1 hbw⟩
    have HB1 : Hid (PSd W1 bp (Value.int IntKind.i64 px) (Value.int IntKind.i64 py) (Value.bool false)) := hs1
    clear hs1 hbw hb1 HSE HSU HBA HM1 HW3 HCQ
    obtain ⟨x0, x1, x2, -, -, -⟩ := HB1.out.facts
    go_wp2_with fail
    have HSX := fun W => rSmall_own px W (by have := HXY.out; omega) (by have := HXY.out; omega)
    have HSY := fun W => rSmall_own py W (by have := HXY.out; omega) (by have := HXY.out; omega)
    refine wp_region_inv (VK w W1 11) ⟨bstep HF.out.2 (Below.refl _ _).drew, fun _ => (Below.refl _ _).drew⟩ 1 [[47], [48], [49], [50], [51], [52], [53], [54], [55], [56], [57], []] (([.eq (Value.int IntKind.i64 ↑j), .eq (Value.pointer (some { block := bp, off := 0 })), .eq (Value.int IntKind.i64 px), .num (w.heap.size + 1) (px), .nv (w.heap.size + 1) (px) 2, .eq (Value.pointer (some { block := bp, off := 1 })), .eq (Value.int IntKind.i64 py), .num (w.heap.size + 1) (py), .nv (w.heap.size + 1) (py) 2, .pa (w.heap.size + 1) px py 2, .ka (w.heap.size + 1) (j : Int) px py 2, .st (w.heap.size + 1) (j : Int) px py 2] : List (Fg (KyS (w.heap.size + 1)))).map Fg.sem) [0, 1, 2, 3, 4, 5, 6, 7, 8, 9, 10, 11] (by kernel_rfl) (by kernel_rfl) (by kernel_rfl) ?step ?done
    case step =>
      intro i o ho listed a wx hI hli hne KK hK
      have hlt : i < 12 := (Array.getElem?_eq_some_iff.1 ho).1
      have hsz : Hid (a.tmps.size = 58) := hI.slots
      obtain rfl | rfl | rfl | rfl | rfl | rfl | rfl | rfl | rfl | rfl | rfl | rfl : i = 0 ∨ i = 1 ∨ i = 2 ∨ i = 3 ∨ i = 4 ∨ i = 5 ∨ i = 6 ∨ i = 7 ∨ i = 8 ∨ i = 9 ∨ i = 10 ∨ i = 11 := by omega
      · simp only [List.getElem?_toArray, List.getElem?_cons_succ, List.getElem?_cons_zero, Option.some.injEq] at ho
        subst ho
        have hbw : Below W1.heap.size W1 wx := hI.inv.2 (hI.yet hli (by decide +kernel))
        rw [if_pos (by rfl)]
        have eH3 : a.tmps.getD 3 undef = Value.int IntKind.i64 ↑j := hI.stays hli 1 3 (by decide +kernel)
        go_simp
        exact hI.growK (by decide) hK _ _ (Below.refl _ _) (put_self _ _ _ (by rw [hsz.out]; decide))
      · simp only [List.getElem?_toArray, List.getElem?_cons_succ, List.getElem?_cons_zero, Option.some.injEq] at ho
        subst ho
        have hbw : Below W1.heap.size W1 wx := hI.inv.2 (hI.yet hli (by decide +kernel))
        rw [if_pos (by rfl)]
        have eH9 : a.tmps.getD 9 undef = Value.pointer (some { block := bp, off := 0 }) := hI.stays hli 1 9 (by decide +kernel)
        go_simp
        exact hI.growK (by decide) hK _ _ (Below.refl _ _) (put_self _ _ _ (by rw [hsz.out]; decide))
      · simp only [List.getElem?_toArray, List.getElem?_cons_succ, List.getElem?_cons_zero, Option.some.injEq] at ho
        subst ho
        have hbw : Below W1.heap.size W1 wx := hI.inv.2 (hI.yet hli (by decide +kernel))
        rw [if_pos (by rfl)]
        have eH48 : a.tmps.getD 48 undef = (Value.pointer (some { block := bp, off := 0 })) := hI.deep hne 0 1 (by decide +kernel)
        obtain ⟨yB0, yB1, yB2, _, _, _⟩ := (HB1.out.keep hbw).facts
        go_simp
        exact hI.growK (by decide) hK _ _ (Below.refl _ _) (put_self _ _ _ (by rw [hsz.out]; decide))
      · simp only [List.getElem?_toArray, List.getElem?_cons_succ, List.getElem?_cons_zero, Option.some.injEq] at ho
        subst ho
        have hbw : Below W1.heap.size W1 wx := hI.inv.2 (hI.yet hli (by decide +kernel))
        rw [if_pos (by rfl)]
        have eH49 : a.tmps.getD 49 undef = (Value.int IntKind.i64 px) := hI.deep hne 0 2 (by decide +kernel)
        go_simp
        go_at_call 14
        refine (HSX wx).mono ?_
        rintro e w5 ⟨v5, rfl, hv5, hb5⟩
        exact hI.growK (by decide) hK _ _ hb5 (by have hp := put_self a 50 v5 (by rw [hsz.out]; decide); show RvO w5 ((a.put (some 50) v5).tmps.getD 50 undef) _; rw [hp]; exact hv5)
      · simp only [List.getElem?_toArray, List.getElem?_cons_succ, List.getElem?_cons_zero, Option.some.injEq] at ho
        subst ho
        have hbw : Below W1.heap.size W1 wx := hI.inv.2 (hI.yet hli (by decide +kernel))
        rw [if_pos (by rfl)]
        have fA3 : Fg.sem (.num (w.heap.size + 1) (px)) [a.tmps.getD 50 undef] wx := hI.deep hne 0 3 (by decide +kernel)
        obtain ⟨zX50, eH50⟩ : ∃ x, a.tmps.getD 50 undef = x := ⟨_, rfl⟩
        simp only [eH50] at fA3
        have hrv : Rv wx zX50 px 4 := RvO.rv fA3
        clear fA3
        go_simp
        go_at_call 23
        refine (rNat_nv zX50 px 4 2 wx hrv (by decide) (by have := HXY.out; unfold B64; omega)).mono ?_
        rintro e w5 ⟨v5, rfl, hv5, hb5⟩
        exact hI.growK (by decide) hK _ _ hb5 (by have hp := put_self a 51 v5 (by rw [hsz.out]; decide); show Nv w5 ((a.put (some 51) v5).tmps.getD 51 undef) _ _; rw [hp]; exact hv5)
      · simp only [List.getElem?_toArray, List.getElem?_cons_succ, List.getElem?_cons_zero, Option.some.injEq] at ho
        subst ho
        have hbw : Below W1.heap.size W1 wx := hI.inv.2 (hI.yet hli (by decide +kernel))
        rw [if_pos (by rfl)]
        have eH9 : a.tmps.getD 9 undef = Value.pointer (some { block := bp, off := 0 }) := hI.stays hli 1 9 (by decide +kernel)
        go_simp
        exact hI.growK (by decide) hK _ _ (Below.refl _ _) (put_self _ _ _ (by rw [hsz.out]; decide))
      · simp only [List.getElem?_toArray, List.getElem?_cons_succ, List.getElem?_cons_zero, Option.some.injEq] at ho
        subst ho
        have hbw : Below W1.heap.size W1 wx := hI.inv.2 (hI.yet hli (by decide +kernel))
        rw [if_pos (by rfl)]
        have eH52 : a.tmps.getD 52 undef = (Value.pointer (some { block := bp, off := 1 })) := hI.deep hne 0 5 (by decide +kernel)
        obtain ⟨yB0, yB1, yB2, _, _, _⟩ := (HB1.out.keep hbw).facts
        go_simp
        exact hI.growK (by decide) hK _ _ (Below.refl _ _) (put_self _ _ _ (by rw [hsz.out]; decide))
      · simp only [List.getElem?_toArray, List.getElem?_cons_succ, List.getElem?_cons_zero, Option.some.injEq] at ho
        subst ho
        have hbw : Below W1.heap.size W1 wx := hI.inv.2 (hI.yet hli (by decide +kernel))
        rw [if_pos (by rfl)]
        have eH53 : a.tmps.getD 53 undef = (Value.int IntKind.i64 py) := hI.deep hne 0 6 (by decide +kernel)
        go_simp
        go_at_call 14
        refine (HSY wx).mono ?_
        rintro e w5 ⟨v5, rfl, hv5, hb5⟩
        exact hI.growK (by decide) hK _ _ hb5 (by have hp := put_self a 54 v5 (by rw [hsz.out]; decide); show RvO w5 ((a.put (some 54) v5).tmps.getD 54 undef) _; rw [hp]; exact hv5)
      · simp only [List.getElem?_toArray, List.getElem?_cons_succ, List.getElem?_cons_zero, Option.some.injEq] at ho
        subst ho
        have hbw : Below W1.heap.size W1 wx := hI.inv.2 (hI.yet hli (by decide +kernel))
        rw [if_pos (by rfl)]
        have fA7 : Fg.sem (.num (w.heap.size + 1) (py)) [a.tmps.getD 54 undef] wx := hI.deep hne 0 7 (by decide +kernel)
        obtain ⟨zX54, eH54⟩ : ∃ x, a.tmps.getD 54 undef = x := ⟨_, rfl⟩
        simp only [eH54] at fA7
        have hrv : Rv wx zX54 py 4 := RvO.rv fA7
        clear fA7
        go_simp
        go_at_call 23
        refine (rNat_nv zX54 py 4 2 wx hrv (by decide) (by have := HXY.out; unfold B64; omega)).mono ?_
        rintro e w5 ⟨v5, rfl, hv5, hb5⟩
        exact hI.growK (by decide) hK _ _ hb5 (by have hp := put_self a 55 v5 (by rw [hsz.out]; decide); show Nv w5 ((a.put (some 55) v5).tmps.getD 55 undef) _ _; rw [hp]; exact hv5)
      · simp only [List.getElem?_toArray, List.getElem?_cons_succ, List.getElem?_cons_zero, Option.some.injEq] at ho
        subst ho
        have hbw : Below W1.heap.size W1 wx := hI.inv.2 (hI.yet hli (by decide +kernel))
        rw [if_pos (by rfl)]
        have fA4 : Fg.sem (.nv (w.heap.size + 1) (px) 2) [a.tmps.getD 51 undef] wx := hI.deep hne 0 4 (by decide +kernel)
        have fA8 : Fg.sem (.nv (w.heap.size + 1) (py) 2) [a.tmps.getD 55 undef] wx := hI.deep hne 0 8 (by decide +kernel)
        obtain ⟨zX51, eH51⟩ : ∃ x, a.tmps.getD 51 undef = x := ⟨_, rfl⟩
        obtain ⟨zX55, eH55⟩ : ∃ x, a.tmps.getD 55 undef = x := ⟨_, rfl⟩
        simp only [eH51, eH55] at fA4 fA8
        have nA : Nv wx zX51 px 2 := fA4
        have nB : Nv wx zX55 py 2 := fA8
        clear fA4 fA8
        have nA' := nA
        have nB' := nB
        obtain ⟨s1, s2, s3, _, rfl, -⟩ := nA'
        obtain ⟨s4, s5, s6, _, rfl, -⟩ := nB'
        have eK51 := eH51
        have eK55 := eH55
        rw [Array.getD_eq_getD_getElem?] at eK51 eK55
        go_simp
        exact hI.growK (by decide) hK _ _ (Below.refl _ _) ⟨_, _, put_self _ _ _ (by rw [hsz.out]; decide), nA, nB⟩
      · simp only [List.getElem?_toArray, List.getElem?_cons_succ, List.getElem?_cons_zero, Option.some.injEq] at ho
        subst ho
        have hbw : Below W1.heap.size W1 wx := hI.inv.2 (hI.yet hli (by decide +kernel))
        rw [if_pos (by rfl)]
        have eH47 : a.tmps.getD 47 undef = (Value.int IntKind.i64 ↑j) := hI.deep hne 0 0 (by decide +kernel)
        have fA9 : Fg.sem (.pa (w.heap.size + 1) px py 2) [a.tmps.getD 56 undef] wx := hI.deep hne 0 9 (by decide +kernel)
        obtain ⟨zX56, eH56⟩ : ∃ x, a.tmps.getD 56 undef = x := ⟨_, rfl⟩
        simp only [eH56] at fA9
        obtain ⟨vx, vy, hv, nA, nB⟩ := fA9
        have hv' : zX56 = .agg #[vx, vy, .bool false] := hv
        subst hv'
        clear hv
        have nA' := nA
        have nB' := nB
        obtain ⟨s1, s2, s3, _, rfl, -⟩ := nA'
        obtain ⟨s4, s5, s6, _, rfl, -⟩ := nB'
        have eK47 := eH47
        have eK56 := eH56
        rw [Array.getD_eq_getD_getElem?] at eK47 eK56
        go_simp
        exact hI.growK (by decide) hK _ _ (Below.refl _ _) ⟨_, _, put_self _ _ _ (by rw [hsz.out]; decide), nA, nB⟩
      · simp only [List.getElem?_toArray, List.getElem?_cons_succ, List.getElem?_cons_zero, Option.some.injEq] at ho
        subst ho
        have hbw : Below W1.heap.size W1 wx := hI.inv.2 hli
        rw [if_pos (by rfl)]
        have eH2 : a.tmps.getD 2 undef = Value.pointer (some { block := w.heap.size + 1, off := 0 }) := hI.stays hli 1 2 (by decide +kernel)
        have fA10 : Fg.sem (.ka (w.heap.size + 1) (j : Int) px py 2) [a.tmps.getD 57 undef] wx := hI.deep hne 0 10 (by decide +kernel)
        obtain ⟨zX57, eH57⟩ : ∃ x, a.tmps.getD 57 undef = x := ⟨_, rfl⟩
        simp only [eH57] at fA10
        obtain ⟨vx, vy, hv, nA, nB⟩ := fA10
        have hv' : zX57 = .agg #[.int .u8 1, .int .i64 (j : Int), vx, vy, .bool false, .slice none 0 0, .slice none 0 0] := hv
        subst hv'
        clear hv
        have nA' := nA
        have nB' := nB
        obtain ⟨s1, s2, s3, _, rfl, -⟩ := nA'
        obtain ⟨s4, s5, s6, _, rfl, -⟩ := nB'
        have hk0 : KyB wx (w.heap.size + 1) (.slice none 0 0) (.slice none 0 0) (.slice none 0 0) (.slice none 0 0) 0 0 false := blk_old HF.out.1 hbw
        obtain ⟨⟨k0, k1, k2, k3, k4, k5, k6⟩, f0, f1, f2, f3, f4, f5, f6⟩ := row7 hk0
        have eK2 := eH2
        have eK57 := eH57
        rw [Array.getD_eq_getD_getElem?] at eK2 eK57
        go_simp
        exact hI.fillK (by rw [hI.size]; decide) hK undef _ (Nat.le_succ _) ⟨hk0, bt_set7 _ _ _ _ _ _ _ _ _⟩ ⟨_, _, row_set7 hk0 _ _ _ _ _ _ _, nA.apartK hk0 (bt_set7 _ _ _ _ _ _ _ _ _), nB.apartK hk0 (bt_set7 _ _ _ _ _ _ _ _ _)⟩
    case done =>
      intro listed a W2 hI hall
      obtain ⟨tm, df⟩ := a
      have hdf : df = [] := hI.defers
      subst hdf
      have hTM : tm = #[tm.getD 0 undef, tm.getD 1 undef, tm.getD 2 undef, tm.getD 3 undef, tm.getD 4 undef, tm.getD 5 undef, tm.getD 6 undef, tm.getD 7 undef, tm.getD 8 undef, tm.getD 9 undef, tm.getD 10 undef, tm.getD 11 undef, tm.getD 12 undef, tm.getD 13 undef, tm.getD 14 undef, tm.getD 15 undef, tm.getD 16 undef, tm.getD 17 undef, tm.getD 18 undef, tm.getD 19 undef, tm.getD 20 undef, tm.getD 21 undef, tm.getD 22 undef, tm.getD 23 undef, tm.getD 24 undef, tm.getD 25 undef, tm.getD 26 undef, tm.getD 27 undef, tm.getD 28 undef, tm.getD 29 undef, tm.getD 30 undef, tm.getD 31 undef, tm.getD 32 undef, tm.getD 33 undef, tm.getD 34 undef, tm.getD 35 undef, tm.getD 36 undef, tm.getD 37 undef, tm.getD 38 undef, tm.getD 39 undef, tm.getD 40 undef, tm.getD 41 undef, tm.getD 42 undef, tm.getD 43 undef, tm.getD 44 undef, tm.getD 45 undef, tm.getD 46 undef, tm.getD 47 undef, tm.getD 48 undef, tm.getD 49 undef, tm.getD 50 undef, tm.getD 51 undef, tm.getD 52 undef, tm.getD 53 undef, tm.getD 54 undef, tm.getD 55 undef, tm.getD 56 undef, tm.getD 57 undef] := arr_of tm 58 hI.slots
      have oS0 : tm.getD 0 undef = Value.agg #[Value.int IntKind.u8 k, Value.int IntKind.u8 s] := hI.keptQ 0 (by decide +kernel)
      have oS1 : tm.getD 1 undef = Value.pointer (some { block := w.heap.size, off := 0 }) := hI.keptQ 1 (by decide +kernel)
      have oS2 : tm.getD 2 undef = Value.pointer (some { block := w.heap.size + 1, off := 0 }) := hI.keptQ 2 (by decide +kernel)
      have oS3 : tm.getD 3 undef = Value.int IntKind.i64 ↑j := hI.keptQ 3 (by decide +kernel)
      have oS4 : tm.getD 4 undef = undef := hI.keptQ 4 (by decide +kernel)
      have oS5 : tm.getD 5 undef = undef := hI.keptQ 5 (by decide +kernel)
      have oS6 : tm.getD 6 undef = undef := hI.keptQ 6 (by decide +kernel)
      have oS7 : tm.getD 7 undef = Value.pointer (some { block := cq, off := 0 }) := hI.keptQ 7 (by decide +kernel)
      have oS8 : tm.getD 8 undef = Value.bool true := hI.keptQ 8 (by decide +kernel)
      have oS9 : tm.getD 9 undef = Value.pointer (some { block := bp, off := 0 }) := hI.keptQ 9 (by decide +kernel)
      have oS10 : tm.getD 10 undef = Value.bool true := hI.keptQ 10 (by decide +kernel)
      have oS11 : tm.getD 11 undef = Value.agg #[Value.int IntKind.u8 k, Value.int IntKind.u8 s] := hI.keptQ 11 (by decide +kernel)
      have oS12 : tm.getD 12 undef = Value.int IntKind.i64 ↑j := hI.keptQ 12 (by decide +kernel)
      have oS13 : tm.getD 13 undef = Value.int IntKind.i64 ↑j := hI.keptQ 13 (by decide +kernel)
      have oS14 : tm.getD 14 undef = Value.bool (decide (j < 0)) := hI.keptQ 14 (by decide +kernel)
      have oS15 : tm.getD 15 undef = undef := hI.keptQ 15 (by decide +kernel)
      have oS16 : tm.getD 16 undef = undef := hI.keptQ 16 (by decide +kernel)
      have oS17 : tm.getD 17 undef = undef := hI.keptQ 17 (by decide +kernel)
      have oS18 : tm.getD 18 undef = undef := hI.keptQ 18 (by decide +kernel)
      have oS19 : tm.getD 19 undef = undef := hI.keptQ 19 (by decide +kernel)
      have oS20 : tm.getD 20 undef = undef := hI.keptQ 20 (by decide +kernel)
      have oS21 : tm.getD 21 undef = undef := hI.keptQ 21 (by decide +kernel)
      have oS22 : tm.getD 22 undef = undef := hI.keptQ 22 (by decide +kernel)
      have oS23 : tm.getD 23 undef = undef := hI.keptQ 23 (by decide +kernel)
      have oS24 : tm.getD 24 undef = undef := hI.keptQ 24 (by decide +kernel)
      have oS25 : tm.getD 25 undef = undef := hI.keptQ 25 (by decide +kernel)
      have oS26 : tm.getD 26 undef = undef := hI.keptQ 26 (by decide +kernel)
      have oS27 : tm.getD 27 undef = undef := hI.keptQ 27 (by decide +kernel)
      have oS28 : tm.getD 28 undef = undef := hI.keptQ 28 (by decide +kernel)
      have oS29 : tm.getD 29 undef = Value.tuple #[Value.agg #[Value.int IntKind.i64 kp, Value.int IntKind.i64 ka, Value.int IntKind.i64 kb, Value.int IntKind.i64 kx, Value.int IntKind.i64 ky, Value.int IntKind.i64 kn], Value.bool true] := hI.keptQ 29 (by decide +kernel)
      have oS30 : tm.getD 30 undef = Value.slice (some { block := g, off := 0 }) 3 cap := hI.keptQ 30 (by decide +kernel)
      have oS31 : tm.getD 31 undef = Value.int IntKind.i64 ↑j := hI.keptQ 31 (by decide +kernel)
      have oS32 : tm.getD 32 undef = Value.pointer (some { block := g, off := j * 9 }) := hI.keptQ 32 (by decide +kernel)
      have oS33 : tm.getD 33 undef = Value.agg #[Value.int IntKind.i64 g1, Value.int IntKind.i64 g2, Value.slice oo lo co, Value.slice (some { block := b0, off := 0 }) 1 1, Value.slice (some { block := b1, off := 0 }) 1 1, Value.slice (some { block := b2, off := 0 }) 1 1, Value.slice (some { block := b3, off := 0 }) 1 1, Value.slice (some { block := b4, off := 0 }) 1 1, Value.slice (some { block := b5, off := 0 }) 1 1] := hI.keptQ 33 (by decide +kernel)
      have oS34 : tm.getD 34 undef = Value.tuple #[Value.agg #[Value.int IntKind.i64 kp, Value.int IntKind.i64 ka, Value.int IntKind.i64 kb, Value.int IntKind.i64 kx, Value.int IntKind.i64 ky, Value.int IntKind.i64 kn], Value.bool true] := hI.keptQ 34 (by decide +kernel)
      have oS35 : tm.getD 35 undef = Value.agg #[Value.int IntKind.i64 kp, Value.int IntKind.i64 ka, Value.int IntKind.i64 kb, Value.int IntKind.i64 kx, Value.int IntKind.i64 ky, Value.int IntKind.i64 kn] := hI.keptQ 35 (by decide +kernel)
      have oS36 : tm.getD 36 undef = Value.bool true := hI.keptQ 36 (by decide +kernel)
      have oS37 : tm.getD 37 undef = Value.tuple #[Value.agg #[Value.int IntKind.i64 px, Value.int IntKind.i64 py, Value.bool false], Value.bool true] := hI.keptQ 37 (by decide +kernel)
      have oS38 : tm.getD 38 undef = Value.agg #[Value.int IntKind.i64 kp, Value.int IntKind.i64 ka, Value.int IntKind.i64 kb, Value.int IntKind.i64 kx, Value.int IntKind.i64 ky, Value.int IntKind.i64 kn] := hI.keptQ 38 (by decide +kernel)
      have oS39 : tm.getD 39 undef = Value.agg #[Value.int IntKind.u8 k, Value.int IntKind.u8 s] := hI.keptQ 39 (by decide +kernel)
      have oS40 : tm.getD 40 undef = Value.int IntKind.i64 (1 + s) := hI.keptQ 40 (by decide +kernel)
      have oS41 : tm.getD 41 undef = zX41 := hI.keptQ 41 (by decide +kernel)
      have oS42 : tm.getD 42 undef = Value.agg #[Value.int IntKind.i64 kp, Value.int IntKind.i64 ka, Value.int IntKind.i64 kb, Value.int IntKind.i64 kx, Value.int IntKind.i64 ky, Value.int IntKind.i64 kn] := hI.keptQ 42 (by decide +kernel)
      have oS43 : tm.getD 43 undef = Value.agg #[Value.int IntKind.i64 kx, Value.int IntKind.i64 ky, Value.bool false] := hI.keptQ 43 (by decide +kernel)
      have oS44 : tm.getD 44 undef = Value.tuple #[Value.agg #[Value.int IntKind.i64 px, Value.int IntKind.i64 py, Value.bool false], Value.bool true] := hI.keptQ 44 (by decide +kernel)
      have oS45 : tm.getD 45 undef = Value.agg #[Value.int IntKind.i64 px, Value.int IntKind.i64 py, Value.bool false] := hI.keptQ 45 (by decide +kernel)
      have oS46 : tm.getD 46 undef = Value.bool true := hI.keptQ 46 (by decide +kernel)
      have fA11 : Fg.sem (.st (w.heap.size + 1) (j : Int) px py 2) [] W2 := hI.facts 11 (hall 11 (by decide))
      have fA0 : tm.getD 47 undef = (Value.int IntKind.i64 ↑j) := hI.facts 0 (hall 0 (by decide))
      have fA1 : tm.getD 48 undef = (Value.pointer (some { block := bp, off := 0 })) := hI.facts 1 (hall 1 (by decide))
      have fA2 : tm.getD 49 undef = (Value.int IntKind.i64 px) := hI.facts 2 (hall 2 (by decide))
      have fA5 : tm.getD 52 undef = (Value.pointer (some { block := bp, off := 1 })) := hI.facts 5 (hall 5 (by decide))
      have fA6 : tm.getD 53 undef = (Value.int IntKind.i64 py) := hI.facts 6 (hall 6 (by decide))
      have hbw := hI.inv.1
      clear hI hall listed
      simp only [oS0, oS1, oS2, oS3, oS4, oS5, oS6, oS7, oS8, oS9, oS10, oS11, oS12, oS13, oS14, oS15, oS16, oS17, oS18, oS19, oS20, oS21, oS22, oS23, oS24, oS25, oS26, oS27, oS28, oS29, oS30, oS31, oS32, oS33, oS34, oS35, oS36, oS37, oS38, oS39, oS40, oS41, oS42, oS43, oS44, oS45, oS46, fA0, fA1, fA2, fA5, fA6] at hTM
      clear oS0 oS1 oS2 oS3 oS4 oS5 oS6 oS7 oS8 oS9 oS10 oS11 oS12 oS13 oS14 oS15 oS16 oS17 oS18 oS19 oS20 oS21 oS22 oS23 oS24 oS25 oS26 oS27 oS28 oS29 oS30 oS31 oS32 oS33 oS34 oS35 oS36 oS37 oS38 oS39 oS40 oS41 oS42 oS43 oS44 oS45 oS46 fA0 fA1 fA2 fA5 fA6
      generalize tm.getD 50 undef = zX50 at hTM 
      generalize tm.getD 51 undef = zX51 at hTM 
      generalize tm.getD 54 undef = zX54 at hTM 
      generalize tm.getD 55 undef = zX55 at hTM 
      generalize tm.getD 56 undef = zX56 at hTM 
      generalize tm.getD 57 undef = zX57 at hTM 
      subst hTM
      obtain ⟨vx, vy, hrow, nX, nY⟩ := fA11
      have HR2 : Hid (KyB W2 (w.heap.size + 1) vx vy (.slice none 0 0) (.slice none 0 0) 1 (j : Int) false) := hrow
      have HN : Hid (Nv W2 vx px 2 ∧ Nv W2 vy py 2 ∧ Below w.heap.size w W2) := ⟨nX, nY, hbw⟩
      clear hrow nX nY hbw HF HB1 HSX HSY x0 x1 x2
      go_wp2_with fail
      refine bodyPost_ret (ret_ky rfl _ _ _ _ _ _ _ _ _ _ rfl HR2.out) rfl ?_
      exact ⟨_, _, rfl, HN.out.1, HN.out.2.1, HN.out.2.2⟩
end Go.Proofs.Ytagljkbfgldlgaa
