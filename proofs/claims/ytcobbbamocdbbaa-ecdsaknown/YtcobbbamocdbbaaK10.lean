import Derived.Test.YtcobbbamocdbbaaK09
import Derived.Test.YtcobbbamocdbbaaK07
/-
  ecdsa's Digest.
-/
namespace Go.Proofs.Ytcobbbamocdbbaa
open Go.Shelf Go.RowKit
set_option linter.unusedVariables false
set_option linter.unusedSimpArgs false

/-- A hash's first bits. -/
def digZ (N : Int) (n : Nat) (bs : List Int) : Int := val 256 (bs.take (min n ((blen N.toNat + 7) / 8))).reverse / 2 ^ (8 * min n ((blen N.toNat + 7) / 8) - blen N.toNat)
theorem digZ_eq (N : Int) (n : Nat) (bs : List Int) (hn : bs.length = n) (hd : Dg 256 bs) : digZ N n bs = val 256 bs.reverse / 2 ^ (8 * n - blen N.toNat) := by
  unfold digZ
  generalize blen N.toNat = L
  by_cases h : n ≤ (L + 7) / 8
  · rw [Nat.min_eq_left h, List.take_of_length_le (by omega)]
  · rw [Nat.min_eq_right (by omega)]
    obtain ⟨m, hm⟩ : ∃ m, (L + 7) / 8 = m := ⟨_, rfl⟩
    rw [hm]
    have e : bs.reverse = (bs.drop m).reverse ++ (bs.take m).reverse := by rw [← List.reverse_append, List.take_append_drop]
    rw [e, val_append]
    have hdd : Dg 256 (bs.drop m).reverse := fun x hx => hd x (List.mem_of_mem_drop (List.mem_reverse.1 hx))
    have h0 := val_nonneg (by decide : (0 : Int) < 256) hdd
    have h1 := val_lt (by decide : (0 : Int) < 256) hdd
    have hl : (bs.drop m).reverse.length = n - m := by simp [hn]
    rw [hl] at h1 ⊢
    have e2 : (2 : Int) ^ (8 * n - L) = 256 ^ (n - m) * 2 ^ (8 * m - L) := by
      rw [show (256 : Int) = 2 ^ 8 by decide, ← Int.pow_mul, ← Int.pow_add]
      congr 1
      omega
    rw [e2, ← Int.ediv_ediv_of_nonneg (Int.le_of_lt (Int.pow_pos (by decide)))]
    congr 1
    rw [Int.add_mul_ediv_left _ _ (Int.ne_of_gt (Int.pow_pos (by decide))), Int.ediv_eq_zero_of_lt h0 h1, Int.zero_add]
set_option maxRecDepth 100000 in
set_option maxHeartbeats 2000000 in
theorem Digest_any (c : Value) (K : Cz) (L : Nat) (ao : Option Addr) (n ca : Nat) (bs : List Int) (w : World) (hc : Cu w c K L) (hL : L ≤ 100) (h : NumIn .u8 256 w ao n ca bs) (hn : n ≤ 512) :
    Calls Try.prog 44 #[c, .slice ao n ca] w fun e w' => ∃ v, e = .returned v ∧ NumOut .u64 B64 w w' v (digZ K.n n bs) 64 := by
  obtain ⟨g1, g2, oo, lo, co, vp, va, vb, vx, vy, vn, rfl, c1, c2, c3, c4, c5, c6⟩ := hc
  obtain ⟨a1, a2, a3, a4, rfl, a5⟩ := c1
  obtain ⟨b1, b2, b3, b4, rfl, b5⟩ := c2
  obtain ⟨d1, d2, d3, d4, rfl, d5⟩ := c3
  obtain ⟨e1, e2, e3, e4, rfl, e5⟩ := c4
  obtain ⟨f1, f2, f3, f4, rfl, f5⟩ := c5
  obtain ⟨j1, j2, j3, j4, rfl, j5⟩ := c6
  have b0 := (Below.refl w.heap.size w).alloc (Nat.le_refl _) (.cells #[.int .i64 g1, .int .i64 g2, .slice oo lo co, .slice a1 a2 a3, .slice b1 b2 b3, .slice d1 d2 d3, .slice e1 e2 e3, .slice f1 f2 f3, .slice j1 j2 j3] 29)
  have HL := Len_any j1 j2 j3 j4 _ (j5.1.old b0)
  have hbl : lenOf j4 ≤ 64000 := lenOf_le j5.1.dg 1000 (by have := j5.1.len; have := j5.2.2; omega)
  rw [lenOf_eq j4 j5.1.dg, j5.2.1] at HL hbl
  obtain ⟨N, hN⟩ : ∃ N, blen K.n.toNat = N := ⟨_, rfl⟩
  rw [hN] at HL hbl
  have hlc := h.lc
  have hcm := h.cm
  unfold maxLen at hcm
  obtain ⟨m, hm⟩ : ∃ m, min n ((N + 7) / 8) = m := ⟨_, rfl⟩
  have hm1 : m ≤ n ∧ m ≤ (N + 7) / 8 := by omega
  have HR := fun W (hW : Below w.heap.size w W) => Read_yes ao m ca (bs.take m) W ((h.old hW).take m hm1.1) (by omega)
  have hmin : (min (n : Int) (((N : Int) + 7) / 8)).toNat = m := by omega
  have hmi2 : min (n : Int) (((N : Int) + 7) / 8) = m := by omega
  have HM : Hid (min n ((N + 7) / 8) = m) := hm
  clear hm
  go_enter Try.func44, Try.ntmps44
  go_wp2_with (go_at_call 72; refine HL.mono ?_; rintro e w1 ⟨rfl, rfl⟩)
  go_at_call 77
  refine (HR _ b0).mono ?_
  rintro e w2 ⟨v, rfl, p1, p2, p3, p4, rfl, hp, _, hv, hpl, hb2⟩
  have B2 := b0.trans (hb2.mono b0.size)
  have HSH := Shift_plus p1 p2 p3 p4 (8 * m - N) (max 0 (8 * (m : Int) - N)) w2 hp (by omega) (by omega)
  clear HL
  go_wp2_with fail
  go_at_call 78
  refine HSH.mono ?_
  rintro e w3 ⟨v3, rfl, r1, r2, r3, r4, rfl, hr, hcan, hrv, hrl, hb3⟩
  go_wp2
  go_ret
  refine ⟨_, rfl, r1, r2, r3, r4, rfl, hr, hcan, ?_, by omega, B2.trans (hb3.mono B2.size)⟩
  rw [hrv, hv, ← hN]
  unfold digZ
  rw [hN, HM.out]
end Go.Proofs.Ytcobbbamocdbbaa
/-
  ecdsa's isFactor and sumOfMultiples.
-/
namespace Go.Proofs.Ytcobbbamocdbbaa
open Go.Shelf Go.RowKit
set_option linter.unusedVariables false
set_option linter.unusedSimpArgs false

set_option maxRecDepth 100000 in
set_option maxHeartbeats 2000000 in
theorem factor_any (a n : Value) (x y : Int) (L : Nat) (w : World) (ha : Nv w a x L) (hn : Nv w n y L) (hL : L ≤ 1000) :
    Calls Try.prog 50 #[a, n] w fun e w' => e = .returned (.bool (decide (0 < x) && decide (x < y))) ∧ Below w.heap.size w w' := by
  have HL := len_nv a x L w ha hL
  have HC := fun W (hW : Below w.heap.size w W) => cmp_nv a n x y L W (ha.old hW) (hn.old hW)
  have hx0 := ha.nonneg
  have hbl : (blen x.toNat : Int) = 0 ↔ x = 0 := by
    unfold blen
    constructor
    · intro h
      by_cases h0 : x.toNat = 0
      · omega
      · rw [if_neg h0] at h; omega
    · intro h
      rw [h]
      rfl
  obtain ⟨B, hB⟩ : ∃ B, blen x.toNat = B := ⟨_, rfl⟩
  rw [hB] at HL hbl
  obtain ⟨a1, a2, a3, a4, rfl, a5⟩ := ha
  obtain ⟨b1, b2, b3, b4, rfl, b5⟩ := hn
  by_cases h0 : x = 0
  · have hB0 : B = 0 := by have := hbl.2 h0; omega
    rw [hB0] at HL
    have hd : decide (0 < x) = false := by simp [h0]
    rw [hd]
    go_enter Try.func50, Try.ntmps50
    go_wp2_with (go_at_call 72; refine HL.mono ?_; rintro e w1 ⟨⟨rfl, _⟩, rfl⟩)
    go_ret
    exact ⟨rfl, Below.refl _ _⟩
  · have hB1 : (0 : Int) < B := by
      have : (B : Int) ≠ 0 := fun e => h0 (hbl.1 e)
      omega
    have hd : decide (0 < x) = true := by simp; omega
    rw [hd]
    have HCW := HC w (Below.refl _ _)
    have hcm : decide (cmpI x y < 0) = decide (x < y) := by
      unfold cmpI
      by_cases q : x < y
      · simp [q]
      · rw [if_neg q]
        split <;> simp [q]
    obtain ⟨z, hz⟩ : ∃ z, cmpI x y = z := ⟨_, rfl⟩
    rw [hz] at HCW hcm
    have HCM : Hid (decide (z < 0) = decide (x < y)) := hcm
    clear hcm hz HC
    go_enter Try.func50, Try.ntmps50
    go_wp2_with (first
      | (go_at_call 72; refine HL.mono ?_; rintro e w1 ⟨⟨rfl, _⟩, rfl⟩)
      | (go_at_call 31; refine HCW.mono ?_; rintro e w2 ⟨rfl, hb2⟩))
    go_ret
    refine ⟨?_, hb2⟩
    rw [← HCM.out]
    rfl
/-- Multiples of whatever point of a right curve. -/
theorem Mul_q {P : Nat} [NeZero P] {K : Cz} (g : GoodK K P) {G : Pz} (hG : Gd K P G) (c k p : Value) (n : Int) (m L : Nat) (w : World) (hc : Cu w c K L) (hk : Nv w k n L) (hp : Pv w p G L) (hL : 1 ≤ L ∧ L ≤ 70) (hn : n = (m : Int)) :
    Calls Try.prog 28 #[c, k, p] w fun e w' => ∃ s, Mt K P G m s ∧ Below w.heap.size w w' ∧ ∃ v, e = .returned v ∧ Pr w' v (some s) L := by
  subst hn
  refine (Mul_pt c k p K m G L w hc hk hp hL g.p0).mono ?_
  rintro e w' ⟨r, hr, hpa⟩
  obtain ⟨s, rfl, hs⟩ := mul_good g hG hr
  exact ⟨s, hs, hpa.pr⟩
set_option maxRecDepth 100000 in
set_option maxHeartbeats 4000000 in
theorem sumof_any {P : Nat} [NeZero P] {K : Cz} (g : GoodK K P) (hbs : Gd K P (baseZ K)) {G : Pz} (hG : Gd K P G) (c u v q : Value) (mu mv : Nat) (w : World) (hc : Cu w c K 4) (hu : Nv w u (mu : Int) 4) (hv : Nv w v (mv : Int) 4) (hq : Pv w q G 4) :
    Calls Try.prog 53 #[c, u, v, q] w fun e w' => ∃ s1 s2 s, Mt K P (baseZ K) mu s1 ∧ Mt K P G mv s2 ∧ AddZ K s1 s2 (some s) ∧ Below w.heap.size w w' ∧ ∃ val, e = .returned val ∧ Pr w' val (some s) 4 := by
  obtain ⟨g1, g2, oo, lo, co, a1, a2, a3, b1, b2, b3, d1, d2, d3, e1, e2, e3, f1, f2, f3, j1, j2, j3, rfl, -, -, -, -, -, -⟩ := hc.slices
  have HCU : Hid (Cu w (Value.agg #[Value.int IntKind.i64 g1, Value.int IntKind.i64 g2, Value.slice oo lo co, Value.slice a1 a2 a3, Value.slice b1 b2 b3, Value.slice d1 d2 d3, Value.slice e1 e2 e3, Value.slice f1 f2 f3, Value.slice j1 j2 j3]) K 4) := hc
  have HUV : Hid (Nv w u (mu : Int) 4 ∧ Nv w v (mv : Int) 4 ∧ Pv w q G 4) := ⟨hu, hv, hq⟩
  have HR : Hid (GoodK K P ∧ Gd K P (baseZ K) ∧ Gd K P G) := ⟨g, hbs, hG⟩
  obtain ⟨u1, u2, u3, u4, rfl, _⟩ := hu
  obtain ⟨v1, v2, v3, v4, rfl, _⟩ := hv
  obtain ⟨_, _, rfl, ⟨q1, q2, q3, _, rfl, _⟩, ⟨q4, q5, q6, _, rfl, _⟩⟩ := hq
  clear hc g hbs hG
  obtain ⟨hF1, hF2, hb2⟩ := pair_new w #[Value.int IntKind.i64 g1, Value.int IntKind.i64 g2, Value.slice oo lo co, Value.slice a1 a2 a3, Value.slice b1 b2 b3, Value.slice d1 d2 d3, Value.slice e1 e2 e3, Value.slice f1 f2 f3, Value.slice j1 j2 j3] #[Value.slice q1 q2 q3, Value.slice q4 q5 q6, Value.bool G.inf] 29 51
  obtain ⟨W0, hW0⟩ : ∃ W0, ((w.alloc (.cells #[Value.int IntKind.i64 g1, Value.int IntKind.i64 g2, Value.slice oo lo co, Value.slice a1 a2 a3, Value.slice b1 b2 b3, Value.slice d1 d2 d3, Value.slice e1 e2 e3, Value.slice f1 f2 f3, Value.slice j1 j2 j3] 29)).alloc (.cells #[Value.slice q1 q2 q3, Value.slice q4 q5 q6, Value.bool G.inf] 51)).alloc (.cells #[.slice none 0 0, .slice none 0 0, .bool false] 51) = W0 := ⟨_, rfl⟩
  have hZ2 : ((w.alloc (.cells #[Value.int IntKind.i64 g1, Value.int IntKind.i64 g2, Value.slice oo lo co, Value.slice a1 a2 a3, Value.slice b1 b2 b3, Value.slice d1 d2 d3, Value.slice e1 e2 e3, Value.slice f1 f2 f3, Value.slice j1 j2 j3] 29)).alloc (.cells #[Value.slice q1 q2 q3, Value.slice q4 q5 q6, Value.bool G.inf] 51)).heap.size = w.heap.size + 1 + 1 := by rw [alloc_sz7, alloc_sz7]
  have hF3 := heap_alloc_new ((w.alloc (.cells #[Value.int IntKind.i64 g1, Value.int IntKind.i64 g2, Value.slice oo lo co, Value.slice a1 a2 a3, Value.slice b1 b2 b3, Value.slice d1 d2 d3, Value.slice e1 e2 e3, Value.slice f1 f2 f3, Value.slice j1 j2 j3] 29)).alloc (.cells #[Value.slice q1 q2 q3, Value.slice q4 q5 q6, Value.bool G.inf] 51)) (.cells #[.slice none 0 0, .slice none 0 0, .bool false] 51)
  rw [hZ2] at hF3
  have hb3 := hb2.alloc (show w.heap.size ≤ _ by rw [hZ2]; omega) (.cells #[.slice none 0 0, .slice none 0 0, .bool false] 51)
  have HW : Hid (W0.heap[w.heap.size]? = some (.cells #[Value.int IntKind.i64 g1, Value.int IntKind.i64 g2, Value.slice oo lo co, Value.slice a1 a2 a3, Value.slice b1 b2 b3, Value.slice d1 d2 d3, Value.slice e1 e2 e3, Value.slice f1 f2 f3, Value.slice j1 j2 j3] 29 (0, 0))) := by rw [← hW0]; exact heap_new hF1 (by omega)
  have HQB : Hid (PSl W0 (w.heap.size + 1) (Value.slice q1 q2 q3) (Value.slice q4 q5 q6) (Value.bool G.inf)) := by rw [← hW0]; exact heap_new hF2 (by omega)
  have HRS : Hid (PSl W0 (w.heap.size + 1 + 1) (.slice none 0 0) (.slice none 0 0) (.bool false)) := by rw [← hW0]; exact hF3
  rw [hW0] at hb3
  have HBW : Hid (Below w.heap.size w W0) := hb3
  replace HCU : Hid (Cu W0 (Value.agg #[Value.int IntKind.i64 g1, Value.int IntKind.i64 g2, Value.slice oo lo co, Value.slice a1 a2 a3, Value.slice b1 b2 b3, Value.slice d1 d2 d3, Value.slice e1 e2 e3, Value.slice f1 f2 f3, Value.slice j1 j2 j3]) K 4) := HCU.out.old hb3
  have HU : Hid (Nv W0 (Value.slice u1 u2 u3) (mu : Int) 4) := HUV.out.1.old hb3
  have HV : Hid (Nv W0 (Value.slice v1 v2 v3) (mv : Int) 4) := HUV.out.2.1.old hb3
  have HQV : Hid (Pv W0 (Value.agg #[Value.slice q1 q2 q3, Value.slice q4 q5 q6, Value.bool G.inf]) G 4) := HUV.out.2.2.old hb3
  clear hF1 hF2 hF3 hZ2 hb2 hb3 HUV
  go_enter Try.func53, Try.ntmps53
  go_wp2_with fail
  clear hW0
  refine wp_region_frames 1 [[14], [15], [16], [17], [18], [13, 18], [19, 13], [20, 13], [10], [10, 19], [11, 20]] (([.eq (Value.agg #[Value.int IntKind.i64 g1, Value.int IntKind.i64 g2, Value.slice oo lo co, Value.slice a1 a2 a3, Value.slice b1 b2 b3, Value.slice d1 d2 d3, Value.slice e1 e2 e3, Value.slice f1 f2 f3, Value.slice j1 j2 j3]), .eq (Value.slice u1 u2 u3), .eq (Value.agg #[Value.int IntKind.i64 g1, Value.int IntKind.i64 g2, Value.slice oo lo co, Value.slice a1 a2 a3, Value.slice b1 b2 b3, Value.slice d1 d2 d3, Value.slice e1 e2 e3, Value.slice f1 f2 f3, Value.slice j1 j2 j3]), .pv (fun p => p = baseZ K) 4, .pr (fun r => ∃ s, r = some s ∧ Mt K P (baseZ K) (mu) s) 4, .same, .ext 0, .ext 1, .box W0.heap.size, .sto W0.heap.size, .same] : List Fk).map Fk.sem) [0, 1, 2, 3, 4, 5, 6, 7, 8, 9, 10] (by kernel_rfl) (by kernel_rfl) (by kernel_rfl) ?step ?done
  case step =>
    intro i o ho listed a wx hI hli hne KK hK
    have hlt : i < 11 := (Array.getElem?_eq_some_iff.1 ho).1
    have hsz : Hid (a.tmps.size = 40) := hI.slots
    have hbw : Below W0.heap.size W0 wx := (Below.refl _ _).drew.trans hI.below
    obtain rfl | rfl | rfl | rfl | rfl | rfl | rfl | rfl | rfl | rfl | rfl : i = 0 ∨ i = 1 ∨ i = 2 ∨ i = 3 ∨ i = 4 ∨ i = 5 ∨ i = 6 ∨ i = 7 ∨ i = 8 ∨ i = 9 ∨ i = 10 := by omega
    · simp only [List.getElem?_toArray, List.getElem?_cons_succ, List.getElem?_cons_zero, Option.some.injEq] at ho
      subst ho
      rw [if_pos (by rfl)]
      have eH4 : a.tmps.getD 4 undef = Value.pointer (some { block := w.heap.size, off := 0 }) := hI.stays hli 1 4 (by decide +kernel)
      obtain ⟨cC0, cC1, cC2, cC3, cC4, cC5, cC6, cC7, cC8⟩ := cells9 (blk_old HW.out hbw)
      go_simp
      exact hI.grow hK _ _ (Below.refl _ _) (put_self _ _ _ (by rw [hsz.out]; decide))
    · simp only [List.getElem?_toArray, List.getElem?_cons_succ, List.getElem?_cons_zero, Option.some.injEq] at ho
      subst ho
      rw [if_pos (by rfl)]
      have eH1 : a.tmps.getD 1 undef = Value.slice u1 u2 u3 := hI.stays hli 1 1 (by decide +kernel)
      go_simp
      exact hI.grow hK _ _ (Below.refl _ _) (put_self _ _ _ (by rw [hsz.out]; decide))
    · simp only [List.getElem?_toArray, List.getElem?_cons_succ, List.getElem?_cons_zero, Option.some.injEq] at ho
      subst ho
      rw [if_pos (by rfl)]
      have eH4 : a.tmps.getD 4 undef = Value.pointer (some { block := w.heap.size, off := 0 }) := hI.stays hli 1 4 (by decide +kernel)
      obtain ⟨cC0, cC1, cC2, cC3, cC4, cC5, cC6, cC7, cC8⟩ := cells9 (blk_old HW.out hbw)
      go_simp
      exact hI.grow hK _ _ (Below.refl _ _) (put_self _ _ _ (by rw [hsz.out]; decide))
    · simp only [List.getElem?_toArray, List.getElem?_cons_succ, List.getElem?_cons_zero, Option.some.injEq] at ho
      subst ho
      rw [if_pos (by rfl)]
      have eH16 : a.tmps.getD 16 undef = (Value.agg #[Value.int IntKind.i64 g1, Value.int IntKind.i64 g2, Value.slice oo lo co, Value.slice a1 a2 a3, Value.slice b1 b2 b3, Value.slice d1 d2 d3, Value.slice e1 e2 e3, Value.slice f1 f2 f3, Value.slice j1 j2 j3]) := hI.deep hne 0 2 (by decide +kernel)
      go_simp
      go_at_call 27
      refine (Base_any _ K 4 wx (HCU.out.old hbw)).mono ?_
      rintro e w5 ⟨v5, rfl, hv5, hb5⟩
      exact hI.grow hK _ _ hb5 ⟨_, rfl, by have hp := put_self a 17 v5 (by rw [hsz.out]; decide); show Pv w5 ((a.put (some 17) v5).tmps.getD 17 undef) _ _; rw [hp]; exact hv5⟩
    · simp only [List.getElem?_toArray, List.getElem?_cons_succ, List.getElem?_cons_zero, Option.some.injEq] at ho
      subst ho
      rw [if_pos (by rfl)]
      have eH14 : a.tmps.getD 14 undef = (Value.agg #[Value.int IntKind.i64 g1, Value.int IntKind.i64 g2, Value.slice oo lo co, Value.slice a1 a2 a3, Value.slice b1 b2 b3, Value.slice d1 d2 d3, Value.slice e1 e2 e3, Value.slice f1 f2 f3, Value.slice j1 j2 j3]) := hI.deep hne 0 0 (by decide +kernel)
      have eH15 : a.tmps.getD 15 undef = (Value.slice u1 u2 u3) := hI.deep hne 0 1 (by decide +kernel)
      have fA3 : Fk.sem (.pv (fun p => p = baseZ K) 4) [a.tmps.getD 17 undef] wx := hI.deep hne 0 3 (by decide +kernel)
      obtain ⟨zX17, eH17⟩ : ∃ x, a.tmps.getD 17 undef = x := ⟨_, rfl⟩
      simp only [eH17] at fA3
      have hnv : Nv wx (Value.slice u1 u2 u3) (mu : Int) 4 := HU.out.old hbw
      obtain ⟨pz, rfl, hpv⟩ := fA3
      have hpv' : Pv wx zX17 (baseZ K) 4 := hpv
      clear hpv
      go_simp
      go_at_call 28
      refine (Mul_g HR.out.1 HR.out.2.1 _ _ _ ((mu : Int)) (mu) 4 wx (HCU.out.old hbw) hnv hpv' (by decide) (rfl)).mono ?_
      rintro e w5 ⟨s, hs, hb5, v5, rfl, hpr⟩
      exact hI.grow hK _ _ hb5 ⟨_, ⟨s, rfl, hs⟩, by have hp := put_self a 18 v5 (by rw [hsz.out]; decide); show Pr w5 ((a.put (some 18) v5).tmps.getD 18 undef) _ _; rw [hp]; exact hpr⟩
    · simp only [List.getElem?_toArray, List.getElem?_cons_succ, List.getElem?_cons_zero, Option.some.injEq] at ho
      subst ho
      rw [if_pos (by rfl)]
      have fA4 : Fk.sem (.pr (fun r => ∃ s, r = some s ∧ Mt K P (baseZ K) (mu) s) 4) [a.tmps.getD 18 undef] wx := hI.deep hne 0 4 (by decide +kernel)
      obtain ⟨zX18, eH18⟩ : ∃ x, a.tmps.getD 18 undef = x := ⟨_, rfl⟩
      simp only [eH18] at fA4
      have eK18 := eH18
      rw [Array.getD_eq_getD_getElem?] at eK18
      go_simp
      exact hI.grow hK _ _ (Below.refl _ _) ((put_self _ _ _ (by rw [hsz.out]; decide)).trans ((put_get _ _ _ _ (by decide)).trans eH18).symm)
    · simp only [List.getElem?_toArray, List.getElem?_cons_succ, List.getElem?_cons_zero, Option.some.injEq] at ho
      subst ho
      rw [if_pos (by rfl)]
      have fA4 : Fk.sem (.pr (fun r => ∃ s, r = some s ∧ Mt K P (baseZ K) (mu) s) 4) [a.tmps.getD 18 undef] wx := hI.deep hne 1 4 (by decide +kernel)
      have fA5 : Fk.sem (.same) [a.tmps.getD 13 undef, a.tmps.getD 18 undef] wx := hI.deep hne 0 5 (by decide +kernel)
      obtain ⟨zX13, eH13⟩ : ∃ x, a.tmps.getD 13 undef = x := ⟨_, rfl⟩
      obtain ⟨zX18, eH18⟩ : ∃ x, a.tmps.getD 18 undef = x := ⟨_, rfl⟩
      simp only [eH13, eH18] at fA4 fA5
      have eG13 : zX13 = zX18 := fA5
      obtain ⟨rr, hrr, hpr⟩ := fA4
      obtain ⟨pP1, pP2, pP3, pP4, pP5, pP6, pP7, pP8, hpp⟩ := hpr.parts
      have hT : zX13 = .tuple #[.agg #[.slice pP1 pP2 pP3, .slice pP4 pP5 pP6, .bool pP7], .bool pP8] := eG13.trans (hpp)
      clear hpp hpr eG13
      subst hT
      have eK13 := eH13
      rw [Array.getD_eq_getD_getElem?] at eK13
      go_simp
      exact hI.grow hK (.agg #[.slice pP1 pP2 pP3, .slice pP4 pP5 pP6, .bool pP7]) _ (Below.refl _ _) ⟨_, (put_get _ _ _ _ (by decide)).trans eH13, put_self _ _ _ (by rw [hsz.out]; decide)⟩
    · simp only [List.getElem?_toArray, List.getElem?_cons_succ, List.getElem?_cons_zero, Option.some.injEq] at ho
      subst ho
      rw [if_pos (by rfl)]
      have fA4 : Fk.sem (.pr (fun r => ∃ s, r = some s ∧ Mt K P (baseZ K) (mu) s) 4) [a.tmps.getD 18 undef] wx := hI.deep hne 1 4 (by decide +kernel)
      have fA5 : Fk.sem (.same) [a.tmps.getD 13 undef, a.tmps.getD 18 undef] wx := hI.deep hne 0 5 (by decide +kernel)
      obtain ⟨zX13, eH13⟩ : ∃ x, a.tmps.getD 13 undef = x := ⟨_, rfl⟩
      obtain ⟨zX18, eH18⟩ : ∃ x, a.tmps.getD 18 undef = x := ⟨_, rfl⟩
      simp only [eH13, eH18] at fA4 fA5
      have eG13 : zX13 = zX18 := fA5
      obtain ⟨rr, hrr, hpr⟩ := fA4
      obtain ⟨pP1, pP2, pP3, pP4, pP5, pP6, pP7, pP8, hpp⟩ := hpr.parts
      have hT : zX13 = .tuple #[.agg #[.slice pP1 pP2 pP3, .slice pP4 pP5 pP6, .bool pP7], .bool pP8] := eG13.trans (hpp)
      clear hpp hpr eG13
      subst hT
      have eK13 := eH13
      rw [Array.getD_eq_getD_getElem?] at eK13
      go_simp
      exact hI.grow hK (.bool pP8) _ (Below.refl _ _) ⟨_, (put_get _ _ _ _ (by decide)).trans eH13, put_self _ _ _ (by rw [hsz.out]; decide)⟩
    · simp only [List.getElem?_toArray, List.getElem?_cons_succ, List.getElem?_cons_zero, Option.some.injEq] at ho
      subst ho
      rw [if_pos (by rfl)]
      go_simp
      exact hI.grow hK _ _ ((Below.refl _ _).alloc (Nat.le_refl _) _) ⟨_, _, _, wx.heap.size, _, _, _, _, _, _, _, put_self _ _ _ (by rw [hsz.out]; decide), hbw.size, rfl, rfl, rfl, heap_alloc_new _ _⟩
    · simp only [List.getElem?_toArray, List.getElem?_cons_succ, List.getElem?_cons_zero, Option.some.injEq] at ho
      subst ho
      rw [if_pos (by rfl)]
      have fA4 : Fk.sem (.pr (fun r => ∃ s, r = some s ∧ Mt K P (baseZ K) (mu) s) 4) [a.tmps.getD 18 undef] wx := hI.deep hne 0 4 (by decide +kernel)
      have fA5 : Fk.sem (.same) [a.tmps.getD 13 undef, a.tmps.getD 18 undef] wx := hI.deep hne 0 5 (by decide +kernel)
      have fA6 : Fk.sem (.ext 0) [a.tmps.getD 19 undef, a.tmps.getD 13 undef] wx := hI.deep hne 0 6 (by decide +kernel)
      have fA8 : Fk.sem (.box W0.heap.size) [a.tmps.getD 10 undef] wx := hI.deep hne 0 8 (by decide +kernel)
      obtain ⟨zX10, eH10⟩ : ∃ x, a.tmps.getD 10 undef = x := ⟨_, rfl⟩
      obtain ⟨zX19, eH19⟩ : ∃ x, a.tmps.getD 19 undef = x := ⟨_, rfl⟩
      obtain ⟨zX13, eH13⟩ : ∃ x, a.tmps.getD 13 undef = x := ⟨_, rfl⟩
      obtain ⟨zX18, eH18⟩ : ∃ x, a.tmps.getD 18 undef = x := ⟨_, rfl⟩
      simp only [eH10, eH19, eH13, eH18] at fA4 fA5 fA6 fA8
      have eG13 : zX13 = zX18 := fA5
      obtain ⟨rr, hrr, hpr⟩ := fA4
      obtain ⟨pP1, pP2, pP3, pP4, pP5, pP6, pP7, pP8, hpp⟩ := hpr.parts
      have hT : zX13 = .tuple #[.agg #[.slice pP1 pP2 pP3, .slice pP4 pP5 pP6, .bool pP7], .bool pP8] := eG13.trans (hpp)
      clear hpp hpr eG13
      obtain ⟨tt, ht1, ht2⟩ := fA6
      have ht1' : zX13 = .tuple tt := ht1
      rw [hT] at ht1'
      injection ht1' with ht1'
      subst ht1'
      have hP : zX19 = .agg #[.slice pP1 pP2 pP3, .slice pP4 pP5 pP6, .bool pP7] := ht2
      subst hP
      obtain ⟨q0, q1, q2, bx, r1, r2, r3, r4, r5, r6, r7, hx, hbx, rfl, rfl, rfl, hs⟩ := fA8
      have hx' : zX10 = .pointer (some ⟨bx, 0, none⟩) := hx
      subst hx'
      obtain ⟨y0, y1, y2, y3, y4, y5⟩ := hs.facts
      clear hx
      have eK10 := eH10
      have eK19 := eH19
      rw [Array.getD_eq_getD_getElem?] at eK10 eK19
      go_simp
      exact hI.fill hK hli undef bx hs _ _ _ _ _ _ _ hbx (by intro j hj; revert hj; revert j; exact box_but 9 _ (by kernel_rfl)) ⟨_, _, _, eH19, bx, _, _, _, _, _, _, _, eH10, hbx, rfl, rfl, rfl, hs.set3 _ _ _⟩
    · simp only [List.getElem?_toArray, List.getElem?_cons_succ, List.getElem?_cons_zero, Option.some.injEq] at ho
      subst ho
      rw [if_pos (by rfl)]
      have fA4 : Fk.sem (.pr (fun r => ∃ s, r = some s ∧ Mt K P (baseZ K) (mu) s) 4) [a.tmps.getD 18 undef] wx := hI.deep hne 0 4 (by decide +kernel)
      have fA5 : Fk.sem (.same) [a.tmps.getD 13 undef, a.tmps.getD 18 undef] wx := hI.deep hne 0 5 (by decide +kernel)
      have fA7 : Fk.sem (.ext 1) [a.tmps.getD 20 undef, a.tmps.getD 13 undef] wx := hI.deep hne 0 7 (by decide +kernel)
      obtain ⟨zX20, eH20⟩ : ∃ x, a.tmps.getD 20 undef = x := ⟨_, rfl⟩
      obtain ⟨zX13, eH13⟩ : ∃ x, a.tmps.getD 13 undef = x := ⟨_, rfl⟩
      obtain ⟨zX18, eH18⟩ : ∃ x, a.tmps.getD 18 undef = x := ⟨_, rfl⟩
      simp only [eH20, eH13, eH18] at fA4 fA5 fA7
      have eK20 := eH20
      have eK13 := eH13
      have eK18 := eH18
      rw [Array.getD_eq_getD_getElem?] at eK20 eK13 eK18
      go_simp
      exact hI.grow hK _ _ (Below.refl _ _) ((put_self _ _ _ (by rw [hsz.out]; decide)).trans ((put_get _ _ _ _ (by decide)).trans eH20).symm)
  case done =>
    intro listed a W1 hI hall
    obtain ⟨tm, df⟩ := a
    have hdf : df = [] := hI.defers
    subst hdf
    have hTM : tm = #[tm.getD 0 undef, tm.getD 1 undef, tm.getD 2 undef, tm.getD 3 undef, tm.getD 4 undef, tm.getD 5 undef, tm.getD 6 undef, tm.getD 7 undef, tm.getD 8 undef, tm.getD 9 undef, tm.getD 10 undef, tm.getD 11 undef, tm.getD 12 undef, tm.getD 13 undef, tm.getD 14 undef, tm.getD 15 undef, tm.getD 16 undef, tm.getD 17 undef, tm.getD 18 undef, tm.getD 19 undef, tm.getD 20 undef, tm.getD 21 undef, tm.getD 22 undef, tm.getD 23 undef, tm.getD 24 undef, tm.getD 25 undef, tm.getD 26 undef, tm.getD 27 undef, tm.getD 28 undef, tm.getD 29 undef, tm.getD 30 undef, tm.getD 31 undef, tm.getD 32 undef, tm.getD 33 undef, tm.getD 34 undef, tm.getD 35 undef, tm.getD 36 undef, tm.getD 37 undef, tm.getD 38 undef, tm.getD 39 undef] := arr_of tm 40 hI.slots
    have oS0 : tm.getD 0 undef = Value.agg #[Value.int IntKind.i64 g1, Value.int IntKind.i64 g2, Value.slice oo lo co, Value.slice a1 a2 a3, Value.slice b1 b2 b3, Value.slice d1 d2 d3, Value.slice e1 e2 e3, Value.slice f1 f2 f3, Value.slice j1 j2 j3] := hI.kept 0 (by decide +kernel)
    have oS1 : tm.getD 1 undef = Value.slice u1 u2 u3 := hI.kept 1 (by decide +kernel)
    have oS2 : tm.getD 2 undef = Value.slice v1 v2 v3 := hI.kept 2 (by decide +kernel)
    have oS3 : tm.getD 3 undef = Value.agg #[Value.slice q1 q2 q3, Value.slice q4 q5 q6, Value.bool G.inf] := hI.kept 3 (by decide +kernel)
    have oS4 : tm.getD 4 undef = Value.pointer (some { block := w.heap.size, off := 0 }) := hI.kept 4 (by decide +kernel)
    have oS5 : tm.getD 5 undef = undef := hI.kept 5 (by decide +kernel)
    have oS6 : tm.getD 6 undef = undef := hI.kept 6 (by decide +kernel)
    have oS7 : tm.getD 7 undef = Value.pointer (some { block := w.heap.size + 1, off := 0 }) := hI.kept 7 (by decide +kernel)
    have oS8 : tm.getD 8 undef = Value.pointer (some { block := w.heap.size + 1 + 1, off := 0 }) := hI.kept 8 (by decide +kernel)
    have oS9 : tm.getD 9 undef = Value.bool false := hI.kept 9 (by decide +kernel)
    have oS12 : tm.getD 12 undef = undef := hI.kept 12 (by decide +kernel)
    have oS21 : tm.getD 21 undef = undef := hI.kept 21 (by decide +kernel)
    have oS22 : tm.getD 22 undef = undef := hI.kept 22 (by decide +kernel)
    have oS23 : tm.getD 23 undef = undef := hI.kept 23 (by decide +kernel)
    have oS24 : tm.getD 24 undef = undef := hI.kept 24 (by decide +kernel)
    have oS25 : tm.getD 25 undef = undef := hI.kept 25 (by decide +kernel)
    have oS26 : tm.getD 26 undef = undef := hI.kept 26 (by decide +kernel)
    have oS27 : tm.getD 27 undef = undef := hI.kept 27 (by decide +kernel)
    have oS28 : tm.getD 28 undef = undef := hI.kept 28 (by decide +kernel)
    have oS29 : tm.getD 29 undef = undef := hI.kept 29 (by decide +kernel)
    have oS30 : tm.getD 30 undef = undef := hI.kept 30 (by decide +kernel)
    have oS31 : tm.getD 31 undef = undef := hI.kept 31 (by decide +kernel)
    have oS32 : tm.getD 32 undef = undef := hI.kept 32 (by decide +kernel)
    have oS33 : tm.getD 33 undef = undef := hI.kept 33 (by decide +kernel)
    have oS34 : tm.getD 34 undef = undef := hI.kept 34 (by decide +kernel)
    have oS35 : tm.getD 35 undef = undef := hI.kept 35 (by decide +kernel)
    have oS36 : tm.getD 36 undef = undef := hI.kept 36 (by decide +kernel)
    have oS37 : tm.getD 37 undef = undef := hI.kept 37 (by decide +kernel)
    have oS38 : tm.getD 38 undef = undef := hI.kept 38 (by decide +kernel)
    have oS39 : tm.getD 39 undef = undef := hI.kept 39 (by decide +kernel)
    have fA4 : Fk.sem (.pr (fun r => ∃ s, r = some s ∧ Mt K P (baseZ K) (mu) s) 4) [tm.getD 18 undef] W1 := hI.facts 4 (hall 4 (by decide))
    have fA5 : Fk.sem (.same) [tm.getD 13 undef, tm.getD 18 undef] W1 := hI.facts 5 (hall 5 (by decide))
    have fA6 : Fk.sem (.ext 0) [tm.getD 19 undef, tm.getD 13 undef] W1 := hI.facts 6 (hall 6 (by decide))
    have fA7 : Fk.sem (.ext 1) [tm.getD 20 undef, tm.getD 13 undef] W1 := hI.facts 7 (hall 7 (by decide))
    have fA9 : Fk.sem (.sto W0.heap.size) [tm.getD 10 undef, tm.getD 19 undef] W1 := hI.facts 9 (hall 9 (by decide))
    have fA10 : Fk.sem (.same) [tm.getD 11 undef, tm.getD 20 undef] W1 := hI.facts 10 (hall 10 (by decide))
    have fA0 : tm.getD 14 undef = (Value.agg #[Value.int IntKind.i64 g1, Value.int IntKind.i64 g2, Value.slice oo lo co, Value.slice a1 a2 a3, Value.slice b1 b2 b3, Value.slice d1 d2 d3, Value.slice e1 e2 e3, Value.slice f1 f2 f3, Value.slice j1 j2 j3]) := hI.facts 0 (hall 0 (by decide))
    have fA1 : tm.getD 15 undef = (Value.slice u1 u2 u3) := hI.facts 1 (hall 1 (by decide))
    have fA2 : tm.getD 16 undef = (Value.agg #[Value.int IntKind.i64 g1, Value.int IntKind.i64 g2, Value.slice oo lo co, Value.slice a1 a2 a3, Value.slice b1 b2 b3, Value.slice d1 d2 d3, Value.slice e1 e2 e3, Value.slice f1 f2 f3, Value.slice j1 j2 j3]) := hI.facts 2 (hall 2 (by decide))
    have hbw : Below W0.heap.size W0 W1 := (Below.refl _ _).drew.trans hI.below
    clear hI hall listed
    simp only [oS0, oS1, oS2, oS3, oS4, oS5, oS6, oS7, oS8, oS9, oS12, oS21, oS22, oS23, oS24, oS25, oS26, oS27, oS28, oS29, oS30, oS31, oS32, oS33, oS34, oS35, oS36, oS37, oS38, oS39, fA0, fA1, fA2] at hTM
    clear oS0 oS1 oS2 oS3 oS4 oS5 oS6 oS7 oS8 oS9 oS12 oS21 oS22 oS23 oS24 oS25 oS26 oS27 oS28 oS29 oS30 oS31 oS32 oS33 oS34 oS35 oS36 oS37 oS38 oS39 fA0 fA1 fA2
    generalize tm.getD 10 undef = zX10 at hTM fA9
    generalize tm.getD 11 undef = zX11 at hTM fA10
    generalize tm.getD 13 undef = zX13 at hTM fA5 fA6 fA7
    generalize tm.getD 17 undef = zX17 at hTM 
    generalize tm.getD 18 undef = zX18 at hTM fA4 fA5
    generalize tm.getD 19 undef = zX19 at hTM fA6 fA9
    generalize tm.getD 20 undef = zX20 at hTM fA7 fA10
    subst hTM
    replace HW : Hid (W1.heap[w.heap.size]? = some (.cells #[Value.int IntKind.i64 g1, Value.int IntKind.i64 g2, Value.slice oo lo co, Value.slice a1 a2 a3, Value.slice b1 b2 b3, Value.slice d1 d2 d3, Value.slice e1 e2 e3, Value.slice f1 f2 f3, Value.slice j1 j2 j3] 29 (0, 0))) := blk_old HW.out hbw
    replace HCU : Hid (Cu W1 (Value.agg #[Value.int IntKind.i64 g1, Value.int IntKind.i64 g2, Value.slice oo lo co, Value.slice a1 a2 a3, Value.slice b1 b2 b3, Value.slice d1 d2 d3, Value.slice e1 e2 e3, Value.slice f1 f2 f3, Value.slice j1 j2 j3]) K 4) := HCU.out.old hbw
    replace HBW : Hid (Below w.heap.size w W1) := HBW.out.trans (hbw.mono HBW.out.size)
    replace HQB : Hid (PSl W1 (w.heap.size + 1) (Value.slice q1 q2 q3) (Value.slice q4 q5 q6) (Value.bool G.inf)) := HQB.out.keep hbw
    replace HQV : Hid (Pv W1 (Value.agg #[Value.slice q1 q2 q3, Value.slice q4 q5 q6, Value.bool G.inf]) G 4) := HQV.out.old hbw
    replace HV : Hid (Nv W1 (Value.slice v1 v2 v3) (mv : Int) 4) := HV.out.old hbw
    replace HRS : Hid (PSl W1 (w.heap.size + 1 + 1) (.slice none 0 0) (.slice none 0 0) (.bool false)) := HRS.out.keep hbw
    obtain ⟨rr, bA, ⟨sA, hrs, hmtA⟩, hb3, hr2⟩ := pair_end fA4 fA5 fA6 fA7 fA9 fA10 rfl rfl rfl rfl rfl
    have hb3' : zX10 = .pointer (some ⟨bA, 0, none⟩) := hb3
    subst hb3'
    clear fA4 fA5 fA6 fA7 fA9 fA10 hb3
    have HMA : Hid (Mt K P (baseZ K) (mu) sA) := hmtA
    clear hmtA
    rcases hr2 with ⟨pp, hpp, h4, hpt⟩ | ⟨hpp, _⟩
    rotate_left
    · rw [hpp] at hrs; cases hrs
    rw [hpp] at hrs
    injection hrs with hrs
    have hrs2 := hrs.symm
    subst hrs2
    have h4' : zX11 = .bool true := h4
    subst h4'
    obtain ⟨_, Ao1, Ao2, Ao3, Ar1, Ar2, Ar3, hs5, hx5, hy5⟩ := hpt
    have HA : Hid (PSl W1 bA (.slice Ao1 Ao2 Ao3) (.slice Ar1 Ar2 Ar3) (.bool sA.inf)) := hs5
    have HAV : Hid (Nv W1 (.slice Ao1 Ao2 Ao3) sA.x 4 ∧ Nv W1 (.slice Ar1 Ar2 Ar3) sA.y 4) := ⟨hx5, hy5⟩
    clear hs5 hx5 hy5 hbw h4 hpp
    obtain ⟨cC0, cC1, cC2, cC3, cC4, cC5, cC6, cC7, cC8⟩ := cells9 HW.out
    obtain ⟨yQ0, yQ1, yQ2, _, _, _⟩ := HQB.out.facts
    obtain ⟨yA0, yA1, yA2, _, _, _⟩ := HA.out.facts
    go_wp2_with fail
    go_at_call 28
    refine (Mul_q HR.out.1 HR.out.2.2 _ _ _ (mv : Int) mv 4 W1 HCU.out HV.out HQV.out (by decide) rfl).mono ?_
    rintro e w5 ⟨sB, hmtB, hb5, v, rfl, hpr⟩
    rcases hpr with ⟨v5, p5, h5, rfl, hv5⟩ | ⟨h5, _⟩
    rotate_left
    · cases h5
    injection h5 with h5
    subst h5
    obtain ⟨_, _, rfl, ⟨Bo1, Bo2, Bo3, qo4, rfl, qo5⟩, ⟨Br1, Br2, Br3, qr4, rfl, qr5⟩⟩ := hv5
    obtain ⟨W3, hW3⟩ : ∃ W3, w5.alloc (.cells #[.slice Bo1 Bo2 Bo3, .slice Br1 Br2 Br3, .bool sB.inf] 51) = W3 := ⟨_, rfl⟩
    have hg3 : PSl W3 w5.heap.size (.slice Bo1 Bo2 Bo3) (.slice Br1 Br2 Br3) (.bool sB.inf) ∧ Below w5.heap.size w5 W3 := by rw [← hW3]; exact ⟨heap_alloc_new w5 _, (Below.refl _ _).alloc (Nat.le_refl _) _⟩
    have hbw : Below W1.heap.size W1 W3 := hb5.trans (hg3.2.mono hb5.size)
    replace HW : Hid (W3.heap[w.heap.size]? = some (.cells #[Value.int IntKind.i64 g1, Value.int IntKind.i64 g2, Value.slice oo lo co, Value.slice a1 a2 a3, Value.slice b1 b2 b3, Value.slice d1 d2 d3, Value.slice e1 e2 e3, Value.slice f1 f2 f3, Value.slice j1 j2 j3] 29 (0, 0))) := blk_old HW.out hbw
    replace HCU : Hid (Cu W3 (Value.agg #[Value.int IntKind.i64 g1, Value.int IntKind.i64 g2, Value.slice oo lo co, Value.slice a1 a2 a3, Value.slice b1 b2 b3, Value.slice d1 d2 d3, Value.slice e1 e2 e3, Value.slice f1 f2 f3, Value.slice j1 j2 j3]) K 4) := HCU.out.old hbw
    replace HBW : Hid (Below w.heap.size w W3) := HBW.out.trans (hbw.mono HBW.out.size)
    replace HQB : Hid (PSl W3 (w.heap.size + 1) (Value.slice q1 q2 q3) (Value.slice q4 q5 q6) (Value.bool G.inf)) := HQB.out.keep hbw
    replace HQV : Hid (Pv W3 (Value.agg #[Value.slice q1 q2 q3, Value.slice q4 q5 q6, Value.bool G.inf]) G 4) := HQV.out.old hbw
    replace HV : Hid (Nv W3 (Value.slice v1 v2 v3) (mv : Int) 4) := HV.out.old hbw
    replace HRS : Hid (PSl W3 (w.heap.size + 1 + 1) (.slice none 0 0) (.slice none 0 0) (.bool false)) := HRS.out.keep hbw
    replace HA : Hid (PSl W3 bA (Value.slice Ao1 Ao2 Ao3) (Value.slice Ar1 Ar2 Ar3) (Value.bool sA.inf)) := HA.out.keep hbw
    replace HAV : Hid (Nv W3 (Value.slice Ao1 Ao2 Ao3) sA.x 4 ∧ Nv W3 (Value.slice Ar1 Ar2 Ar3) sA.y 4) := ⟨HAV.out.1.old hbw, HAV.out.2.old hbw⟩
    have HB : Hid (PSl W3 w5.heap.size (.slice Bo1 Bo2 Bo3) (.slice Br1 Br2 Br3) (.bool sB.inf)) := hg3.1
    have HBV : Hid (Nv W3 (.slice Bo1 Bo2 Bo3) sB.x 4 ∧ Nv W3 (.slice Br1 Br2 Br3) sB.y 4) := ⟨Nv.old ⟨Bo1, Bo2, Bo3, qo4, rfl, qo5⟩ hg3.2, Nv.old ⟨Br1, Br2, Br3, qr4, rfl, qr5⟩ hg3.2⟩
    have HMB : Hid (Mt K P G mv sB) := hmtB
    clear hbw hg3 hb5 hmtB cC0 cC1 cC2 cC3 cC4 cC5 cC6 cC7 cC8 yQ0 yQ1 yQ2 yA0 yA1 yA2
    obtain ⟨cC0, cC1, cC2, cC3, cC4, cC5, cC6, cC7, cC8⟩ := cells9 HW.out
    obtain ⟨yA0, yA1, yA2, _, _, _⟩ := HA.out.facts
    obtain ⟨yB0, yB1, yB2, _, _, _⟩ := HB.out.facts
    go_wp2_with fail
    clear hW3
    go_at_call 29
    refine (Add_pt _ _ _ K sA sB 4 W3 HCU.out ⟨_, _, rfl, HAV.out.1, HAV.out.2⟩ ⟨_, _, rfl, HBV.out.1, HBV.out.2⟩ (by decide)).mono ?_
    rintro e w6 ⟨r, hr, hb6, hpa⟩
    obtain ⟨s, hrs, _, _⟩ := add_good HR.out.1 hr (HMA.out.gd HR.out.2.1) (HMB.out.gd HR.out.2.2)
    rw [hrs] at hr hpa
    rcases hpa with ⟨v6, p6, h6, rfl, hv6⟩ | ⟨h6, _⟩
    rotate_left
    · cases h6
    injection h6 with h6
    subst h6
    obtain ⟨_, _, rfl, ⟨z1, z2, z3, z4, rfl, z5⟩, ⟨y1, y2, y3, y4, rfl, y5⟩⟩ := hv6
    have hrs6 := HRS.out.keep hb6
    have HX : Hid (PSl w6 (w.heap.size + 1 + 1) (.slice none 0 0) (.slice none 0 0) (.bool false) ∧ Below w.heap.size w w6 ∧ AddZ K sA sB (some s) ∧ Nv w6 (.slice z1 z2 z3) s.x 4 ∧ Nv w6 (.slice y1 y2 y3) s.y 4) := ⟨hrs6, HBW.out.trans (hb6.mono HBW.out.size), hr, ⟨z1, z2, z3, z4, rfl, z5⟩, ⟨y1, y2, y3, y4, rfl, y5⟩⟩
    obtain ⟨yR0, yR1, yR2, yR3, yR4, yR5⟩ := hrs6.facts
    clear z5 y5 hr hrs hb6 hrs6 cC0 cC1 cC2 cC3 cC4 cC5 cC6 cC7 cC8 yA0 yA1 yA2 yB0 yB1 yB2
    go_wp2_with fail
    have bt := Bt.set3 w6 (w.heap.size + 1 + 1) (.slice z1 z2 z3) (.slice y1 y2 y3) (.bool s.inf)
    refine bodyPost_ret (ret_pt rfl _ _ (w.heap.size + 1 + 1) _ _ _ rfl (HX.out.1.set3 (.slice z1 z2 z3) (.slice y1 y2 y3) (.bool s.inf))) rfl ?_
    exact ⟨sA, sB, s, HMA.out, HMB.out, HX.out.2.2.1, HX.out.2.1.trans (bt.below (by omega) HX.out.2.1.size), _, rfl, .inl ⟨_, s, rfl, rfl, _, _, rfl, HX.out.2.2.2.1.apart HX.out.1 bt, HX.out.2.2.2.2.apart HX.out.1 bt⟩⟩
end Go.Proofs.Ytcobbbamocdbbaa
