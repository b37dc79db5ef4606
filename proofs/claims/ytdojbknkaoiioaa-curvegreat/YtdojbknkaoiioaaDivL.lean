/-
  Contract of nat.divLimb: how often the divisor is in what is left, and what is left of it then, in its place.
-/
import Derived.Test.YtdojbknkaoiioaaDiv64b
namespace Go.Proofs.Ytdojbknkaoiioaa
open Go.RowKit
set_option linter.unusedVariables false
set_option linter.unusedSimpArgs false
attribute [local go_sem ↓] Go.wp_at_zero Go.wp_at_succ

/-- The guess by the greatest limbs is not too small, and at most 2 too great. -/
theorem guess_bounds (P ll ld xn x v L D : Int) (hP : 0 < P) (hl : 0 ≤ ll ∧ ll < P) (hd : 0 ≤ ld ∧ ld < P) (hx : 0 ≤ x ∧ x < 18446744073709551616) (hxn : 0 ≤ xn) (hv : 9223372036854775808 ≤ v ∧ v < 18446744073709551616)
    (eL : L = ll + P * (xn * 18446744073709551616 + x)) (eD : D = ld + P * v) (hlt : L < 18446744073709551616 * D) :
    L / D ≤ gss xn x v ∧ gss xn x v ≤ L / D + 2 ∧ 0 ≤ gss xn x v ∧ gss xn x v < 18446744073709551616 := by
  have hPv : 0 < P * v := Int.mul_pos hP (by omega)
  have hD : 0 < D := by omega
  have hS : 0 ≤ xn * 18446744073709551616 + x := by omega
  have hL0 : 0 ≤ L := by
    have := Int.mul_nonneg (show 0 ≤ P by omega) hS
    omega
  have hq : L / D < 18446744073709551616 := Int.ediv_lt_of_lt_mul hD hlt
  have hq0 : 0 ≤ L / D := Int.ediv_nonneg hL0 (by omega)
  have hG : 0 ≤ gss xn x v ∧ gss xn x v ≤ 18446744073709551615 ∧ gss xn x v * v ≤ xn * 18446744073709551616 + x := by
    unfold gss
    split
    · rename_i h
      exact ⟨by omega, by omega, by omega⟩
    · rename_i h
      refine ⟨Int.ediv_nonneg hS (by omega), ?_, Int.ediv_mul_le _ (by omega)⟩
      have : (xn * 18446744073709551616 + x) / v < 18446744073709551616 := Int.ediv_lt_of_lt_mul (by omega) (by omega)
      omega
  refine ⟨?_, ?_, hG.1, by omega⟩
  · unfold gss
    split
    · omega
    · apply (Int.le_ediv_iff_mul_le (by omega)).2
      have h1 : L / D * D ≤ L := Int.ediv_mul_le L (by omega)
      have h2 : L / D * (P * v) ≤ L / D * D := Int.mul_le_mul_of_nonneg_left (by omega) hq0
      have h3 : P * (L / D * v) < P * (xn * 18446744073709551616 + x + 1) := by
        have : P * (L / D * v) = L / D * (P * v) := by grind
        rw [this, Int.mul_add]; omega
      have := Int.lt_of_mul_lt_mul_left h3 (by omega)
      omega
  · generalize gss xn x v = G at *
    have h1 : G * ld ≤ 18446744073709551615 * P := Int.mul_le_mul hG.2.1 (by omega) hd.1 (by omega)
    have h2 : P * (G * v) ≤ P * (xn * 18446744073709551616 + x) := Int.mul_le_mul_of_nonneg_left hG.2.2 (by omega)
    have h3 : P * 18446744073709551616 ≤ P * (2 * v) := Int.mul_le_mul_of_nonneg_left (by omega) (by omega)
    have h4 : G * D = G * ld + P * (G * v) := by rw [eD]; grind
    have h5 : P * (2 * v) = 2 * (P * v) := by grind
    have h6 : (G - 2) * D ≤ L := by
      rw [Int.sub_mul, h4]
      omega
    have := (Int.le_ediv_iff_mul_le hD).2 h6
    omega

/-- What stands in the row: G divisors have been taken away; t is the limb above, were it not cut. -/
def Dls (xs : List Int) (L D : Int) (o n : Nat) (cur : List Int) (G t : Int) : Prop :=
  cur.length = xs.length ∧ (∀ j, j < o ∨ o + n < j → cur.getD j 0 = xs.getD j 0) ∧ Dg B64 cur ∧ cur.getD (o + n) 0 = t % 18446744073709551616 ∧
    val B64 (seg cur o n) + B64 ^ n * t = L - G * D ∧ L / D ≤ G ∧ G ≤ L / D + 2
theorem Dls.range {xs : List Int} {L D : Int} {o n : Nat} {cur : List Int} {G t : Int} (h : Dls xs L D o n cur G t) (hD0 : 0 < D) (hD : D < B64 ^ n) (hL : 0 ≤ L) (ho : o + n < xs.length) : -2 ≤ t ∧ t ≤ 0 := by
  obtain ⟨h1, h2, h3, h4, h5, h6, h7⟩ := h
  have hs : Dg B64 (seg cur o n) := (h3.drop o).take n
  have v0 := val_nonneg B64_pos hs
  have v1 := val_lt B64_pos hs
  rw [seg_len cur o n (by omega)] at v1
  have e := Int.mul_ediv_add_emod L D
  have r0 := Int.emod_nonneg L (show D ≠ 0 by omega)
  have r1 := Int.emod_lt_of_pos L hD0
  have m1 : D * (L / D) ≤ D * G := Int.mul_le_mul_of_nonneg_left h6 (by omega)
  have m2 : D * G ≤ D * (L / D + 2) := Int.mul_le_mul_of_nonneg_left h7 (by omega)
  rw [Int.mul_add] at m2
  rw [Int.mul_comm G D] at h5
  have hp : 0 < B64 ^ n := Int.pow_pos B64_pos
  generalize B64 ^ n = p at *
  generalize val B64 (seg cur o n) = V at *
  generalize D * (L / D) = Q at *
  generalize D * G = W at *
  constructor
  · have : p * (-3) < p * t := by omega
    have := Int.lt_of_mul_lt_mul_left this (by omega)
    omega
  · have : p * t < p * 1 := by omega
    have := Int.lt_of_mul_lt_mul_left this (by omega)
    omega
/-- No limb above: done. -/
theorem Dls.done {xs : List Int} {L D : Int} {o n : Nat} {cur : List Int} {G t : Int} (h : Dls xs L D o n cur G t) (hD0 : 0 < D) (hD : D < B64 ^ n) (hL : 0 ≤ L) (ho : o + n < xs.length) (hz : cur.getD (o + n) 0 = 0) :
    G = L / D ∧ val B64 (seg cur o (n + 1)) = L % D := by
  have ht := h.range hD0 hD hL ho
  obtain ⟨h1, h2, h3, h4, h5, h6, h7⟩ := h
  have t0 : t = 0 := by omega
  have hs : Dg B64 (seg cur o n) := (h3.drop o).take n
  have v0 := val_nonneg B64_pos hs
  rw [t0, Int.mul_zero, Int.add_zero] at h5
  have : G ≤ L / D := (Int.le_ediv_iff_mul_le hD0).2 (by omega)
  have hG : G = L / D := by omega
  refine ⟨hG, ?_⟩
  rw [seg_succ _ _ _ (by omega), val_append, hz]
  simp only [val, Int.mul_zero, Int.add_zero]
  rw [h5, hG, Int.emod_def, Int.mul_comm]
/-- A limb above: the guess was too great. -/
theorem Dls.more {xs : List Int} {L D : Int} {o n : Nat} {cur : List Int} {G t : Int} (h : Dls xs L D o n cur G t) (hD0 : 0 < D) (hD : D < B64 ^ n) (hL : 0 ≤ L) (ho : o + n < xs.length) (hz : cur.getD (o + n) 0 ≠ 0) : L / D < G := by
  obtain ⟨h1, h2, h3, h4, h5, h6, h7⟩ := h
  by_cases hG : G = L / D
  · exfalso
    have hs : Dg B64 (seg cur o n) := (h3.drop o).take n
    have v0 := val_nonneg B64_pos hs
    have v1 := val_lt B64_pos hs
    rw [seg_len cur o n (by omega)] at v1
    have e := Int.mul_ediv_add_emod L D
    have r0 := Int.emod_nonneg L (show D ≠ 0 by omega)
    have r1 := Int.emod_lt_of_pos L hD0
    rw [hG, Int.mul_comm (L / D) D] at h5
    have hp : 0 < B64 ^ n := Int.pow_pos B64_pos
    generalize B64 ^ n = p at *
    generalize val B64 (seg cur o n) = V at *
    generalize D * (L / D) = Q at *
    have a : p * (-1) < p * t := by omega
    have a := Int.lt_of_mul_lt_mul_left a (by omega)
    have b : p * t < p * 1 := by omega
    have b := Int.lt_of_mul_lt_mul_left b (by omega)
    have : t = 0 := by omega
    rw [this] at h4
    exact hz h4
  · omega
/-- Behind subTimes and the limb above. -/
theorem Dls.start {xs ds : List Int} {o n : Nat} {cur : List Int} {G c : Int} (hr : Runs (-1) xs ds o n G cur c) (hn : ds.length = n) (ho : o + n < xs.length) {L D : Int} (eL : L = val B64 (seg xs o (n + 1))) (eD : D = val B64 ds)
    (g1 : L / D ≤ G) (g2 : G ≤ L / D + 2) : Dls xs L D o n (cur.set (o + n) (IntKind.u64.wrap (xs.getD (o + n) 0 - c))) G (xs.getD (o + n) 0 - c) := by
  obtain ⟨r1, r2, r3, r4, r5, r6⟩ := hr
  rw [IntKind.wrap_u64]
  refine ⟨by simp [r1], fun j hj => ?_, r3.set _ ⟨by omega, by unfold B64; omega⟩, ?_, ?_, g1, g2⟩
  · rw [getD_set _ _ _ _ (by omega), if_neg (by omega)]
    exact r2 j (by omega)
  · rw [getD_set _ _ _ _ (by omega), if_pos rfl]
  · rw [seg_set, eL, eD, seg_succ xs o n ho, val_append, seg_len xs o n (by omega)]
    simp only [val, Int.mul_zero, Int.add_zero]
    rw [← hn, List.take_of_length_le (Nat.le_refl _)] at r6
    rw [← hn]
    generalize val B64 (seg cur o ds.length) = A at *
    generalize val B64 (seg xs o ds.length) = X at *
    generalize val B64 ds = Y at *
    generalize B64 ^ ds.length = p at *
    generalize xs.getD (o + ds.length) 0 = x at *
    grind
/-- Behind addTimes and the limb above. -/
theorem Dls.step {xs ds : List Int} {o n : Nat} {cur cur' : List Int} {G t c L D : Int} (h : Dls xs L D o n cur G t) (hr : Runs 1 cur ds o n 1 cur' c) (hn : ds.length = n) (ho : o + n < xs.length) (eD : D = val B64 ds) (hG : L / D < G) :
    Dls xs L D o n (cur'.set (o + n) (IntKind.u64.wrap (cur.getD (o + n) 0 + c))) (G - 1) (t + c) := by
  obtain ⟨h1, h2, h3, h4, h5, h6, h7⟩ := h
  obtain ⟨r1, r2, r3, r4, r5, r6⟩ := hr
  rw [IntKind.wrap_u64]
  refine ⟨by simp [r1, h1], fun j hj => ?_, r3.set _ ⟨by omega, by unfold B64; omega⟩, ?_, ?_, by omega, by omega⟩
  · rw [getD_set _ _ _ _ (by omega), if_neg (by omega), r2 j (by omega)]
    exact h2 j hj
  · rw [getD_set _ _ _ _ (by omega), if_pos rfl, h4]
    omega
  · rw [seg_set]
    rw [← hn, List.take_of_length_le (Nat.le_refl _)] at r6
    rw [← hn] at h5 ⊢
    rw [← eD] at r6
    generalize val B64 (seg cur o ds.length) = A at *
    generalize val B64 (seg cur' o ds.length) = X at *
    generalize B64 ^ ds.length = p at *
    grind

/-- A divisor whose greatest bit is set. -/
structure Dv (w : World) (ao : Option Addr) (n : Nat) (ds : List Int) : Prop where
  lies : Lies .u64 w ao n ds
  dg : Dg B64 ds
  pos : 0 < n
  big : 9223372036854775808 ≤ ds.getD (n - 1) 0
theorem Dv.range {w : World} {ao : Option Addr} {n : Nat} {ds : List Int} (h : Dv w ao n ds) : 0 < val B64 ds ∧ val B64 ds < B64 ^ n := by
  have hl := h.lies.len
  have hp := h.pos
  have hb := h.big
  have ht : top ds = (n - 1) + 1 := by
    rw [show n - 1 + 1 = n by omega]
    exact top_eq ds n (fun j h1 h2 => by omega) (.inr (by omega))
  have a := val_ge B64_pos h.dg (n - 1) ht
  have b := val_lt B64_pos h.dg
  have c : (0 : Int) < B64 ^ (n - 1) := Int.pow_pos B64_pos
  rw [hl] at b
  exact ⟨by omega, b⟩
theorem split_top (xs : List Int) (o n : Nat) (hn : 0 < n) (h : o + n ≤ xs.length) : val B64 (seg xs o n) = val B64 (seg xs o (n - 1)) + B64 ^ (n - 1) * xs.getD (o + (n - 1)) 0 := by
  have e : n = (n - 1) + 1 := by omega
  conv => lhs; rw [e]
  rw [seg_succ _ _ _ (by omega), val_append, seg_len _ _ _ (by omega)]
  simp [val]
theorem pow_pred (n : Nat) (h : 0 < n) : B64 ^ n = B64 ^ (n - 1) * B64 := by
  obtain ⟨m, rfl⟩ : ∃ m, n = m + 1 := ⟨n - 1, by omega⟩
  rw [Nat.add_sub_cancel, Int.pow_succ]
/-- The guess of divLimb. -/
theorem Dv.guess {w : World} {ao : Option Addr} {n : Nat} {ds xs : List Int} (h : Dv w ao n ds) (hx : Dg B64 xs) (o : Nat) (ho : o + n < xs.length) (hlt : val B64 (seg xs o (n + 1)) < 18446744073709551616 * val B64 ds) :
    val B64 (seg xs o (n + 1)) / val B64 ds ≤ gss (xs.getD (o + n) 0) (xs.getD (o + (n - 1)) 0) (ds.getD (n - 1) 0) ∧
    gss (xs.getD (o + n) 0) (xs.getD (o + (n - 1)) 0) (ds.getD (n - 1) 0) ≤ val B64 (seg xs o (n + 1)) / val B64 ds + 2 ∧
    0 ≤ gss (xs.getD (o + n) 0) (xs.getD (o + (n - 1)) 0) (ds.getD (n - 1) 0) ∧ gss (xs.getD (o + n) 0) (xs.getD (o + (n - 1)) 0) (ds.getD (n - 1) 0) < 18446744073709551616 := by
  have hl := h.lies.len
  have hp := h.pos
  have e1 := split_top xs o (n + 1) (by omega) (by omega)
  have e2 := split_top xs o n hp (by omega)
  have e3 := split_top ds 0 n hp (by omega)
  have e4 : seg ds 0 n = ds := by unfold seg; rw [List.drop_zero, List.take_of_length_le (by omega)]
  rw [e4] at e3
  simp only [Nat.add_sub_cancel, Nat.zero_add] at e1 e3
  rw [e2] at e1
  have eB : B64 ^ n = B64 ^ (n - 1) * B64 := pow_pred n hp
  have l0 := val_nonneg B64_pos ((hx.drop o).take (n - 1))
  have l1 := val_lt B64_pos ((hx.drop o).take (n - 1))
  have d0 := val_nonneg B64_pos ((h.dg.drop 0).take (n - 1))
  have d1 := val_lt B64_pos ((h.dg.drop 0).take (n - 1))
  have s1 := seg_len xs o (n - 1) (by omega)
  have s2 := seg_len ds 0 (n - 1) (by omega)
  unfold seg at s1 s2
  rw [s1] at l1
  rw [s2] at d1
  refine guess_bounds (B64 ^ (n - 1)) (val B64 (seg xs o (n - 1))) (val B64 (seg ds 0 (n - 1))) _ _ _ _ _ (Int.pow_pos B64_pos) ⟨l0, l1⟩ ⟨d0, d1⟩ (hx.getD B64_pos _) (hx.getD B64_pos _).1 ⟨h.big, (h.dg.getD B64_pos _).2⟩ ?_ e3 hlt
  rw [e1, eB]
  have e5 : B64 = 18446744073709551616 := rfl
  generalize B64 ^ (n - 1) = p at *
  rw [e5]
  grind

end Go.Proofs.Ytdojbknkaoiioaa
