/-
  Contract of nat.Div.
-/
import Derived.Test.YtdojbknkaoiioaaDivW
namespace Go.Proofs.Ytdojbknkaoiioaa
open Go.RowKit
set_option linter.unusedVariables false
set_option linter.unusedSimpArgs false
attribute [local go_sem ↓] Go.wp_at_zero Go.wp_at_succ

/-- nat.Shift by few, multiplied. -/
theorem Shift_neg (ao : Option Addr) (la ca : Nat) (xs : List Int) (t : Nat) (w : World) (h : NumIn .u64 B64 w ao la ca xs) (ht : t < 64) (hlb : la < 1073741000) :
    Calls Try.prog 68 #[.slice ao la ca, .int .i64 (-(t : Int))] w fun e w' => ∃ v, e = .returned v ∧ NumOut .u64 B64 w w' v (val B64 xs * 2 ^ t) (la + 1) := by
  by_cases h0 : t = 0
  · subst h0
    refine (Shift_down ao la ca xs 0 w h (by decide)).mono ?_
    rintro e w' ⟨v, rfl, a, b, c, d, rfl, e1, e2, e3, e4, e5⟩
    refine ⟨_, rfl, a, b, c, d, rfl, e1, e2, ?_, by omega, e5⟩
    rw [e3]; simp
  · refine (Shift_up ao la ca xs t w h (by omega) (by omega) hlb).mono ?_
    rintro e w' ⟨v, rfl, a, b, c, d, rfl, e1, e2, e3, e4, e5⟩
    exact ⟨_, rfl, a, b, c, d, rfl, e1, e2, e3, by omega, e5⟩

/-- How many digits a number without zeros above has. -/
theorem canon_len {xs : List Int} (hd : Dg B64 xs) (hc : Canon xs) (n : Nat) (h1 : B64 ^ n ≤ val B64 xs) (h2 : val B64 xs < B64 ^ (n + 1)) : xs.length = n + 1 := by
  unfold Canon at hc
  have a := val_lt B64_pos hd
  rcases Nat.lt_trichotomy xs.length (n + 1) with h | h | h
  · have := pow_mono (B := B64) (by decide) (show xs.length ≤ n by omega)
    omega
  · exact h
  · have b := val_ge B64_pos hd (xs.length - 1) (by omega)
    have := pow_mono (B := B64) (by decide) (show n + 1 ≤ xs.length - 1 by omega)
    omega

/-- The divisor, shifted. -/
theorem norm_div (ys : List Int) (hd : Dg B64 ys) (n : Nat) (hn : ys.length = n + 1) (hc : Canon ys) :
    ∃ t, t < 64 ∧ 64 - blen (ys.getD n 0).toNat = t ∧ 9223372036854775808 * B64 ^ n ≤ val B64 ys * 2 ^ t ∧ val B64 ys * 2 ^ t < B64 ^ (n + 1) := by
  have hg := hd.getD B64_pos n
  have ht : ys.getD n 0 ≠ 0 := by
    have := top_hit ys (by unfold Canon at hc; omega)
    unfold Canon at hc
    rw [hc, hn] at this
    simpa using this
  have hv := split_top ys 0 (n + 1) (by omega) (by omega)
  have e4 : seg ys 0 (n + 1) = ys := by unfold seg; rw [List.drop_zero, List.take_of_length_le (by omega)]
  rw [e4] at hv
  simp only [Nat.add_sub_cancel, Nat.zero_add] at hv
  have l0 := val_nonneg B64_pos ((hd.drop 0).take n)
  have l1 := val_lt B64_pos ((hd.drop 0).take n)
  have s2 := seg_len ys 0 n (by omega)
  have l0' : 0 ≤ val B64 (seg ys 0 n) := l0
  have l1' : val B64 (seg ys 0 n) < B64 ^ n := by
    have : val B64 (seg ys 0 n) < B64 ^ (seg ys 0 n).length := l1
    rwa [s2] at this
  generalize val B64 (seg ys 0 n) = lo at *
  generalize ys.getD n 0 = d at *
  obtain ⟨e, rfl⟩ := Int.eq_ofNat_of_zero_le hg.1
  have hne : e ≠ 0 := by omega
  have hlt : e < 2 ^ 64 := by have := hg.2; unfold B64 at this; omega
  have b0 := blen_le e 64 hlt
  have b1 := blen_lt e
  have b2 := blen_ge e hne
  have b3 := blen_pos e hne
  rw [Int.toNat_natCast]
  obtain ⟨t, et⟩ : ∃ t, 64 - blen e = t := ⟨_, rfl⟩
  refine ⟨t, by omega, et, ?_, ?_⟩
  · have c1 : 2 ^ 63 ≤ e * 2 ^ t := by
      have : 2 ^ (blen e - 1) * 2 ^ t ≤ e * 2 ^ t := Nat.mul_le_mul_right _ b2
      rw [← Nat.pow_add, show blen e - 1 + t = 63 by omega] at this
      exact this
    have c2 : (9223372036854775808 : Int) ≤ (e : Int) * 2 ^ t := by
      have : ((2 ^ 63 : Nat) : Int) ≤ ((e * 2 ^ t : Nat) : Int) := by omega
      rw [Int.natCast_mul, Int.natCast_pow] at this
      exact this
    have hp : (0 : Int) < B64 ^ n := Int.pow_pos B64_pos
    have c3 := Int.mul_le_mul_of_nonneg_right c2 (show (0 : Int) ≤ B64 ^ n by omega)
    have c4 : 0 ≤ lo * 2 ^ t := Int.mul_nonneg l0' (Int.le_of_lt (Int.pow_pos (by decide)))
    rw [hv, Int.add_mul]
    have : B64 ^ n * (e : Int) * 2 ^ t = (e : Int) * 2 ^ t * B64 ^ n := by grind
    omega
  · have c1 : (e + 1) * 2 ^ t ≤ 2 ^ 64 := by
      have : (e + 1) * 2 ^ t ≤ 2 ^ blen e * 2 ^ t := Nat.mul_le_mul_right _ (by omega)
      rw [← Nat.pow_add, show blen e + t = 64 by omega] at this
      exact this
    have c2 : ((e : Int) + 1) * 2 ^ t ≤ B64 := by
      have : (((e + 1) * 2 ^ t : Nat) : Int) ≤ ((2 ^ 64 : Nat) : Int) := by omega
      rw [Int.natCast_mul, Int.natCast_pow, Int.natCast_add] at this
      exact this
    have hp : (0 : Int) < 2 ^ t := Int.pow_pos (by decide)
    have hp2 : (0 : Int) < B64 ^ n := Int.pow_pos B64_pos
    have c3 : (lo + B64 ^ n * e) * 2 ^ t < (B64 ^ n + B64 ^ n * e) * 2 ^ t := Int.mul_lt_mul_of_pos_right (by omega) hp
    have c4 : (B64 ^ n + B64 ^ n * (e : Int)) * 2 ^ t = B64 ^ n * (((e : Int) + 1) * 2 ^ t) := by grind
    have c5 : B64 ^ n * (((e : Int) + 1) * 2 ^ t) ≤ B64 ^ n * B64 := Int.mul_le_mul_of_nonneg_left c2 (by omega)
    rw [hv, Int.pow_succ]
    omega

/-- What stands in both rows when the places from p on are done. -/
def Dvs (X D : Int) (lx m p : Nat) (cur qs : List Int) : Prop :=
  cur.length = lx + 1 ∧ Dg B64 cur ∧ qs.length = m ∧ Dg B64 qs ∧ val B64 cur < B64 ^ p * D ∧ X = val B64 cur + B64 ^ p * val B64 (qs.drop p) * D
theorem seg_whole (xs : List Int) (k n : Nat) (hk : k + n ≤ xs.length) (hz : ∀ j, k + n ≤ j → xs.getD j 0 = 0) : val B64 xs = low B64 xs k + B64 ^ k * val B64 (seg xs k n) := by
  rw [← low_add _ _ _ _ hk]
  refine (low_all _ _ _ ?_).symm
  by_cases h : top xs ≤ k + n
  · exact h
  · exfalso
    exact top_hit xs (by omega) (hz _ (by omega))
theorem high_zero {xs : List Int} (hd : Dg B64 xs) (n : Nat) (h : val B64 xs < B64 ^ n) (j : Nat) (hj : n ≤ j) : xs.getD j 0 = 0 := by
  apply top_above
  by_cases ht : top xs ≤ n
  · omega
  · exfalso
    obtain ⟨m, hm⟩ : ∃ m, top xs = m + 1 := ⟨top xs - 1, by omega⟩
    have := val_ge B64_pos hd m hm
    have := pow_mono (B := B64) (by decide) (show n ≤ m by omega)
    omega
theorem drop_cons (qs : List Int) (k : Nat) (h : k < qs.length) : qs.drop k = qs.getD k 0 :: qs.drop (k + 1) := by
  rw [List.drop_eq_getElem_cons h]
  simp [List.getD, List.getElem?_eq_getElem h]
theorem Dvs.pre {X D : Int} {lx m k n : Nat} {cur qs : List Int} (h : Dvs X D lx m (k + 1) cur qs) (hn : k + n + 1 ≤ lx + 1) (hD : D < B64 ^ n) (hD0 : 0 < D) :
    val B64 cur = low B64 cur k + B64 ^ k * val B64 (seg cur k (n + 1)) ∧ val B64 (seg cur k (n + 1)) < 18446744073709551616 * D := by
  obtain ⟨h1, h2, h3, h4, h5, h6⟩ := h
  have hp : (0 : Int) < B64 ^ k := Int.pow_pos B64_pos
  have hpp : (0 : Int) < B64 ^ (k + 1) := Int.pow_pos B64_pos
  have hb : val B64 cur < B64 ^ (k + 1 + n) := by
    rw [Int.pow_add]
    have := Int.mul_lt_mul_of_pos_left hD hpp
    omega
  have hz := high_zero h2 (k + 1 + n) hb
  have e := seg_whole cur k (n + 1) (by omega) (fun j hj => hz j (by omega))
  refine ⟨e, ?_⟩
  have l0 : 0 ≤ low B64 cur k := val_nonneg B64_pos (h2.take k)
  have : B64 ^ k * val B64 (seg cur k (n + 1)) < B64 ^ k * (18446744073709551616 * D) := by
    have e2 : B64 ^ (k + 1) * D = B64 ^ k * (18446744073709551616 * D) := by rw [Int.pow_succ]; have : B64 = 18446744073709551616 := rfl; rw [Int.mul_assoc]; conv => lhs; rw [show B64 * D = 18446744073709551616 * D from by rw [this]]
    omega
  exact Int.lt_of_mul_lt_mul_left this (by omega)
theorem Dvs.step {X D : Int} {lx m k n : Nat} {cur cur' qs : List Int} {G : Int} (h : Dvs X D lx m (k + 1) cur qs) (hn : k + n + 1 ≤ lx + 1) (hk : k < m) (hD : D < B64 ^ n) (hD0 : 0 < D)
    (c1 : cur'.length = cur.length) (c2 : Dg B64 cur') (c3 : ∀ j, j < k ∨ k + n < j → cur'.getD j 0 = cur.getD j 0) (eG : G = val B64 (seg cur k (n + 1)) / D) (eR : val B64 (seg cur' k (n + 1)) = val B64 (seg cur k (n + 1)) % D) :
    (0 ≤ G ∧ G < 18446744073709551616) ∧ Dvs X D lx m k cur' (qs.set k G) := by
  obtain ⟨p1, p2⟩ := h.pre hn hD hD0
  obtain ⟨h1, h2, h3, h4, h5, h6⟩ := h
  have hp : (0 : Int) < B64 ^ k := Int.pow_pos B64_pos
  have hb : val B64 cur < B64 ^ (k + 1 + n) := by
    have hpp : (0 : Int) < B64 ^ (k + 1) := Int.pow_pos B64_pos
    rw [Int.pow_add]
    have := Int.mul_lt_mul_of_pos_left hD hpp
    omega
  have hz := high_zero h2 (k + 1 + n) hb
  have s0 : 0 ≤ val B64 (seg cur k (n + 1)) := val_nonneg B64_pos ((h2.drop k).take (n + 1))
  have hG : 0 ≤ G ∧ G < 18446744073709551616 := ⟨by rw [eG]; exact Int.ediv_nonneg s0 (by omega), by rw [eG]; exact Int.ediv_lt_of_lt_mul hD0 p2⟩
  have q1 := seg_whole cur' k (n + 1) (by omega) (fun j hj => by rw [c3 j (by omega)]; exact hz j (by omega))
  rw [low_congr B64 cur' cur k (fun j hj => c3 j (by omega)), eR] at q1
  have l0 : 0 ≤ low B64 cur k := val_nonneg B64_pos (h2.take k)
  have l1 : low B64 cur k < B64 ^ k := by
    have a := val_lt B64_pos (h2.take k)
    have b : (cur.take k).length = k := by simp; omega
    rw [b] at a; exact a
  have r0 := Int.emod_nonneg (val B64 (seg cur k (n + 1))) (show D ≠ 0 by omega)
  have r1 := Int.emod_lt_of_pos (val B64 (seg cur k (n + 1))) hD0
  refine ⟨hG, by omega, c2, by simp [h3], h4.set _ hG, ?_, ?_⟩
  · rw [q1]
    have : B64 ^ k * (val B64 (seg cur k (n + 1)) % D + 1) ≤ B64 ^ k * D := Int.mul_le_mul_of_nonneg_left (by omega) (by omega)
    rw [Int.mul_add] at this
    omega
  · have e1 : (qs.set k G).drop k = G :: qs.drop (k + 1) := by
      rw [drop_cons _ _ (by simp; omega), getD_set _ _ _ _ (by omega), if_pos rfl, List.drop_set_of_lt (by omega)]
    rw [e1, val, h6, p1, q1, Int.pow_succ]
    have e2 := Int.mul_ediv_add_emod (val B64 (seg cur k (n + 1))) D
    rw [← eG] at e2
    generalize val B64 (seg cur k (n + 1)) % D = r at *
    generalize val B64 (qs.drop (k + 1)) = Q at *
    rw [← e2]
    generalize low B64 cur k = l at *
    generalize B64 ^ k = p at *
    generalize B64 = b at *
    grind
theorem Dvs.done {D : Int} {lx m t : Nat} {cur qs : List Int} {x y : Int} (h : Dvs (x * 2 ^ t) D lx m 0 cur qs) (eD : D = y * 2 ^ t) (hD0 : 0 < D) : val B64 qs = x / y ∧ val B64 cur / 2 ^ t = x % y := by
  obtain ⟨h1, h2, h3, h4, h5, h6⟩ := h
  simp only [Int.pow_zero, Int.one_mul, List.drop_zero] at h5 h6
  have hp : (0 : Int) < 2 ^ t := Int.pow_pos (by decide)
  have v0 := val_nonneg B64_pos h2
  have hy : 0 < y := by
    by_cases hy : 0 < y
    · exact hy
    · exfalso
      have : y * 2 ^ t ≤ 0 * 2 ^ t := Int.mul_le_mul_of_nonneg_right (by omega) (by omega)
      omega
  have e1 : x * 2 ^ t / D = val B64 qs := by
    rw [h6, Int.add_mul_ediv_right _ _ (by omega), Int.ediv_eq_zero_of_lt v0 h5]; omega
  have e2 : x * 2 ^ t % D = val B64 cur := by
    rw [h6, Int.add_mul_emod_self_right]; exact Int.emod_eq_of_lt v0 h5
  rw [eD] at e1 e2
  rw [Int.mul_ediv_mul_of_pos_left _ _ hp] at e1
  rw [Int.mul_comm x, Int.mul_comm y, Int.mul_emod_mul_of_pos _ _ hp] at e2
  refine ⟨e1.symm, ?_⟩
  rw [← e2, Int.mul_ediv_cancel_left _ (by omega)]
end Go.Proofs.Ytdojbknkaoiioaa
