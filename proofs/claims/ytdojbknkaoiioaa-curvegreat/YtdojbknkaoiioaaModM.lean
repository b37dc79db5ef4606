/-
  Plain mathematics below a modulus: the same up to multiples, powers by bits, the greatest common divisor, inverses by Euclid's steps. No program in sight.
-/
import Derived.Test.YtdojbknkaoiioaaNum
namespace Go.Proofs.Ytdojbknkaoiioaa
set_option linter.unusedVariables false

/-- The same up to multiples of M. -/
def Cg (M a b : Int) : Prop := ∃ k, a - b = M * k
theorem Cg.refl (M a : Int) : Cg M a a := ⟨0, by simp⟩
theorem Cg.of_eq {M a b : Int} (h : a = b) : Cg M a b := h ▸ Cg.refl M a
theorem Cg.symm {M a b : Int} (h : Cg M a b) : Cg M b a := by obtain ⟨k, hk⟩ := h; exact ⟨-k, by grind⟩
theorem Cg.trans {M a b c : Int} (h : Cg M a b) (h' : Cg M b c) : Cg M a c := by obtain ⟨k, hk⟩ := h; obtain ⟨l, hl⟩ := h'; exact ⟨k + l, by grind⟩
theorem Cg.add {M a b c d : Int} (h : Cg M a b) (h' : Cg M c d) : Cg M (a + c) (b + d) := by obtain ⟨k, hk⟩ := h; obtain ⟨l, hl⟩ := h'; exact ⟨k + l, by grind⟩
theorem Cg.sub {M a b c d : Int} (h : Cg M a b) (h' : Cg M c d) : Cg M (a - c) (b - d) := by obtain ⟨k, hk⟩ := h; obtain ⟨l, hl⟩ := h'; exact ⟨k - l, by grind⟩
theorem Cg.mul {M a b c d : Int} (h : Cg M a b) (h' : Cg M c d) : Cg M (a * c) (b * d) := by
  obtain ⟨k, hk⟩ := h; obtain ⟨l, hl⟩ := h'
  exact ⟨a * l + k * d, by
    have e : a * c - b * d = a * (c - d) + (a - b) * d := by grind
    rw [e, hk, hl]; grind⟩
theorem Cg.neg {M a b : Int} (h : Cg M a b) : Cg M (-a) (-b) := by obtain ⟨k, hk⟩ := h; exact ⟨-k, by grind⟩
theorem Cg.pow {M a b : Int} (h : Cg M a b) : ∀ n : Nat, Cg M (a ^ n) (b ^ n)
  | 0 => by rw [Int.pow_zero, Int.pow_zero]; exact Cg.refl _ _
  | n + 1 => by rw [Int.pow_succ, Int.pow_succ]; exact (Cg.pow h n).mul h
theorem Cg.mod (M a : Int) : Cg M (a % M) a := ⟨-(a / M), by have := Int.emod_add_mul_ediv a M; grind⟩
theorem Cg.emod {M a b : Int} (h : Cg M a b) : a % M = b % M := by
  obtain ⟨k, hk⟩ := h
  rw [show a = b + M * k by omega, Int.add_mul_emod_self_left]
theorem Cg.eq {M a b : Int} (h : Cg M a b) (ha : 0 ≤ a) (ha' : a < M) (hb : 0 ≤ b) (hb' : b < M) : a = b := by
  have := h.emod
  rwa [Int.emod_eq_of_lt ha ha', Int.emod_eq_of_lt hb hb'] at this
theorem cg_of_emod {M a b : Int} (h : a % M = b % M) : Cg M a b := (Cg.mod M a).symm.trans (h ▸ Cg.mod M b)
theorem cg_mult (M a k : Int) : Cg M (a + k * M) a := ⟨k, by grind⟩

/-- The half of a number, and its last bit. -/
theorem half_step (V : Int) (p : Nat) : V / 2 ^ p = 2 * (V / 2 ^ (p + 1)) + V / 2 ^ p % 2 := by
  have hp : (0 : Int) < 2 ^ p := Int.pow_pos (by decide)
  rw [Int.pow_succ, ← Int.ediv_ediv_of_nonneg (by omega)]
  omega
/-- The power by the exponent's bits from p on. -/
def pws (X V : Int) (p : Nat) : Int := X ^ (V / 2 ^ p).toNat
theorem pws_zero (X V : Int) : pws X V 0 = X ^ V.toNat := by simp [pws]
theorem pws_top (X V : Int) (h0 : 0 ≤ V) (L : Nat) (h : V < 2 ^ L) : pws X V L = 1 := by
  unfold pws
  rw [Int.ediv_eq_zero_of_lt h0 h]; exact Int.pow_zero X
theorem pws_even (X V : Int) (h0 : 0 ≤ V) (p : Nat) (h : V / 2 ^ p % 2 = 0) : pws X V p = pws X V (p + 1) * pws X V (p + 1) := by
  have hp : (0 : Int) < 2 ^ (p + 1) := Int.pow_pos (by decide)
  have hq : 0 ≤ V / 2 ^ (p + 1) := Int.ediv_nonneg h0 (by omega)
  have hs := half_step V p
  unfold pws
  rw [← Int.pow_add]
  congr 1
  omega
theorem pws_odd (X V : Int) (h0 : 0 ≤ V) (p : Nat) (h : V / 2 ^ p % 2 = 1) : pws X V p = pws X V (p + 1) * pws X V (p + 1) * X := by
  have hp : (0 : Int) < 2 ^ (p + 1) := Int.pow_pos (by decide)
  have hq : 0 ≤ V / 2 ^ (p + 1) := Int.ediv_nonneg h0 (by omega)
  have hs := half_step V p
  unfold pws
  rw [← Int.pow_add, ← Int.pow_succ]
  congr 1
  omega

/-- The greatest common divisor. -/
def gd (a b : Int) : Int := (Nat.gcd a.toNat b.toNat : Nat)
theorem gd_step (a b : Int) (ha : 0 ≤ a) (hb : 0 ≤ b) : gd a b = gd b (a % b) := by
  unfold gd
  rw [Int.toNat_emod ha hb, Nat.gcd_comm a.toNat b.toNat, Nat.gcd_rec b.toNat a.toNat, Nat.gcd_comm]
theorem gd_zero (a : Int) (ha : 0 ≤ a) : gd a 0 = a := by unfold gd; simp; omega
theorem gd_dvd_left (a b : Int) (ha : 0 ≤ a) : ∃ k, a = gd a b * k := by
  obtain ⟨k, hk⟩ := Nat.gcd_dvd_left a.toNat b.toNat
  exact ⟨k, by unfold gd; rw [← Int.natCast_mul, ← hk]; omega⟩
theorem gd_dvd_right (a b : Int) (hb : 0 ≤ b) : ∃ k, b = gd a b * k := by
  obtain ⟨k, hk⟩ := Nat.gcd_dvd_right a.toNat b.toNat
  exact ⟨k, by unfold gd; rw [← Int.natCast_mul, ← hk]; omega⟩
theorem gd_nonneg (a b : Int) : 0 ≤ gd a b := by unfold gd; omega

/-- Between two of Euclid's steps: left, next, how often each; which of the two stands below 0. -/
def Euc (M A l n t m : Int) (b : Bool) : Prop :=
  0 < l ∧ l ≤ M ∧ 0 ≤ n ∧ n ≤ M ∧ 0 ≤ t ∧ t ≤ M ∧ 0 ≤ m ∧ m ≤ M ∧ t * n + m * l = M ∧ gd l n = gd M A ∧
    Cg M l (bif b then -(t * A) else t * A) ∧ Cg M n (bif b then m * A else -(m * A))
theorem Euc.start (M A : Int) (hM : 0 < M) (h0 : 0 ≤ A) (h1 : A < M) : Euc M A M A 0 1 true :=
  ⟨hM, by omega, h0, by omega, by omega, by omega, by omega, by omega, by omega, rfl, ⟨1, by simp⟩, Cg.of_eq (by simp)⟩
theorem Euc.step {M A l n t m : Int} {b : Bool} (h : Euc M A l n t m b) (hn : 0 < n) : Euc M A n (l % n) m (t + l / n * m) (!b) := by
  obtain ⟨h1, h2, h3, h4, h5, h6, h7, h8, h9, h10, h11, h12⟩ := h
  have r0 := Int.emod_nonneg l (show n ≠ 0 by omega)
  have r1 := Int.emod_lt_of_pos l hn
  have q0 : 0 ≤ l / n := Int.ediv_nonneg (by omega) (by omega)
  have hd := Int.emod_add_mul_ediv l n
  generalize l % n = r at *
  generalize l / n = q at *
  have m0 : 0 ≤ q * m := Int.mul_nonneg q0 h7
  have e : m * r + (t + q * m) * n = M := by rw [← h9, ← hd]; grind
  have p0 : 0 ≤ m * r := Int.mul_nonneg h7 r0
  have p1 : (t + q * m) * 1 ≤ (t + q * m) * n := Int.mul_le_mul_of_nonneg_left (by omega) (by omega)
  refine ⟨hn, h4, r0, by omega, h7, h8, by omega, by omega, e, ?_, ?_, ?_⟩
  · rw [← h10, gd_step l n (by omega) h3]
    congr 1
    rw [← hd, Int.add_mul_emod_self_left, Int.emod_eq_of_lt r0 r1]
  · cases b
    · exact h12
    · exact h12
  · have e2 : r = l - q * n := by rw [← hd]; grind
    rw [e2]
    have h13 := h11.sub ((Cg.refl M q).mul h12)
    cases b
    · exact h13.trans (Cg.of_eq (by simp only [cond_false, cond_true, Bool.not_false]; grind))
    · exact h13.trans (Cg.of_eq (by simp only [cond_false, cond_true, Bool.not_true]; grind))
theorem Euc.done {M A l t m : Int} {b : Bool} (h : Euc M A l 0 t m b) : l = gd M A ∧ Cg M (gd M A) (bif b then -(t * A) else t * A) := by
  obtain ⟨h1, h2, h3, h4, h5, h6, h7, h8, h9, h10, h11, h12⟩ := h
  rw [gd_zero l (by omega)] at h10
  exact ⟨h10, h10 ▸ h11⟩

/-- There is but one inverse. -/
theorem inv_one {M X i j : Int} (hi : Cg M (i * X) 1) (hj : Cg M (j * X) 1) : Cg M i j := by
  have a : Cg M (i * (j * X)) (i * 1) := (Cg.refl M i).mul hj
  have b : Cg M (j * (i * X)) (j * 1) := (Cg.refl M j).mul hi
  have e : i * (j * X) = j * (i * X) := by grind
  rw [e] at a
  exact (Cg.of_eq (by simp)).trans (a.symm.trans (b.trans (Cg.of_eq (by simp))))
/-- What has an inverse has no divisor above 1 together with the modulus. -/
theorem gd_of_inv {M A i : Int} (hM : 0 < M) (hA : 0 ≤ A) (h : Cg M (i * A) 1) : gd M A = 1 := by
  obtain ⟨k, hk⟩ := h
  obtain ⟨x, hx⟩ := gd_dvd_left M A (by omega)
  obtain ⟨y, hy⟩ := gd_dvd_right M A hA
  have h0 := gd_nonneg M A
  generalize gd M A = g at *
  have e : g * (i * y - x * k) = 1 := by
    have e1 : i * (g * y) - g * x * k = 1 := by rw [← hx, ← hy]; omega
    rw [← e1]; grind
  exact Int.eq_one_of_mul_eq_one_right h0 e
end Go.Proofs.Ytdojbknkaoiioaa
