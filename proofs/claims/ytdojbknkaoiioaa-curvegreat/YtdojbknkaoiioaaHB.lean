/-
  Numbers below a prime, as a ring without divisors of nothing.
-/
import Derived.Test.YtdojbknkaoiioaaHA
namespace Go.Proofs.Ytdojbknkaoiioaa
set_option linter.unusedVariables false
set_option linter.unusedSimpArgs false

/-- A number as one below P. -/
def fp (P : Nat) [NeZero P] (a : Int) : Fin P := ⟨(a % (P : Int)).toNat, by
  have h0 : (0 : Int) < P := by have := Nat.pos_of_ne_zero (NeZero.ne P); omega
  have h1 := Int.emod_lt_of_pos a h0
  have h2 := Int.emod_nonneg a (b := (P : Int)) (by omega)
  omega⟩
theorem fp_val (P : Nat) [NeZero P] (a : Int) : ((fp P a).val : Int) = a % P := by
  have h0 : (0 : Int) < P := by have := Nat.pos_of_ne_zero (NeZero.ne P); omega
  have h2 := Int.emod_nonneg a (b := (P : Int)) (by omega)
  show (((a % (P : Int)).toNat : Nat) : Int) = _
  omega
theorem fp_eq (P : Nat) [NeZero P] {a b : Int} : fp P a = fp P b ↔ a % P = b % P := by
  constructor
  · intro h
    rw [← fp_val, ← fp_val, h]
  · intro h
    apply Fin.ext
    have := fp_val P a
    have := fp_val P b
    omega
theorem fp_mod (P : Nat) [NeZero P] (a : Int) : fp P (a % P) = fp P a := by
  rw [fp_eq, Int.emod_emod]
theorem fp_add (P : Nat) [NeZero P] (a b : Int) : fp P (a + b) = fp P a + fp P b := by
  apply Fin.ext
  have h1 := fp_val P (a + b)
  have h2 : ((fp P a + fp P b).val : Int) = ((fp P a).val + (fp P b).val : Nat) % P := by rw [Fin.val_add]; simp
  have h3 := fp_val P a
  have h4 := fp_val P b
  have : ((fp P (a + b)).val : Int) = ((fp P a + fp P b).val : Int) := by
    rw [h1, h2, Int.natCast_add, h3, h4, ← Int.add_emod]
  omega
theorem fp_mul (P : Nat) [NeZero P] (a b : Int) : fp P (a * b) = fp P a * fp P b := by
  apply Fin.ext
  have h1 := fp_val P (a * b)
  have h2 : ((fp P a * fp P b).val : Int) = ((fp P a).val * (fp P b).val : Nat) % P := by rw [Fin.val_mul]; simp
  have h3 := fp_val P a
  have h4 := fp_val P b
  have : ((fp P (a * b)).val : Int) = ((fp P a * fp P b).val : Int) := by
    rw [h1, h2, Int.natCast_mul, h3, h4, ← Int.mul_emod]
  omega
theorem fp_zero (P : Nat) [NeZero P] : fp P 0 = 0 := by
  apply Fin.ext
  have h1 := fp_val P 0
  rw [Int.zero_emod] at h1
  have : ((0 : Fin P).val : Int) = 0 := by simp
  omega
theorem fp_sub (P : Nat) [NeZero P] (a b : Int) : fp P (a - b) = fp P a - fp P b := by
  have h := fp_add P (a - b) b
  rw [show a - b + b = a by omega] at h
  rw [h]
  grind
theorem fp_self (P : Nat) [NeZero P] (x : Fin P) : fp P (x.val : Int) = x := by
  apply Fin.ext
  have h1 := fp_val P (x.val : Int)
  rw [Int.emod_eq_of_lt (by omega) (by have := x.isLt; omega)] at h1
  omega
/-- A product is a multiple of P only if one of the two is. -/
def PrimeN (P : Nat) : Prop := ∀ a b : Nat, P ∣ a * b → P ∣ a ∨ P ∣ b
theorem fin_zero {P : Nat} [NeZero P] {x : Fin P} : x = 0 ↔ P ∣ x.val := by
  constructor
  · intro h; rw [h]; exact ⟨0, by simp⟩
  · intro h
    apply Fin.ext
    have h1 := x.isLt
    have : x.val = 0 := Nat.eq_zero_of_dvd_of_lt h h1
    simpa using this
theorem dom_fin {P : Nat} [NeZero P] (hp : PrimeN P) (h2 : P % 2 = 1) : Dom P := by
  refine ⟨fun a b h => ?_, fun a h => ?_⟩
  · have h1 : P ∣ a.val * b.val := by
      have h3 := congrArg Fin.val h
      rw [Fin.val_mul] at h3
      exact Nat.dvd_of_mod_eq_zero (by simpa using h3)
    rcases hp _ _ h1 with h3 | h3
    · exact .inl (fin_zero.2 h3)
    · exact .inr (fin_zero.2 h3)
  · have h1 : P ∣ a.val + a.val := by
      have h3 := congrArg Fin.val h
      rw [Fin.val_add] at h3
      exact Nat.dvd_of_mod_eq_zero (by simpa using h3)
    refine fin_zero.2 ?_
    obtain ⟨k, hk⟩ := h1
    have h5 := a.isLt
    have : a.val = 0 := by
      rcases k with _ | _ | k
      · omega
      · omega
      · have h6 : P * (k + 1 + 1) = P * k + P + P := by rw [Nat.mul_add, Nat.mul_add]; omega
        omega
    rw [this]
    exact ⟨0, by simp⟩
/-- A prime, by divisors. -/
theorem prime_of {P : Nat} (h : ∀ a, a < P → a ≠ 0 → Nat.gcd P a = 1) : PrimeN P := by
  intro a b hab
  by_cases h0 : a % P = 0
  · exact .inl (Nat.dvd_of_mod_eq_zero h0)
  · right
    rcases Nat.eq_zero_or_pos P with rfl | hP
    · simp at h0
      obtain ⟨k, hk⟩ := hab
      rw [Nat.zero_mul] at hk
      rcases Nat.mul_eq_zero.1 hk with h1 | h1
      · exact absurd h1 h0
      · rw [h1]; exact ⟨0, rfl⟩
    · have hg := h (a % P) (Nat.mod_lt _ hP) h0
      have hc : Nat.gcd P a = 1 := by rw [Nat.gcd_rec, Nat.gcd_comm]; exact hg
      exact Nat.Coprime.dvd_of_dvd_mul_left hc hab
/-- No point is singular where the discriminant isn't 0. -/
theorem smooth_of {P : Nat} [NeZero P] {A B : Fin P} (h : ¬ 4 * (A * A * A) + 27 * (B * B) = 0) : Smooth A B := by
  intro x h1 h2
  apply h
  have hA : A = -(x * x + x * x + x * x) := by clear h h1; grind
  have hB : B = x * x * x + x * x * x := by rw [hA] at h1; clear h h2 hA; grind
  rw [hA, hB]
  clear h h1 h2 hA hB
  grind
end Go.Proofs.Ytdojbknkaoiioaa
