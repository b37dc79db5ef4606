/-
  Contracts of the document's answer: the product (Mul).
-/
import Derived.Test.YtbhjidmbihkppaaRefL
namespace Go.Proofs.Ytbhjidmbihkppaa
open Go.RowKit
set_option linter.unusedVariables false
set_option linter.unusedSimpArgs false

theorem Row.drewN {e : TypeId} {k : IntKind} {w : World} {g : Nat} {xs : List Int} (h : Row e k w g xs) (n : Nat) : Row e k (w.drewN n) g xs := h

/-- What Mul has gathered: i digits' rows whole, k products of the next; what is carried. -/
def RMuls (xs ys : List Int) (n i k : Nat) (cur : List Int) (c : Int) : Prop :=
  cur.length = n ∧ Dg D16 cur ∧ 0 ≤ c ∧ c < 65536 ∧ val D16 cur + D16 ^ (i + k) * c = low D16 xs i * val D16 ys + D16 ^ i * (xs.getD i 0 * low D16 ys k)
theorem RMuls.zero (xs ys : List Int) (n : Nat) : RMuls xs ys n 0 0 (List.replicate n 0) 0 :=
  ⟨by simp, Dg.zeros D16_pos _, by decide, by decide, by rw [val_replicate, low_zero, low_zero]; simp⟩
theorem RMuls.top {xs ys : List Int} {n i k : Nat} {cur : List Int} {c : Int} (h : RMuls xs ys n i k cur c) (hx : Dg D16 xs) (hy : Dg D16 ys) (hi : i < xs.length) (hc : 0 < c) : k ≤ ys.length := by
  obtain ⟨h1, h2, h3, h4, h5⟩ := h
  by_cases hk : k ≤ ys.length
  · exact hk
  · exfalso
    have hv := val_nonneg D16_pos h2
    have hlow : low D16 ys k = val D16 ys := low_all _ _ _ (by have := top_le ys; omega)
    rw [hlow] at h5
    have hY := val_lt D16_pos hy
    have hY0 := val_nonneg D16_pos hy
    have e1 : low D16 xs i * val D16 ys + D16 ^ i * (xs.getD i 0 * val D16 ys) = low D16 xs (i + 1) * val D16 ys := by rw [low_succ]; grind
    rw [e1] at h5
    have hX : low D16 xs (i + 1) < D16 ^ (i + 1) := by
      have a := val_lt D16_pos (hx.take (i + 1))
      have b : (xs.take (i + 1)).length = i + 1 := by simp; omega
      rw [b] at a; exact a
    have hX0 : 0 ≤ low D16 xs (i + 1) := val_nonneg D16_pos (hx.take _)
    have hp1 : 0 < D16 ^ (i + 1) := Int.pow_pos D16_pos
    have hp2 : 0 < D16 ^ ys.length := Int.pow_pos D16_pos
    have m1 : low D16 xs (i + 1) * val D16 ys ≤ low D16 xs (i + 1) * D16 ^ ys.length := Int.mul_le_mul_of_nonneg_left (by omega) hX0
    have m2 : (low D16 xs (i + 1) + 1) * D16 ^ ys.length ≤ D16 ^ (i + 1) * D16 ^ ys.length := Int.mul_le_mul_of_nonneg_right (by omega) (by omega)
    rw [Int.add_mul, ← Int.pow_add] at m2
    have m3 := pow_mono (B := D16) (by decide) (show i + 1 + ys.length ≤ i + k by omega)
    have m4 : D16 ^ (i + k) * 1 ≤ D16 ^ (i + k) * c := Int.mul_le_mul_of_nonneg_left (by omega) (by have : 0 < D16 ^ (i + k) := Int.pow_pos D16_pos; omega)
    omega
theorem prod16 (x y : Int) (hx : 0 ≤ x ∧ x < 65536) (hy : 0 ≤ y ∧ y < 65536) : 0 ≤ x * y ∧ x * y ≤ 4294836225 := by
  have a := Int.mul_nonneg hx.1 hy.1
  have b : x * y ≤ 65535 * 65535 := Int.mul_le_mul (by omega) (by omega) hy.1 (by decide)
  omega
theorem RMuls.step {xs ys : List Int} {n i k : Nat} {cur : List Int} {c : Int} (h : RMuls xs ys n i k cur c) (hx : Dg D16 xs) (hy : Dg D16 ys) (hn : i + k < n) :
    RMuls xs ys n i (k + 1) (cur.set (i + k) ((cur.getD (i + k) 0 + c + xs.getD i 0 * ys.getD k 0) % 65536)) ((cur.getD (i + k) 0 + c + xs.getD i 0 * ys.getD k 0) / 65536) := by
  obtain ⟨h1, h2, h3, h4, h5⟩ := h
  have gx := hx.getD D16_pos i
  have gy := hy.getD D16_pos k
  have gc := h2.getD D16_pos (i + k)
  have hD : D16 = 65536 := rfl
  have hp := prod16 (xs.getD i 0) (ys.getD k 0) (by rw [hD] at gx; exact gx) (by rw [hD] at gy; exact gy)
  rw [hD] at gc
  refine ⟨by simp [h1], h2.set _ (by rw [hD]; omega), by omega, by omega, ?_⟩
  rw [val_set _ _ _ _ (by omega), low_succ, show i + (k + 1) = (i + k) + 1 by omega, Int.pow_succ]
  have e : cur.getD (i + k) 0 + c + xs.getD i 0 * ys.getD k 0 = (cur.getD (i + k) 0 + c + xs.getD i 0 * ys.getD k 0) % 65536 + 65536 * ((cur.getD (i + k) 0 + c + xs.getD i 0 * ys.getD k 0) / 65536) := by omega
  generalize (cur.getD (i + k) 0 + c + xs.getD i 0 * ys.getD k 0) % 65536 = r at *
  generalize (cur.getD (i + k) 0 + c + xs.getD i 0 * ys.getD k 0) / 65536 = q at *
  generalize cur.getD (i + k) 0 = z at *
  generalize xs.getD i 0 = x at *
  generalize ys.getD k 0 = y at *
  generalize val D16 cur = V at *
  generalize low D16 ys k = L at *
  generalize low D16 xs i = X at *
  generalize val D16 ys = Y at *
  have e2 : D16 ^ (i + k) = D16 ^ i * D16 ^ k := Int.pow_add _ _ _
  rw [e2] at h5 ⊢
  generalize D16 ^ i = p at *
  generalize D16 ^ k = s at *
  rw [hD]
  have e3 : r = z + c + x * y - 65536 * q := by omega
  rw [e3]
  grind
theorem RMuls.next {xs ys : List Int} {n i k : Nat} {cur : List Int} (h : RMuls xs ys n i k cur 0) (hk : ys.length ≤ k) : RMuls xs ys n (i + 1) 0 cur 0 := by
  obtain ⟨h1, h2, h3, h4, h5⟩ := h
  refine ⟨h1, h2, h3, h4, ?_⟩
  have hlow : low D16 ys k = val D16 ys := low_all _ _ _ (by have := top_le ys; omega)
  rw [hlow] at h5
  rw [low_succ, low_zero]
  grind
theorem RMuls.done {xs ys : List Int} {n k : Nat} {cur : List Int} (h : RMuls xs ys n xs.length 0 cur 0) : val D16 cur = val D16 xs * val D16 ys := by
  have := h.2.2.2.2
  rw [low_zero, low_len] at this
  simpa using this

end Go.Proofs.Ytbhjidmbihkppaa
