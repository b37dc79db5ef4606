/-
  Contracts of nat.Sub, Mul.
-/
import Derived.Test.YtbhjidmbihkppaaArith
import Derived.Deep.DrawnRows
namespace Go.Proofs.Ytbhjidmbihkppaa
open Go.RowKit
set_option linter.unusedVariables false
set_option linter.unusedSimpArgs false
attribute [local go_sem ↓] Go.wp_at_zero Go.wp_at_succ

/-- What stands in the row when i limbs have been taken away. -/
def Subs (xs ys : List Int) (m i : Nat) (cur : List Int) (c : Int) : Prop :=
  cur.length = m ∧ Dg B64 cur ∧ 0 ≤ c ∧ c ≤ 1 ∧ low B64 cur i - B64 ^ i * c = low B64 xs i - low B64 ys i
theorem Subs.zero (xs ys : List Int) (m : Nat) : Subs xs ys m 0 (List.replicate m 0) 0 :=
  ⟨by simp, Dg.zeros B64_pos _, by decide, by decide, by simp [low_zero]⟩
theorem Subs.step {xs ys : List Int} {m i : Nat} {cur : List Int} {c : Int} (h : Subs xs ys m i cur c) (hi : i < m) {ne c' : Int} (hn : 0 ≤ ne ∧ ne < B64) (hc : 0 ≤ c' ∧ c' ≤ 1)
    (he : ne - B64 * c' = xs.getD i 0 - ys.getD i 0 - c) : Subs xs ys m (i + 1) (cur.set i ne) c' := by
  obtain ⟨h1, h2, h3, h4, h5⟩ := h
  refine ⟨by simp [h1], h2.set _ hn, hc.1, hc.2, ?_⟩
  rw [low_set_succ _ _ _ _ (by omega), low_succ, low_succ, Int.pow_succ]
  generalize low B64 cur i = A at *
  generalize low B64 xs i = X at *
  generalize low B64 ys i = Y at *
  generalize B64 ^ i = p at *
  generalize B64 = b at *
  grind
theorem Subs.done {xs ys : List Int} {m : Nat} {cur : List Int} {c : Int} (h : Subs xs ys m m cur c) (hx : top xs ≤ m) (hy : top ys ≤ m) (hle : val B64 ys ≤ val B64 xs) : val B64 cur = val B64 xs - val B64 ys := by
  obtain ⟨h1, h2, h3, h4, h5⟩ := h
  rw [low_all _ _ _ hx, low_all _ _ _ hy] at h5
  have e : low B64 cur m = val B64 cur := by rw [← h1, low_len]
  rw [e] at h5
  have hlt := val_lt B64_pos h2
  rw [h1] at hlt
  have : c = 0 ∨ c = 1 := by omega
  rcases this with rfl | rfl
  · omega
  · rw [Int.mul_one] at h5; omega

end Go.Proofs.Ytbhjidmbihkppaa
