/-
  Contract of nat.Mul.
-/
import Derived.Test.YtbhjidmbihkppaaSub
namespace Go.Proofs.Ytbhjidmbihkppaa
open Go.RowKit
set_option linter.unusedVariables false
set_option linter.unusedSimpArgs false
attribute [local go_sem ↓] Go.wp_at_zero Go.wp_at_succ

theorem low_congr (B : Int) (xs ys : List Int) : ∀ (i : Nat), (∀ j, j < i → xs.getD j 0 = ys.getD j 0) → low B xs i = low B ys i
  | 0, _ => by simp [low_zero]
  | i + 1, h => by rw [low_succ, low_succ, low_congr B xs ys i (fun j hj => h j (by omega)), h i (by omega)]
theorem low_add (B : Int) (xs : List Int) (o : Nat) : ∀ (i : Nat), o + i ≤ xs.length → low B xs (o + i) = low B xs o + B ^ o * val B (seg xs o i)
  | 0, _ => by simp [seg, val]
  | i + 1, h => by
    rw [show o + (i + 1) = (o + i) + 1 by omega, low_succ, low_add B xs o i (by omega), seg_succ xs o i (by omega), val_append, seg_len xs o i (by omega)]
    simp only [val, Int.mul_zero, Int.add_zero, Int.pow_add]
    grind

/-- What stands in the row when i limbs of x have been gone over. -/
def Muls (xs ys : List Int) (i : Nat) (cur : List Int) : Prop :=
  cur.length = xs.length + ys.length ∧ Dg B64 cur ∧ (∀ j, i + ys.length ≤ j → cur.getD j 0 = 0) ∧ low B64 cur (i + ys.length) = low B64 xs i * val B64 ys
theorem getD_zeros (n j : Nat) : (List.replicate n (0 : Int)).getD j 0 = 0 := by
  simp [List.getD, List.getElem?_replicate]; split <;> rfl
theorem low_zeros (B : Int) (n i : Nat) : low B (List.replicate n 0) i = 0 := by
  unfold low
  exact val_zeros B _ (fun j => by
    simp only [List.getD, List.getElem?_take]
    split
    · exact getD_zeros n j
    · rfl)
theorem Muls.zero (xs ys : List Int) : Muls xs ys 0 (List.replicate (xs.length + ys.length) 0) :=
  ⟨by simp, Dg.zeros B64_pos _, fun j _ => getD_zeros _ j, by rw [low_zeros, low_zero, Int.zero_mul]⟩
theorem Muls.step {xs ys : List Int} {i : Nat} {cur cur' : List Int} {c : Int} (h : Muls xs ys i cur) (hi : i < xs.length) (hr : Runs 1 cur ys i ys.length (xs.getD i 0) cur' c) : Muls xs ys (i + 1) (cur'.set (i + ys.length) c) := by
  obtain ⟨h1, h2, h3, h4⟩ := h
  obtain ⟨r1, r2, r3, r4, r5, r6⟩ := hr
  refine ⟨by simp [r1, h1], r3.set _ ⟨r4, r5⟩, fun j hj => ?_, ?_⟩
  · rw [getD_set _ _ _ _ (by omega), if_neg (by omega), r2 j (by omega)]
    exact h3 j (by omega)
  · rw [show i + 1 + ys.length = (i + ys.length) + 1 by omega, low_set_succ _ _ _ _ (by omega), low_add _ _ _ _ (by omega)]
    rw [low_congr B64 cur' cur i (fun j hj => r2 j (by omega))]
    rw [low_add _ _ _ _ (by omega)] at h4
    rw [low_succ, Int.pow_add]
    rw [List.take_of_length_le (Nat.le_refl _)] at r6
    generalize val B64 (seg cur' i ys.length) = A at *
    generalize val B64 (seg cur i ys.length) = C at *
    generalize low B64 cur i = L at *
    generalize low B64 xs i = X at *
    generalize B64 ^ i = p at *
    generalize B64 ^ ys.length = q at *
    generalize val B64 ys = Y at *
    generalize xs.getD i 0 = t at *
    have e : L + p * A + p * q * c = L + p * (A + 1 * (q * c)) := by grind
    rw [e, r6]
    grind
theorem Muls.done {xs ys : List Int} {cur : List Int} (h : Muls xs ys xs.length cur) : val B64 cur = val B64 xs * val B64 ys := by
  rw [← low_len, h.1, h.2.2.2, low_len]

end Go.Proofs.Ytbhjidmbihkppaa
