/-
  Contracts of the document's answer: how many bits (Len), how one number stands to another (Cmp).
-/
import Derived.Test.YtbhjidmbihkppaaRefN
namespace Go.Proofs.Ytbhjidmbihkppaa
open Go.RowKit
set_option linter.unusedVariables false
set_option linter.unusedSimpArgs false

theorem blen_split (L e m : Nat) (hL : L < 2 ^ m) (he : e ≠ 0) : blen (L + 2 ^ m * e) = m + blen e := by
  have b1 := blen_lt e
  have b2 := blen_ge e he
  have b3 := blen_pos e he
  have hp := Nat.two_pow_pos m
  obtain ⟨c, hc⟩ : ∃ c, blen e = c + 1 := ⟨blen e - 1, by omega⟩
  rw [hc] at b1 b2
  simp only [Nat.add_sub_cancel] at b2
  have := blen_eq (L + 2 ^ m * e) (m + c) (by
    rw [Nat.pow_add]
    have := Nat.mul_le_mul_left (2 ^ m) b2
    omega) (by
    rw [show m + c + 1 = m + (c + 1) by omega, Nat.pow_add]
    have := Nat.mul_le_mul_left (2 ^ m) (show e + 1 ≤ 2 ^ (c + 1) by omega)
    rw [Nat.mul_add] at this
    omega)
  omega
theorem blen_half (n : Nat) (h : 0 < n) : blen n = 1 + blen (n / 2) := by
  by_cases h1 : n = 1
  · subst h1; decide
  · have := blen_shift n 1 (by omega)
    simpa using this
theorem rlen_eq (ds : List Int) (hd : Dg D16 ds) (hc : Canon ds) (m : Nat) (hm : ds.length = m + 1) : 16 * m + blen (ds.getD m 0).toNat = blen (val D16 ds).toNat := by
  have ht : top ds = m + 1 := by unfold Canon at hc; omega
  have hh := top_hit ds (by omega)
  have hg := hd.getD D16_pos m
  rw [ht] at hh
  simp only [Nat.add_sub_cancel] at hh
  have hv : val D16 ds = low D16 ds m + D16 ^ m * ds.getD m 0 := by rw [← low_succ, ← hm, low_len]
  have l0 : 0 ≤ low D16 ds m := val_nonneg D16_pos (hd.take m)
  have l1 : low D16 ds m < D16 ^ m := by
    have a := val_lt D16_pos (hd.take m)
    have b : (ds.take m).length ≤ m := by simp; omega
    have c := pow_mono (B := D16) (by decide) b
    unfold low; omega
  generalize ds.getD m 0 = d at *
  generalize low D16 ds m = L at *
  obtain ⟨e, rfl⟩ := Int.eq_ofNat_of_zero_le hg.1
  obtain ⟨L, rfl⟩ := Int.eq_ofNat_of_zero_le l0
  have hB : D16 ^ m = ((2 ^ (16 * m) : Nat) : Int) := by rw [Int.natCast_pow, Int.pow_mul]; rfl
  rw [hB] at hv l1
  rw [hv, ← Int.natCast_mul, ← Int.natCast_add, Int.toNat_natCast, Int.toNat_natCast, blen_split L e (16 * m) (by omega) (by intro h0; rw [h0] at hh; exact hh rfl)]


end Go.Proofs.Ytbhjidmbihkppaa
