/-
  Contract of math/bits.Div64 where the divisor's greatest bit is set, and of nat.guessLimb there.
-/
import Derived.Test.YtbhjidmbihkppaaBytes
namespace Go.Proofs.Ytbhjidmbihkppaa
open Go.RowKit
set_option linter.unusedVariables false
set_option linter.unusedSimpArgs false

/-- A quotient's half, guessed: q y1 + r = H, and q is not below how often y1 2^32 + y0 is in H 2^32 + u. -/
def Gs (H u y1 y0 q r : Int) : Prop := q * y1 + r = H ∧ (H * 4294967296 + u) / (y1 * 4294967296 + y0) ≤ q ∧ 0 ≤ r ∧ 0 ≤ q ∧ q ≤ 4294967297
/-- .. and found. -/
def Fd (H u y1 y0 q : Int) : Prop := q = (H * 4294967296 + u) / (y1 * 4294967296 + y0)

/-- What is known of the halves. -/
structure Hv (H u y1 y0 : Int) : Prop where
  h0 : 0 ≤ H
  h1 : H < y1 * 4294967296 + y0
  u0 : 0 ≤ u
  u1 : u < 4294967296
  a0 : 2147483648 ≤ y1
  a1 : y1 < 4294967296
  b0 : 0 ≤ y0
  b1 : y0 < 4294967296
theorem Hv.qlt {H u y1 y0 : Int} (h : Hv H u y1 y0) : (H * 4294967296 + u) / (y1 * 4294967296 + y0) < 4294967296 := by
  obtain ⟨h0, h1, u0, u1, a0, a1, b0, b1⟩ := h
  apply Int.ediv_lt_of_lt_mul (by omega)
  have : (H + 1) * 4294967296 ≤ (y1 * 4294967296 + y0) * 4294967296 := by omega
  generalize y1 * 4294967296 + y0 = Y at *
  omega
theorem Hv.qge {H u y1 y0 : Int} (h : Hv H u y1 y0) : 0 ≤ (H * 4294967296 + u) / (y1 * 4294967296 + y0) := by
  obtain ⟨h0, h1, u0, u1, a0, a1, b0, b1⟩ := h
  exact Int.ediv_nonneg (by omega) (by omega)
theorem Hv.start {H u y1 y0 : Int} (h : Hv H u y1 y0) : Gs H u y1 y0 (H / y1) (H % y1) ∧ H % y1 < 4294967296 := by
  obtain ⟨h0, h1, u0, u1, a0, a1, b0, b1⟩ := h
  have e := Int.mul_ediv_add_emod H y1
  have r0 := Int.emod_nonneg H (show y1 ≠ 0 by omega)
  have r1 := Int.emod_lt_of_pos H (show 0 < y1 by omega)
  have q0 : 0 ≤ H / y1 := Int.ediv_nonneg h0 (by omega)
  have qle : H / y1 ≤ 4294967297 := by
    have : H / y1 < 4294967298 := by
      apply Int.ediv_lt_of_lt_mul (by omega)
      omega
    omega
  refine ⟨⟨by rw [Int.mul_comm]; exact e, ?_, r0, q0, qle⟩, by omega⟩
  have : (H * 4294967296 + u) / (y1 * 4294967296 + y0) < H / y1 + 1 := by
    apply Int.ediv_lt_of_lt_mul (by omega)
    generalize H / y1 = q at *
    generalize H % y1 = r at *
    have e2 : (q + 1) * (y1 * 4294967296 + y0) = (y1 * q) * 4294967296 + y1 * 4294967296 + q * y0 + y0 := by grind
    have e3 : 0 ≤ q * y0 := Int.mul_nonneg q0 b0
    rw [e2, ← e]
    generalize y1 * q = P at *
    generalize q * y0 = R at *
    omega
  omega
/-- One round: the guess was too great. -/
theorem Gs.step {H u y1 y0 q r : Int} (hv : Hv H u y1 y0) (h : Gs H u y1 y0 q r) (hr : r < 4294967296) (hc : 4294967296 ≤ q ∨ 4294967296 * r + u < q * y0) :
    Gs H u y1 y0 (q - 1) (r + y1) ∧ 1 ≤ q ∧ q - 1 ≤ 4294967296 := by
  have hq := hv.qlt
  have hqg := hv.qge
  obtain ⟨h0, h1, u0, u1, a0, a1, b0, b1⟩ := hv
  obtain ⟨g1, g2, g3, g4, g5⟩ := h
  have key : (H * 4294967296 + u) / (y1 * 4294967296 + y0) ≤ q - 1 := by
    rcases hc with hc | hc
    · omega
    · have : (H * 4294967296 + u) / (y1 * 4294967296 + y0) < q := by
        apply Int.ediv_lt_of_lt_mul (by omega)
        have e2 : q * (y1 * 4294967296 + y0) = (q * y1) * 4294967296 + q * y0 := by grind
        rw [e2, ← g1]
        generalize q * y1 = P at *
        generalize q * y0 = R at *
        omega
      omega
  refine ⟨⟨?_, key, by omega, by omega, by omega⟩, by omega, by omega⟩
  rw [← g1]; grind
/-- The guess is right. -/
theorem Gs.found {H u y1 y0 q r : Int} (hv : Hv H u y1 y0) (h : Gs H u y1 y0 q r) (hc : q * y0 ≤ 4294967296 * r + u) : Fd H u y1 y0 q := by
  obtain ⟨h0, h1, u0, u1, a0, a1, b0, b1⟩ := hv
  obtain ⟨g1, g2, g3, g4, g5⟩ := h
  unfold Fd
  have : q ≤ (H * 4294967296 + u) / (y1 * 4294967296 + y0) := by
    apply (Int.le_ediv_iff_mul_le (by omega)).2
    have e2 : q * (y1 * 4294967296 + y0) = (q * y1) * 4294967296 + q * y0 := by grind
    rw [e2, ← g1]
    generalize q * y1 = P at *
    generalize q * y0 = R at *
    omega
  omega
/-- .. as what is left is a half too great. -/
theorem Gs.over {H u y1 y0 q r : Int} (hv : Hv H u y1 y0) (h : Gs H u y1 y0 q r) (hq : q ≤ 4294967296) (hr : 4294967296 ≤ r) : Fd H u y1 y0 q := by
  refine h.found hv ?_
  obtain ⟨h0, h1, u0, u1, a0, a1, b0, b1⟩ := hv
  obtain ⟨g1, g2, g3, g4, g5⟩ := h
  have : q * y0 ≤ 4294967296 * 4294967295 := Int.mul_le_mul hq (by omega) b0 (by omega)
  omega
theorem Fd.lt {H u y1 y0 q : Int} (hv : Hv H u y1 y0) (h : Fd H u y1 y0 q) : 0 ≤ q ∧ q < 4294967296 := by
  unfold Fd at h
  have := hv.qlt
  have := hv.qge
  omega
/-- What is left, modulo 2^64, is what is left. -/
theorem Fd.rest {H u y1 y0 q : Int} (hv : Hv H u y1 y0) (h : Fd H u y1 y0 q) : (H * 4294967296 + u - q * (y1 * 4294967296 + y0)) % 18446744073709551616 = (H * 4294967296 + u) % (y1 * 4294967296 + y0) := by
  unfold Fd at h
  obtain ⟨h0, h1, u0, u1, a0, a1, b0, b1⟩ := hv
  have e : H * 4294967296 + u - q * (y1 * 4294967296 + y0) = (H * 4294967296 + u) % (y1 * 4294967296 + y0) := by
    rw [Int.emod_def, h, Int.mul_comm (y1 * 4294967296 + y0)]
  rw [e]
  have r0 := Int.emod_nonneg (H * 4294967296 + u) (show y1 * 4294967296 + y0 ≠ 0 by omega)
  have r1 := Int.emod_lt_of_pos (H * 4294967296 + u) (show 0 < y1 * 4294967296 + y0 by omega)
  exact Int.emod_eq_of_lt r0 (by omega)
/-- Both halves. -/
theorem two_halves (hi u1 u0 Y q1 q0 : Int) (hY : 0 < Y) (h1 : q1 = (hi * 4294967296 + u1) / Y) (h0 : q0 = ((hi * 4294967296 + u1) % Y * 4294967296 + u0) / Y) :
    q1 * 4294967296 + q0 = (hi * 18446744073709551616 + (u1 * 4294967296 + u0)) / Y := by
  have e := Int.mul_ediv_add_emod (hi * 4294967296 + u1) Y
  rw [← h1] at e
  generalize (hi * 4294967296 + u1) % Y = R at *
  have e2 : hi * 18446744073709551616 + (u1 * 4294967296 + u0) = (R * 4294967296 + u0) + Y * (q1 * 4294967296) := by
    have : hi * 18446744073709551616 + (u1 * 4294967296 + u0) = (hi * 4294967296 + u1) * 4294967296 + u0 := by omega
    rw [this, ← e]
    grind
  rw [e2, Int.add_mul_ediv_left _ _ (by omega), ← h0]
  omega

theorem wrap_prod (q b : Int) (h0 : 0 ≤ q) (h1 : q < 4294967296) (b0 : 0 ≤ b) (b1 : b < 4294967296) : IntKind.u64.wrap (q * b) = q * b := by
  rw [IntKind.wrap_u64]
  have a : 0 ≤ q * b := Int.mul_nonneg h0 b0
  have c : q * b ≤ 4294967295 * 4294967295 := Int.mul_le_mul (by omega) (by omega) b0 (by omega)
  exact Int.emod_eq_of_lt a (by omega)
theorem wrap_quot (R a : Int) (h0 : 0 ≤ R / a) (h1 : R / a ≤ 4294967297) : IntKind.u64.wrap (R / a) = R / a := by
  rw [IntKind.wrap_u64]
  exact Int.emod_eq_of_lt h0 (by omega)
theorem wrap_back (R a : Int) {u b : Int} (h0 : 0 ≤ R) (hv : Hv R u a b) : IntKind.u64.wrap (R / a * a) = R - R % a := by
  have e := Int.mul_ediv_add_emod R a
  have r0 := Int.emod_nonneg R (show a ≠ 0 by have := hv.a0; omega)
  have x := hv.h1
  have y := hv.a1
  have z := hv.b1
  rw [IntKind.wrap_u64, Int.mul_comm, show a * (R / a) = R - R % a by omega]
  have q0 : 0 ≤ a * (R / a) := Int.mul_nonneg (by have := hv.a0; omega) (Int.ediv_nonneg h0 (by have := hv.a0; omega))
  exact Int.emod_eq_of_lt (by omega) (by omega)
theorem back_nonneg (R a : Int) (h0 : 0 ≤ R) (ha : 0 < a) : 0 ≤ R - R % a := by
  have e := Int.mul_ediv_add_emod R a
  have : 0 ≤ a * (R / a) := Int.mul_nonneg (by omega) (Int.ediv_nonneg h0 (by omega))
  omega
theorem wrap_chain (hi u1 q y : Int) : IntKind.u64.wrap (IntKind.u64.wrap (IntKind.u64.wrap (hi * 4294967296) + u1) - IntKind.u64.wrap (q * y)) = (hi * 4294967296 + u1 - q * y) % 18446744073709551616 := by
  simp only [IntKind.wrap_u64]
  generalize q * y = Z
  omega

end Go.Proofs.Ytbhjidmbihkppaa
