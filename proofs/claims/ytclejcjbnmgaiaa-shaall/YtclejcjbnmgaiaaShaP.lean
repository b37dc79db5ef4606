/-
  Contracts of sha's tables: squareBelow, cubeBelow, fraction, primes, constants, beginning.
-/
import Derived.Test.YtclejcjbnmgaiaaShaL
namespace Go.Proofs.Ytclejcjbnmgaiaa
open Go.RowKit
set_option linter.unusedVariables false
set_option linter.unusedSimpArgs false

theorem bits_u64_range (op : BinOp) (x y : Int) : 0 ≤ bits op .u64 x y ∧ bits op .u64 x y < 18446744073709551616 := by
  unfold bits
  simp only [IntKind.wrap_u64]
  omega

def sqB (r p : Int) : Bool := decide (r * r / 18446744073709551616 < p)
def cuB (r p : Int) : Bool := decide (IntKind.u64.wrap (IntKind.u64.wrap (r * r / 18446744073709551616 * r) + (r * r % 18446744073709551616) * r / 18446744073709551616) < IntKind.u64.wrap (p * 4294967296))

set_option maxHeartbeats 1000000 in
theorem squareBelow_any (r p : Int) (w : World) (h0 : 0 ≤ r) (h1 : r < 18446744073709551616) :
    Calls Try.prog 33 #[.int .u64 r, .int .u64 p] w fun e w' => e = .returned (.bool (sqB r p)) ∧ w' = w := by
  have HM := mul64_any r r h0 h1 h0 h1
  go_enter Try.func33, Try.ntmps33
  go_wp2_with (go_at_call 37; refine (HM _).mono ?_; rintro e w' ⟨rfl, rfl⟩)
  go_ret
  exact ⟨rfl, rfl⟩

set_option maxHeartbeats 1000000 in
theorem cubeBelow_any (r p : Int) (w : World) (h0 : 0 ≤ r) (h1 : r < 18446744073709551616) :
    Calls Try.prog 34 #[.int .u64 r, .int .u64 p] w fun e w' => e = .returned (.bool (cuB r p)) ∧ w' = w := by
  have HM := mul64_any r r h0 h1 h0 h1
  have HM2 := mul64_any (r * r % 18446744073709551616) r (by omega) (by omega) h0 h1
  have HF : Hid (cuB r p = decide (IntKind.u64.wrap (IntKind.u64.wrap (r * r / 18446744073709551616 * r) + (r * r % 18446744073709551616) * r / 18446744073709551616) < IntKind.u64.wrap (p * 4294967296))) := rfl
  generalize r * r % 18446744073709551616 = lo at *
  generalize r * r / 18446744073709551616 = hi at *
  go_enter Try.func34, Try.ntmps34
  go_wp2_with fail
  refine (HM _).mono ?_
  rintro e w' ⟨rfl, rfl⟩
  clear HM
  go_wp2_with fail
  refine (HM2 _).mono ?_
  rintro e w' ⟨rfl, rfl⟩
  clear HM2
  go_wp2
  go_ret
  exact ⟨by rw [HF.out]; rfl, rfl⟩

/-- The root, bit by bit. -/
def rootAt (f : Int → Int → Bool) (p : Int) : Nat → Int
  | 0 => 0
  | i + 1 => if f (bits .or .u64 (rootAt f p i) (2 ^ (34 - i))) p then bits .or .u64 (rootAt f p i) (2 ^ (34 - i)) else rootAt f p i

theorem int_eq' {k : IntKind} {x y : Int} (h : x = y) : Value.int k x = Value.int k y := by rw [h]
set_option maxHeartbeats 1000000 in
theorem fraction_sqB (p : Int) (w : World) :
    Calls Try.prog 32 #[.int .u64 p, .func (.func 33) #[] #[]] w fun e w' => e = .returned (.int .u32 (rootAt sqB p 35 % 4294967296)) ∧ w' = w := by
  go_enter Try.func32, Try.ntmps32
  go_wp2
  go_loop [5, 8] (fun vr vi => ∃ (i : Nat), i ≤ 35 ∧ vi = .int .i64 i ∧ vr = .int .u64 (rootAt sqB p i)) (fun _ vi => 35 - (intOf vi).toNat)
  case atStart => exact ⟨0, by omega, rfl, rfl⟩
  case round =>
    obtain ⟨i, hi, rfl, rfl⟩ := hrel
    by_cases hlt : i < 35
    · obtain ⟨k, hk⟩ : ∃ k, 34 - i = k := ⟨_, rfl⟩
      have hk2 : k ≤ 34 := by omega
      have hkI : (34 : Int) - (i : Int) = (k : Int) := by omega
      have HN : Hid (rootAt sqB p (i + 1) = if sqB (bits .or .u64 (rootAt sqB p i) (2 ^ k)) p then bits .or .u64 (rootAt sqB p i) (2 ^ k) else rootAt sqB p i) := by unfold Hid; rw [← hk]; rfl
      have hr := bits_u64_range .or (rootAt sqB p i) (2 ^ k)
      clear hk
      have hp2 : IntKind.u64.wrap (2 ^ k) = 2 ^ k := by
        rw [IntKind.wrap_u64]
        have : (2 : Int) ^ k ≤ 2 ^ 34 := pow_mono (by decide) hk2
        have : (0 : Int) < 2 ^ k := Int.pow_pos (by decide)
        omega
      have HC := fun w => squareBelow_any (bits .or .u64 (rootAt sqB p i) (2 ^ k)) p w hr.1 hr.2
      clear hr
      generalize hb : sqB (bits .or .u64 (rootAt sqB p i) (2 ^ k)) p = bb at *
      clear hb
      cases bb with
      | true =>
        rw [if_pos rfl] at HN
        go_wp2_with (go_at_call 33; refine (HC _).mono ?_; rintro e w' ⟨rfl, rfl⟩)
        go_round
        case rel => exact ⟨i + 1, by omega, by go_num, int_eq' HN.out.symm⟩
        case measure => simp [intOf] <;> omega
      | false =>
        rw [if_neg (by decide)] at HN
        go_wp2_with (go_at_call 33; refine (HC _).mono ?_; rintro e w' ⟨rfl, rfl⟩)
        go_round
        case rel => exact ⟨i + 1, by omega, by go_num, int_eq' HN.out.symm⟩
        case measure => simp [intOf] <;> omega
    · have HE : Hid (i = 35) := by unfold Hid; omega
      go_wp2
      go_ret
      exact ⟨by rw [HE.out]; rfl, rfl⟩

set_option maxHeartbeats 1000000 in
theorem fraction_cuB (p : Int) (w : World) :
    Calls Try.prog 32 #[.int .u64 p, .func (.func 34) #[] #[]] w fun e w' => e = .returned (.int .u32 (rootAt cuB p 35 % 4294967296)) ∧ w' = w := by
  go_enter Try.func32, Try.ntmps32
  go_wp2
  go_loop [5, 8] (fun vr vi => ∃ (i : Nat), i ≤ 35 ∧ vi = .int .i64 i ∧ vr = .int .u64 (rootAt cuB p i)) (fun _ vi => 35 - (intOf vi).toNat)
  case atStart => exact ⟨0, by omega, rfl, rfl⟩
  case round =>
    obtain ⟨i, hi, rfl, rfl⟩ := hrel
    by_cases hlt : i < 35
    · obtain ⟨k, hk⟩ : ∃ k, 34 - i = k := ⟨_, rfl⟩
      have hk2 : k ≤ 34 := by omega
      have hkI : (34 : Int) - (i : Int) = (k : Int) := by omega
      have HN : Hid (rootAt cuB p (i + 1) = if cuB (bits .or .u64 (rootAt cuB p i) (2 ^ k)) p then bits .or .u64 (rootAt cuB p i) (2 ^ k) else rootAt cuB p i) := by unfold Hid; rw [← hk]; rfl
      have hr := bits_u64_range .or (rootAt cuB p i) (2 ^ k)
      clear hk
      have hp2 : IntKind.u64.wrap (2 ^ k) = 2 ^ k := by
        rw [IntKind.wrap_u64]
        have : (2 : Int) ^ k ≤ 2 ^ 34 := pow_mono (by decide) hk2
        have : (0 : Int) < 2 ^ k := Int.pow_pos (by decide)
        omega
      have HC := fun w => cubeBelow_any (bits .or .u64 (rootAt cuB p i) (2 ^ k)) p w hr.1 hr.2
      clear hr
      generalize hb : cuB (bits .or .u64 (rootAt cuB p i) (2 ^ k)) p = bb at *
      clear hb
      cases bb with
      | true =>
        rw [if_pos rfl] at HN
        go_wp2_with (go_at_call 34; refine (HC _).mono ?_; rintro e w' ⟨rfl, rfl⟩)
        go_round
        case rel => exact ⟨i + 1, by omega, by go_num, int_eq' HN.out.symm⟩
        case measure => simp [intOf] <;> omega
      | false =>
        rw [if_neg (by decide)] at HN
        go_wp2_with (go_at_call 34; refine (HC _).mono ?_; rintro e w' ⟨rfl, rfl⟩)
        go_round
        case rel => exact ⟨i + 1, by omega, by go_num, int_eq' HN.out.symm⟩
        case measure => simp [intOf] <;> omega
    · have HE : Hid (i = 35) := by unfold Hid; omega
      go_wp2
      go_ret
      exact ⟨by rw [HE.out]; rfl, rfl⟩

end Go.Proofs.Ytclejcjbnmgaiaa
