/-
  Contract of nat.guessLimb.
-/
import Derived.Test.YtdojbknkaoiioaaDiv64
namespace Go.Proofs.Ytdojbknkaoiioaa
open Go.RowKit
set_option linter.unusedVariables false
set_option linter.unusedSimpArgs false

set_option maxHeartbeats 1000000 in
theorem div64_any (hi lo y : Int) (w : World) (h0 : 0 ≤ hi) (h1 : hi < y) (l0 : 0 ≤ lo) (l1 : lo < 18446744073709551616) (y0 : 9223372036854775808 ≤ y) (y1 : y < 18446744073709551616) :
    Calls Try.prog 100 #[.int .u64 hi, .int .u64 lo, .int .u64 y] w fun e w' => ∃ r, e = .returned (.tuple #[.int .u64 ((hi * 18446744073709551616 + lo) / y), .int .u64 r]) ∧ Drew w w' := by
  by_cases h : hi = 0
  · subst h
    rw [Int.zero_mul, Int.zero_add]
    have e1 : (y == 0) = false := by simp; omega
    go_enter Try.func100, Try.ntmps100
    go_wp2
    go_quiet (fail)
    go_wp2
    go_ret2
    exact ⟨_, rfl, ⟨nq, rfl⟩⟩
  · refine (div64_hi hi lo y w (by omega) h1 l0 l1 y0 y1).mono ?_
    rintro e w' ⟨r, rfl, rfl⟩
    exact ⟨r, rfl, Drew.refl _⟩

/-- A guess. -/
def gss (hi lo y : Int) : Int := if y ≤ hi then 18446744073709551615 else (hi * 18446744073709551616 + lo) / y

set_option maxHeartbeats 1000000 in
/-- nat.guessLimb. -/
theorem guessLimb_any (hi lo y : Int) (w : World) (h0 : 0 ≤ hi) (l0 : 0 ≤ lo) (l1 : lo < 18446744073709551616) (y0 : 9223372036854775808 ≤ y) (y1 : y < 18446744073709551616) :
    Calls Try.prog 98 #[.int .u64 hi, .int .u64 lo, .int .u64 y] w fun e w' => e = .returned (.int .u64 (gss hi lo y)) ∧ Drew w w' := by
  by_cases h : y ≤ hi
  · have HG : Hid (gss hi lo y = 18446744073709551615) := by unfold Hid gss; rw [if_pos h]
    go_enter Try.func98, Try.ntmps98
    go_wp2
    go_ret
    exact ⟨ret_int HG.out.symm, Drew.refl _⟩
  · have HG : Hid (gss hi lo y = (hi * 18446744073709551616 + lo) / y) := by unfold Hid gss; rw [if_neg h]
    have h' : hi < y := by omega
    have HD := div64_any hi lo y w h0 h' l0 l1 y0 y1
    generalize (hi * 18446744073709551616 + lo) / y = g at *
    clear h
    go_enter Try.func98, Try.ntmps98
    go_wp2_with (go_at_call 100; refine HD.mono ?_; rintro e w' ⟨r, rfl, hd⟩)
    go_ret
    exact ⟨ret_int HG.out.symm, by assumption⟩
end Go.Proofs.Ytdojbknkaoiioaa
