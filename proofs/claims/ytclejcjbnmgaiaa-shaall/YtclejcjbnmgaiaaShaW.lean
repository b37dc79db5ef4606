/-
  Words of 32 bits: contracts of rotr, RotateLeft32 and the document's turn.
-/
import Derived.Test.YtclejcjbnmgaiaaShaA
namespace Go.Proofs.Ytclejcjbnmgaiaa
open Go.RowKit
set_option linter.unusedVariables false
set_option linter.unusedSimpArgs false

/-- A word's bits moved to the right, those that fall out coming in from the left. -/
def rot (x : Int) (n : Nat) : Int := bits .or .u32 (x / 2 ^ n) (x * 2 ^ (32 - n) % 4294967296)
theorem bits_or_comm (k : IntKind) (x y : Int) : bits .or k x y = bits .or k y x := by
  show k.wrap ((BitVec.ofInt k.bits x ||| BitVec.ofInt k.bits y).toNat : Int) = k.wrap ((BitVec.ofInt k.bits y ||| BitVec.ofInt k.bits x).toNat : Int)
  rw [BitVec.or_comm]

theorem back31 : ∀ n : Nat, 1 ≤ n → n ≤ 31 → bits .and .u64 (IntKind.u64.wrap (-(n : Int))) 31 = ((32 - n : Nat) : Int) := by
  intro n h1 h2
  have : n = 1 ∨ n = 2 ∨ n = 3 ∨ n = 4 ∨ n = 5 ∨ n = 6 ∨ n = 7 ∨ n = 8 ∨ n = 9 ∨ n = 10 ∨ n = 11 ∨ n = 12 ∨ n = 13 ∨ n = 14 ∨ n = 15 ∨ n = 16 ∨ n = 17 ∨ n = 18 ∨ n = 19 ∨ n = 20 ∨ n = 21 ∨ n = 22 ∨ n = 23 ∨ n = 24 ∨ n = 25 ∨ n = 26 ∨ n = 27 ∨ n = 28 ∨ n = 29 ∨ n = 30 ∨ n = 31 := by omega
  rcases this with rfl | rfl | rfl | rfl | rfl | rfl | rfl | rfl | rfl | rfl | rfl | rfl | rfl | rfl | rfl | rfl | rfl | rfl | rfl | rfl | rfl | rfl | rfl | rfl | rfl | rfl | rfl | rfl | rfl | rfl | rfl <;> decide

theorem turn_any (x : Int) (n : Nat) (w : World) (hn : n ≤ 32) : Calls Try.prog 16 #[.int .u32 x, .int .i64 n] w fun e w' => e = .returned (.int .u32 (rot x n)) ∧ Drew w w' := by
  go_enter Try.func16, Try.ntmps16
  go_wp2
  go_region
  all_goals
    go_wp2
    go_ret
    exact ⟨rfl, (Drew.refl _).more 1⟩
theorem rotl_any (x : Int) (n : Nat) (w : World) (h1 : 1 ≤ n) (hn : n ≤ 31) : Calls Try.prog 38 #[.int .u32 x, .int .i64 (-n)] w fun e w' => e = .returned (.int .u32 (rot x n)) ∧ w' = w := by
  have hb := back31 n h1 hn
  obtain ⟨m, hm⟩ : ∃ m, 32 - n = m := ⟨_, rfl⟩
  rw [hm] at hb
  have hm32 : m ≤ 31 := by omega
  have hm1 : 1 ≤ m := by omega
  have HF : Hid (bits .or .u32 (x * 2 ^ m % 4294967296) (x / 2 ^ (32 - m)) = rot x n) := by
    unfold Hid rot
    rw [bits_or_comm, hm, show 32 - m = n by omega]
  go_enter Try.func38, Try.ntmps38
  go_wp2
  go_ret
  exact ⟨ret_int HF.out, rfl⟩
theorem rotr_any (x : Int) (n : Nat) (w : World) (h1 : 1 ≤ n) (hn : n ≤ 31) : Calls Try.prog 36 #[.int .u32 x, .int .i64 n] w fun e w' => e = .returned (.int .u32 (rot x n)) ∧ w' = w := by
  have HC := fun w => rotl_any x n w h1 hn
  generalize hr : rot x n = r at *
  clear hr
  go_enter Try.func36, Try.ntmps36
  go_wp2_with (go_at_call 38; refine (HC _).mono ?_; rintro e w' ⟨rfl, rfl⟩)
  go_ret
  exact ⟨rfl, rfl⟩
end Go.Proofs.Ytclejcjbnmgaiaa
