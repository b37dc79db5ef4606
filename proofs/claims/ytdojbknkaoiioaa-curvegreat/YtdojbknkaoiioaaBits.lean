/-
  Contracts of math/bits and cmp as nat calls them: Len64, LeadingZeros64, Compare, Mul64, Add64, Sub64.
-/
import Derived.Test.YtdojbknkaoiioaaNum
import Derived.Test.YtdojbknkaoiioaaRows
import Derived.Test.YtdojbknkaoiioaaLo
import Derived.WalkSpells
import Derived.WalkLawsBesides
import Derived.Lib.Walk
import Derived.Lib.BitFns
import Derived.Lib.Mul64
import Derived.Laws.Bits64b
import Derived.Laws.Externs
import Derived.Deep.Light
import Derived.Shelf.Spec.BitsCarry
namespace Go.Proofs.Ytdojbknkaoiioaa
open Go.RowKit Go.Lib
set_option linter.unusedVariables false
set_option linter.unusedSimpArgs false

/-- -1, 0, 1: how a number stands to another one. -/
def cmpI (a b : Int) : Int := if a < b then -1 else if b < a then 1 else 0

set_option maxHeartbeats 400000 in
theorem compare_int (a b : Int) (w : World) :
    Calls Try.prog 55 #[.int .i64 a, .int .i64 b] w fun e w' => e = .returned (.int .i64 (cmpI a b)) ∧ w' = w := by
  by_cases h1 : a < b
  · have e : cmpI a b = -1 := by simp [cmpI, h1]
    go_enter Try.func55, Try.ntmps55
    go_wp2
    go_ret
    exact ⟨ret_int (by omega), rfl⟩
  by_cases h2 : b < a
  · have e : cmpI a b = 1 := by simp [cmpI, h1, h2]
    go_enter Try.func55, Try.ntmps55
    go_wp2
    go_ret
    exact ⟨ret_int (by omega), rfl⟩
  · have e : cmpI a b = 0 := by simp [cmpI, h1, h2]
    go_enter Try.func55, Try.ntmps55
    go_wp2
    go_ret
    exact ⟨ret_int (by omega), rfl⟩

set_option maxHeartbeats 400000 in
theorem compare_u64 (a b : Int) (w : World) :
    Calls Try.prog 56 #[.int .u64 a, .int .u64 b] w fun e w' => e = .returned (.int .i64 (cmpI a b)) ∧ w' = w := by
  by_cases h1 : a < b
  · have e : cmpI a b = -1 := by simp [cmpI, h1]
    go_enter Try.func56, Try.ntmps56
    go_wp2
    go_ret
    exact ⟨ret_int (by omega), rfl⟩
  by_cases h2 : b < a
  · have e : cmpI a b = 1 := by simp [cmpI, h1, h2]
    go_enter Try.func56, Try.ntmps56
    go_wp2
    go_ret
    exact ⟨ret_int (by omega), rfl⟩
  · have e : cmpI a b = 0 := by simp [cmpI, h1, h2]
    go_enter Try.func56, Try.ntmps56
    go_wp2
    go_ret
    exact ⟨ret_int (by omega), rfl⟩

/-- How many bits a number has. -/
def blen (n : Nat) : Nat := if n = 0 then 0 else n.log2 + 1
theorem blen_zero : blen 0 = 0 := rfl
theorem blen_lt (n : Nat) : n < 2 ^ blen n := by
  unfold blen
  split
  · subst n; decide
  · exact Nat.lt_log2_self
theorem blen_ge (n : Nat) (h : n ≠ 0) : 2 ^ (blen n - 1) ≤ n := by
  unfold blen
  rw [if_neg h]
  exact Nat.log2_self_le h
theorem blen_pos (n : Nat) (h : n ≠ 0) : 0 < blen n := by unfold blen; rw [if_neg h]; omega
theorem blen_eq (n k : Nat) (h1 : 2 ^ k ≤ n) (h2 : n < 2 ^ (k + 1)) : blen n = k + 1 := by
  have hn : n ≠ 0 := by have := Nat.two_pow_pos k; omega
  have a := blen_lt n
  have b := blen_ge n hn
  have c := blen_pos n hn
  have d : k < blen n := (Nat.pow_lt_pow_iff_right (by decide)).1 (Nat.lt_of_le_of_lt h1 a)
  have e : blen n - 1 < k + 1 := (Nat.pow_lt_pow_iff_right (by decide)).1 (Nat.lt_of_le_of_lt b h2)
  omega
theorem blen_le (n k : Nat) (h : n < 2 ^ k) : blen n ≤ k := by
  by_cases hn : n = 0
  · subst hn; simp [blen]
  · have b := blen_ge n hn
    have e : blen n - 1 < k := (Nat.pow_lt_pow_iff_right (by decide)).1 (Nat.lt_of_le_of_lt b h)
    omega
theorem blen_shift (n k : Nat) (h : 2 ^ k ≤ n) : blen n = k + blen (n / 2 ^ k) := by
  have hp := Nat.two_pow_pos k
  have hq : n / 2 ^ k ≠ 0 := by
    have := (Nat.le_div_iff_mul_le hp).2 (show 1 * 2 ^ k ≤ n by omega)
    omega
  have a := blen_lt (n / 2 ^ k)
  have b := blen_ge (n / 2 ^ k) hq
  have c := blen_pos (n / 2 ^ k) hq
  obtain ⟨m, hm⟩ : ∃ m, blen (n / 2 ^ k) = m + 1 := ⟨blen (n / 2 ^ k) - 1, by omega⟩
  rw [hm] at a b ⊢
  simp only [Nat.add_sub_cancel] at b
  have := blen_eq n (k + m) (by
    rw [Nat.pow_add, Nat.mul_comm]
    exact (Nat.le_div_iff_mul_le hp).1 b) (by
    rw [show k + m + 1 = (m + 1) + k by omega, Nat.pow_add]
    exact (Nat.div_lt_iff_lt_mul hp).1 a)
  omega

set_option maxRecDepth 100000 in
theorem tab_all : ∀ n : Fin 256, len8tab[n.val]? = some (UInt8.ofNat (blen n.val)) ∧ blen n.val ≤ 8 := by decide +kernel
set_option maxRecDepth 100000 in
theorem tab_size : (len8tab.size : Int) = 256 := by
  have : len8tab.size = 256 := by decide +kernel
  omega
/-- The table's byte and the count before it. -/
theorem tab_step (k : Nat) (y : Int) (x : Nat) (hs : y.toNat < len8tab.size) (h0 : 0 ≤ y) (h1 : y ≤ 255) (hy : y.toNat = x / 2 ^ k) (hk : k = 0 ∨ 2 ^ k ≤ x) (hk2 : k ≤ 56) :
    wrap64 ((k : Int) + wrap64 ((len8tab[y.toNat]'hs).toNat : Int)) = (blen x : Int) := by
  obtain ⟨a, b⟩ := tab_all ⟨y.toNat, by omega⟩
  simp only at a b
  rw [getElem?_pos len8tab y.toNat hs] at a
  injection a with a
  rw [a]
  have e : (UInt8.ofNat (blen y.toNat)).toNat = blen y.toNat := by
    rw [UInt8.toNat_ofNat']; omega
  rw [e]
  have f : blen x = k + blen y.toNat := by
    rcases hk with rfl | hk
    · rw [hy]; simp
    · rw [hy]; exact blen_shift x k hk
  rw [f]
  unfold wrap64
  omega

set_option maxHeartbeats 4000000 in
set_option maxRecDepth 100000 in
/-- math/bits.Len64. -/
theorem len64_any (x : Int) (w : World) (h0 : 0 ≤ x) (h : x < 18446744073709551616) :
    Calls Try.prog 64 #[.int .u64 x] w fun e w' => e = .returned (.int .i64 (blen x.toNat)) ∧ w' = w := by
  go_enter Try.func64, Try.ntmps64
  go_wp2
  all_goals first
    | (go_ret; refine ⟨ret_int ?_, rfl⟩; go_light)
    | (exfalso; go_light; have hs := tab_size; omega)
  · exact tab_step 56 _ _ _ (by omega) (by omega) (by omega) (by omega) (by omega)
  · exact tab_step 48 _ _ _ (by omega) (by omega) (by omega) (by omega) (by omega)
  · exact tab_step 40 _ _ _ (by omega) (by omega) (by omega) (by omega) (by omega)
  · exact tab_step 32 _ _ _ (by omega) (by omega) (by omega) (by omega) (by omega)
  · exact tab_step 24 _ _ _ (by omega) (by omega) (by omega) (by omega) (by omega)
  · exact tab_step 16 _ _ _ (by omega) (by omega) (by omega) (by omega) (by omega)
  · exact tab_step 8 _ _ _ (by omega) (by omega) (by omega) (by omega) (by omega)
  · have e := tab_step 0 x x.toNat (by omega) (by omega) (by omega) (by omega) (by omega) (by omega)
    rw [show (((0 : Nat) : Int) + wrap64 ((len8tab[x.toNat]'(by omega)).toNat : Int)) = wrap64 ((len8tab[x.toNat]'(by omega)).toNat : Int) by omega] at e
    exact e

set_option maxHeartbeats 400000 in
/-- math/bits.LeadingZeros64. -/
theorem lead_any (x : Int) (w : World) (h0 : 0 ≤ x) (h : x < 18446744073709551616) :
    Calls Try.prog 96 #[.int .u64 x] w fun e w' => e = .returned (.int .i64 ((64 - blen x.toNat : Nat) : Int)) ∧ w' = w := by
  have hb := blen_le x.toNat 64 (by omega)
  go_enter Try.func96, Try.ntmps96
  go_wp2_with (go_at_call 64; refine (len64_any x _ h0 h).mono ?_; rintro e w' ⟨rfl, rfl⟩)
  go_ret
  exact ⟨ret_int (by omega), rfl⟩

/-! ### Add64, Sub64, which run at once -/
theorem add64 (x y c : Int) (hx : 0 ≤ x) (hy : 0 ≤ y) (hc0 : 0 ≤ c) (hc : c ≤ 1) (w : World) : (callFunc 60 #[.int .u64 x, .int .u64 y, .int .u64 c]).run Try.prog w =
    .ok (.value (.tuple #[.int .u64 ((x + y + c) % 18446744073709551616), .int .u64 ((x + y + c) / 18446744073709551616)])) w := by
  rw [run_callFunc_extern Try.func60 (by kernel_rfl) (by kernel_rfl) (by kernel_rfl) (e := add64Entry) (by kernel_rfl), run_add64 x y c hx hy hc0 hc]
  rfl
/-- What Sub64 borrows. -/
def bor (x y : Int) : Int := if x < y then 1 else 0
theorem bor_01 (x y : Int) : 0 ≤ bor x y ∧ bor x y ≤ 1 := by unfold bor; split <;> omega
theorem sub64 (x y c : Int) (hx : 0 ≤ x) (hy : 0 ≤ y) (hy' : y < 18446744073709551616) (hc0 : 0 ≤ c) (hc : c ≤ 1) (w : World) : (callFunc 63 #[.int .u64 x, .int .u64 y, .int .u64 c]).run Try.prog w =
    .ok (.value (.tuple #[.int .u64 ((x - y - c) % 18446744073709551616), .int .u64 (bor x (y + c))])) w := by
  obtain ⟨x, rfl⟩ := Int.eq_ofNat_of_zero_le hx
  obtain ⟨y, rfl⟩ := Int.eq_ofNat_of_zero_le hy
  obtain ⟨c, rfl⟩ := Int.eq_ofNat_of_zero_le hc0
  rw [run_callFunc_extern Try.func63 (by kernel_rfl) (by kernel_rfl) (by kernel_rfl) (e := sub64Entry) (by kernel_rfl), run_sub64 x y c (by omega)]
  have e1 : (((x + 18446744073709551616 - y - c) % 18446744073709551616 : Nat) : Int) = ((x : Int) - y - c) % 18446744073709551616 := by omega
  have e2 : ((if x < y + c then 1 else 0 : Nat) : Int) = bor x (y + c) := by unfold bor; split <;> split <;> omega
  rw [e1, e2]
  rfl
/-- The carry or borrow that comes in is 0. -/
theorem add64_0 (x y : Int) (hx : 0 ≤ x) (hy : 0 ≤ y) (w : World) : (callFunc 60 #[.int .u64 x, .int .u64 y, .int .u64 0]).run Try.prog w =
    .ok (.value (.tuple #[.int .u64 ((x + y) % 18446744073709551616), .int .u64 ((x + y) / 18446744073709551616)])) w := by
  simpa using add64 x y 0 hx hy (Int.le_refl 0) (by decide) w
theorem sub64_0 (x y : Int) (hx : 0 ≤ x) (hy : 0 ≤ y) (hy' : y < 18446744073709551616) (w : World) : (callFunc 63 #[.int .u64 x, .int .u64 y, .int .u64 0]).run Try.prog w =
    .ok (.value (.tuple #[.int .u64 ((x - y) % 18446744073709551616), .int .u64 (bor x y)])) w := by
  simpa using sub64 x y 0 hx hy hy' (Int.le_refl 0) (by decide) w
end Go.Proofs.Ytdojbknkaoiioaa
