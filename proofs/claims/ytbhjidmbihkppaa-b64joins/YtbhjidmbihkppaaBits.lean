/-
  Contracts of math/bits and cmp as nat calls them: Len64, LeadingZeros64, Compare, Mul64, Add64, Sub64.
-/
import Derived.Test.YtbhjidmbihkppaaNum
import Derived.Test.YtbhjidmbihkppaaRows
import Derived.Test.YtbhjidmbihkppaaLo
import Derived.WalkSpells
import Derived.WalkLawsBesides
import Derived.Lib.Walk
import Derived.Lib.BitFns
import Derived.Lib.Mul64
import Derived.Laws.Bits64b
import Derived.Laws.Externs
import Derived.Deep.Light
import Derived.Shelf.Spec.BitsCarry
namespace Go.Proofs.Ytbhjidmbihkppaa
open Go.RowKit Go.Lib
set_option linter.unusedVariables false
set_option linter.unusedSimpArgs false

/-- -1, 0, 1: how a number stands to another one. -/
def cmpI (a b : Int) : Int := if a < b then -1 else if b < a then 1 else 0

/-- How many bits a number has. -/
def blen (n : Nat) : Nat := if n = 0 then 0 else n.log2 + 1
theorem blen_zero : blen 0 = 0 := rfl
theorem blen_lt (n : Nat) : n < 2 ^ blen n := by
  unfold blen
  split
  · subst n; decide
  · exact Nat.lt_log2_self
theorem blen_ge (n : Nat) (h : n ≠ 0) : 2 ^ (blen n - 1) ≤ n := by
  unfold blen
  rw [if_neg h]
  exact Nat.log2_self_le h
theorem blen_pos (n : Nat) (h : n ≠ 0) : 0 < blen n := by unfold blen; rw [if_neg h]; omega
theorem blen_eq (n k : Nat) (h1 : 2 ^ k ≤ n) (h2 : n < 2 ^ (k + 1)) : blen n = k + 1 := by
  have hn : n ≠ 0 := by have := Nat.two_pow_pos k; omega
  have a := blen_lt n
  have b := blen_ge n hn
  have c := blen_pos n hn
  have d : k < blen n := (Nat.pow_lt_pow_iff_right (by decide)).1 (Nat.lt_of_le_of_lt h1 a)
  have e : blen n - 1 < k + 1 := (Nat.pow_lt_pow_iff_right (by decide)).1 (Nat.lt_of_le_of_lt b h2)
  omega
theorem blen_le (n k : Nat) (h : n < 2 ^ k) : blen n ≤ k := by
  by_cases hn : n = 0
  · subst hn; simp [blen]
  · have b := blen_ge n hn
    have e : blen n - 1 < k := (Nat.pow_lt_pow_iff_right (by decide)).1 (Nat.lt_of_le_of_lt b h)
    omega
theorem blen_shift (n k : Nat) (h : 2 ^ k ≤ n) : blen n = k + blen (n / 2 ^ k) := by
  have hp := Nat.two_pow_pos k
  have hq : n / 2 ^ k ≠ 0 := by
    have := (Nat.le_div_iff_mul_le hp).2 (show 1 * 2 ^ k ≤ n by omega)
    omega
  have a := blen_lt (n / 2 ^ k)
  have b := blen_ge (n / 2 ^ k) hq
  have c := blen_pos (n / 2 ^ k) hq
  obtain ⟨m, hm⟩ : ∃ m, blen (n / 2 ^ k) = m + 1 := ⟨blen (n / 2 ^ k) - 1, by omega⟩
  rw [hm] at a b ⊢
  simp only [Nat.add_sub_cancel] at b
  have := blen_eq n (k + m) (by
    rw [Nat.pow_add, Nat.mul_comm]
    exact (Nat.le_div_iff_mul_le hp).1 b) (by
    rw [show k + m + 1 = (m + 1) + k by omega, Nat.pow_add]
    exact (Nat.div_lt_iff_lt_mul hp).1 a)
  omega

set_option maxRecDepth 100000 in
theorem tab_all : ∀ n : Fin 256, len8tab[n.val]? = some (UInt8.ofNat (blen n.val)) ∧ blen n.val ≤ 8 := by decide +kernel
set_option maxRecDepth 100000 in
theorem tab_size : (len8tab.size : Int) = 256 := by
  have : len8tab.size = 256 := by decide +kernel
  omega
/-- The table's byte and the count before it. -/
theorem tab_step (k : Nat) (y : Int) (x : Nat) (hs : y.toNat < len8tab.size) (h0 : 0 ≤ y) (h1 : y ≤ 255) (hy : y.toNat = x / 2 ^ k) (hk : k = 0 ∨ 2 ^ k ≤ x) (hk2 : k ≤ 56) :
    wrap64 ((k : Int) + wrap64 ((len8tab[y.toNat]'hs).toNat : Int)) = (blen x : Int) := by
  obtain ⟨a, b⟩ := tab_all ⟨y.toNat, by omega⟩
  simp only at a b
  rw [getElem?_pos len8tab y.toNat hs] at a
  injection a with a
  rw [a]
  have e : (UInt8.ofNat (blen y.toNat)).toNat = blen y.toNat := by
    rw [UInt8.toNat_ofNat']; omega
  rw [e]
  have f : blen x = k + blen y.toNat := by
    rcases hk with rfl | hk
    · rw [hy]; simp
    · rw [hy]; exact blen_shift x k hk
  rw [f]
  unfold wrap64
  omega

/-! ### Add64, Sub64, which run at once -/
/-- What Sub64 borrows. -/
def bor (x y : Int) : Int := if x < y then 1 else 0
theorem bor_01 (x y : Int) : 0 ≤ bor x y ∧ bor x y ≤ 1 := by unfold bor; split <;> omega
end Go.Proofs.Ytbhjidmbihkppaa
