/-
  Contracts of nat's small functions: limbs, trim, limb.
-/
import Derived.Test.YtdojbknkaoiioaaNum
import Derived.Test.YtdojbknkaoiioaaRows
import Derived.WalkSpells
import Derived.WalkLawsBesides
namespace Go.Proofs.Ytdojbknkaoiioaa
open Go.RowKit
set_option linter.unusedVariables false

theorem ret_int {k : IntKind} {a b : Int} (h : a = b) : Ending.returned (.int k a) = .returned (.int k b) := by rw [h]

theorem ret_slice {ao : Option Addr} {a b c d : Nat} (h : a = b) (h' : c = d) : Ending.returned (.slice ao a c) = .returned (.slice ao b d) := by rw [h, h']

set_option maxHeartbeats 400000 in
/-- nat.limbs. -/
theorem limbs_any (ao : Option Addr) (len cap : Nat) (xs : List Int) (w : World) (h : Lies .u64 w ao len xs) (hm : len ≤ maxLen) :
    Calls Try.prog 54 #[.slice ao len cap] w fun e w' => e = .returned (.int .i64 (top xs)) ∧ w' = w := by
  have hl := h.len
  unfold maxLen at hm
  go_enter Try.func54, Try.ntmps54
  go_wp2
  go_loop [7] (fun i => ∃ k : Nat, k ≤ len ∧ i = .int .i64 k ∧ ∀ j, len - k ≤ j → j < len → xs.getD j 0 = 0) (fun i => len - (intOf i).toNat)
  case atStart => exact ⟨0, Nat.zero_le _, rfl, fun j h1 h2 => by omega⟩
  case round =>
    obtain ⟨k, hk, rfl, hz⟩ := hrel
    by_cases hlt : k < len
    · obtain ⟨b, off, rfl, hb, hc⟩ := h.at (by omega)
      have hcell := hc (len - k - 1) (by omega)
      go_wp2
      · have hne : (xs[len - k - 1]?.getD 0 != 0) = true := by assumption
        go_ret
        refine ⟨ret_int ?_, rfl⟩
        rw [top_eq xs (len - k) (fun j h1 h2 => hz j h1 (by omega)) (.inr (by simpa [List.getD] using hne))]
        omega
      · have hne : (xs[len - k - 1]?.getD 0 != 0) = false := by assumption
        go_round
        case rel =>
          refine ⟨k + 1, by omega, by go_num, fun j h1 h2 => ?_⟩
          by_cases hj : j = len - k - 1
          · subst hj; simpa [List.getD] using hne
          · exact hz j (by omega) h2
        case measure => simp [intOf]; omega
    · go_wp2
      go_ret
      refine ⟨ret_int ?_, rfl⟩
      rw [top_eq xs 0 (fun j h1 h2 => hz j (by omega) (by omega)) (.inl rfl)]
      rfl

set_option maxHeartbeats 400000 in
/-- nat.trim. -/
theorem trim_any (ao : Option Addr) (len cap : Nat) (xs : List Int) (w : World) (h : Lies .u64 w ao len xs) (hlc : len ≤ cap) (hm : cap ≤ maxLen) (hn : ao = none → cap = 0) :
    Calls Try.prog 39 #[.slice ao len cap] w fun e w' => e = .returned (.slice ao (top xs) cap) ∧ w' = w := by
  have hl := h.len
  have ht := top_le xs
  have hm' := hm
  unfold maxLen at hm
  go_enter Try.func39, Try.ntmps39
  go_wp2_with fail
  refine (limbs_any ao len cap xs w h (by unfold maxLen; omega)).mono ?_
  rintro e w' ⟨rfl, rfl⟩
  cases ao with
  | none =>
    obtain rfl := hn rfl
    obtain rfl : len = 0 := by omega
    have ht0 : top xs = 0 := by omega
    rw [ht0]
    go_wp2
    go_ret
    exact ⟨ret_slice (by omega) rfl, rfl⟩
  | some a =>
    go_wp2
    go_ret
    exact ⟨rfl, rfl⟩

set_option maxHeartbeats 400000 in
/-- nat.limb. -/
theorem limb_any (ao : Option Addr) (len cap : Nat) (xs : List Int) (place : Int) (w : World) (h : Lies .u64 w ao len xs) (hm : len ≤ maxLen) (hp : 0 ≤ place) :
    Calls Try.prog 61 #[.slice ao len cap, .int .i64 place] w fun e w' => e = .returned (.int .u64 (xs.getD place.toNat 0)) ∧ w' = w := by
  obtain ⟨n, rfl⟩ := Int.eq_ofNat_of_zero_le hp
  have hl := h.len
  unfold maxLen at hm
  by_cases hlt : n < len
  · obtain ⟨b, off, rfl, hb, hc⟩ := h.at (by omega)
    have hcell := hc n hlt
    go_enter Try.func61, Try.ntmps61
    go_wp2
    go_ret
    exact ⟨ret_int (by simp [hl, hlt]), rfl⟩
  · have e : xs.getD n 0 = 0 := by simp [List.getD, List.getElem?_eq_none (show xs.length ≤ n by omega)]
    go_enter Try.func61, Try.ntmps61
    go_wp2
    go_ret
    exact ⟨ret_int (by rw [Int.toNat_natCast, e]), rfl⟩
end Go.Proofs.Ytdojbknkaoiioaa
