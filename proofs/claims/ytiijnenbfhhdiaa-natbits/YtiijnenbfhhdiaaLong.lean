/-
  Contract of long: whether one of the numbers handed over has more limbs than are gone to.
-/
import Derived.Test.YtiijnenbfhhdiaaAwake
namespace Go.Proofs.Ytiijnenbfhhdiaa
open Go.RowKit
set_option linter.unusedVariables false
set_option linter.unusedSimpArgs false

set_option maxHeartbeats 400000 in
theorem long_any (g n : Nat) (A : Nat → Option Addr) (L C : Nat → Nat) (w : World) (hn : n ≤ 100) (hL : ∀ i, i < n → L i ≤ maxLen) (hc : ∀ i, i < n → w.cell? ⟨g, i, none⟩ = some (.slice (A i) (L i) (C i))) :
    Calls Try.prog 10 #[.slice (some ⟨g, 0, none⟩) n n] w fun e w' => ((∀ i, i < n → L i ≤ 70) ∧ e = .returned (.bool false) ∨ (∃ i, i < n ∧ 70 < L i) ∧ e = .returned (.bool true)) ∧ w' = w := by
  go_enter Try.func10, Try.ntmps10
  go_wp2
  go_loop [7] (fun v => ∃ k : Nat, k ≤ n ∧ v = .int .i64 k ∧ ∀ i, i < k → L i ≤ 70) (fun v => n - (intOf v).toNat)
  case atStart => exact ⟨0, Nat.zero_le _, rfl, fun i h => by omega⟩
  case round =>
    obtain ⟨k, hk, rfl, hs⟩ := hrel
    by_cases hlt : k < n
    · have hck := hc k hlt
      have hLk := hL k hlt
      have HS : Hid (∀ i, i < k → L i ≤ 70) := hs
      unfold maxLen at hLk
      clear hs hc hL
      by_cases h70 : 70 < L k
      · go_wp2
        go_ret
        exact ⟨.inr ⟨⟨k, hlt, h70⟩, rfl⟩, rfl⟩
      · have h70' : L k ≤ 70 := by omega
        clear h70
        go_wp2
        go_round
        case rel =>
          refine ⟨k + 1, by omega, by go_num, fun i hi => ?_⟩
          by_cases e : i = k
          · rw [e]; exact h70'
          · exact HS.out i (by omega)
        case measure => simp [intOf]; omega
    · obtain rfl : k = n := by omega
      have HS : Hid (∀ i, i < k → L i ≤ 70) := hs
      clear hs hc hL
      go_wp2
      go_ret
      exact ⟨.inl ⟨HS.out, rfl⟩, rfl⟩

/-- long of one number. -/
theorem long1 (ao : Option Addr) (la ca : Nat) (w : World) (h : la ≤ maxLen) :
    Calls Try.prog 10 #[.slice (some ⟨w.heap.size, 0, none⟩) 1 1] (w.alloc (.cells #[.slice ao la ca] 23)) fun e w' => e = .returned (.bool (decide (70 < la))) ∧ Below w.heap.size w w' := by
  refine (long_any w.heap.size 1 (fun _ => ao) (fun _ => la) (fun _ => ca) _ (by decide) (fun _ _ => h) (fun i hi => ?_)).mono ?_
  · obtain rfl : i = 0 := by omega
    simp
  · rintro e w' ⟨h1, rfl⟩
    refine ⟨?_, (Below.refl _ _).alloc (Nat.le_refl _) _⟩
    rcases h1 with ⟨a, rfl⟩ | ⟨⟨i, hi, hh⟩, rfl⟩
    · have := a 0 (by decide)
      rw [decide_eq_false (by omega)]
    · rw [decide_eq_true hh]
/-- long of two. -/
theorem long2 (ao bo : Option Addr) (la ca lb cb : Nat) (w : World) (h : la ≤ maxLen) (h' : lb ≤ maxLen) :
    Calls Try.prog 10 #[.slice (some ⟨w.heap.size, 0, none⟩) 2 2] (w.alloc (.cells #[.slice ao la ca, .slice bo lb cb] 23)) fun e w' => e = .returned (.bool (decide (70 < la ∨ 70 < lb))) ∧ Below w.heap.size w w' := by
  refine (long_any w.heap.size 2 (fun i => if i = 0 then ao else bo) (fun i => if i = 0 then la else lb) (fun i => if i = 0 then ca else cb) _ (by decide) (fun i _ => by split <;> assumption) (fun i hi => ?_)).mono ?_
  · have : i = 0 ∨ i = 1 := by omega
    rcases this with rfl | rfl <;> simp
  · rintro e w' ⟨h1, rfl⟩
    refine ⟨?_, (Below.refl _ _).alloc (Nat.le_refl _) _⟩
    rcases h1 with ⟨a, rfl⟩ | ⟨⟨i, hi, hh⟩, rfl⟩
    · have a0 := a 0 (by decide)
      have a1 := a 1 (by decide)
      simp at a0 a1
      rw [decide_eq_false (by omega)]
    · rw [decide_eq_true]
      split at hh
      · exact .inl hh
      · exact .inr hh
/-- long of three. -/
theorem long3 (ao bo co : Option Addr) (la ca lb cb lc cc : Nat) (w : World) (h : la ≤ maxLen) (h' : lb ≤ maxLen) (h'' : lc ≤ maxLen) :
    Calls Try.prog 10 #[.slice (some ⟨w.heap.size, 0, none⟩) 3 3] (w.alloc (.cells #[.slice ao la ca, .slice bo lb cb, .slice co lc cc] 23)) fun e w' => e = .returned (.bool (decide (70 < la ∨ 70 < lb ∨ 70 < lc))) ∧ Below w.heap.size w w' := by
  refine (long_any w.heap.size 3 (fun i => if i = 0 then ao else if i = 1 then bo else co) (fun i => if i = 0 then la else if i = 1 then lb else lc) (fun i => if i = 0 then ca else if i = 1 then cb else cc) _ (by decide) (fun i _ => by split; assumption; split <;> assumption) (fun i hi => ?_)).mono ?_
  · have : i = 0 ∨ i = 1 ∨ i = 2 := by omega
    rcases this with rfl | rfl | rfl <;> simp
  · rintro e w' ⟨h1, rfl⟩
    refine ⟨?_, (Below.refl _ _).alloc (Nat.le_refl _) _⟩
    rcases h1 with ⟨a, rfl⟩ | ⟨⟨i, hi, hh⟩, rfl⟩
    · have a0 := a 0 (by decide)
      have a1 := a 1 (by decide)
      have a2 := a 2 (by decide)
      simp at a0 a1 a2
      rw [decide_eq_false (by omega)]
    · rw [decide_eq_true]
      split at hh
      · exact .inl hh
      · split at hh
        · exact .inr (.inl hh)
        · exact .inr (.inr hh)
end Go.Proofs.Ytiijnenbfhhdiaa
