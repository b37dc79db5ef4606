/-
  Contract of the law's long: whether one of the numbers handed over has more limbs than are gone to.
-/
import Derived.Test.YtjaokpgccnkipaaModP
namespace Go.Proofs.Ytjaokpgccnkipaa
open Go.RowKit
set_option linter.unusedVariables false
set_option linter.unusedSimpArgs false

set_option maxHeartbeats 400000 in
theorem long_any (g n : Nat) (mst : Nat) (A : Nat → Option Addr) (L C : Nat → Nat) (w : World) (hn : n ≤ 100) (hmst : mst ≤ 1000) (hL : ∀ i, i < n → L i ≤ maxLen) (hc : ∀ i, i < n → w.cell? ⟨g, i, none⟩ = some (.slice (A i) (L i) (C i))) :
    Calls Try.prog 10 #[.int .i64 mst, .slice (some ⟨g, 0, none⟩) n n] w fun e w' => ((∀ i, i < n → L i ≤ mst) ∧ e = .returned (.bool false) ∨ (∃ i, i < n ∧ mst < L i) ∧ e = .returned (.bool true)) ∧ w' = w := by
  go_enter Try.func10, Try.ntmps10
  go_wp2
  go_loop [9] (fun v => ∃ k : Nat, k ≤ n ∧ v = .int .i64 k ∧ ∀ i, i < k → L i ≤ mst) (fun v => n - (intOf v).toNat)
  case atStart => exact ⟨0, Nat.zero_le _, rfl, fun i h => by omega⟩
  case round =>
    obtain ⟨k, hk, rfl, hs⟩ := hrel
    by_cases hlt : k < n
    · have hck := hc k hlt
      have hLk := hL k hlt
      have HS : Hid (∀ i, i < k → L i ≤ mst) := hs
      unfold maxLen at hLk
      clear hs hc hL
      by_cases h70 : mst < L k
      · go_wp2
        go_ret
        exact ⟨.inr ⟨⟨k, hlt, h70⟩, rfl⟩, rfl⟩
      · have h70' : L k ≤ mst := by omega
        clear h70
        go_wp2
        go_round
        case rel =>
          refine ⟨k + 1, by omega, by go_num, fun i hi => ?_⟩
          by_cases e : i = k
          · rw [e]; exact h70'
          · exact HS.out i (by omega)
        case measure => simp [intOf]; omega
    · obtain rfl : k = n := by omega
      have HS : Hid (∀ i, i < k → L i ≤ mst) := hs
      clear hs hc hL
      go_wp2
      go_ret
      exact ⟨.inl ⟨HS.out, rfl⟩, rfl⟩

/-- long of 1. -/
theorem long1 (ao : Option Addr) (la ca : Nat) (mst : Nat) (w : World) (hmst : mst ≤ 1000) (ha : la ≤ maxLen) :
    Calls Try.prog 10 #[.int .i64 mst, .slice (some ⟨w.heap.size, 0, none⟩) 1 1] (w.alloc (.cells #[.slice ao la ca] 23)) fun e w' => e = .returned (.bool (decide (mst < la))) ∧ Below w.heap.size w w' := by
  refine (long_any w.heap.size 1 mst (fun _ => ao) (fun _ => la) (fun _ => ca) _ (by decide) hmst (fun i hi => ?_) (fun i hi => ?_)).mono ?_
  · have : i = 0 := by omega
    rcases this with rfl <;> (simp <;> assumption)
  · have : i = 0 := by omega
    rcases this with rfl <;> (simp)
  · rintro e w' ⟨h1, rfl⟩
    refine ⟨?_, (Below.refl _ _).alloc (Nat.le_refl _) _⟩
    rcases h1 with ⟨a, rfl⟩ | ⟨⟨i, hi, hh⟩, rfl⟩
    · have a0 := a 0 (by decide)
      try simp at a0
      rw [decide_eq_false (by omega)]
    · rw [decide_eq_true]
      have : i = 0 := by omega
      rcases this with rfl <;> (try simp at hh) <;> omega
/-- long of 2. -/
theorem long2 (ao bo : Option Addr) (la ca lb cb : Nat) (mst : Nat) (w : World) (hmst : mst ≤ 1000) (ha : la ≤ maxLen) (hb : lb ≤ maxLen) :
    Calls Try.prog 10 #[.int .i64 mst, .slice (some ⟨w.heap.size, 0, none⟩) 2 2] (w.alloc (.cells #[.slice ao la ca, .slice bo lb cb] 23)) fun e w' => e = .returned (.bool (decide (mst < la ∨ mst < lb))) ∧ Below w.heap.size w w' := by
  refine (long_any w.heap.size 2 mst (fun i => if i = 0 then ao else bo) (fun i => if i = 0 then la else lb) (fun i => if i = 0 then ca else cb) _ (by decide) hmst (fun i hi => ?_) (fun i hi => ?_)).mono ?_
  · have : i = 0 ∨ i = 1 := by omega
    rcases this with rfl | rfl <;> (simp <;> assumption)
  · have : i = 0 ∨ i = 1 := by omega
    rcases this with rfl | rfl <;> (simp)
  · rintro e w' ⟨h1, rfl⟩
    refine ⟨?_, (Below.refl _ _).alloc (Nat.le_refl _) _⟩
    rcases h1 with ⟨a, rfl⟩ | ⟨⟨i, hi, hh⟩, rfl⟩
    · have a0 := a 0 (by decide)
      have a1 := a 1 (by decide)
      try simp at a0 a1
      rw [decide_eq_false (by omega)]
    · rw [decide_eq_true]
      have : i = 0 ∨ i = 1 := by omega
      rcases this with rfl | rfl <;> (try simp at hh) <;> omega
/-- long of 3. -/
theorem long3 (ao bo ko : Option Addr) (la ca lb cb lk ck : Nat) (mst : Nat) (w : World) (hmst : mst ≤ 1000) (ha : la ≤ maxLen) (hb : lb ≤ maxLen) (hk : lk ≤ maxLen) :
    Calls Try.prog 10 #[.int .i64 mst, .slice (some ⟨w.heap.size, 0, none⟩) 3 3] (w.alloc (.cells #[.slice ao la ca, .slice bo lb cb, .slice ko lk ck] 23)) fun e w' => e = .returned (.bool (decide (mst < la ∨ mst < lb ∨ mst < lk))) ∧ Below w.heap.size w w' := by
  refine (long_any w.heap.size 3 mst (fun i => if i = 0 then ao else if i = 1 then bo else ko) (fun i => if i = 0 then la else if i = 1 then lb else lk) (fun i => if i = 0 then ca else if i = 1 then cb else ck) _ (by decide) hmst (fun i hi => ?_) (fun i hi => ?_)).mono ?_
  · have : i = 0 ∨ i = 1 ∨ i = 2 := by omega
    rcases this with rfl | rfl | rfl <;> (simp <;> assumption)
  · have : i = 0 ∨ i = 1 ∨ i = 2 := by omega
    rcases this with rfl | rfl | rfl <;> (simp)
  · rintro e w' ⟨h1, rfl⟩
    refine ⟨?_, (Below.refl _ _).alloc (Nat.le_refl _) _⟩
    rcases h1 with ⟨a, rfl⟩ | ⟨⟨i, hi, hh⟩, rfl⟩
    · have a0 := a 0 (by decide)
      have a1 := a 1 (by decide)
      have a2 := a 2 (by decide)
      try simp at a0 a1 a2
      rw [decide_eq_false (by omega)]
    · rw [decide_eq_true]
      have : i = 0 ∨ i = 1 ∨ i = 2 := by omega
      rcases this with rfl | rfl | rfl <;> (try simp at hh) <;> omega
/-- long of 4. -/
theorem long4 (ao bo ko mo : Option Addr) (la ca lb cb lk ck lm cm : Nat) (mst : Nat) (w : World) (hmst : mst ≤ 1000) (ha : la ≤ maxLen) (hb : lb ≤ maxLen) (hk : lk ≤ maxLen) (hm : lm ≤ maxLen) :
    Calls Try.prog 10 #[.int .i64 mst, .slice (some ⟨w.heap.size, 0, none⟩) 4 4] (w.alloc (.cells #[.slice ao la ca, .slice bo lb cb, .slice ko lk ck, .slice mo lm cm] 23)) fun e w' => e = .returned (.bool (decide (mst < la ∨ mst < lb ∨ mst < lk ∨ mst < lm))) ∧ Below w.heap.size w w' := by
  refine (long_any w.heap.size 4 mst (fun i => if i = 0 then ao else if i = 1 then bo else if i = 2 then ko else mo) (fun i => if i = 0 then la else if i = 1 then lb else if i = 2 then lk else lm) (fun i => if i = 0 then ca else if i = 1 then cb else if i = 2 then ck else cm) _ (by decide) hmst (fun i hi => ?_) (fun i hi => ?_)).mono ?_
  · have : i = 0 ∨ i = 1 ∨ i = 2 ∨ i = 3 := by omega
    rcases this with rfl | rfl | rfl | rfl <;> (simp <;> assumption)
  · have : i = 0 ∨ i = 1 ∨ i = 2 ∨ i = 3 := by omega
    rcases this with rfl | rfl | rfl | rfl <;> (simp)
  · rintro e w' ⟨h1, rfl⟩
    refine ⟨?_, (Below.refl _ _).alloc (Nat.le_refl _) _⟩
    rcases h1 with ⟨a, rfl⟩ | ⟨⟨i, hi, hh⟩, rfl⟩
    · have a0 := a 0 (by decide)
      have a1 := a 1 (by decide)
      have a2 := a 2 (by decide)
      have a3 := a 3 (by decide)
      try simp at a0 a1 a2 a3
      rw [decide_eq_false (by omega)]
    · rw [decide_eq_true]
      have : i = 0 ∨ i = 1 ∨ i = 2 ∨ i = 3 := by omega
      rcases this with rfl | rfl | rfl | rfl <;> (try simp at hh) <;> omega
end Go.Proofs.Ytjaokpgccnkipaa
