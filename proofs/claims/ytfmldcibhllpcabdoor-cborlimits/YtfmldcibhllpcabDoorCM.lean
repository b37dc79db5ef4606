/-
  Items one step at a time; how many there are.
-/
import Derived.Test.YtfmldcibhllpcabDoorCF
namespace Go.Proofs.YtfmldcibhllpcabDoor
open Go.RowKit
set_option linter.unusedVariables false
set_option linter.unusedSimpArgs false

/-- What stands behind a head; K: its kind as forms number it. -/
def behC (d within K n t1 : Nat) (zs : Bs) : Except Nat (It × Nat × Bs) :=
  if K = 0 then .ok (⟨1, n, [], []⟩, t1, zs)
  else if K = 1 then .ok (⟨2, n, [], []⟩, t1, zs)
  else if K = 2 then (if zs.length < n then .error 20 else .ok (⟨3, 0, zs.take n, []⟩, t1, zs.drop n))
  else if K = 3 then (if zs.length < n then .error 20 else if Lib.validD (zs.take n) then .ok (⟨4, 0, zs.take n, []⟩, t1, zs.drop n) else .error 23)
  else if K = 6 then .error 20
  else match d with
    | 0 => .error 13
    | d + 1 => match pcsC (itemC d) (decide (K = 5)) (within + 1) n none [] t1 zs with
      | .error e => .error e
      | .ok (kids, t2, us) => .ok (⟨K + 1, 0, [], kids⟩, t2, us)
theorem itemC_eq (d within t : Nat) (xs : Bs) : itemC d within t xs = if 512 ≤ t then .error 14 else match xs with
    | [] => .error 20
    | c :: ys => if c.toNat / 32 = 7 then (if c.toNat % 32 < 20 ∨ 22 < c.toNat % 32 then .error 20 else .ok (⟨c.toNat % 32 - 13, 0, [], []⟩, t + 1, ys))
      else match numC (c.toNat % 32) ys with
        | .error e => .error e
        | .ok (n, zs) => behC d within (c.toNat / 32) n (t + 1) zs := by
  unfold itemC behC
  by_cases h0 : 512 ≤ t
  · rw [if_pos h0, if_pos h0]
  rw [if_neg h0, if_neg h0]
  cases xs with
  | nil => rfl
  | cons c ys =>
    simp only []
    by_cases h7 : c.toNat / 32 = 7
    · rw [if_pos h7, if_pos h7]
    rw [if_neg h7, if_neg h7]
    cases hn : numC (c.toNat % 32) ys with
    | error e => rfl
    | ok r => cases d <;> rfl
theorem numC_len {low : Nat} {xs : Bs} {n : Nat} {ys : Bs} (h : numC low xs = .ok (n, ys)) : ys.length ≤ xs.length := by
  unfold numC at h
  by_cases h1 : low < 24
  · rw [if_pos h1] at h
    cases h
    exact Nat.le_refl _
  rw [if_neg h1] at h
  by_cases h2 : 27 < low
  · rw [if_pos h2] at h
    cases h
  rw [if_neg h2] at h
  cases hb : beC (2 ^ (low - 24)) 0 xs with
  | none => rw [hb] at h; cases h
  | some p =>
    obtain ⟨n', ys'⟩ := p
    rw [hb] at h
    simp only [] at h
    obtain ⟨m, _, _, m3⟩ := beC_form _ _ _ _ _ hb
    split at h
    · cases h
    · cases h
      rw [m3]
      simp
/-- What a list of items may do to the count and the bytes. -/
def CntOK (item : Nat → Nat → Bs → Except Nat (It × Nat × Bs)) : Prop := ∀ w t xs i t' ys, t ≤ 512 → item w t xs = .ok (i, t', ys) → t < t' ∧ t' ≤ 512 ∧ ys.length < xs.length
theorem pcs_cnt (item : Nat → Nat → Bs → Except Nat (It × Nat × Bs)) (H : CntOK item) (pairs : Bool) (within : Nat) : ∀ (m : Nat) (last : Option It) (kids : List It) (t : Nat) (xs : Bs) (kids' : List It) (t' : Nat) (ys : Bs), t ≤ 512 → pcsC item pairs within m last kids t xs = .ok (kids', t', ys) → t ≤ t' ∧ t' ≤ 512 ∧ ys.length ≤ xs.length
  | 0, last, kids, t, xs, kids', t', ys, ht, h => by
    rw [pcsC] at h
    cases h
    exact ⟨Nat.le_refl _, ht, Nat.le_refl _⟩
  | m + 1, last, kids, t, xs, kids', t', ys, ht, h => by
    rw [pcsC] at h
    cases hk : item within t xs with
    | error e => rw [hk] at h; cases h
    | ok r =>
      obtain ⟨k, t1, zs⟩ := r
      rw [hk] at h
      simp only [] at h
      have e1 := H _ _ _ _ _ _ ht hk
      cases pairs with
      | false =>
        simp only [Bool.false_eq_true, if_false] at h
        have := pcs_cnt item H false within m none (kids ++ [k]) t1 zs kids' t' ys e1.2.1 h
        omega
      | true =>
        simp only [if_true] at h
        by_cases q0 : keyC k = false
        · rw [if_pos q0] at h
          cases h
        · rw [if_neg q0] at h
          by_cases q1 : badOrd last k = true
          · rw [if_pos q1] at h
            cases h
          · rw [if_neg q1] at h
            cases hv : item within t1 zs with
            | error e => rw [hv] at h; cases h
            | ok r2 =>
              obtain ⟨v, t2, us⟩ := r2
              rw [hv] at h
              simp only [] at h
              have e2 := H _ _ _ _ _ _ e1.2.1 hv
              have := pcs_cnt item H true within m (some k) (kids ++ [k, v]) t2 us kids' t' ys e2.2.1 h
              omega
theorem item_cnt : ∀ (d : Nat), CntOK (itemC d) := by
  intro d
  induction d with
  | zero =>
    intro w t xs i t' ys ht h
    rw [itemC_eq] at h
    by_cases h0 : 512 ≤ t
    · rw [if_pos h0] at h; cases h
    rw [if_neg h0] at h
    cases xs with
    | nil => cases h
    | cons c xs =>
      simp only [] at h
      split at h
      · split at h
        · cases h
        · cases h; simp; omega
      · split at h
        · cases h
        · rename_i n zs hn
          have hl := numC_len hn
          unfold behC at h
          repeat' split at h
          all_goals first | (cases h; done) | (cases h; simp at hl ⊢; omega)
  | succ d ih =>
    intro w t xs i t' ys ht h
    rw [itemC_eq] at h
    by_cases h0 : 512 ≤ t
    · rw [if_pos h0] at h; cases h
    rw [if_neg h0] at h
    cases xs with
    | nil => cases h
    | cons c xs =>
      simp only [] at h
      split at h
      · split at h
        · cases h
        · cases h; simp; omega
      · split at h
        · cases h
        · rename_i n zs hn
          have hl := numC_len hn
          unfold behC at h
          split at h
          · cases h; simp at hl ⊢; omega
          split at h
          · cases h; simp at hl ⊢; omega
          split at h
          · split at h
            · cases h
            · cases h; simp at hl ⊢; omega
          split at h
          · split at h
            · cases h
            · split at h
              · cases h; simp at hl ⊢; omega
              · cases h
          split at h
          · cases h
          simp only [] at h
          cases hp : pcsC (itemC d) (decide (c.toNat / 32 = 5)) (w + 1) n none [] (t + 1) zs with
          | error e => rw [hp] at h; cases h
          | ok r =>
            obtain ⟨kids, t2, us⟩ := r
            rw [hp] at h
            simp only [] at h
            cases h
            have := pcs_cnt _ ih _ _ _ _ _ _ _ _ _ _ (by omega) hp
            simp at hl ⊢
            omega
/-- Faults are numbers from 1 to 99. -/
def ErrOK (item : Nat → Nat → Bs → Except Nat (It × Nat × Bs)) : Prop := ∀ w t xs k, item w t xs = .error k → 0 < k ∧ k < 100
theorem numC_err {low : Nat} {xs : Bs} {k : Nat} (h : numC low xs = .error k) : 0 < k ∧ k < 100 := by
  unfold numC at h
  repeat' split at h
  all_goals first | (cases h; done) | (cases h; exact ⟨by decide, by decide⟩)
theorem pcs_err (item : Nat → Nat → Bs → Except Nat (It × Nat × Bs)) (H : ErrOK item) (pairs : Bool) (within : Nat) : ∀ (m : Nat) (last : Option It) (kids : List It) (t : Nat) (xs : Bs) (k : Nat), pcsC item pairs within m last kids t xs = .error k → 0 < k ∧ k < 100
  | 0, last, kids, t, xs, k, h => by
    rw [pcsC] at h
    cases h
  | m + 1, last, kids, t, xs, k, h => by
    rw [pcsC] at h
    cases hk : item within t xs with
    | error e => rw [hk] at h; cases h; exact H _ _ _ _ hk
    | ok r =>
      obtain ⟨k', t1, zs⟩ := r
      rw [hk] at h
      simp only [] at h
      cases pairs with
      | false =>
        simp only [Bool.false_eq_true, if_false] at h
        exact pcs_err item H false within m none _ t1 zs k h
      | true =>
        simp only [if_true] at h
        by_cases q0 : keyC k' = false
        · rw [if_pos q0] at h
          cases h
          exact ⟨by decide, by decide⟩
        · rw [if_neg q0] at h
          by_cases q1 : badOrd last k' = true
          · rw [if_pos q1] at h
            cases h
            exact ⟨by decide, by decide⟩
          · rw [if_neg q1] at h
            cases hv : item within t1 zs with
            | error e => rw [hv] at h; cases h; exact H _ _ _ _ hv
            | ok r2 =>
              obtain ⟨v, t2, us⟩ := r2
              rw [hv] at h
              simp only [] at h
              exact pcs_err item H true within m (some k') _ t2 us k h
theorem beh_err (d w K n t : Nat) (zs : Bs) (k : Nat) (H : ∀ d', d = d' + 1 → ErrOK (itemC d')) (h : behC d w K n t zs = .error k) : 0 < k ∧ k < 100 := by
  unfold behC at h
  split at h
  · cases h
  split at h
  · cases h
  split at h
  · split at h
    · cases h; exact ⟨by decide, by decide⟩
    · cases h
  split at h
  · split at h
    · cases h; exact ⟨by decide, by decide⟩
    · split at h
      · cases h
      · cases h; exact ⟨by decide, by decide⟩
  split at h
  · cases h; exact ⟨by decide, by decide⟩
  cases d with
  | zero => cases h; exact ⟨by decide, by decide⟩
  | succ d =>
    simp only [] at h
    cases hp : pcsC (itemC d) (decide (K = 5)) (w + 1) n none [] t zs with
    | error e => rw [hp] at h; cases h; exact pcs_err _ (H d rfl) _ _ _ _ _ _ _ _ hp
    | ok r => rw [hp] at h; cases h
theorem item_err1 (d : Nat) (H : ∀ d', d = d' + 1 → ErrOK (itemC d')) : ErrOK (itemC d) := by
  intro w t xs k h
  rw [itemC_eq] at h
  split at h
  · cases h; exact ⟨by decide, by decide⟩
  cases xs with
  | nil => cases h; exact ⟨by decide, by decide⟩
  | cons c ys =>
    simp only [] at h
    split at h
    · split at h
      · cases h; exact ⟨by decide, by decide⟩
      · cases h
    · cases hn : numC (c.toNat % 32) ys with
      | error e => rw [hn] at h; cases h; exact numC_err hn
      | ok r =>
        rw [hn] at h
        exact beh_err d _ _ _ _ _ _ H h
theorem item_err : ∀ (d : Nat), ErrOK (itemC d) := by
  intro d
  induction d with
  | zero => exact item_err1 0 (fun d' e => by omega)
  | succ d ih => exact item_err1 (d + 1) (fun d' e => by cases e; exact ih)
end Go.Proofs.YtfmldcibhllpcabDoor
