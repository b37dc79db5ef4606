/-
  CBOR's encoder as the document says it, by plain functions; what is read is written as the bytes that were read.
-/
import Derived.Test.YtfmldcibhllpcabDoorCM
namespace Go.Proofs.YtfmldcibhllpcabDoor
open Go.RowKit
set_option linter.unusedVariables false
set_option linter.unusedSimpArgs false

/-- What is wrong with a map's key behind these; 0: nothing. -/
def keyE (last : Option It) (k : It) : Nat := if keyC k = false then 20 else if badOrd last k then 21 else 0
/-- The kids, one by one; par: may the next be a key; last: the last key. -/
def encKs (enc : Nat → It → Except Nat (Bs × Nat)) (pairs : Bool) : Bool → Option It → List It → Nat → Except Nat (Bs × Nat)
  | _, _, [], t => .ok ([], t)
  | par, last, k :: ks, t => if pairs && par && decide (keyE last k ≠ 0) then .error (keyE last k) else match enc t k with
    | .error e => .error e
    | .ok (b1, t1) => match encKs enc pairs (!par) (if par then some k else last) ks t1 with
      | .error e => .error e
      | .ok (b2, t2) => .ok (b1 ++ b2, t2)
/-- An item's bytes, and how many items there are then; d: so many more may be within one another; t: so many items there were. -/
def encI : Nat → Nat → It → Except Nat (Bs × Nat)
  | d, t, i => if 512 ≤ t then .error 14
    else if i.kind = 1 ∨ i.kind = 2 then .ok (headF (i.kind - 1) i.n, t + 1)
    else if i.kind = 3 then .ok (headF 2 i.b.length ++ i.b, t + 1)
    else if i.kind = 4 then (if Lib.validD i.b then .ok (headF 3 i.b.length ++ i.b, t + 1) else .error 23)
    else if i.kind = 7 ∨ i.kind = 8 ∨ i.kind = 9 then .ok ([UInt8.ofNat (i.kind + 237)], t + 1)
    else if i.kind = 5 ∨ i.kind = 6 then (match d with
      | 0 => .error 13
      | d + 1 => if i.kind = 6 ∧ i.kids.length % 2 = 1 then .error 20 else match encKs (encI d) (decide (i.kind = 6)) true none i.kids (t + 1) with
        | .error e => .error e
        | .ok (b, t2) => .ok (headF (i.kind - 1) (if i.kind = 6 then i.kids.length / 2 else i.kids.length) ++ b, t2))
    else .error 20
/-- Encode. -/
def encC (i : It) : Except Nat Bs := match encI 8 0 i with
  | .error e => .error e
  | .ok (b, _) => if 8192 < b.length then .error 3 else .ok b
theorem pcs_enc (item : Nat → Nat → Bs → Except Nat (It × Nat × Bs)) (enc : Nat → It → Except Nat (Bs × Nat)) (F : It → Bs) (H : ∀ w t xs i t' ys, item w t xs = .ok (i, t', ys) → enc t i = .ok (F i, t')) (pairs : Bool) (within : Nat) : ∀ (m : Nat) (last : Option It) (kids : List It) (t : Nat) (xs : Bs) (kids' : List It) (t' : Nat) (ys : Bs), pcsC item pairs within m last kids t xs = .ok (kids', t', ys) → ∃ more, kids' = kids ++ more ∧ ∀ par, (pairs = true → par = true) → ∀ l2, (pairs = true → l2 = last) → encKs enc pairs par l2 more t = .ok (more.flatMap F, t')
  | 0, last, kids, t, xs, kids', t', ys, h => by
    rw [pcsC] at h
    cases h
    exact ⟨[], by simp, fun par _ l2 _ => by simp [encKs]⟩
  | m + 1, last, kids, t, xs, kids', t', ys, h => by
    rw [pcsC] at h
    cases hk : item within t xs with
    | error e => rw [hk] at h; cases h
    | ok r =>
      obtain ⟨k, t1, zs⟩ := r
      rw [hk] at h
      simp only [] at h
      have e1 := H _ _ _ _ _ _ hk
      cases pairs with
      | false =>
        simp only [Bool.false_eq_true, if_false] at h
        obtain ⟨more, a, b⟩ := pcs_enc item enc F H false within m none (kids ++ [k]) t1 zs kids' t' ys h
        refine ⟨k :: more, by rw [a]; simp, fun par _ l2 _ => ?_⟩
        rw [encKs, Bool.false_and, Bool.false_and, if_neg (by decide), e1]
        simp only []
        rw [b _ (fun e => by cases e) _ (fun e => by cases e)]
        rfl
      | true =>
        simp only [if_true] at h
        by_cases q0 : keyC k = false
        · rw [if_pos q0] at h
          cases h
        · rw [if_neg q0] at h
          by_cases q1 : badOrd last k = true
          · rw [if_pos q1] at h
            cases h
          · rw [if_neg q1] at h
            cases hv : item within t1 zs with
            | error e => rw [hv] at h; cases h
            | ok r2 =>
              obtain ⟨v, t2, us⟩ := r2
              rw [hv] at h
              simp only [] at h
              have e2 := H _ _ _ _ _ _ hv
              obtain ⟨more, a, b⟩ := pcs_enc item enc F H true within m (some k) (kids ++ [k, v]) t2 us kids' t' ys h
              refine ⟨k :: v :: more, by rw [a]; simp, fun par hp l2 hl => ?_⟩
              rw [hp rfl, hl rfl, encKs]
              have hke : keyE last k = 0 := by unfold keyE; rw [if_neg q0, if_neg q1]
              rw [hke]
              simp only [ne_eq, not_true_eq_false, decide_false, Bool.and_false, Bool.false_eq_true, if_false]
              rw [e1]
              simp only [Bool.not_true]
              rw [encKs]
              simp only [Bool.and_false, Bool.false_and, Bool.false_eq_true, if_false, if_true]
              rw [e2]
              simp only [Bool.not_false]
              rw [b true (fun _ => rfl) (some k) (fun _ => rfl)]
              simp
/-- What was read is written as it was read: one step. -/
theorem item_enc1 (d : Nat) (IH : ∀ d', d = d' + 1 → ∀ (within t : Nat) (xs : Bs) (i : It) (t' : Nat) (ys : Bs), itemC d' within t xs = .ok (i, t', ys) → encI d' t i = .ok (formC d' i, t')) (within t : Nat) (xs : Bs) (i : It) (t' : Nat) (ys : Bs) (h : itemC d within t xs = .ok (i, t', ys)) : encI d t i = .ok (formC d i, t') := by
  unfold itemC at h
  unfold encI
  by_cases h0 : 512 ≤ t
  · rw [if_pos h0] at h; cases h
  rw [if_neg h0] at h
  rw [if_neg h0]
  cases xs with
  | nil => cases h
  | cons c xs =>
    simp only [] at h
    have hc := c.toNat_lt
    by_cases h7 : c.toNat / 32 = 7
    · rw [if_pos h7] at h
      by_cases hl : c.toNat % 32 < 20 ∨ 22 < c.toNat % 32
      · rw [if_pos hl] at h; cases h
      rw [if_neg hl] at h
      cases h
      rw [formC_leaf (by simp only; omega)]
      unfold leafF
      simp only []
      rw [if_neg (by omega), if_neg (by omega), if_neg (by omega), if_pos (by omega), if_neg (by omega), if_neg (by omega), if_neg (by omega), if_neg (by omega)]
    rw [if_neg h7] at h
    cases hn : numC (c.toNat % 32) xs with
    | error e => rw [hn] at h; cases h
    | ok r =>
      obtain ⟨n, zs⟩ := r
      rw [hn] at h
      simp only [] at h
      by_cases k0 : c.toNat / 32 = 0
      · rw [if_pos k0] at h
        cases h
        rw [formC_leaf (by simp)]
        rfl
      rw [if_neg k0] at h
      by_cases k1 : c.toNat / 32 = 1
      · rw [if_pos k1] at h
        cases h
        rw [formC_leaf (by simp)]
        rfl
      rw [if_neg k1] at h
      by_cases k2 : c.toNat / 32 = 2
      · rw [if_pos k2] at h
        by_cases hz : zs.length < n
        · rw [if_pos hz] at h; cases h
        rw [if_neg hz] at h
        cases h
        rw [formC_leaf (by simp)]
        rfl
      rw [if_neg k2] at h
      by_cases k3 : c.toNat / 32 = 3
      · rw [if_pos k3] at h
        by_cases hz : zs.length < n
        · rw [if_pos hz] at h; cases h
        rw [if_neg hz] at h
        by_cases hu : Lib.validD (zs.take n) = true
        · rw [if_pos hu] at h
          cases h
          rw [formC_leaf (by simp)]
          simp only []
          rw [if_neg (by decide), if_neg (by decide), if_pos trivial, if_pos hu]
          rfl
        · rw [if_neg hu] at h; cases h
      rw [if_neg k3] at h
      by_cases k6 : c.toNat / 32 = 6
      · rw [if_pos k6] at h; cases h
      rw [if_neg k6] at h
      cases d with
      | zero => cases h
      | succ d =>
        simp only [] at h
        cases hp : pcsC (itemC d) (decide (c.toNat / 32 = 5)) (within + 1) n none [] (t + 1) zs with
        | error e => rw [hp] at h; cases h
        | ok r =>
          obtain ⟨kids, t2, us⟩ := r
          rw [hp] at h
          simp only [] at h
          cases h
          obtain ⟨more, a, b⟩ := pcs_enc (itemC d) (encI d) (formC d) (fun w t xs i t' ys hh => IH d rfl w t xs i t' ys hh) _ _ _ _ _ _ _ _ _ _ hp
          obtain ⟨more2, a2, b2, l⟩ := pcs_form (itemC d) (formC d) (fun w t xs i t' ys hh => item_form d w t xs i t' ys hh) _ _ _ _ _ _ _ _ _ _ hp
          rw [List.nil_append] at a a2
          subst a
          subst a2
          have b' := b true (fun _ => rfl) none (fun _ => rfl)
          simp only []
          rw [if_neg (by omega), if_neg (by omega), if_neg (by omega), if_neg (by omega), if_pos (by omega)]
          by_cases k5 : c.toNat / 32 = 5
          · have l' : kids.length = 2 * n := by rw [l, if_pos (by simpa using k5)]
            have e6 : decide (c.toNat / 32 + 1 = 6) = decide (c.toNat / 32 = 5) := by rw [k5]; rfl
            rw [if_neg (by omega), e6, b']
            simp only []
            rw [if_pos (by omega), formC, if_neg (by simp only; omega), if_pos (by simp only; omega), k5]
          · have k4 : c.toNat / 32 = 4 := by omega
            have e6 : decide (c.toNat / 32 + 1 = 6) = decide (c.toNat / 32 = 5) := by rw [k4]; rfl
            rw [if_neg (by omega), e6, b']
            simp only []
            rw [if_neg (by omega), formC, if_pos (by simp only; omega), k4]
/-- What was read is written as it was read. -/
theorem item_enc : ∀ (d within t : Nat) (xs : Bs) (i : It) (t' : Nat) (ys : Bs), itemC d within t xs = .ok (i, t', ys) → encI d t i = .ok (formC d i, t') := by
  intro d
  induction d with
  | zero => exact fun within t xs i t' ys h => item_enc1 0 (fun d' e => by omega) within t xs i t' ys h
  | succ d ih => exact fun within t xs i t' ys h => item_enc1 (d + 1) (fun d' e => by cases e; exact ih) within t xs i t' ys h
/-- What Decode reads, Encode writes. -/
theorem dec_enc {xs : Bs} {i : It} {ys : Bs} (h : decC xs = .ok (i, ys)) : ∃ bs, encC i = .ok bs ∧ xs = bs ++ ys := by
  have hf := dec_form h
  unfold decC at h
  by_cases h0 : 8192 < xs.length
  · rw [if_pos h0] at h; cases h
  rw [if_neg h0] at h
  cases hi : itemC 8 0 0 xs with
  | error e => rw [hi] at h; cases h
  | ok r =>
    obtain ⟨j, t', zs⟩ := r
    rw [hi] at h
    simp only [Except.ok.injEq, Prod.mk.injEq] at h
    obtain ⟨rfl, rfl⟩ := h
    refine ⟨formC 8 j, ?_, hf⟩
    unfold encC
    rw [item_enc 8 0 0 xs j t' zs hi]
    simp only []
    rw [if_neg (by rw [hf, List.length_append] at h0; omega)]
end Go.Proofs.YtfmldcibhllpcabDoor
