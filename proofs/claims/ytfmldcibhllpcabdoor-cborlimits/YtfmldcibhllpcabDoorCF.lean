/-
  CBOR's one form: what is read stands for the bytes that were read.
-/
import Derived.Test.YtfmldcibhllpcabDoorCS
namespace Go.Proofs.YtfmldcibhllpcabDoor
open Go.RowKit
set_option linter.unusedVariables false
set_option linter.unusedSimpArgs false

/-- A number as so many bytes, the greatest first. -/
def beF : Nat → Nat → Bs
  | 0, _ => []
  | s + 1, n => UInt8.ofNat (n / 256 ^ s % 256) :: beF s n
theorem beF_add : ∀ (s c m : Nat), beF s (c * 256 ^ s + m) = beF s m := by
  have key : ∀ (s q m : Nat), beF s (q * 256 ^ s + m) = beF s m := by
    intro s
    induction s with
    | zero => intro q m; rfl
    | succ s ih =>
      intro q m
      have e : q * 256 ^ (s + 1) + m = (q * 256) * 256 ^ s + m := by rw [Nat.pow_succ, Nat.mul_comm (256 ^ s) 256, Nat.mul_assoc]
      rw [beF, beF, e, ih (q * 256) m]
      congr 2
      rw [Nat.add_comm, Nat.add_mul_div_right _ _ (Nat.pow_pos (by decide)), Nat.add_mul_mod_self_right]
  exact key
theorem beC_form : ∀ (s a : Nat) (xs : Bs) (n : Nat) (ys : Bs), beC s a xs = some (n, ys) → ∃ m, m < 256 ^ s ∧ n = a * 256 ^ s + m ∧ xs = beF s m ++ ys
  | 0, a, xs, n, ys, h => by
    simp only [beC, Option.some.injEq, Prod.mk.injEq] at h
    exact ⟨0, by simp, by rw [← h.1]; simp, by rw [h.2]; rfl⟩
  | s + 1, a, [], n, ys, h => by simp [beC] at h
  | s + 1, a, c :: xs, n, ys, h => by
    rw [beC] at h
    obtain ⟨m, h1, h2, h3⟩ := beC_form s _ xs n ys h
    have hc := c.toNat_lt
    have hp : 0 < 256 ^ s := Nat.pow_pos (by decide)
    refine ⟨c.toNat * 256 ^ s + m, ?_, ?_, ?_⟩
    · rw [Nat.pow_succ]
      have h4 : (c.toNat + 1) * 256 ^ s ≤ 256 * 256 ^ s := Nat.mul_le_mul_right _ (by omega)
      rw [Nat.add_mul, Nat.one_mul] at h4
      rw [Nat.mul_comm (256 ^ s) 256]
      omega
    · rw [h2, Nat.pow_succ, Nat.add_mul, Nat.mul_assoc, Nat.mul_comm (256 ^ s) 256]
      omega
    · rw [beF, beF_add, h3]
      have e : (c.toNat * 256 ^ s + m) / 256 ^ s = c.toNat := by
        rw [Nat.add_comm, Nat.add_mul_div_right _ _ hp, Nat.div_eq_of_lt h1]
        omega
      rw [e, Nat.mod_eq_of_lt hc]
      simp
/-- A head: a kind and a number. -/
def headF (k n : Nat) : Bs :=
  if n < 24 then [UInt8.ofNat (32 * k + n)] else if n < 256 then UInt8.ofNat (32 * k + 24) :: beF 1 n else if n < 65536 then UInt8.ofNat (32 * k + 25) :: beF 2 n else if n < 4294967296 then UInt8.ofNat (32 * k + 26) :: beF 4 n else UInt8.ofNat (32 * k + 27) :: beF 8 n
theorem u8_self (c : UInt8) : UInt8.ofNat c.toNat = c := by simp
theorem numC_form (c : UInt8) (xs : Bs) (n : Nat) (ys : Bs) (h : numC (c.toNat % 32) xs = .ok (n, ys)) : c :: xs = headF (c.toNat / 32) n ++ ys ∧ n < 18446744073709551616 := by
  unfold numC at h
  have hc := c.toNat_lt
  have e32 : 32 * (c.toNat / 32) + c.toNat % 32 = c.toNat := by omega
  by_cases h1 : c.toNat % 32 < 24
  · rw [if_pos h1] at h
    cases h
    unfold headF
    rw [if_pos h1, e32, u8_self]
    exact ⟨rfl, by omega⟩
  rw [if_neg h1] at h
  by_cases h2 : 27 < c.toNat % 32
  · rw [if_pos h2] at h
    cases h
  rw [if_neg h2] at h
  obtain ⟨s, hs⟩ : ∃ s, c.toNat % 32 - 24 = s := ⟨_, rfl⟩
  rw [hs] at h
  have hs4 : s = 0 ∨ s = 1 ∨ s = 2 ∨ s = 3 := by omega
  cases hb : beC (2 ^ s) 0 xs with
  | none => rw [hb] at h; cases h
  | some p =>
    obtain ⟨n', ys'⟩ := p
    rw [hb] at h
    simp only [] at h
    by_cases h3 : n' < leastC s
    · rw [if_pos h3] at h
      cases h
    rw [if_neg h3] at h
    cases h
    obtain ⟨m, m1, m2, m3⟩ := beC_form _ _ _ _ _ hb
    have hnm : n = m := by omega
    subst hnm
    have hlow : c.toNat % 32 = 24 + s := by omega
    have ec : c = UInt8.ofNat (32 * (c.toNat / 32) + (24 + s)) := by rw [← hlow, e32, u8_self]
    rcases hs4 with rfl | rfl | rfl | rfl
    · simp only [leastC, if_true] at h3
      have m1' : n < 256 := by simpa using m1
      unfold headF
      rw [if_neg (by omega), if_pos m1', List.cons_append, ← m3, ← ec]
      exact ⟨rfl, by omega⟩
    · have h3' : ¬ n < 256 := by simpa [leastC] using h3
      have m1' : n < 65536 := by simpa using m1
      unfold headF
      rw [if_neg (by omega), if_neg h3', if_pos m1', List.cons_append, ← m3, ← ec]
      exact ⟨rfl, by omega⟩
    · have h3' : ¬ n < 65536 := by simpa [leastC] using h3
      have m1' : n < 4294967296 := by simpa using m1
      unfold headF
      rw [if_neg (by omega), if_neg (by omega), if_neg h3', if_pos m1', List.cons_append, ← m3, ← ec]
      exact ⟨rfl, by omega⟩
    · have h3' : ¬ n < 4294967296 := by simpa [leastC] using h3
      have m1' : n < 18446744073709551616 := by simpa using m1
      unfold headF
      rw [if_neg (by omega), if_neg (by omega), if_neg (by omega), if_neg h3', List.cons_append, ← m3, ← ec]
      exact ⟨rfl, m1'⟩
/-- The form of an item that has none within it. -/
def leafF (i : It) : Bs := if i.kind = 1 then headF 0 i.n else if i.kind = 2 then headF 1 i.n else if i.kind = 3 then headF 2 i.b.length ++ i.b else if i.kind = 4 then headF 3 i.b.length ++ i.b else [UInt8.ofNat (i.kind + 237)]
/-- An item's form, so deep. -/
def formC : Nat → It → Bs
  | 0, i => leafF i
  | d + 1, i => if i.kind = 5 then headF 4 i.kids.length ++ i.kids.flatMap (formC d) else if i.kind = 6 then headF 5 (i.kids.length / 2) ++ i.kids.flatMap (formC d) else leafF i
theorem formC_leaf {d : Nat} {i : It} (h : i.kind ≠ 5 ∧ i.kind ≠ 6) : formC d i = leafF i := by
  cases d with
  | zero => rfl
  | succ d => rw [formC, if_neg h.1, if_neg h.2]
theorem pcs_form (item : Nat → Nat → Bs → Except Nat (It × Nat × Bs)) (F : It → Bs) (H : ∀ w t xs i t' ys, item w t xs = .ok (i, t', ys) → xs = F i ++ ys) (pairs : Bool) (within : Nat) : ∀ (m : Nat) (last : Option It) (kids : List It) (t : Nat) (xs : Bs) (kids' : List It) (t' : Nat) (ys : Bs), pcsC item pairs within m last kids t xs = .ok (kids', t', ys) → ∃ more, kids' = kids ++ more ∧ xs = more.flatMap F ++ ys ∧ more.length = if pairs then 2 * m else m
  | 0, last, kids, t, xs, kids', t', ys, h => by
    rw [pcsC] at h
    cases h
    exact ⟨[], by simp, by simp, by simp⟩
  | m + 1, last, kids, t, xs, kids', t', ys, h => by
    rw [pcsC] at h
    cases hk : item within t xs with
    | error e => rw [hk] at h; cases h
    | ok r =>
      obtain ⟨k, t1, zs⟩ := r
      rw [hk] at h
      simp only [] at h
      have e1 := H _ _ _ _ _ _ hk
      cases pairs with
      | false =>
        simp only [Bool.false_eq_true, if_false] at h
        obtain ⟨more, a, b, c⟩ := pcs_form item F H false within m none (kids ++ [k]) t1 zs kids' t' ys h
        refine ⟨k :: more, by rw [a]; simp, by rw [e1, b]; simp, by simp at c ⊢; omega⟩
      | true =>
        simp only [if_true] at h
        by_cases q0 : keyC k = false
        · rw [if_pos q0] at h
          cases h
        · rw [if_neg q0] at h
          by_cases q1 : badOrd last k = true
          · rw [if_pos q1] at h
            cases h
          · rw [if_neg q1] at h
            cases hv : item within t1 zs with
            | error e => rw [hv] at h; cases h
            | ok r2 =>
              obtain ⟨v, t2, us⟩ := r2
              rw [hv] at h
              simp only [] at h
              have e2 := H _ _ _ _ _ _ hv
              obtain ⟨more, a, b, c⟩ := pcs_form item F H true within m (some k) (kids ++ [k, v]) t2 us kids' t' ys h
              refine ⟨k :: v :: more, by rw [a]; simp, by rw [e1, e2, b]; simp, by simp at c ⊢; omega⟩
/-- What is read has the form that was read: one step. -/
theorem item_step (d : Nat) (IH : ∀ d', d = d' + 1 → ∀ (within t : Nat) (xs : Bs) (i : It) (t' : Nat) (ys : Bs), itemC d' within t xs = .ok (i, t', ys) → xs = formC d' i ++ ys) (within t : Nat) (xs : Bs) (i : It) (t' : Nat) (ys : Bs) (h : itemC d within t xs = .ok (i, t', ys)) : xs = formC d i ++ ys := by
  unfold itemC at h
  by_cases h0 : 512 ≤ t
  · rw [if_pos h0] at h; cases h
  rw [if_neg h0] at h
  cases xs with
  | nil => cases h
  | cons c xs =>
    simp only [] at h
    have hc := c.toNat_lt
    by_cases h7 : c.toNat / 32 = 7
    · rw [if_pos h7] at h
      by_cases hl : c.toNat % 32 < 20 ∨ 22 < c.toNat % 32
      · rw [if_pos hl] at h; cases h
      rw [if_neg hl] at h
      cases h
      have e : UInt8.ofNat (c.toNat % 32 - 13 + 237) = c := by rw [show c.toNat % 32 - 13 + 237 = c.toNat by omega, u8_self]
      rw [formC_leaf (by simp only; omega)]
      unfold leafF
      simp only []
      rw [if_neg (by omega), if_neg (by omega), if_neg (by omega), if_neg (by omega), e]
      rfl
    rw [if_neg h7] at h
    cases hn : numC (c.toNat % 32) xs with
    | error e => rw [hn] at h; cases h
    | ok r =>
      obtain ⟨n, zs⟩ := r
      rw [hn] at h
      simp only [] at h
      obtain ⟨e1, e2⟩ := numC_form c xs n zs hn
      rw [e1]
      by_cases k0 : c.toNat / 32 = 0
      · rw [if_pos k0] at h
        cases h
        rw [formC_leaf (by simp), k0]
        rfl
      rw [if_neg k0] at h
      by_cases k1 : c.toNat / 32 = 1
      · rw [if_pos k1] at h
        cases h
        rw [formC_leaf (by simp), k1]
        rfl
      rw [if_neg k1] at h
      by_cases k2 : c.toNat / 32 = 2
      · rw [if_pos k2] at h
        by_cases hz : zs.length < n
        · rw [if_pos hz] at h; cases h
        rw [if_neg hz] at h
        cases h
        rw [formC_leaf (by simp), k2]
        unfold leafF
        simp only []
        rw [if_neg (by decide), if_neg (by decide), if_pos trivial, List.length_take, Nat.min_eq_left (by omega), List.append_assoc, List.take_append_drop]
      rw [if_neg k2] at h
      by_cases k3 : c.toNat / 32 = 3
      · rw [if_pos k3] at h
        by_cases hz : zs.length < n
        · rw [if_pos hz] at h; cases h
        rw [if_neg hz] at h
        by_cases hu : Lib.validD (zs.take n) = true
        · rw [if_pos hu] at h
          cases h
          rw [formC_leaf (by simp), k3]
          unfold leafF
          simp only []
          rw [if_neg (by decide), if_neg (by decide), if_neg (by decide), if_pos trivial, List.length_take, Nat.min_eq_left (by omega), List.append_assoc, List.take_append_drop]
        · rw [if_neg hu] at h; cases h
      rw [if_neg k3] at h
      by_cases k6 : c.toNat / 32 = 6
      · rw [if_pos k6] at h; cases h
      rw [if_neg k6] at h
      cases d with
      | zero => cases h
      | succ d =>
        simp only [] at h
        cases hp : pcsC (itemC d) (decide (c.toNat / 32 = 5)) (within + 1) n none [] (t + 1) zs with
        | error e => rw [hp] at h; cases h
        | ok r =>
          obtain ⟨kids, t2, us⟩ := r
          rw [hp] at h
          simp only [] at h
          cases h
          obtain ⟨more, a, b, l⟩ := pcs_form (itemC d) (formC d) (fun w t xs i t' ys hh => IH d rfl w t xs i t' ys hh) _ _ _ _ _ _ _ _ _ _ hp
          rw [List.nil_append] at a
          subst a
          rw [b]
          by_cases k5 : c.toNat / 32 = 5
          · have l' : kids.length = 2 * n := by rw [l, if_pos (by simpa using k5)]
            rw [formC, if_neg (by simp only; omega), if_pos (by simp only; omega), k5, l', Nat.mul_div_cancel_left _ (by decide), List.append_assoc]
          · have k4 : c.toNat / 32 = 4 := by omega
            have l' : kids.length = n := by rw [l, if_neg (by simpa using k5)]
            rw [formC, if_pos (by simp only; omega), k4, l', List.append_assoc]
/-- What is read has the form that was read. -/
theorem item_form : ∀ (d within t : Nat) (xs : Bs) (i : It) (t' : Nat) (ys : Bs), itemC d within t xs = .ok (i, t', ys) → xs = formC d i ++ ys := by
  intro d
  induction d with
  | zero => exact fun within t xs i t' ys h => item_step 0 (fun d' e => by omega) within t xs i t' ys h
  | succ d ih => exact fun within t xs i t' ys h => item_step (d + 1) (fun d' e => by cases e; exact ih) within t xs i t' ys h
/-- Decode has one form. -/
theorem dec_form {xs : Bs} {i : It} {ys : Bs} (h : decC xs = .ok (i, ys)) : xs = formC 8 i ++ ys := by
  unfold decC at h
  by_cases h0 : 8192 < xs.length
  · rw [if_pos h0] at h; cases h
  rw [if_neg h0] at h
  cases hi : itemC 8 0 0 xs with
  | error e => rw [hi] at h; cases h
  | ok r =>
    obtain ⟨j, t', zs⟩ := r
    rw [hi] at h
    simp only [Except.ok.injEq, Prod.mk.injEq] at h
    obtain ⟨rfl, rfl⟩ := h
    exact item_form 8 0 0 xs _ t' _ hi
end Go.Proofs.YtfmldcibhllpcabDoor
