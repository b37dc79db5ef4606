/-
  CBOR: the form of an item is read as that item.
-/
import Derived.Test.YtfmldcibhllpcabDoorFA
namespace Go.Proofs.YtfmldcibhllpcabDoor
open Go.RowKit
set_option linter.unusedVariables false
set_option linter.unusedSimpArgs false

theorem beC_beF : ∀ (s a n : Nat) (zs : Bs), beC s a (beF s n ++ zs) = some (a * 256 ^ s + n % 256 ^ s, zs)
  | 0, a, n, zs => by simp [beC, beF, Nat.mod_one]
  | s + 1, a, n, zs => by
    rw [beF, List.cons_append, beC, beC_beF s]
    congr 2
    have h1 : (UInt8.ofNat (n / 256 ^ s % 256)).toNat = n / 256 ^ s % 256 := by simp
    rw [h1, Nat.add_mul, Nat.mul_assoc, Nat.pow_succ, Nat.mod_mul, Nat.mul_comm (256 ^ s) 256, Nat.mul_comm (256 ^ s) (n / 256 ^ s % 256)]
    omega
/-- A head is read as what it says. -/
theorem head_read (K n : Nat) (hK : K < 8) (hn : n < 18446744073709551616) : ∃ c hs, headF K n = c :: hs ∧ c.toNat / 32 = K ∧ ∀ zs, numC (c.toNat % 32) (hs ++ zs) = .ok (n, zs) := by
  have hc : ∀ m, m < 256 → (UInt8.ofNat m).toNat = m := fun m hm => by simp; omega
  have one : ∀ k, (k = 0 ∨ k = 1 ∨ k = 2 ∨ k = 3) → n < 256 ^ 2 ^ k → leastC k ≤ n → ∀ zs, numC (24 + k) (beF (2 ^ k) n ++ zs) = .ok (n, zs) := fun k hk h1 h2 zs => by
    unfold numC
    rw [if_neg (by omega), if_neg (by omega), show 24 + k - 24 = k by omega, beC_beF]
    simp only []
    rw [Nat.zero_mul, Nat.zero_add, Nat.mod_eq_of_lt h1, if_neg (by omega)]
  unfold headF
  by_cases h0 : n < 24
  · rw [if_pos h0]
    refine ⟨_, [], rfl, by rw [hc _ (by omega)]; omega, fun zs => ?_⟩
    rw [hc _ (by omega), show (32 * K + n) % 32 = n by omega]
    unfold numC
    rw [if_pos h0]
    rfl
  rw [if_neg h0]
  by_cases h1 : n < 256
  · rw [if_pos h1]
    refine ⟨_, _, rfl, by rw [hc _ (by omega)]; omega, fun zs => ?_⟩
    rw [hc _ (by omega), show (32 * K + 24) % 32 = 24 + 0 by omega]
    exact one 0 (by omega) (by simpa using h1) (by simp [leastC]; omega) zs
  rw [if_neg h1]
  by_cases h2 : n < 65536
  · rw [if_pos h2]
    refine ⟨_, _, rfl, by rw [hc _ (by omega)]; omega, fun zs => ?_⟩
    rw [hc _ (by omega), show (32 * K + 25) % 32 = 24 + 1 by omega]
    exact one 1 (by omega) (by simpa using h2) (by simp [leastC]; omega) zs
  rw [if_neg h2]
  by_cases h3 : n < 4294967296
  · rw [if_pos h3]
    refine ⟨_, _, rfl, by rw [hc _ (by omega)]; omega, fun zs => ?_⟩
    rw [hc _ (by omega), show (32 * K + 26) % 32 = 24 + 2 by omega]
    exact one 2 (by omega) (by simpa using h3) (by simp [leastC]; omega) zs
  rw [if_neg h3]
  refine ⟨_, _, rfl, by rw [hc _ (by omega)]; omega, fun zs => ?_⟩
  rw [hc _ (by omega), show (32 * K + 27) % 32 = 24 + 3 by omega]
  exact one 3 (by omega) (by simpa using hn) (by simp [leastC]; omega) zs
/-- An item that says nothing besides what its kind says. -/
def neatC (i : It) : Prop := i.n < 18446744073709551616 ∧ i.b.length < 18446744073709551616 ∧ i.kids.length < 18446744073709551616 ∧ (i.kind ≠ 1 → i.kind ≠ 2 → i.n = 0) ∧ (i.kind ≠ 3 → i.kind ≠ 4 → i.b = []) ∧ (i.kind ≠ 5 → i.kind ≠ 6 → i.kids = [])
def cleanC : Nat → It → Prop
  | 0, i => neatC i
  | d + 1, i => neatC i ∧ ∀ k ∈ i.kids, cleanC d k
theorem cleanC.neat {d : Nat} {i : It} (h : cleanC d i) : neatC i := by
  cases d with
  | zero => exact h
  | succ d => exact h.1
theorem pcs_read1 (item : Nat → Nat → Bs → Except Nat (It × Nat × Bs)) (enc : Nat → It → Except Nat (Bs × Nat)) (within : Nat) : ∀ (kids : List It) (H : ∀ k ∈ kids, ∀ t b t' ys, enc t k = .ok (b, t') → item within t (b ++ ys) = .ok (k, t', ys)) (par : Bool) (l2 : Option It) (acc : List It) (t : Nat) (b : Bs) (t' : Nat) (ys : Bs), encKs enc false par l2 kids t = .ok (b, t') → pcsC item false within kids.length none acc t (b ++ ys) = .ok (acc ++ kids, t', ys)
  | [], H, par, l2, acc, t, b, t', ys, h => by
    rw [encKs] at h
    cases h
    simp [pcsC]
  | k :: ks, H, par, l2, acc, t, b, t', ys, h => by
    rw [encKs, Bool.false_and, Bool.false_and, if_neg (by decide)] at h
    cases hk : enc t k with
    | error e => rw [hk] at h; cases h
    | ok r =>
      obtain ⟨b1, t1⟩ := r
      rw [hk] at h
      simp only [] at h
      cases hs : encKs enc false (!par) (if par then some k else l2) ks t1 with
      | error e => rw [hs] at h; cases h
      | ok r2 =>
        obtain ⟨b2, t2⟩ := r2
        rw [hs] at h
        cases h
        rw [List.length_cons, pcsC, List.append_assoc, H k (by simp) t b1 t1 _ hk]
        simp only [Bool.false_eq_true, if_false]
        rw [pcs_read1 item enc within ks (fun k' hk' => H k' (by simp [hk'])) _ _ (acc ++ [k]) t1 b2 t' ys hs]
        simp
theorem pcs_read2 (item : Nat → Nat → Bs → Except Nat (It × Nat × Bs)) (enc : Nat → It → Except Nat (Bs × Nat)) (within : Nat) : ∀ (m : Nat) (kids : List It) (hm : kids.length = 2 * m) (H : ∀ k ∈ kids, ∀ t b t' ys, enc t k = .ok (b, t') → item within t (b ++ ys) = .ok (k, t', ys)) (last : Option It) (acc : List It) (t : Nat) (b : Bs) (t' : Nat) (ys : Bs), encKs enc true true last kids t = .ok (b, t') → pcsC item true within m last acc t (b ++ ys) = .ok (acc ++ kids, t', ys)
  | 0, kids, hm, H, last, acc, t, b, t', ys, h => by
    have : kids = [] := List.length_eq_zero_iff.1 (by omega)
    subst this
    rw [encKs] at h
    cases h
    simp [pcsC]
  | m + 1, [], hm, H, last, acc, t, b, t', ys, h => by simp at hm
  | m + 1, [k], hm, H, last, acc, t, b, t', ys, h => by simp at hm; omega
  | m + 1, k :: v :: ks, hm, H, last, acc, t, b, t', ys, h => by
    rw [encKs] at h
    by_cases hke : keyE last k = 0
    · rw [hke] at h
      simp only [ne_eq, not_true_eq_false, decide_false, Bool.and_false, Bool.false_eq_true, if_false, if_true, Bool.not_true] at h
      cases hk : enc t k with
      | error e => rw [hk] at h; cases h
      | ok r =>
        obtain ⟨b1, t1⟩ := r
        rw [hk] at h
        simp only [] at h
        rw [encKs] at h
        simp only [Bool.and_false, Bool.false_and, Bool.false_eq_true, if_false, Bool.not_false] at h
        cases hv : enc t1 v with
        | error e => rw [hv] at h; cases h
        | ok r =>
          obtain ⟨b2, t2⟩ := r
          rw [hv] at h
          simp only [] at h
          cases hs : encKs enc true true (some k) ks t2 with
          | error e => rw [hs] at h; cases h
          | ok r2 =>
            obtain ⟨b3, t3⟩ := r2
            rw [hs] at h
            cases h
            unfold keyE at hke
            have q0 : ¬ keyC k = false := fun e => by rw [if_pos e] at hke; cases hke
            rw [if_neg q0] at hke
            have q1 : ¬ badOrd last k = true := fun e => by rw [if_pos e] at hke; cases hke
            rw [pcsC, List.append_assoc, H k (by simp) t b1 t1 _ hk]
            simp only [if_true]
            rw [if_neg q0, if_neg q1, List.append_assoc, H v (by simp) t1 b2 t2 _ hv]
            simp only []
            rw [pcs_read2 item enc within m ks (by simp at hm; omega) (fun k' hk' => H k' (by simp [hk'])) _ (acc ++ [k, v]) t2 b3 t' ys hs]
            simp
    · rw [if_pos (by simp [hke])] at h
      cases h
/-- What is written is read: one step. -/
theorem enc_read1 (d : Nat) (IH : ∀ d', d = d' + 1 → ∀ (within t : Nat) (i : It) (b : Bs) (t' : Nat) (ys : Bs), cleanC d' i → encI d' t i = .ok (b, t') → itemC d' within t (b ++ ys) = .ok (i, t', ys)) (within t : Nat) (i : It) (b : Bs) (t' : Nat) (ys : Bs) (hc : cleanC d i) (h : encI d t i = .ok (b, t')) : itemC d within t (b ++ ys) = .ok (i, t', ys) := by
  obtain ⟨kd, n, bb, kids⟩ := i
  obtain ⟨n1, n2, n3, n4, n5, n6⟩ := hc.neat
  simp only at n1 n2 n3 n4 n5 n6
  unfold encI at h
  simp only at h
  by_cases h0 : 512 ≤ t
  · rw [if_pos h0] at h; cases h
  rw [if_neg h0] at h
  -- a head, and what stands behind it
  have hd : ∀ (K N : Nat) (rest : Bs), K < 7 → N < 18446744073709551616 → itemC d within t (headF K N ++ rest) = behC d within K N (t + 1) rest := fun K N rest hK hN => by
    rw [itemC_eq, if_neg h0]
    obtain ⟨c, hs, e, hc1, hc2⟩ := head_read K N (by omega) hN
    rw [e, List.cons_append]
    simp only []
    rw [if_neg (by omega), hc2 rest]
    simp only []
    rw [hc1]
  by_cases k1 : kd = 1 ∨ kd = 2
  · rw [if_pos k1] at h
    cases h
    have e1 := n5 (by omega) (by omega)
    have e2 := n6 (by omega) (by omega)
    subst e1 e2
    rw [hd _ _ _ (by omega) n1]
    unfold behC
    rcases k1 with rfl | rfl
    · rfl
    · rfl
  rw [if_neg k1] at h
  have e0 := n4 (by omega) (by omega)
  subst e0
  by_cases k3 : kd = 3
  · rw [if_pos k3] at h
    cases h
    have e2 := n6 (by omega) (by omega)
    subst e2 k3
    rw [List.append_assoc, hd _ _ _ (by omega) n2]
    unfold behC
    rw [if_neg (by decide), if_neg (by decide), if_pos rfl, if_neg (by simp)]
    simp
  rw [if_neg k3] at h
  by_cases k4 : kd = 4
  · rw [if_pos k4] at h
    by_cases hu : Lib.validD bb = true
    · rw [if_pos hu] at h
      cases h
      have e2 := n6 (by omega) (by omega)
      subst e2 k4
      rw [List.append_assoc, hd _ _ _ (by omega) n2]
      unfold behC
      have e : (bb ++ ys).take bb.length = bb := by simp
      rw [if_neg (by decide), if_neg (by decide), if_neg (by decide), if_pos rfl, if_neg (by simp), e, if_pos hu]
      simp
    · rw [if_neg hu] at h; cases h
  rw [if_neg k4] at h
  have e1 := n5 (by omega) (by omega)
  subst e1
  by_cases k7 : kd = 7 ∨ kd = 8 ∨ kd = 9
  · rw [if_pos k7] at h
    cases h
    have e2 := n6 (by omega) (by omega)
    subst e2
    have hcc : (UInt8.ofNat (kd + 237)).toNat = kd + 237 := by simp; omega
    rw [itemC_eq, if_neg h0]
    simp only [List.cons_append, List.nil_append]
    rw [hcc, if_pos (by omega), if_neg (by omega), show (kd + 237) % 32 - 13 = kd by omega]
  rw [if_neg k7] at h
  by_cases k5 : kd = 5 ∨ kd = 6
  · rw [if_pos k5] at h
    cases d with
    | zero => cases h
    | succ d =>
      simp only [] at h
      by_cases ho : kd = 6 ∧ kids.length % 2 = 1
      · rw [if_pos ho] at h; cases h
      rw [if_neg ho] at h
      cases hk : encKs (encI d) (decide (kd = 6)) true none kids (t + 1) with
      | error e => rw [hk] at h; cases h
      | ok r =>
        obtain ⟨b2, t2⟩ := r
        rw [hk] at h
        cases h
        have HK : ∀ k ∈ kids, ∀ t b t' ys, encI d t k = .ok (b, t') → itemC d (within + 1) t (b ++ ys) = .ok (k, t', ys) := fun k hkm t b t' ys he => IH d rfl (within + 1) t k b t' ys (hc.2 k hkm) he
        rw [List.append_assoc, hd _ _ _ (by omega) (by split <;> omega)]
        unfold behC
        rcases k5 with rfl | rfl
        · rw [show decide ((5 : Nat) = 6) = false from rfl] at hk
          rw [if_neg (by decide), if_neg (by decide), if_neg (by decide), if_neg (by decide), if_neg (by decide)]
          simp only []
          rw [show decide ((5 : Nat) - 1 = 5) = false from rfl, if_neg (by decide), pcs_read1 (itemC d) (encI d) (within + 1) kids HK true none [] (t + 1) b2 t' ys hk]
          rfl
        · rw [show decide ((6 : Nat) = 6) = true from rfl] at hk
          rw [if_neg (by decide), if_neg (by decide), if_neg (by decide), if_neg (by decide), if_neg (by decide)]
          simp only []
          rw [show decide True = true from rfl, if_pos trivial, pcs_read2 (itemC d) (encI d) (within + 1) (kids.length / 2) kids (by omega) HK none [] (t + 1) b2 t' ys hk]
          rfl
  · rw [if_neg k5] at h; cases h
/-- What is written is read. -/
theorem enc_read : ∀ (d within t : Nat) (i : It) (b : Bs) (t' : Nat) (ys : Bs), cleanC d i → encI d t i = .ok (b, t') → itemC d within t (b ++ ys) = .ok (i, t', ys) := by
  intro d
  induction d with
  | zero => exact fun within t i b t' ys hc h => enc_read1 0 (fun d' e => by omega) within t i b t' ys hc h
  | succ d ih => exact fun within t i b t' ys hc h => enc_read1 (d + 1) (fun d' e => by cases e; exact ih) within t i b t' ys hc h
/-- What Encode writes, Decode reads. -/
theorem enc_dec {i : It} {bs : Bs} (hc : cleanC 8 i) (h : encC i = .ok bs) (ys : Bs) (hl : (bs ++ ys).length ≤ 8192) : decC (bs ++ ys) = .ok (i, ys) := by
  unfold encC at h
  cases he : encI 8 0 i with
  | error e => rw [he] at h; cases h
  | ok r =>
    obtain ⟨b, t'⟩ := r
    rw [he] at h
    simp only [] at h
    by_cases h0 : 8192 < b.length
    · rw [if_pos h0] at h; cases h
    rw [if_neg h0] at h
    cases h
    unfold decC
    rw [if_neg (by omega), enc_read 8 0 0 i bs t' ys hc he]
theorem encKs_cnt (enc : Nat → It → Except Nat (Bs × Nat)) (H : ∀ t i b t', t ≤ 512 → enc t i = .ok (b, t') → t ≤ t' ∧ t' ≤ 512) (pairs : Bool) : ∀ (kids : List It) (par : Bool) (last : Option It) (t : Nat) (b : Bs) (t' : Nat), t ≤ 512 → encKs enc pairs par last kids t = .ok (b, t') → t ≤ t' ∧ t' ≤ 512
  | [], par, last, t, b, t', ht, h => by
    rw [encKs] at h
    cases h
    omega
  | k :: ks, par, last, t, b, t', ht, h => by
    rw [encKs] at h
    split at h
    · cases h
    · cases hk : enc t k with
      | error e => rw [hk] at h; cases h
      | ok r =>
        obtain ⟨b1, t1⟩ := r
        rw [hk] at h
        simp only [] at h
        have h1 := H _ _ _ _ ht hk
        cases hs : encKs enc pairs (!par) (if par then some k else last) ks t1 with
        | error e => rw [hs] at h; cases h
        | ok r2 =>
          obtain ⟨b2, t2⟩ := r2
          rw [hs] at h
          cases h
          have := encKs_cnt enc H pairs ks _ _ t1 b2 t' h1.2 hs
          omega
theorem enc_cnt : ∀ (d t : Nat) (i : It) (b : Bs) (t' : Nat), t ≤ 512 → encI d t i = .ok (b, t') → t ≤ t' ∧ t' ≤ 512 := by
  intro d
  induction d with
  | zero =>
    intro t i b t' ht h
    unfold encI at h
    repeat' split at h
    all_goals first | (cases h; done) | (simp only [Except.ok.injEq, Prod.mk.injEq] at h; omega)
  | succ d ih =>
    intro t i b t' ht h
    unfold encI at h
    simp only [] at h
    split at h
    · cases h
    split at h
    · simp only [Except.ok.injEq, Prod.mk.injEq] at h; omega
    split at h
    · simp only [Except.ok.injEq, Prod.mk.injEq] at h; omega
    split at h
    · split at h
      · simp only [Except.ok.injEq, Prod.mk.injEq] at h; omega
      · cases h
    split at h
    · simp only [Except.ok.injEq, Prod.mk.injEq] at h; omega
    split at h
    · split at h
      · cases h
      · cases hs : encKs (encI d) (decide (i.kind = 6)) true none i.kids (t + 1) with
        | error e => rw [hs] at h; cases h
        | ok r =>
          obtain ⟨b2, t2⟩ := r
          rw [hs] at h
          simp only [Except.ok.injEq, Prod.mk.injEq] at h
          have := encKs_cnt (encI d) ih _ i.kids _ _ (t + 1) b2 t2 (by omega) hs
          omega
    · cases h
end Go.Proofs.YtfmldcibhllpcabDoor
