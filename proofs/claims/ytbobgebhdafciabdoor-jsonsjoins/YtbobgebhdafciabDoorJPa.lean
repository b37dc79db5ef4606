/-
  A value's text, read: its nodes.
-/
import Derived.Test.YtbobgebhdafciabDoorJRv
import Derived.Test.YtbobgebhdafciabDoorJVx
namespace Go.Proofs.YtbobgebhdafciabDoor
open Go.RowKit
set_option linter.unusedVariables false
set_option linter.unusedSimpArgs false

theorem enc_one {r : Nat} (h : r < 128) : Lib.encodeRune (r : Int) = [UInt8.ofNat r] := by
  unfold Lib.encodeRune
  rw [Lib.encodeRuneZ_one (r := (r : Int)) (by omega) (by omega)]
  simp only [List.map]
  rw [u8z r _ (by omega)]
theorem enc_two {r : Nat} (h0 : 128 ≤ r) (h : r < 2048) : Lib.encodeRune (r : Int) = [UInt8.ofNat (192 + r / 64), UInt8.ofNat (128 + r % 64)] := by
  unfold Lib.encodeRune
  rw [Lib.encodeRuneZ_two (r := (r : Int)) (by omega) (by omega)]
  simp only [List.map]
  rw [u8z (192 + r / 64) _ (by omega), u8z (128 + r % 64) _ (by omega)]
theorem enc_three {r : Nat} (h0 : 2048 ≤ r) (h1 : okR r) (h : r < 65536) : Lib.encodeRune (r : Int) = [UInt8.ofNat (224 + r / 4096), UInt8.ofNat (128 + r / 64 % 64), UInt8.ofNat (128 + r % 64)] := by
  unfold okR at h1
  unfold Lib.encodeRune
  rw [Lib.encodeRuneZ_three (r := (r : Int)) (by omega)]
  simp only [List.map]
  rw [u8z (224 + r / 4096) _ (by omega), u8z (128 + r / 64 % 64) _ (by omega), u8z (128 + r % 64) _ (by omega)]
theorem enc_four {r : Nat} (h0 : 65536 ≤ r) (h1 : okR r) : Lib.encodeRune (r : Int) = [UInt8.ofNat (240 + r / 262144), UInt8.ofNat (128 + r / 4096 % 64), UInt8.ofNat (128 + r / 64 % 64), UInt8.ofNat (128 + r % 64)] := by
  unfold okR at h1
  unfold Lib.encodeRune
  rw [Lib.encodeRuneZ_four (r := (r : Int)) (by omega) (by omega)]
  simp only [List.map]
  rw [u8z (240 + r / 262144) _ (by omega), u8z (128 + r / 4096 % 64) _ (by omega), u8z (128 + r / 64 % 64) _ (by omega), u8z (128 + r % 64) _ (by omega)]
theorem u8n {n : Nat} (h : n < 256) : (UInt8.ofNat n).toNat = n := by rw [UInt8.toNat_ofNat']; omega
/-- A sign's bytes, whatever follows: what they are read as. -/
theorem sign_enc (r : Nat) (t : Bs) (h : okR r) (h1 : 32 ≤ r) (h2 : r ≠ 34) (h3 : r ≠ 92) (h4 : r ≠ 65533) : signS (Lib.encodeRune (r : Int) ++ t) = some (r, t) ∧ tk [34] (Lib.encodeRune (r : Int) ++ t) = none := by
  by_cases c1 : r < 128
  · rw [enc_one c1]
    have hn : (UInt8.ofNat r).toNat = r := u8n (by omega)
    have hs := sign_self (UInt8.ofNat r) t (by omega) (fun e => h3 (by rw [← hn, e]; rfl))
    rw [decGo_L, Lib.decodeL_ascii _ _ (by omega)] at hs
    refine ⟨?_, tk_no34 (by omega) _⟩
    rw [List.singleton_append, hs, if_neg (by simp only; omega), hn]
    rfl
  by_cases c2 : r < 2048
  · rw [enc_two (by omega) c2]
    have e0 : (UInt8.ofNat (192 + r / 64)).toNat = 192 + r / 64 := u8n (by omega)
    have e1 : (UInt8.ofNat (128 + r % 64)).toNat = 128 + r % 64 := u8n (by omega)
    have hs := sign_self (UInt8.ofNat (192 + r / 64)) (UInt8.ofNat (128 + r % 64) :: t) (by omega) (fun e => by rw [e] at e0; simp at e0; omega)
    have hd : Lib.decodeL (UInt8.ofNat (192 + r / 64) :: UInt8.ofNat (128 + r % 64) :: t) = (r, 2) := by
      rw [Lib.decodeL_N]
      simp only [List.getD_cons_zero, List.getD_cons_succ, List.length_cons, e0, e1]
      unfold Lib.decodeN
      rw [if_neg (by omega), if_pos (by omega), if_pos (by omega)]
      congr 1
      omega
    rw [decGo_L, hd] at hs
    refine ⟨?_, tk_no34 (by omega) _⟩
    show signS (_ :: _ :: t) = _
    rw [hs, if_neg (by simp only; omega)]
    rfl
  by_cases c3 : r < 65536
  · rw [enc_three (by omega) h c3]
    have e0 : (UInt8.ofNat (224 + r / 4096)).toNat = 224 + r / 4096 := u8n (by omega)
    have e1 : (UInt8.ofNat (128 + r / 64 % 64)).toNat = 128 + r / 64 % 64 := u8n (by omega)
    have e2 : (UInt8.ofNat (128 + r % 64)).toNat = 128 + r % 64 := u8n (by omega)
    have hs := sign_self (UInt8.ofNat (224 + r / 4096)) (UInt8.ofNat (128 + r / 64 % 64) :: UInt8.ofNat (128 + r % 64) :: t) (by omega) (fun e => by rw [e] at e0; simp at e0; omega)
    have hd : Lib.decodeL (UInt8.ofNat (224 + r / 4096) :: UInt8.ofNat (128 + r / 64 % 64) :: UInt8.ofNat (128 + r % 64) :: t) = (r, 3) := by
      rw [Lib.decodeL_N]
      simp only [List.getD_cons_zero, List.getD_cons_succ, List.length_cons, e0, e1, e2]
      unfold okR at h
      unfold Lib.decodeN
      rw [if_neg (by omega), if_neg (by omega), if_pos (by omega), if_pos (by omega)]
      congr 1
      omega
    rw [decGo_L, hd] at hs
    refine ⟨?_, tk_no34 (by omega) _⟩
    show signS (_ :: _ :: _ :: t) = _
    rw [hs, if_neg (by simp only; omega)]
    rfl
  · rw [enc_four (by omega) h]
    have hr : r ≤ 1114111 := by unfold okR at h; omega
    have e0 : (UInt8.ofNat (240 + r / 262144)).toNat = 240 + r / 262144 := u8n (by omega)
    have e1 : (UInt8.ofNat (128 + r / 4096 % 64)).toNat = 128 + r / 4096 % 64 := u8n (by omega)
    have e2 : (UInt8.ofNat (128 + r / 64 % 64)).toNat = 128 + r / 64 % 64 := u8n (by omega)
    have e3 : (UInt8.ofNat (128 + r % 64)).toNat = 128 + r % 64 := u8n (by omega)
    have hs := sign_self (UInt8.ofNat (240 + r / 262144)) (UInt8.ofNat (128 + r / 4096 % 64) :: UInt8.ofNat (128 + r / 64 % 64) :: UInt8.ofNat (128 + r % 64) :: t) (by omega) (fun e => by rw [e] at e0; simp at e0; omega)
    have hd : Lib.decodeL (UInt8.ofNat (240 + r / 262144) :: UInt8.ofNat (128 + r / 4096 % 64) :: UInt8.ofNat (128 + r / 64 % 64) :: UInt8.ofNat (128 + r % 64) :: t) = (r, 4) := by
      rw [Lib.decodeL_N]
      simp only [List.getD_cons_zero, List.getD_cons_succ, List.length_cons, e0, e1, e2, e3]
      unfold Lib.decodeN
      rw [if_neg (by omega), if_neg (by omega), if_neg (by omega), if_pos (by omega), if_pos (by omega)]
      congr 1
      omega
    rw [decGo_L, hd] at hs
    refine ⟨?_, tk_no34 (by omega) _⟩
    show signS (_ :: _ :: _ :: _ :: t) = _
    rw [hs, if_neg (by simp only; omega)]
    rfl
/-- Signs that stand for themselves. -/
def okRs (rs : List Nat) : Prop := ∀ r ∈ rs, okR r ∧ 32 ≤ r ∧ r ≠ 34 ∧ r ≠ 92 ∧ r ≠ 65533
theorem encRs_cons (r : Nat) (rs : List Nat) : encRs (r :: rs) = Lib.encodeRune (r : Int) ++ encRs rs := by simp [encRs]
theorem txt_enc : ∀ (rs : List Nat) (f : Nat) (a t : Bs), okRs rs → rs.length < f → txtS f a (encRs rs ++ 34 :: t) = some (a ++ encRs rs, t)
  | [], f, a, t, _, hf => by
    obtain ⟨f, rfl⟩ : ∃ f', f = f' + 1 := ⟨f - 1, by simp at hf; omega⟩
    rw [txtS]
    simp [encRs, tk_pre]
  | r :: rs, f, a, t, h, hf => by
    obtain ⟨f, rfl⟩ : ∃ f', f = f' + 1 := ⟨f - 1, by simp at hf; omega⟩
    obtain ⟨h0, h1, h2, h3, h4⟩ := h r (List.mem_cons_self ..)
    have hs := sign_enc r (encRs rs ++ 34 :: t) h0 h1 h2 h3 h4
    rw [encRs_cons, List.append_assoc, txtS, hs.2]
    simp only []
    rw [hs.1]
    simp only []
    rw [txt_enc rs f _ t (fun r hr => h r (List.mem_cons_of_mem _ hr)) (by simp at hf; omega), List.append_assoc]
theorem encRs_len (rs : List Nat) : rs.length ≤ (encRs rs).length := by
  induction rs with
  | nil => simp
  | cons r rs ih =>
    have := (encR_len (r : Int)).1
    rw [encRs_cons, List.length_append, List.length_cons]
    omega
theorem text_enc (rs : List Nat) (t : Bs) (h : okRs rs) : textS (34 :: (encRs rs ++ 34 :: t)) = some (encRs rs, t) := by
  unfold textS
  rw [tk_pre]
  simp only []
  rw [txt_enc rs _ [] t h (by have := encRs_len rs; simp; omega), List.nil_append]
theorem plainR_ok (s : ByteArray) : ∀ (b pos : Nat) (rs : List Nat), okRs rs → okRs (plainR s b pos rs)
  | 0, _, rs, h => h
  | b + 1, pos, rs, h => by
    rw [plainR]
    split
    · refine plainR_ok s b _ _ ?_
      split
      · rename_i hk
        intro r hr
        rcases List.mem_append.1 hr with h1 | h1
        · exact h r h1
        · rw [List.mem_singleton.1 h1]
          simp [keepR] at hk
          exact ⟨decode_ok s pos, by omega, by omega, by omega, by omega⟩
      · exact h
    · exact h
theorem plain_text (x t : Bs) : textS (34 :: (plainT x ++ 34 :: t)) = some (plainT x, t) := text_enc _ t (plainR_ok _ _ _ _ (fun r hr => by simp at hr))

/-- Blanks alone. -/
def isBl (g : Bs) : Prop := ∀ c ∈ g, ([32, 9, 10, 13] : Bs).contains c = true
theorem bl_app : ∀ (g xs : Bs), isBl g → bl (g ++ xs) = bl xs
  | [], xs, _ => rfl
  | c :: g, xs, h => by
    have h1 := h c (List.mem_cons_self ..)
    rw [List.cons_append]
    show Lib.trimLeftS (c :: (g ++ xs)) _ = _
    rw [trim_yes _ c _ h1]
    exact bl_app g xs (fun d hd => h d (List.mem_cons_of_mem _ hd))
theorem bl_stay {c : UInt8} (xs : Bs) (h : ([32, 9, 10, 13] : Bs).contains c = false) : bl (c :: xs) = c :: xs := trim_no _ c _ h
theorem tk_other {c d : UInt8} (xs : Bs) (h : c ≠ d) : tk [c] (d :: xs) = none := by
  unfold tk
  rw [if_neg]
  simp [h]
/-- What may stand behind a value. -/
def Term (rest : Bs) : Prop := rest = [] ∨ ∃ c r, rest = c :: r ∧ (c = 32 ∨ c = 9 ∨ c = 10 ∨ c = 13 ∨ c = 44 ∨ c = 93 ∨ c = 125)
theorem Term.facts {rest : Bs} (h : Term rest) : dg rest = rest ∧ tk [46] rest = none ∧ tk [101] rest = none ∧ tk [69] rest = none := by
  rcases h with rfl | ⟨c, r, rfl, h⟩
  · exact ⟨rfl, rfl, rfl, rfl⟩
  · rcases h with rfl | rfl | rfl | rfl | rfl | rfl | rfl <;> exact ⟨trim_no _ _ _ (by decide), tk_other _ (by decide), tk_other _ (by decide), tk_other _ (by decide)⟩
theorem dg_yes {c : UInt8} (xs : Bs) (h : ([48, 49, 50, 51, 52, 53, 54, 55, 56, 57] : Bs).contains c = true) : dg (c :: xs) = dg xs := trim_yes _ c _ h
theorem dg_no {c : UInt8} (xs : Bs) (h : ([48, 49, 50, 51, 52, 53, 54, 55, 56, 57] : Bs).contains c = false) : dg (c :: xs) = c :: xs := trim_no _ c _ h
theorem numS_of {pre rest : Bs} (h : numR (pre ++ rest) = (rest, true)) : numS (pre ++ rest) = some (pre, rest) := by
  unfold numS
  rw [h, if_pos rfl]
  have : (pre ++ rest).length - rest.length = pre.length := by simp
  rw [this]
  simp
theorem num_text (n : Nat) (rest : Bs) (h : Term rest) : numS (numT n ++ rest) = some (numT n, rest) := by
  obtain ⟨h1, h2, h3, h4⟩ := h.facts
  apply numS_of
  unfold numT
  have hm : ∀ (c : UInt8) (xs : Bs), c ≠ 45 → minus (c :: xs) = c :: xs := fun c xs hc => by unfold minus; rw [tk_other _ (Ne.symm hc)]; rfl
  split
  · unfold numR
    simp only [List.cons_append, List.nil_append, hm 48 _ (by decide), dg_yes (c := 48) _ (by decide), h1]
    unfold wholeS pointS powS
    simp [dg_yes (c := 48) rest (by decide), h1, h2, h3, h4]
  · split
    · unfold numR
      have e : minus (45 :: 49 :: 50 :: rest) = 49 :: 50 :: rest := by unfold minus; rw [tk_pre]; rfl
      have e2 : dg (49 :: 50 :: rest) = rest := by rw [dg_yes _ (by decide), dg_yes _ (by decide), h1]
      simp only [List.cons_append, List.nil_append, e, e2]
      unfold wholeS pointS powS
      simp [e2, h2, h3, h4]
      exact Or.inr ⟨by omega, rfl⟩
    · split
      · unfold numR
        have e2 : dg (49 :: 46 :: 53 :: 101 :: 43 :: 51 :: rest) = 46 :: 53 :: 101 :: 43 :: 51 :: rest := by rw [dg_yes _ (by decide), dg_no _ (by decide)]
        have e3 : dg (53 :: 101 :: 43 :: 51 :: rest) = 101 :: 43 :: 51 :: rest := by rw [dg_yes _ (by decide), dg_no _ (by decide)]
        have e4 : plus (43 :: 51 :: rest) = 51 :: rest := by unfold plus; rw [tk_pre]
        have e5 : dg (51 :: rest) = rest := by rw [dg_yes _ (by decide), h1]
        simp only [List.cons_append, List.nil_append, hm 49 _ (by decide), e2]
        unfold wholeS pointS
        rw [tk_pre]
        simp only [e2, e3]
        unfold powS
        rw [tk_pre]
        simp [e4, e5]
      · unfold numR
        have e2 : dg (49 :: 48 :: 69 :: 45 :: 50 :: rest) = 69 :: 45 :: 50 :: rest := by rw [dg_yes _ (by decide), dg_yes _ (by decide), dg_no _ (by decide)]
        have e4 : plus (45 :: 50 :: rest) = 50 :: rest := by unfold plus; rw [tk_other _ (by decide)]; unfold minus; rw [tk_pre]; rfl
        have e5 : dg (50 :: rest) = rest := by rw [dg_yes _ (by decide), h1]
        simp only [List.cons_append, List.nil_append, hm 49 _ (by decide), e2]
        unfold wholeS pointS
        rw [tk_other (c := 46) (d := 69) _ (by decide)]
        simp only [e2]
        unfold powS
        rw [tk_other (c := 101) (d := 69) _ (by decide), tk_pre]
        simp [e4, e5]
        rfl

/-- The node of a value that has none within it. -/
def leafN (k : Int) (t : Bs) : Nd :=
  if k % 7 = 2 then ⟨3, plainT t, [], []⟩ else if k % 7 = 3 then ⟨4, numT t.length, [], []⟩ else if k % 7 = 4 then ⟨5, [], [], []⟩ else if k % 7 = 5 then ⟨6, [], [], []⟩ else ⟨7, [], [], []⟩
/-- How a value's text begins. -/
def Lead (xs : Bs) : Prop := ∃ c tl, xs = c :: tl ∧ ([32, 9, 10, 13] : Bs).contains c = false ∧ c ≠ 44 ∧ c ≠ 93 ∧ c ≠ 125
theorem numT_lead (n : Nat) : ∃ c tl, numT n = c :: tl ∧ (c = 48 ∨ c = 45 ∨ c = 49) := by
  unfold numT
  split
  · exact ⟨_, _, rfl, .inl rfl⟩
  · split
    · exact ⟨_, _, rfl, .inr (.inl rfl)⟩
    · split
      · exact ⟨_, _, rfl, .inr (.inr rfl)⟩
      · exact ⟨_, _, rfl, .inr (.inr rfl)⟩
theorem leaf_read (k : Int) (t rest : Bs) (hk : 2 ≤ k % 7) (hr : Term rest) : plainS (leafT k t ++ rest) = some (leafN k t, rest) ∧ ∃ c tl, leafT k t = c :: tl ∧ ([32, 9, 10, 13] : Bs).contains c = false ∧ c ≠ 44 ∧ c ≠ 93 ∧ c ≠ 125 ∧ c ≠ 123 ∧ c ≠ 91 := by
  unfold leafT leafN
  by_cases e2 : k % 7 = 2
  · simp only [if_pos e2]
    refine ⟨?_, 34, _, rfl, by decide, by decide, by decide, by decide, by decide, by decide⟩
    have h := plain_text t rest
    have e : ([34] ++ plainT t ++ [34]) ++ rest = 34 :: (plainT t ++ 34 :: rest) := by simp
    rw [e, plainS_text, h]
    rfl
  simp only [if_neg e2]
  by_cases e3 : k % 7 = 3
  · simp only [if_pos e3]
    obtain ⟨c, tl, hc, hcc⟩ := numT_lead t.length
    have h := num_text t.length rest hr
    refine ⟨?_, c, tl, hc, ?_⟩
    · rw [hc] at h ⊢
      rw [List.cons_append] at h ⊢
      have hb : ∀ (a : UInt8) (s : Bs), a ≠ c → tk (a :: s) (c :: (tl ++ rest)) = none := fun a s ha => by unfold tk; rw [if_neg]; simp [ha]
      rw [plainS_num (by rcases hcc with rfl | rfl | rfl <;> rfl) (hb _ _ (by rcases hcc with rfl | rfl | rfl <;> decide)) (hb _ _ (by rcases hcc with rfl | rfl | rfl <;> decide)) (hb _ _ (by rcases hcc with rfl | rfl | rfl <;> decide)), h]
      rfl
    · rcases hcc with rfl | rfl | rfl <;> exact ⟨by decide, by decide, by decide, by decide, by decide, by decide⟩
  simp only [if_neg e3]
  by_cases e4 : k % 7 = 4
  · simp only [if_pos e4]
    exact ⟨plainS_true (by unfold tk; simp), 116, _, rfl, by decide, by decide, by decide, by decide, by decide, by decide⟩
  simp only [if_neg e4]
  by_cases e5 : k % 7 = 5
  · simp only [if_pos e5]
    exact ⟨plainS_false (by unfold tk; simp) (by unfold tk; simp), 102, _, rfl, by decide, by decide, by decide, by decide, by decide, by decide⟩
  simp only [if_neg e5]
  exact ⟨plainS_null (by unfold tk; simp) (by unfold tk; simp) (by unfold tk; simp), 110, _, rfl, by decide, by decide, by decide, by decide, by decide, by decide⟩
theorem pre_no {c d : UInt8} {tl : Bs} (h : c ≠ d) : [d].isPrefixOf (c :: tl) = false := by
  show ((d == c) && List.isPrefixOf [] tl) = false
  rw [beq_false_of_ne (Ne.symm h)]
  rfl
theorem val_leaf (k : Int) (t g0 rest : Bs) (o c f : Nat) (hk : 2 ≤ k % 7) (hr : Term rest) (hg : isBl g0) (hc : c ≤ 256) (hf : 1 ≤ f) : valS f o c (g0 ++ leafT k t ++ rest) = if c + 1 ≤ 256 then .ok ([leafN k t], rest) else .error 14 := by
  obtain ⟨f, rfl⟩ : ∃ f', f = f' + 1 := ⟨f - 1, by omega⟩
  by_cases h6 : c = 256
  · rw [valS_succ, if_pos h6, if_neg (by omega)]
  · obtain ⟨h1, ch, tl, e, hb, _, _, _, h123, h91⟩ := leaf_read k t rest hk hr
    have eb : bl (g0 ++ leafT k t ++ rest) = leafT k t ++ rest := by rw [List.append_assoc, bl_app _ _ hg, e, List.cons_append, bl_stay _ hb]
    rw [valS_plain (by rw [eb, e]; exact pre_no h123) (by rw [eb, e]; exact pre_no h91) h6, eb, h1, if_pos (by omega)]
theorem val_empty (kind : Nat) (op cl : UInt8) (hk : (kind = 1 ∧ op = 123 ∧ cl = 125) ∨ (kind = 2 ∧ op = 91 ∧ cl = 93)) (g0 g1 rest : Bs) (o c f : Nat) (hg : isBl g0) (hg1 : isBl g1) (ho : o ≤ 7) (hc : c ≤ 256) (hf : 1 ≤ f) : valS f o c (g0 ++ op :: (g1 ++ cl :: rest)) = if c + 1 ≤ 256 then .ok ([⟨kind, [], [], []⟩], rest) else .error 14 := by
  obtain ⟨f, rfl⟩ : ∃ f', f = f' + 1 := ⟨f - 1, by omega⟩
  by_cases h6 : c = 256
  · rw [valS_succ, if_pos h6, if_neg (by omega)]
  · have hop : ([32, 9, 10, 13] : Bs).contains op = false := by rcases hk with ⟨_, rfl, _⟩ | ⟨_, rfl, _⟩ <;> decide
    have hcl : ([32, 9, 10, 13] : Bs).contains cl = false := by rcases hk with ⟨_, _, rfl⟩ | ⟨_, _, rfl⟩ <;> decide
    rw [valS_grp hk (by rw [bl_app _ _ hg, bl_stay _ hop]) h6, grpS_eq, if_neg (by omega), bl_app _ _ hg1, bl_stay _ hcl, tk_pre, if_pos (by omega)]

/-- The kids' places, and their nodes; p: the next place. -/
def placesN (g : Vt → Nat → List Nd) : Nat → Nat → List Vt → List Nat × List Nd
  | _, _, [] => ([], [])
  | i, p, k :: ks => if 8 < i then ([], []) else (p :: (placesN g (i + 1) (p + (g k p).length) ks).1, g k p ++ (placesN g (i + 1) (p + (g k p).length) ks).2)
/-- The first names. -/
def letters (n : Nat) : List Bs := (List.range n).map fun i => [UInt8.ofNat (97 + i)]
theorem letters_succ (n : Nat) : letters (n + 1) = letters n ++ [[UInt8.ofNat (97 + n)]] := by simp [letters, List.range_succ]
theorem letters_new (n : Nat) (h : n ≤ 8) : [UInt8.ofNat (97 + n)] ∉ letters n := by
  intro hm
  simp only [letters, List.mem_map, List.mem_range] at hm
  obtain ⟨i, hi, e⟩ := hm
  have := congrArg (fun l : Bs => (l.getD 0 0).toNat) e
  simp only [List.getD_cons_zero] at this
  rw [u8n (by omega), u8n (by omega)] at this
  omega
/-- A value's nodes; c: its place. -/
def vnodes : Nat → Vt → Nat → List Nd
  | 0, v, c => if v.kind % 7 ≤ 1 then [⟨2, [], [], []⟩] else [leafN v.kind v.text]
  | d + 1, v, c => if v.kind % 7 = 0 then ⟨2, [], [], (placesN (vnodes d) 0 (c + 1) v.kids).1⟩ :: (placesN (vnodes d) 0 (c + 1) v.kids).2
    else if v.kind % 7 = 1 then ⟨1, [], letters (placesN (vnodes d) 0 (c + 1) v.kids).1.length, (placesN (vnodes d) 0 (c + 1) v.kids).1⟩ :: (placesN (vnodes d) 0 (c + 1) v.kids).2
    else [leafN v.kind v.text]
theorem vnodes0_grp {v : Vt} (c : Nat) (h : v.kind % 7 ≤ 1) : vnodes 0 v c = [⟨2, [], [], []⟩] := by rw [vnodes, if_pos h]
theorem vnodes0_leaf {v : Vt} (c : Nat) (h : 2 ≤ v.kind % 7) : vnodes 0 v c = [leafN v.kind v.text] := by rw [vnodes, if_neg (by omega)]
theorem vnodes_arr {d : Nat} {v : Vt} (c : Nat) (h : v.kind % 7 = 0) : vnodes (d + 1) v c = ⟨2, [], [], (placesN (vnodes d) 0 (c + 1) v.kids).1⟩ :: (placesN (vnodes d) 0 (c + 1) v.kids).2 := by rw [vnodes, if_pos h]
theorem vnodes_obj {d : Nat} {v : Vt} (c : Nat) (h : v.kind % 7 = 1) : vnodes (d + 1) v c = ⟨1, [], letters (placesN (vnodes d) 0 (c + 1) v.kids).1.length, (placesN (vnodes d) 0 (c + 1) v.kids).1⟩ :: (placesN (vnodes d) 0 (c + 1) v.kids).2 := by rw [vnodes, if_neg (by omega), if_pos h]
theorem vnodes_leaf {d : Nat} {v : Vt} (c : Nat) (h : 2 ≤ v.kind % 7) : vnodes (d + 1) v c = [leafN v.kind v.text] := by rw [vnodes, if_neg (by omega), if_neg (by omega)]

/-- What stands ahead of a kid behind the comma. -/
def oheadT (obj : Bool) (gap : Bs) (i : Nat) : Bs := if obj then 34 :: UInt8.ofNat (97 + i) :: 34 :: (gap ++ 58 :: gap) else []
theorem headT_eq (obj : Bool) (gap : Bs) (i : Nat) (h : 0 < i) : headT obj gap i = gap ++ 44 :: (gap ++ oheadT obj gap i) := by
  unfold headT oheadT
  rw [if_pos h]
  cases obj <;> simp
theorem headT_zero (obj : Bool) (gap : Bs) : headT obj gap 0 = gap ++ oheadT obj gap 0 := by
  unfold headT oheadT
  cases obj <;> simp
theorem vtext_lead (gap : Bs) : ∀ (d : Nat) (v : Vt), Lead (vtext gap d v)
  | 0, v => by
    have hm : 0 ≤ v.kind % 7 := Int.emod_nonneg _ (by decide)
    by_cases q : v.kind % 7 ≤ 1
    · rw [vtext0_grp q]
      exact ⟨91, _, rfl, by decide, by decide, by decide, by decide⟩
    · rw [vtext0_leaf (by omega)]
      obtain ⟨_, c, tl, e, h1, h2, h3, h4, _⟩ := leaf_read v.kind v.text [] (by omega) (.inl rfl)
      exact ⟨c, tl, e, h1, h2, h3, h4⟩
  | d + 1, v => by
    have hm : 0 ≤ v.kind % 7 := Int.emod_nonneg _ (by decide)
    by_cases q : v.kind % 7 = 0
    · rw [vtext_arr q]
      exact ⟨91, _, rfl, by decide, by decide, by decide, by decide⟩
    · by_cases q1 : v.kind % 7 = 1
      · rw [vtext_obj q1]
        exact ⟨123, _, rfl, by decide, by decide, by decide, by decide⟩
      · rw [vtext_leaf (by omega)]
        obtain ⟨_, c, tl, e, h1, h2, h3, h4, _⟩ := leaf_read v.kind v.text [] (by omega) (.inl rfl)
        exact ⟨c, tl, e, h1, h2, h3, h4⟩
theorem Lead.len {xs : Bs} (h : Lead xs) : 1 ≤ xs.length := by
  obtain ⟨c, tl, rfl, _⟩ := h
  simp
theorem gap_term (gap rest : Bs) (hg : isBl gap) (h : Term rest) (hne : rest ≠ []) : Term (gap ++ rest) := by
  cases gap with
  | nil => exact h
  | cons c g =>
    right
    refine ⟨c, g ++ rest, rfl, ?_⟩
    have := hg c (List.mem_cons_self ..)
    simp at this
    rcases this with h | h | h | h
    · exact .inl h
    · exact .inr (.inl h)
    · exact .inr (.inr (.inl h))
    · exact .inr (.inr (.inr (.inl h)))
/-- A name, and the sign behind it. -/
theorem name_read (gap g0 us : Bs) (i : Nat) (hg : isBl gap) (h0 : isBl g0) (hi : i ≤ 8) : nameS (letters i) (g0 ++ (34 :: UInt8.ofNat (97 + i) :: 34 :: (gap ++ 58 :: us))) = .ok (letters (i + 1), us) := by
  have e1 : encRs [97 + i] = [UInt8.ofNat (97 + i)] := by rw [encRs_cons, enc_one (by omega)]; rfl
  have ht := text_enc [97 + i] (gap ++ 58 :: us) (fun r hr => by
    rw [List.mem_singleton.1 hr]
    exact ⟨.inl (by omega), by omega, by omega, by omega, by omega⟩)
  rw [e1] at ht
  unfold nameS
  rw [bl_app _ _ h0, bl_stay _ (by decide)]
  have ht2 : textS (34 :: UInt8.ofNat (97 + i) :: 34 :: (gap ++ 58 :: us)) = some ([UInt8.ofNat (97 + i)], gap ++ 58 :: us) := ht
  rw [ht2]
  simp only []
  rw [if_neg (letters_new i hi), bl_app _ _ hg, bl_stay _ (by decide), tk_pre]
  simp only []
  rw [letters_succ]
/-- What a value's text is read as, so deep. -/
def ValOk (gap : Bs) (d : Nat) : Prop := ∀ (v : Vt) (o c f : Nat) (g0 rest : Bs), isBl g0 → Term rest → o + d ≤ 7 → c ≤ 256 → 2 * (vtext gap d v).length + 1 ≤ f → valS f o c (g0 ++ (vtext gap d v ++ rest)) = if c + (vnodes d v c).length ≤ 256 then .ok (vnodes d v c, rest) else .error 14
def nmsN (obj : Bool) (i : Nat) : List Bs := if obj then letters i else []
/-- A group's pieces, from one on. -/
theorem pcs_read (gap : Bs) (hg : isBl gap) (d : Nat) (H : ValOk gap d) (obj : Bool) (kind : Nat) (close : UInt8) (hk : (obj = true ∧ kind = 1 ∧ close = 125) ∨ (obj = false ∧ kind = 2 ∧ close = 93)) (rest : Bs) (o : Nat) (ho : o + d ≤ 7) (c : Nat) :
    ∀ (ks : List Vt) (k : Vt) (i f : Nat) (kids : List Nat) (news : List Nd) (g0 : Bs), i ≤ 8 → isBl g0 → c + 1 + news.length ≤ 256 → 2 * ((oheadT obj gap i ++ vtext gap d k ++ kidsT (vtext gap d) obj gap (i + 1) ks).length + 1) ≤ f →
      pcsS f o c kind close (nmsN obj i) kids news (g0 ++ (oheadT obj gap i ++ (vtext gap d k ++ (kidsT (vtext gap d) obj gap (i + 1) ks ++ (gap ++ close :: rest))))) =
        if c + 1 + news.length + (placesN (vnodes d) i (c + 1 + news.length) (k :: ks)).2.length ≤ 256 then .ok (⟨kind, [], nmsN obj (i + (placesN (vnodes d) i (c + 1 + news.length) (k :: ks)).1.length), kids ++ (placesN (vnodes d) i (c + 1 + news.length) (k :: ks)).1⟩ :: (news ++ (placesN (vnodes d) i (c + 1 + news.length) (k :: ks)).2), rest) else .error 14 := by
  have hcl44 : close ≠ 44 := by rcases hk with ⟨_, _, rfl⟩ | ⟨_, _, rfl⟩ <;> decide
  have hclb : ([32, 9, 10, 13] : Bs).contains close = false := by rcases hk with ⟨_, _, rfl⟩ | ⟨_, _, rfl⟩ <;> decide
  have htc : Term (close :: rest) := .inr ⟨close, rest, rfl, by rcases hk with ⟨_, _, rfl⟩ | ⟨_, _, rfl⟩ <;> simp⟩
  intro ks
  induction ks with
  | nil =>
    intro k i f kids news g0 hi h0 hc hf
    obtain ⟨f, rfl⟩ : ∃ f', f = f' + 1 := ⟨f - 1, by omega⟩
    have hah : aheadS kind (nmsN obj i) (g0 ++ (oheadT obj gap i ++ (vtext gap d k ++ (kidsT (vtext gap d) obj gap (i + 1) [] ++ (gap ++ close :: rest))))) = .ok (nmsN obj (i + 1), (if obj then gap else g0) ++ (vtext gap d k ++ (gap ++ close :: rest))) := by
      rcases hk with ⟨rfl, rfl, rfl⟩ | ⟨rfl, rfl, rfl⟩
      · unfold aheadS nmsN oheadT
        simp only [if_true]
        have := name_read gap g0 (gap ++ (vtext gap d k ++ (gap ++ 125 :: rest))) i hg h0 hi
        simpa [kidsT] using this
      · unfold aheadS nmsN oheadT
        simp [kidsT]
    have hgx : isBl (if obj then gap else g0) := by split <;> assumption
    rw [pcsS_succ, hah]
    simp only []
    rw [H k o (c + 1 + news.length) f (if obj then gap else g0) (gap ++ close :: rest) hgx (gap_term _ _ hg htc (by simp)) ho hc (by simp only [List.length_append] at hf; omega)]
    have e1 : placesN (vnodes d) i (c + 1 + news.length) [k] = ([c + 1 + news.length], vnodes d k (c + 1 + news.length)) := by
      rw [placesN, if_neg (by omega), placesN]
      simp
    rw [e1]
    by_cases q : c + 1 + news.length + (vnodes d k (c + 1 + news.length)).length ≤ 256
    · rw [if_pos q]
      simp only []
      rw [bl_app _ _ hg, bl_stay _ hclb, tk_other _ (Ne.symm hcl44), tk_pre, if_pos q]
      rfl
    · rw [if_neg q]
      simp only []
      rw [if_neg q]
  | cons k2 ks ih =>
    intro k i f kids news g0 hi h0 hc hf
    obtain ⟨f, rfl⟩ : ∃ f', f = f' + 1 := ⟨f - 1, by omega⟩
    by_cases h8 : 8 < i + 1
    · -- nothing more is written
      have ek : kidsT (vtext gap d) obj gap (i + 1) (k2 :: ks) = [] := by rw [kidsT, if_pos h8]
      have ep : placesN (vnodes d) i (c + 1 + news.length) (k :: k2 :: ks) = ([c + 1 + news.length], vnodes d k (c + 1 + news.length)) := by
        rw [placesN, if_neg (by omega), placesN, if_pos h8]
        simp
      rw [ek] at hf ⊢
      have hah : aheadS kind (nmsN obj i) (g0 ++ (oheadT obj gap i ++ (vtext gap d k ++ ([] ++ (gap ++ close :: rest))))) = .ok (nmsN obj (i + 1), (if obj then gap else g0) ++ (vtext gap d k ++ (gap ++ close :: rest))) := by
        rcases hk with ⟨rfl, rfl, rfl⟩ | ⟨rfl, rfl, rfl⟩
        · unfold aheadS nmsN oheadT
          simp only [if_true]
          have := name_read gap g0 (gap ++ (vtext gap d k ++ (gap ++ 125 :: rest))) i hg h0 hi
          simpa using this
        · unfold aheadS nmsN oheadT
          simp
      have hgx : isBl (if obj then gap else g0) := by split <;> assumption
      rw [pcsS_succ, hah]
      simp only []
      rw [H k o (c + 1 + news.length) f (if obj then gap else g0) (gap ++ close :: rest) hgx (gap_term _ _ hg htc (by simp)) ho hc (by simp only [List.length_append] at hf; omega)]
      rw [ep]
      by_cases q : c + 1 + news.length + (vnodes d k (c + 1 + news.length)).length ≤ 256
      · rw [if_pos q]
        simp only []
        rw [bl_app _ _ hg, bl_stay _ hclb, tk_other _ (Ne.symm hcl44), tk_pre, if_pos q]
        rfl
      · rw [if_neg q]
        simp only []
        rw [if_neg q]
    · have ek : kidsT (vtext gap d) obj gap (i + 1) (k2 :: ks) = gap ++ 44 :: (gap ++ (oheadT obj gap (i + 1) ++ (vtext gap d k2 ++ kidsT (vtext gap d) obj gap (i + 1 + 1) ks))) := by
        rw [kidsT, if_neg h8, headT_eq _ _ _ (by omega)]
        simp only [List.append_assoc, List.cons_append]
      obtain ⟨R, hR⟩ : ∃ R, gap ++ (oheadT obj gap (i + 1) ++ (vtext gap d k2 ++ (kidsT (vtext gap d) obj gap (i + 1 + 1) ks ++ (gap ++ close :: rest)))) = R := ⟨_, rfl⟩
      have ek2 : kidsT (vtext gap d) obj gap (i + 1) (k2 :: ks) ++ (gap ++ close :: rest) = gap ++ 44 :: R := by
        rw [ek, ← hR]
        simp only [List.append_assoc, List.cons_append]
      have ep : placesN (vnodes d) i (c + 1 + news.length) (k :: k2 :: ks) = ((c + 1 + news.length) :: (placesN (vnodes d) (i + 1) (c + 1 + (news ++ vnodes d k (c + 1 + news.length)).length) (k2 :: ks)).1, vnodes d k (c + 1 + news.length) ++ (placesN (vnodes d) (i + 1) (c + 1 + (news ++ vnodes d k (c + 1 + news.length)).length) (k2 :: ks)).2) := by
        rw [placesN, if_neg (by omega), List.length_append, ← Nat.add_assoc]
      have hah : aheadS kind (nmsN obj i) (g0 ++ (oheadT obj gap i ++ (vtext gap d k ++ (gap ++ 44 :: R)))) = .ok (nmsN obj (i + 1), (if obj then gap else g0) ++ (vtext gap d k ++ (gap ++ 44 :: R))) := by
        rcases hk with ⟨rfl, rfl, rfl⟩ | ⟨rfl, rfl, rfl⟩
        · unfold aheadS nmsN oheadT
          simp only [if_true]
          have := name_read gap g0 (gap ++ (vtext gap d k ++ (gap ++ 44 :: R))) i hg h0 hi
          simpa using this
        · unfold aheadS nmsN oheadT
          simp
      have hgx : isBl (if obj then gap else g0) := by split <;> assumption
      have hl1 := (vtext_lead gap d k).len
      rw [ek] at hf
      rw [ek2, pcsS_succ, hah]
      simp only []
      rw [H k o (c + 1 + news.length) f (if obj then gap else g0) (gap ++ 44 :: R) hgx (gap_term _ _ hg (.inr ⟨44, R, rfl, by simp⟩) (by simp)) ho hc (by simp only [List.length_append] at hf; omega)]
      rw [ep]
      by_cases q : c + 1 + news.length + (vnodes d k (c + 1 + news.length)).length ≤ 256
      · rw [if_pos q]
        simp only []
        rw [bl_app _ _ hg, bl_stay _ (by decide), tk_pre]
        simp only []
        rw [← hR, ih k2 (i + 1) f (kids ++ [c + 1 + news.length]) (news ++ vnodes d k (c + 1 + news.length)) gap (by omega) hg (by rw [List.length_append]; omega) (by simp only [List.length_append, List.length_cons] at hf ⊢; omega)]
        simp only [List.length_append, List.length_cons, List.append_assoc, List.singleton_append]
        have ea : c + 1 + (news.length + (vnodes d k (c + 1 + news.length)).length) = c + 1 + news.length + (vnodes d k (c + 1 + news.length)).length := by omega
        rw [ea]
        have eb : ∀ n, i + 1 + n = i + (n + 1) := fun n => by omega
        simp only [eb, Nat.add_assoc]
      · rw [if_neg q]
        simp only []
        rw [if_neg (by rw [List.length_append]; omega)]

theorem grp_read (gap : Bs) (hg : isBl gap) (d : Nat) (H : ValOk gap d) (obj : Bool) (kind : Nat) (op close : UInt8) (hk : (obj = true ∧ kind = 1 ∧ op = 123 ∧ close = 125) ∨ (obj = false ∧ kind = 2 ∧ op = 91 ∧ close = 93)) (ks : List Vt) (o c f : Nat) (g0 rest : Bs) (h0 : isBl g0) (ho : o + (d + 1) ≤ 7) (hc : c ≤ 256) (hf : 2 * ([op] ++ kidsT (vtext gap d) obj gap 0 ks ++ gap ++ [close]).length + 1 ≤ f) :
    valS f o c (g0 ++ (([op] ++ kidsT (vtext gap d) obj gap 0 ks ++ gap ++ [close]) ++ rest)) =
      if c + (1 + (placesN (vnodes d) 0 (c + 1) ks).2.length) ≤ 256 then .ok (⟨kind, [], nmsN obj (placesN (vnodes d) 0 (c + 1) ks).1.length, (placesN (vnodes d) 0 (c + 1) ks).1⟩ :: (placesN (vnodes d) 0 (c + 1) ks).2, rest) else .error 14 := by
  have hk2 : (kind = 1 ∧ op = 123 ∧ close = 125) ∨ (kind = 2 ∧ op = 91 ∧ close = 93) := by
    rcases hk with ⟨_, a, b, e⟩ | ⟨_, a, b, e⟩
    · exact .inl ⟨a, b, e⟩
    · exact .inr ⟨a, b, e⟩
  have hk3 : (obj = true ∧ kind = 1 ∧ close = 125) ∨ (obj = false ∧ kind = 2 ∧ close = 93) := by
    rcases hk with ⟨a, b, _, e⟩ | ⟨a, b, _, e⟩
    · exact .inl ⟨a, b, e⟩
    · exact .inr ⟨a, b, e⟩
  have hop : ([32, 9, 10, 13] : Bs).contains op = false := by rcases hk2 with ⟨_, rfl, _⟩ | ⟨_, rfl, _⟩ <;> decide
  cases ks with
  | nil =>
    have e : g0 ++ (([op] ++ kidsT (vtext gap d) obj gap 0 [] ++ gap ++ [close]) ++ rest) = g0 ++ op :: (gap ++ close :: rest) := by simp [kidsT]
    rw [e, val_empty kind op close hk2 g0 gap rest o c f h0 hg (by omega) hc (by omega)]
    have en : nmsN obj 0 = [] := by unfold nmsN; split <;> rfl
    simp [placesN, en]
  | cons k ks =>
    have ek : kidsT (vtext gap d) obj gap 0 (k :: ks) = gap ++ (oheadT obj gap 0 ++ (vtext gap d k ++ kidsT (vtext gap d) obj gap 1 ks)) := by
      rw [kidsT, if_neg (by omega), headT_zero]
      simp only [List.append_assoc]
    obtain ⟨f, rfl⟩ : ∃ f', f = f' + 1 := ⟨f - 1, by omega⟩
    by_cases h6 : c = 256
    · rw [valS_succ, if_pos h6, if_neg (by omega)]
    · rw [ek] at hf
      obtain ⟨Y, hY⟩ : ∃ Y, oheadT obj gap 0 ++ (vtext gap d k ++ (kidsT (vtext gap d) obj gap 1 ks ++ (gap ++ close :: rest))) = Y := ⟨_, rfl⟩
      have e : g0 ++ (([op] ++ kidsT (vtext gap d) obj gap 0 (k :: ks) ++ gap ++ [close]) ++ rest) = g0 ++ op :: (gap ++ Y) := by
        rw [ek, ← hY]
        simp
      have hYl : ∃ c tl, Y = c :: tl ∧ ([32, 9, 10, 13] : Bs).contains c = false ∧ close ≠ c := by
        rw [← hY]
        rcases hk3 with ⟨rfl, _, rfl⟩ | ⟨rfl, _, rfl⟩
        · exact ⟨34, _, rfl, by decide, by decide⟩
        · obtain ⟨c, tl, e, h1, _, h3, _⟩ := vtext_lead gap d k
          refine ⟨c, tl ++ (kidsT (vtext gap d) false gap 1 ks ++ (gap ++ 93 :: rest)), ?_, h1, Ne.symm h3⟩
          unfold oheadT
          rw [e]
          simp
      obtain ⟨yc, ytl, eY, hyb, hyc⟩ := hYl
      have hbY : bl (gap ++ Y) = Y := by rw [bl_app _ _ hg, eY, bl_stay _ hyb]
      rw [e, valS_grp hk2 (by rw [bl_app _ _ h0, bl_stay _ hop]) h6, grpS_eq, if_neg (by omega), hbY, eY, tk_other _ hyc, ← eY]
      simp only []
      have en : nmsN obj 0 = [] := by unfold nmsN; split <;> rfl
      have hp := pcs_read gap hg d H obj kind close hk3 rest (o + 1) (by omega) c ks k 0 f [] [] [] (by omega) (fun x hx => by simp at hx) (by simp; omega) (by simp only [List.length_append, List.length_cons, List.length_nil, Nat.zero_add] at hf ⊢; omega)
      rw [en] at hp
      simp only [List.nil_append, List.length_nil, Nat.add_zero, Nat.zero_add] at hp
      rw [← hY, hp]
      simp only [Nat.add_assoc]
theorem val_read (gap : Bs) (hg : isBl gap) : ∀ d, ValOk gap d
  | 0 => fun v o c f g0 rest h0 hr ho hc hf => by
    have hm : 0 ≤ v.kind % 7 := Int.emod_nonneg _ (by decide)
    by_cases q : v.kind % 7 ≤ 1
    · rw [vtext0_grp q, vnodes0_grp c q]
      have := val_empty 2 91 93 (.inr ⟨rfl, rfl, rfl⟩) g0 [] rest o c f h0 (fun x hx => by simp at hx) (by omega) hc (by omega)
      simpa using this
    · rw [vtext0_leaf (by omega), vnodes0_leaf c (by omega)]
      have := val_leaf v.kind v.text g0 rest o c f (by omega) hr h0 hc (by omega)
      rw [List.append_assoc] at this
      simpa using this
  | d + 1 => fun v o c f g0 rest h0 hr ho hc hf => by
    have hm : 0 ≤ v.kind % 7 := Int.emod_nonneg _ (by decide)
    have H := val_read gap hg d
    by_cases q : v.kind % 7 = 0
    · rw [vtext_arr q] at hf ⊢
      rw [vnodes_arr c q, grp_read gap hg d H false 2 91 93 (.inr ⟨rfl, rfl, rfl, rfl⟩) v.kids o c f g0 rest h0 (by omega) hc hf]
      simp [nmsN, Nat.add_comm]
    · by_cases q1 : v.kind % 7 = 1
      · rw [vtext_obj q1] at hf ⊢
        rw [vnodes_obj c q1, grp_read gap hg d H true 1 123 125 (.inl ⟨rfl, rfl, rfl, rfl⟩) v.kids o c f g0 rest h0 (by omega) hc hf]
        simp [nmsN, Nat.add_comm]
      · rw [vtext_leaf (by omega), vnodes_leaf c (by omega)]
        have := val_leaf v.kind v.text g0 rest o c f (by omega) hr h0 hc (by omega)
        rw [List.append_assoc] at this
        simpa using this
/-- A value's text, as nodes. -/
theorem parse_read (gap : Bs) (hg : isBl gap) (d : Nat) (hd : d ≤ 7) (v : Vt) (hl : (vtext gap d v).length ≤ 4096) : parseS (vtext gap d v) = if (vnodes d v 0).length ≤ 256 then .ok (vnodes d v 0) else .error 14 := by
  unfold parseS
  rw [if_neg (by omega)]
  have h := val_read gap hg d v 0 0 (2 * (vtext gap d v).length + 1) [] [] (fun x hx => by simp at hx) (.inl rfl) (by omega) (by omega) (Nat.le_refl _)
  rw [List.nil_append, List.append_nil, Nat.zero_add] at h
  rw [h]
  by_cases q : (vnodes d v 0).length ≤ 256
  · rw [if_pos q]
    simp only []
    rw [if_pos (show bl [] = [] from rfl), if_pos q]
  · rw [if_neg q]
    simp only []
    rw [if_neg q]
end Go.Proofs.YtbobgebhdafciabDoor
