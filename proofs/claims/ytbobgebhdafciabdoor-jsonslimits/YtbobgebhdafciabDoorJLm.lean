/-
  Texts at the limits: as many values, as deep, as long as may be.
-/
import Derived.Test.YtbobgebhdafciabDoorJRv
namespace Go.Proofs.YtbobgebhdafciabDoor
open Go.RowKit
set_option linter.unusedVariables false
set_option linter.unusedSimpArgs false

/-- So many pieces more. -/
def more : Nat → Bs → Bs → Bs
  | 0, t, _ => t
  | k + 1, t, p => more k t p ++ p
def isOk (r : Except Nat (List Nd)) : Bool := match r with
  | .ok _ => true
  | .error _ => false
def errOf (r : Except Nat (List Nd)) : Nat := match r with
  | .ok _ => 0
  | .error k => k
theorem isOk_ok {r : Except Nat (List Nd)} (h : isOk r = true) : ∃ ns, r = .ok ns := by
  cases r with
  | ok ns => exact ⟨ns, rfl⟩
  | error k => cases h
theorem errOf_error {r : Except Nat (List Nd)} {k : Nat} (h : errOf r = k) (hk : k ≠ 0) : r = .error k := by
  cases r with
  | ok ns => exact absurd h.symm hk
  | error j => rw [show j = k from h]
theorem more_len : ∀ (k : Nat) (t p : Bs), (more k t p).length = t.length + k * p.length
  | 0, t, p => by simp [more]
  | k + 1, t, p => by rw [more, List.length_append, more_len k t p, Nat.succ_mul]; omega
set_option maxRecDepth 100000 in
theorem many_ok : isOk (parseS (more 254 [91, 48] [44, 48] ++ [93])) = true := by decide +kernel
set_option maxRecDepth 100000 in
theorem many_err : errOf (parseS (more 255 [91, 48] [44, 48] ++ [93])) = 14 := by decide +kernel
theorem deep_ok : isOk (parseS (more 8 (more 8 [] [91]) [93])) = true := by decide +kernel
theorem deep_err : errOf (parseS (more 9 (more 9 [] [91]) [93])) = 13 := by decide +kernel
theorem more_one : ∀ (k : Nat) (t : Bs) (c : UInt8), more k t [c] = t ++ List.replicate k c
  | 0, t, c => by simp [more]
  | k + 1, t, c => by rw [more, more_one k t c, List.append_assoc, List.replicate_succ']
theorem sign_x (xs : Bs) : signS (120 :: xs) = some (120, xs) := by
  have h := sign_self 120 xs (by decide) (by decide)
  rw [decGo_L, Lib.decodeL_ascii 120 xs (by decide)] at h
  rw [h]
  simp
theorem txt_x : ∀ (k f : Nat) (a : Bs), k < f → txtS f a (List.replicate k 120 ++ [34]) = some (a ++ List.replicate k 120, [])
  | 0, f, a, h => by
    obtain ⟨f, rfl⟩ : ∃ f', f = f' + 1 := ⟨f - 1, by omega⟩
    rw [txtS]
    simp [tk]
  | k + 1, f, a, h => by
    obtain ⟨f, rfl⟩ : ∃ f', f = f' + 1 := ⟨f - 1, by omega⟩
    rw [List.replicate_succ, List.cons_append, txtS, tk_no34 (by decide)]
    simp only []
    rw [sign_x]
    simp only []
    rw [txt_x k f _ (by omega), show Lib.encodeRune ((120 : Nat) : Int) = [120] by decide, List.append_assoc]
    rfl
theorem long_gen (k : Nat) (hk : k + 2 ≤ 4096) : ∃ ns, parseS (more k [34] [120] ++ [34]) = .ok ns := by
  have hl : (more k [34] [120] ++ [34]).length = k + 2 := by rw [List.length_append, more_len]; simp; omega
  have e : more k [34] [120] ++ [34] = 34 :: (List.replicate k 120 ++ [34]) := by rw [more_one]; rfl
  have ht : textS (34 :: (List.replicate k 120 ++ [34])) = some (List.replicate k 120, []) := by
    unfold textS
    rw [tk_pre]
    simp only []
    rw [txt_x k _ [] (by rw [List.length_append, List.length_replicate]; simp; omega), List.nil_append]
  have hb : bl (34 :: (List.replicate k 120 ++ [34])) = 34 :: (List.replicate k 120 ++ [34]) := trim_no _ 34 _ (by decide)
  refine ⟨[⟨3, List.replicate k 120, [], []⟩], ?_⟩
  unfold parseS
  rw [if_neg (by rw [hl]; omega), e, valS_plain (by rw [hb]; rfl) (by rw [hb]; rfl) (by decide), hb, plainS_text, ht]
  simp only [Option.map_some]
  rw [if_pos (by decide)]
theorem long_ok : ∃ ns, parseS (more 4094 [34] [120] ++ [34]) = .ok ns := long_gen 4094 (by decide)
theorem long_err : parseS (more 4095 [34] [120] ++ [34]) = .error 3 := by
  unfold parseS
  rw [if_pos (by rw [List.length_append, more_len]; decide)]
end Go.Proofs.YtbobgebhdafciabDoor
