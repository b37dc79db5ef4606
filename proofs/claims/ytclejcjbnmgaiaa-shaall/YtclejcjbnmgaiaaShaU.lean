/-
  Blocks of bytes put in: plain mathematics.
-/
import Derived.Test.YtclejcjbnmgaiaaShaE
import Derived.Test.YtclejcjbnmgaiaaShaH
import Derived.Test.YtclejcjbnmgaiaaShaM
import Derived.Test.YtclejcjbnmgaiaaShaT
namespace Go.Proofs.Ytclejcjbnmgaiaa
open Go.RowKit
set_option linter.unusedVariables false
set_option linter.unusedSimpArgs false

theorem hb_append (xs ys : List Int) : ∀ n, 64 * n ≤ xs.length → hb (xs ++ ys) n = hb xs n
  | 0, _ => rfl
  | n + 1, h => by
    rw [hb, hb, hb_append xs ys n (by omega)]
    congr 1
    rw [List.drop_append_of_le_length (by omega), List.take_append_of_le_length (by simp; omega)]
theorem hb_length (xs : List Int) : ∀ n, (hb xs n).length = 8
  | 0 => rfl
  | n + 1 => rfl
theorem hb_succ (xs : List Int) (n : Nat) : hb xs (n + 1) = mixS KS (hb xs n) ((xs.drop (64 * n)).take 64) := rfl

/-- What a hash holds of all the bytes. -/
structure Holds (all ws rs : List Int) : Prop where
  words : 64 ≤ all.length → ws = hb all (all.length / 64)
  rest : rs.take (all.length % 64) = all.drop (64 * (all.length / 64))
  bytes : Dg 256 rs
  good : Dg 256 all
  len : all.length ≤ 1000000000000000

/-- The bytes held, with those that fill the block. -/
theorem full_block {all ws rs bs : List Int} (h : Holds all ws rs) (hr : rs.length = 64) (r : Nat) (hrr : all.length % 64 = r) (m : Nat) (hm : r + m = 64) (hb : m ≤ bs.length) (h0 : 0 < r) :
    rs.take r ++ bs.take m ++ rs.drop (r + m) = ((all ++ bs).drop (64 * (all.length / 64))).take 64 := by
  have h1 := h.rest
  rw [hrr] at h1
  rw [h1, hm, List.drop_eq_nil_of_le (show rs.length ≤ 64 by omega), List.append_nil, List.drop_append_of_le_length (by omega)]
  have hl : (all.drop (64 * (all.length / 64))).length = r := by simp; omega
  rw [List.take_append, List.take_of_length_le (show (all.drop (64 * (all.length / 64))).length ≤ 64 by omega), hl, show 64 - r = m by omega]

theorem drop_after {all bs : List Int} (r : Nat) (hrr : all.length % 64 = r) (m : Nat) (hm : r + m = 64) : (all ++ bs).drop (64 * (all.length / 64 + 1)) = bs.drop m := by
  have e : 64 * (all.length / 64 + 1) = all.length + m := by omega
  rw [e, List.drop_length_add_append]
theorem drop_none {all bs : List Int} (hrr : all.length % 64 = 0) : (all ++ bs).drop (64 * (all.length / 64)) = bs := by
  have e : 64 * (all.length / 64) = all.length + 0 := by omega
  rw [e, List.drop_length_add_append, List.drop_zero]
/-- All blocks are through. -/
theorem holds_done {T ws rs1 : List Int} (D ln : Nat) (hw : ws = hb T D) (hl : (T.drop (64 * D)).length = ln) (hln : ln < 64) (hD : 64 * D ≤ T.length) (hd : Dg 256 T) (hr : Dg 256 rs1) (hT : T.length ≤ 1000000000000000) :
    Holds T ws (rs1.take 0 ++ (T.drop (64 * D)).take ln ++ rs1.drop (0 + ln)) := by
  have e1 : T.length / 64 = D := by simp at hl; omega
  have e2 : T.length % 64 = ln := by simp at hl; omega
  refine ⟨fun _ => by rw [e1]; exact hw, ?_, ?_, hd, hT⟩
  · rw [e1, e2, List.take_zero, List.nil_append, List.take_append_of_le_length (by simp at hl ⊢; omega), List.take_take, Nat.min_self, List.take_of_length_le (by omega)]
  · exact (((hr.take 0).append ((hd.drop _).take _)).append (hr.drop _))
/-- Few bytes more. -/
theorem holds_few {all ws rs bs : List Int} (h : Holds all ws rs) (hr : rs.length = 64) (r : Nat) (hrr : all.length % 64 = r) (hb : r + bs.length < 64) (hd : Dg 256 bs) (hT : all.length + bs.length ≤ 1000000000000000) :
    Holds (all ++ bs) ws (rs.take r ++ bs.take bs.length ++ rs.drop (r + bs.length)) := by
  have e1 : (all ++ bs).length / 64 = all.length / 64 := by simp; omega
  have e2 : (all ++ bs).length % 64 = r + bs.length := by simp; omega
  refine ⟨fun hh => ?_, ?_, ?_, h.good.append hd, by simpa using hT⟩
  · rw [e1, hb_append _ _ _ (by omega)]; exact h.words (by simp at hh; omega)
  · have h1 := h.rest
    rw [hrr] at h1
    rw [e1, e2, List.take_append_of_le_length (by simp; omega), List.take_of_length_le (by simp; omega), h1, List.drop_append_of_le_length (by omega), List.take_of_length_le (Nat.le_refl _)]
  · exact (((h.bytes.take _).append (hd.take _)).append (h.bytes.drop _))
end Go.Proofs.Ytclejcjbnmgaiaa
