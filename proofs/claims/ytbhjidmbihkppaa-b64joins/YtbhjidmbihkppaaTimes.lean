/-
  Contracts of nat.addTimes and nat.subTimes: a so often added to, or taken away from, limbs in their place.
-/
import Derived.Test.YtbhjidmbihkppaaMul
namespace Go.Proofs.Ytbhjidmbihkppaa
open Go.RowKit
set_option linter.unusedVariables false
set_option linter.unusedSimpArgs false

/-- The base of limbs. -/
def B64 : Int := 18446744073709551616
theorem B64_pos : 0 < B64 := by decide
theorem B64_one : 1 < B64 := by decide

/-- Limbs from o on, so many. -/
def seg (xs : List Int) (o i : Nat) : List Int := (xs.drop o).take i
theorem seg_succ (xs : List Int) (o i : Nat) (h : o + i < xs.length) : seg xs o (i + 1) = seg xs o i ++ [xs.getD (o + i) 0] := by
  unfold seg
  rw [List.take_succ_eq_append_getElem (by simp; omega)]
  congr 2
  simp [List.getD, List.getElem?_eq_getElem h]
theorem seg_len (xs : List Int) (o i : Nat) (h : o + i ≤ xs.length) : (seg xs o i).length = i := by unfold seg; simp; omega
theorem seg_set (xs : List Int) (o i : Nat) (y : Int) : seg (xs.set (o + i) y) o i = seg xs o i := by
  unfold seg
  apply List.ext_getElem?
  intro j
  simp only [List.getElem?_take, List.getElem?_drop]
  by_cases hj : j < i
  · simp only [hj, if_true]
    rw [List.getElem?_set_ne (by omega)]
  · simp [hj]
theorem getD_set (xs : List Int) (j k : Nat) (y : Int) (h : k < xs.length) : (xs.set k y).getD j 0 = if j = k then y else xs.getD j 0 := by
  simp only [List.getD, List.getElem?_set]
  by_cases hj : k = j
  · subst hj; simp [h]
  · simp [hj, Ne.symm hj]
theorem take_succ_getD (xs : List Int) (i : Nat) (h : i < xs.length) : xs.take (i + 1) = xs.take i ++ [xs.getD i 0] := by
  rw [List.take_succ_eq_append_getElem h]
  congr 2
  simp [List.getD, List.getElem?_eq_getElem h]

/-- What stands in the row when i limbs have been gone over: s is 1 for sums, -1 for differences; c is carried, or borrowed. -/
def Runs (s : Int) (xs ys : List Int) (o i : Nat) (t : Int) (cur : List Int) (c : Int) : Prop :=
  cur.length = xs.length ∧ (∀ j, j < o ∨ o + i ≤ j → cur.getD j 0 = xs.getD j 0) ∧ Dg B64 cur ∧ 0 ≤ c ∧ c < B64 ∧
    val B64 (seg cur o i) + s * (B64 ^ i * c) = val B64 (seg xs o i) + s * (t * val B64 (ys.take i))

theorem Runs.zero {s : Int} {xs ys : List Int} {o : Nat} {t : Int} (hd : Dg B64 xs) : Runs s xs ys o 0 t xs 0 :=
  ⟨rfl, fun _ _ => rfl, hd, by decide, by decide, by simp [seg, val]⟩

theorem Runs.step {s : Int} {xs ys : List Int} {o i : Nat} {t : Int} {cur : List Int} {c : Int} (h : Runs s xs ys o i t cur c) (ho : o + i < xs.length) (hy : i < ys.length) {next c' : Int}
    (hn : 0 ≤ next ∧ next < B64) (hc : 0 ≤ c' ∧ c' < B64) (he : next + s * (B64 * c') = cur.getD (o + i) 0 + s * (ys.getD i 0 * t + c)) : Runs s xs ys o (i + 1) t (cur.set (o + i) next) c' := by
  obtain ⟨h1, h2, h3, h4, h5, h6⟩ := h
  refine ⟨by simp [h1], fun j hj => ?_, h3.set _ hn, hc.1, hc.2, ?_⟩
  · rw [getD_set _ _ _ _ (by omega), if_neg (by omega)]
    exact h2 j (by omega)
  · have e1 : seg (cur.set (o + i) next) o (i + 1) = seg cur o i ++ [next] := by
      rw [seg_succ _ _ _ (by simp; omega), seg_set, getD_set _ _ _ _ (by omega), if_pos rfl]
    rw [e1, seg_succ xs o i ho, take_succ_getD ys i hy]
    simp only [val_append, seg_len cur o i (by omega), seg_len xs o i (by omega), val]
    have e2 : (ys.take i).length = i := by simp; omega
    rw [e2, Int.pow_succ]
    have e3 := h2 (o + i) (by omega)
    rw [e3] at he
    generalize val B64 (seg cur o i) = A at *
    generalize val B64 (seg xs o i) = X at *
    generalize val B64 (ys.take i) = Y at *
    generalize B64 ^ i = p at *
    generalize ys.getD i 0 = y at *
    generalize xs.getD (o + i) 0 = x at *
    generalize B64 = b at *
    grind

theorem add_round (x y t c hi lo ne ov : Int) (hx : 0 ≤ x ∧ x < B64) (hy : 0 ≤ y ∧ y < B64) (ht : 0 ≤ t ∧ t < B64) (hc : 0 ≤ c ∧ c < B64)
    (e1 : hi = (y * t + c) / 18446744073709551616) (e2 : lo = (y * t + c) % 18446744073709551616) (e3 : ne = (x + lo) % 18446744073709551616) (e4 : ov = (x + lo) / 18446744073709551616) :
    (0 ≤ ne ∧ ne < B64) ∧ (0 ≤ hi + ov ∧ hi + ov < B64) ∧ ne + 1 * (B64 * (hi + ov)) = x + 1 * (y * t + c) := by
  unfold B64 at *
  have hp := prod_lt y t c hy.1 hy.2 ht.1 ht.2 hc.2
  have hp0 : 0 ≤ y * t := Int.mul_nonneg hy.1 ht.1
  generalize y * t = P at *
  omega
theorem sub_round (x y t c hi lo ne ov : Int) (hx : 0 ≤ x ∧ x < B64) (hy : 0 ≤ y ∧ y < B64) (ht : 0 ≤ t ∧ t < B64) (hc : 0 ≤ c ∧ c < B64)
    (e1 : hi = (y * t + c) / 18446744073709551616) (e2 : lo = (y * t + c) % 18446744073709551616) (e3 : ne = (x - lo) % 18446744073709551616) (e4 : ov = bor x lo) :
    (0 ≤ ne ∧ ne < B64) ∧ (0 ≤ hi + ov ∧ hi + ov < B64) ∧ ne + -1 * (B64 * (hi + ov)) = x + -1 * (y * t + c) := by
  unfold B64 bor at *
  have hp := prod_lt y t c hy.1 hy.2 ht.1 ht.2 hc.2
  have hp0 : 0 ≤ y * t := Int.mul_nonneg hy.1 ht.1
  generalize y * t = P at *
  split at e4 <;> omega

end Go.Proofs.Ytbhjidmbihkppaa
