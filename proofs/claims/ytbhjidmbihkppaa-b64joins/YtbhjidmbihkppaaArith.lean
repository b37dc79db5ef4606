/-
  Contracts of nat.Norm, Of, Add, Sub, Mul.
-/
import Derived.Test.YtbhjidmbihkppaaOwn
import Derived.Deep.RegionWith
import Derived.Deep.RegionHeld3
namespace Go.Proofs.Ytbhjidmbihkppaa
open Go.RowKit
set_option linter.unusedVariables false
set_option linter.unusedSimpArgs false

theorem ret_val {a b : Value} (h : a = b) : Ending.returned a = .returned b := by rw [h]

theorem add_none (b off j : Nat) : (⟨b, off, none⟩ : Addr).add j = ⟨b, off + j, none⟩ := by
  simp only [Addr.add]
  split
  · subst j; rfl
  · rfl

/-- copy into the head of a row of own memory. -/
theorem wpList_copy_row {P : Program} {w : World} {ops : Array Oper} {rest : List Oper} {o : Oper} {a : Act} {Q : Exit → Act → World → Prop} (hgd : o.guard = none) (d s : Operand) (dT sT : TypeId)
    (ho : o.op = .call { callee := .builtin .copy, args := #[d, s], argTypes := #[dT, sT] }) (e : TypeId) (hu : P.underlying dT = some (.slice e)) (k : IntKind) (bytes : Nat)
    (h2 : (P.info? e).map (fun i => (i.zero, i.size, i.bytes)) = some (some (.int k 0), 1, bytes)) (g : Nat) (ao : Option Addr) (dl dc sl sc : Nat)
    (hd : a.eval d = .slice (some ⟨g, 0, none⟩) dl dc) (hs : a.eval s = .slice ao sl sc) (xs ys : List Int) (hr : Row e k w g xs) (hy : Lies k w ao sl ys) (hdl : dl ≤ xs.length) (n : Nat) (hn : n = min sl dl)
    (B : Nat) (w0 : World) (hb : Below B w0 w) (hB : B ≤ g)
    (h : ∀ w', Row e k w' g (ys.take n ++ xs.drop n) → Below B w0 w' → wpList P ops Q rest (a.put o.dst (goInt n)) w') : wpList P ops Q (o :: rest) a w := by
  have hl := hy.len
  have hsz : (P.info? e).map (·.size) = some 1 := by
    obtain ⟨i, hi, _, hz, _⟩ := info_parts h2
    rw [hi]; simp [hz]
  have hcl : ((ys.take n).map (Value.int k)).length = n := by simp; omega
  refine wpList_copy_splice hgd d s dT sT ho e hu hsz _ ao dl dc sl sc hd hs g 0 (xs.map (Value.int k)) e hr ((ys.take n).map (Value.int k)) (by rw [hcl]; exact hn) ?_ (by rw [hcl]; simp; omega) (ints_oneCell _ _) B w0 hb hB ?_
  · intro h0
    rw [hcl] at h0
    obtain ⟨b, off, rfl, hlt, hc⟩ := hy.at (by omega)
    refine ⟨rfl, _, rfl, fun j v hj => ?_⟩
    simp only [List.getElem?_map, List.getElem?_take] at hj
    split at hj
    · have := hc j (by omega)
      rw [List.getElem?_eq_getElem (by omega)] at hj
      simp only [Option.map_some, Option.some.injEq] at hj
      rw [add_none, this, ← hj]
      simp [List.getD, List.getElem?_eq_getElem (show j < ys.length by omega)]
    · simp at hj
  · intro w' hg hb'
    rw [hcl]
    refine h w' ?_ hb'
    unfold Row
    rw [hg.out]
    congr 2
    simp only [splice, List.take_zero, List.nil_append, Nat.zero_add, hcl]
    simp

/-! ### The number that the lowest digits say -/
def low (B : Int) (xs : List Int) (i : Nat) : Int := val B (xs.take i)
theorem low_zero (B : Int) (xs : List Int) : low B xs 0 = 0 := by simp [low, val]
theorem low_succ (B : Int) (xs : List Int) (i : Nat) : low B xs (i + 1) = low B xs i + B ^ i * xs.getD i 0 := by
  unfold low
  by_cases h : i < xs.length
  · rw [take_succ_getD xs i h, val_append]
    have : (xs.take i).length = i := by simp; omega
    rw [this]; simp [val]
  · rw [List.take_of_length_le (by omega), List.take_of_length_le (by omega)]
    have : xs.getD i 0 = 0 := by simp [List.getD, List.getElem?_eq_none (show xs.length ≤ i by omega)]
    rw [this]; simp
theorem low_all (B : Int) (xs : List Int) (m : Nat) (h : top xs ≤ m) : low B xs m = val B xs := by
  unfold low
  rw [← val_take_top B xs]
  have e : xs.take m = xs.take (top xs) ++ (xs.drop (top xs)).take (m - top xs) := by
    conv => lhs; rw [show m = top xs + (m - top xs) by omega]
    rw [List.take_add]
  rw [e, val_append, val_zeros B ((xs.drop (top xs)).take (m - top xs)) ?_]
  · simp
  · intro j
    have := top_above xs (top xs + j) (by omega)
    simp only [List.getD, List.getElem?_take, List.getElem?_drop] at this ⊢
    split
    · exact this
    · rfl
theorem low_len (B : Int) (xs : List Int) : low B xs xs.length = val B xs := by unfold low; rw [List.take_of_length_le (Nat.le_refl _)]
theorem low_set (B : Int) (xs : List Int) (i j : Nat) (y : Int) (h : i ≤ j) : low B (xs.set j y) i = low B xs i := by
  unfold low
  rw [List.take_set_of_le h]
theorem low_set_succ (B : Int) (xs : List Int) (i : Nat) (y : Int) (h : i < xs.length) : low B (xs.set i y) (i + 1) = low B xs i + B ^ i * y := by
  rw [low_succ, low_set B xs i i y (Nat.le_refl _), getD_set _ _ _ _ h, if_pos rfl]

theorem row_alloc (w : World) (e : TypeId) (k : IntKind) (n : Int) : Row e k (w.alloc (.cells #[.int k n] e)) w.heap.size [n] := by
  unfold Row
  rw [heap_alloc_new w]; rfl

/-- What stands in the row when i limbs have been added. -/
def Adds (xs ys : List Int) (m i : Nat) (cur : List Int) (c : Int) : Prop :=
  cur.length = m + 1 ∧ Dg B64 cur ∧ 0 ≤ c ∧ c ≤ 1 ∧ low B64 cur i + B64 ^ i * c = low B64 xs i + low B64 ys i
theorem Adds.zero (xs ys : List Int) (m : Nat) : Adds xs ys m 0 (List.replicate (m + 1) 0) 0 :=
  ⟨by simp, Dg.zeros B64_pos _, by decide, by decide, by simp [low_zero]⟩
theorem Adds.step {xs ys : List Int} {m i : Nat} {cur : List Int} {c : Int} (h : Adds xs ys m i cur c) (hi : i < m + 1) {ne c' : Int} (hn : 0 ≤ ne ∧ ne < B64) (hc : 0 ≤ c' ∧ c' ≤ 1)
    (he : ne + B64 * c' = xs.getD i 0 + ys.getD i 0 + c) : Adds xs ys m (i + 1) (cur.set i ne) c' := by
  obtain ⟨h1, h2, h3, h4, h5⟩ := h
  refine ⟨by simp [h1], h2.set _ hn, hc.1, hc.2, ?_⟩
  rw [low_set_succ _ _ _ _ (by omega), low_succ, low_succ, Int.pow_succ]
  generalize low B64 cur i = A at *
  generalize low B64 xs i = X at *
  generalize low B64 ys i = Y at *
  generalize B64 ^ i = p at *
  generalize B64 = b at *
  grind
theorem Adds.done {xs ys : List Int} {m : Nat} {cur : List Int} {c : Int} (h : Adds xs ys m m cur c) (hx : top xs ≤ m) (hy : top ys ≤ m) : Dg B64 (cur.set m c) ∧ (cur.set m c).length = m + 1 ∧ val B64 (cur.set m c) = val B64 xs + val B64 ys := by
  obtain ⟨h1, h2, h3, h4, h5⟩ := h
  refine ⟨h2.set _ ⟨h3, by unfold B64; omega⟩, by simp [h1], ?_⟩
  have : (cur.set m c).length = m + 1 := by simp [h1]
  rw [← low_len, this, low_set_succ _ _ _ _ (by omega), h5, low_all _ _ _ hx, low_all _ _ _ hy]

end Go.Proofs.Ytbhjidmbihkppaa
