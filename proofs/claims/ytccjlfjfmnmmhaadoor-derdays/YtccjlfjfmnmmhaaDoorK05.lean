import Derived.Test.YtccjlfjfmnmmhaaDoorK04
import Derived.Test.YtccjlfjfmnmmhaaDoorK02
import Derived.Laws.CopyOwn
import Derived.BigQuiet
import Derived.Deep.QuietTactic
import Derived.Deep.RegionWith
import Derived.Deep.RegionHeld3
import Derived.Deep.DrawnRows
/-
  Contracts of nat.addTimes and nat.subTimes: a so often added to, or taken away from, limbs in their place.
-/
namespace Go.Proofs.YtccjlfjfmnmmhaaDoor
open Go.RowKit
set_option linter.unusedVariables false
set_option linter.unusedSimpArgs false

/-- The base of limbs. -/
def B64 : Int := 18446744073709551616
theorem B64_pos : 0 < B64 := by decide
theorem B64_one : 1 < B64 := by decide

/-- Limbs from o on, so many. -/
def seg (xs : List Int) (o i : Nat) : List Int := (xs.drop o).take i
theorem seg_succ (xs : List Int) (o i : Nat) (h : o + i < xs.length) : seg xs o (i + 1) = seg xs o i ++ [xs.getD (o + i) 0] := by
  unfold seg
  rw [List.take_succ_eq_append_getElem (by simp; omega)]
  congr 2
  simp [List.getD, List.getElem?_eq_getElem h]
theorem seg_len (xs : List Int) (o i : Nat) (h : o + i ≤ xs.length) : (seg xs o i).length = i := by unfold seg; simp; omega
theorem seg_set (xs : List Int) (o i : Nat) (y : Int) : seg (xs.set (o + i) y) o i = seg xs o i := by
  unfold seg
  apply List.ext_getElem?
  intro j
  simp only [List.getElem?_take, List.getElem?_drop]
  by_cases hj : j < i
  · simp only [hj, if_true]
    rw [List.getElem?_set_ne (by omega)]
  · simp [hj]
theorem getD_set (xs : List Int) (j k : Nat) (y : Int) (h : k < xs.length) : (xs.set k y).getD j 0 = if j = k then y else xs.getD j 0 := by
  simp only [List.getD, List.getElem?_set]
  by_cases hj : k = j
  · subst hj; simp [h]
  · simp [hj, Ne.symm hj]
theorem take_succ_getD (xs : List Int) (i : Nat) (h : i < xs.length) : xs.take (i + 1) = xs.take i ++ [xs.getD i 0] := by
  rw [List.take_succ_eq_append_getElem h]
  congr 2
  simp [List.getD, List.getElem?_eq_getElem h]

/-- What stands in the row when i limbs have been gone over: s is 1 for sums, -1 for differences; c is carried, or borrowed. -/
def Runs (s : Int) (xs ys : List Int) (o i : Nat) (t : Int) (cur : List Int) (c : Int) : Prop :=
  cur.length = xs.length ∧ (∀ j, j < o ∨ o + i ≤ j → cur.getD j 0 = xs.getD j 0) ∧ Dg B64 cur ∧ 0 ≤ c ∧ c < B64 ∧
    val B64 (seg cur o i) + s * (B64 ^ i * c) = val B64 (seg xs o i) + s * (t * val B64 (ys.take i))

theorem Runs.zero {s : Int} {xs ys : List Int} {o : Nat} {t : Int} (hd : Dg B64 xs) : Runs s xs ys o 0 t xs 0 :=
  ⟨rfl, fun _ _ => rfl, hd, by decide, by decide, by simp [seg, val]⟩

theorem Runs.step {s : Int} {xs ys : List Int} {o i : Nat} {t : Int} {cur : List Int} {c : Int} (h : Runs s xs ys o i t cur c) (ho : o + i < xs.length) (hy : i < ys.length) {next c' : Int}
    (hn : 0 ≤ next ∧ next < B64) (hc : 0 ≤ c' ∧ c' < B64) (he : next + s * (B64 * c') = cur.getD (o + i) 0 + s * (ys.getD i 0 * t + c)) : Runs s xs ys o (i + 1) t (cur.set (o + i) next) c' := by
  obtain ⟨h1, h2, h3, h4, h5, h6⟩ := h
  refine ⟨by simp [h1], fun j hj => ?_, h3.set _ hn, hc.1, hc.2, ?_⟩
  · rw [getD_set _ _ _ _ (by omega), if_neg (by omega)]
    exact h2 j (by omega)
  · have e1 : seg (cur.set (o + i) next) o (i + 1) = seg cur o i ++ [next] := by
      rw [seg_succ _ _ _ (by simp; omega), seg_set, getD_set _ _ _ _ (by omega), if_pos rfl]
    rw [e1, seg_succ xs o i ho, take_succ_getD ys i hy]
    simp only [val_append, seg_len cur o i (by omega), seg_len xs o i (by omega), val]
    have e2 : (ys.take i).length = i := by simp; omega
    rw [e2, Int.pow_succ]
    have e3 := h2 (o + i) (by omega)
    rw [e3] at he
    generalize val B64 (seg cur o i) = A at *
    generalize val B64 (seg xs o i) = X at *
    generalize val B64 (ys.take i) = Y at *
    generalize B64 ^ i = p at *
    generalize ys.getD i 0 = y at *
    generalize xs.getD (o + i) 0 = x at *
    generalize B64 = b at *
    grind

theorem add_round (x y t c hi lo ne ov : Int) (hx : 0 ≤ x ∧ x < B64) (hy : 0 ≤ y ∧ y < B64) (ht : 0 ≤ t ∧ t < B64) (hc : 0 ≤ c ∧ c < B64)
    (e1 : hi = (y * t + c) / 18446744073709551616) (e2 : lo = (y * t + c) % 18446744073709551616) (e3 : ne = (x + lo) % 18446744073709551616) (e4 : ov = (x + lo) / 18446744073709551616) :
    (0 ≤ ne ∧ ne < B64) ∧ (0 ≤ hi + ov ∧ hi + ov < B64) ∧ ne + 1 * (B64 * (hi + ov)) = x + 1 * (y * t + c) := by
  unfold B64 at *
  have hp := prod_lt y t c hy.1 hy.2 ht.1 ht.2 hc.2
  have hp0 : 0 ≤ y * t := Int.mul_nonneg hy.1 ht.1
  generalize y * t = P at *
  omega
theorem sub_round (x y t c hi lo ne ov : Int) (hx : 0 ≤ x ∧ x < B64) (hy : 0 ≤ y ∧ y < B64) (ht : 0 ≤ t ∧ t < B64) (hc : 0 ≤ c ∧ c < B64)
    (e1 : hi = (y * t + c) / 18446744073709551616) (e2 : lo = (y * t + c) % 18446744073709551616) (e3 : ne = (x - lo) % 18446744073709551616) (e4 : ov = bor x lo) :
    (0 ≤ ne ∧ ne < B64) ∧ (0 ≤ hi + ov ∧ hi + ov < B64) ∧ ne + -1 * (B64 * (hi + ov)) = x + -1 * (y * t + c) := by
  unfold B64 bor at *
  have hp := prod_lt y t c hy.1 hy.2 ht.1 ht.2 hc.2
  have hp0 : 0 ≤ y * t := Int.mul_nonneg hy.1 ht.1
  generalize y * t = P at *
  split at e4 <;> omega

end Go.Proofs.YtccjlfjfmnmmhaaDoor
/-
  Numbers handed in and answered; make; contracts of nat.Norm, Of, Len, Cmp.
-/
namespace Go.Proofs.YtccjlfjfmnmmhaaDoor
open Go.RowKit
set_option linter.unusedVariables false
set_option linter.unusedSimpArgs false

/-- A number that a slice says. -/
structure NumIn (k : IntKind) (B : Int) (w : World) (ao : Option Addr) (len cap : Nat) (xs : List Int) : Prop where
  lies : Lies k w ao len xs
  lc : len ≤ cap
  cm : cap ≤ maxLen
  nn : ao = none → cap = 0
  dg : Dg B xs
  sm : len ≤ 1073741824

/-- An answer: a number without zeros above, of at most L digits; old memory is as it was. -/
def NumOut (k : IntKind) (B : Int) (w w' : World) (v : Value) (n : Int) (L : Nat) : Prop :=
  ∃ ao len cap xs, v = .slice ao len cap ∧ NumIn k B w' ao len cap xs ∧ Canon xs ∧ val B xs = n ∧ len ≤ L ∧ Below w.heap.size w w'

theorem NumIn.old {k : IntKind} {B : Int} {w w' : World} {ao : Option Addr} {len cap : Nat} {xs : List Int} (h : NumIn k B w ao len cap xs) (hb : Below w.heap.size w w') : NumIn k B w' ao len cap xs :=
  ⟨h.lies.old hb, h.lc, h.cm, h.nn, h.dg, h.sm⟩
theorem NumIn.len {k : IntKind} {B : Int} {w : World} {ao : Option Addr} {len cap : Nat} {xs : List Int} (h : NumIn k B w ao len cap xs) : xs.length = len := h.lies.len
theorem NumIn.take {k : IntKind} {B : Int} {w : World} {ao : Option Addr} {len cap : Nat} {xs : List Int} (h : NumIn k B w ao len cap xs) (n : Nat) (hn : n ≤ len) : NumIn k B w ao n cap (xs.take n) :=
  ⟨h.lies.take n hn, by have := h.lc; omega, h.cm, h.nn, h.dg.take n, by have := h.sm; omega⟩
theorem NumIn.nil {k : IntKind} {B : Int} {w : World} : NumIn k B w none 0 0 [] := ⟨Lies.empty _ _ _, Nat.le_refl _, by simp [maxLen], fun _ => rfl, Dg.nil _, by omega⟩
/-- A row of own memory as a number. -/
theorem Row.num {e : TypeId} {k : IntKind} {B : Int} {w : World} {g : Nat} {xs : List Int} (h : Row e k w g xs) (hd : Dg B xs) (hs : xs.length ≤ 1073741824) : NumIn k B w (some ⟨g, 0, none⟩) xs.length xs.length xs := by
  refine ⟨?_, Nat.le_refl _, by unfold maxLen; omega, fun h => (by cases h), hd, hs⟩
  have := h.lies 0 xs.length (by omega)
  simpa using this
/-- An answer that is the trimmed number. -/
theorem NumIn.out {k : IntKind} {B : Int} {w w' : World} {ao : Option Addr} {len cap : Nat} {xs : List Int} (h : NumIn k B w' ao len cap xs) (hb : Below w.heap.size w w') (n : Int) (hv : val B xs = n) (L : Nat) (hL : len ≤ L) :
    NumOut k B w w' (.slice ao (top xs) cap) n L := by
  have hl := h.len
  have ht := top_le xs
  exact ⟨ao, top xs, cap, xs.take (top xs), rfl, h.take _ (by omega), canon_take_top xs, by rw [val_take_top, hv], by omega, hb⟩

theorem Tryd.infoU : (Tryd.prog.info? 34).map (fun i => (i.zero, i.size, i.bytes)) = some (some (.int .u64 0), 1, 8) := by kernel_rfl
theorem Tryd.infoI : (Tryd.prog.info? 3).map (fun i => (i.zero, i.size, i.bytes)) = some (some (.int .i64 0), 1, 8) := by kernel_rfl
theorem Tryd.infoB : (Tryd.prog.info? 5).map (fun i => (i.zero, i.size, i.bytes)) = some (some (.int .u8 0), 1, 1) := by kernel_rfl

/-- make: a new row of zeros. -/
theorem wpList_make_row {P : Program} (w : World) {ops : Array Oper} {rest : List Oper} {o : Oper} {a : Act} {Q : Exit → Act → World → Prop}
    (hg : o.guard = none) (l c : Operand) (t : TypeId) (hop : o.op = Op.makeSlice t l c) (e : TypeId) (k : IntKind) (bytes : Nat)
    (h1 : P.underlying t = some (.slice e)) (h2 : (P.info? e).map (fun i => (i.zero, i.size, i.bytes)) = some (some (.int k 0), 1, bytes))
    (kl kc : IntKind) (L C : Int) (n : Nat) (hl : a.eval l = .int kl L) (hc : a.eval c = .int kc C) (hL : L = (n : Int)) (hC : C = (n : Int)) (b2 : bytes * n ≤ 281474976710656) (b3 : n ≤ maxLen)
    (hK : ∀ w', Row e k w' w.heap.size (List.replicate n 0) → Below w.heap.size w w' → wpList P ops Q rest (a.put o.dst (.slice (some ⟨w.heap.size, 0, none⟩) n n)) w') :
    wpList P ops Q (o :: rest) a w := by
  obtain ⟨i, hi, hz0, hz1, hz2⟩ := info_parts h2
  refine wpList_make_full w hg l c t hop w.heap.size e i (.int k 0) 1 h1 hi hz0 hz1 kl kc L C n hl hc hL hC (by rw [hz2]; exact b2) b3 (Nat.le_refl _) ?_
  intro w' hown hgr
  refine hK w' ?_ ((Below.refl _ _).grown hgr (Nat.le_refl _) (fun k h => by cases h))
  rcases hown.2 with ⟨h', _⟩ | ⟨g', cap', cur, h', _, hrow, _, _, hsz, htake⟩
  · simp at h'
  · simp only [Value.slice.injEq, Option.some.injEq, Addr.mk.injEq, and_true, true_and] at h'
    obtain ⟨rfl, rfl⟩ := h'
    unfold Row
    rw [hrow]
    have e1 : cur.toList = (List.replicate n 0).map (Value.int k) := by
      have e2 : cur.toList.take (n * 1) = cur.toList := List.take_of_length_le (by simp [hsz])
      rw [e2] at htake
      rw [htake]
      simp only [Value.cells, Nat.mul_one, toList_madeCells_one, List.map_replicate]
    rw [← e1]

/-- How many bits a number of limbs has. -/
def lenOf (xs : List Int) : Nat := if top xs = 0 then 0 else (top xs - 1) * 64 + blen (xs.getD (top xs - 1) 0).toNat

/-- How one number of limbs stands to another one: where one is greater at a place and above all are the same. -/
theorem cmp_at (B : Int) (hB : 1 < B) (xs ys : List Int) (hx : Dg B xs) (hy : Dg B ys) (n : Nat) (hn : xs.length = n) (hn' : ys.length = n) (p : Nat) (hp : p < n)
    (heq : ∀ j, p < j → j < n → xs.getD j 0 = ys.getD j 0) (hlt : xs.getD p 0 < ys.getD p 0) : val B xs < val B ys := by
  have hd : xs.drop (p + 1) = ys.drop (p + 1) := by
    apply List.ext_getElem
    · simp; omega
    · intro i h1 h2
      have := heq (p + 1 + i) (by omega) (by simp at h1; omega)
      simp only [List.getElem_drop]
      simp only [List.getD] at this
      rw [List.getElem?_eq_getElem (by simp at h1; omega), List.getElem?_eq_getElem (by simp at h2; omega)] at this
      simpa using this
  have ex : xs = xs.take (p + 1) ++ xs.drop (p + 1) := (List.take_append_drop _ _).symm
  have ey : ys = ys.take (p + 1) ++ ys.drop (p + 1) := (List.take_append_drop _ _).symm
  rw [ex, ey, hd, val_append, val_append, take_succ_getD xs p (by omega), take_succ_getD ys p (by omega), val_append, val_append]
  have a1 := val_lt (by omega) (hx.take p)
  have a2 := val_nonneg (by omega) (hy.take p)
  have l1 : (xs.take p).length = p := by simp; omega
  have l2 : (ys.take p).length = p := by simp; omega
  simp only [List.length_append, l1, l2, List.length_cons, List.length_nil, val, Int.mul_zero, Int.add_zero]
  rw [l1] at a1
  have a3 : B ^ p * (xs.getD p 0 + 1) ≤ B ^ p * ys.getD p 0 := Int.mul_le_mul_of_nonneg_left (by omega) (Int.le_of_lt (Int.pow_pos (by omega)))
  rw [Int.mul_add] at a3
  omega

theorem cmpI_lt {a b : Int} (h : a < b) : cmpI a b = -1 := by simp [cmpI, h]
theorem cmpI_gt {a b : Int} (h : b < a) : cmpI a b = 1 := by unfold cmpI; rw [if_neg (by omega), if_pos h]
theorem cmpI_eq {a b : Int} (h : a = b) : cmpI a b = 0 := by unfold cmpI; rw [if_neg (by omega), if_neg (by omega)]

/-- The number of fewer digits is less. -/
theorem top_lt_val {B : Int} (hB : 1 < B) {xs ys : List Int} (hx : Dg B xs) (hy : Dg B ys) (h : top xs < top ys) : val B xs < val B ys := by
  by_cases hv : val B xs < val B ys
  · exact hv
  · have := top_mono hB hy hx (by omega); omega

/-- A world that is as it was, but for draws. -/
def Drew (w w' : World) : Prop := ∃ n, w' = w.drewN n
theorem Drew.refl (w : World) : Drew w w := ⟨0, rfl⟩
theorem Drew.more {w w' : World} (h : Drew w w') (n : Nat) : Drew w (w'.drewN n) := by
  obtain ⟨m, rfl⟩ := h
  exact ⟨m + n, World.drewN_drewN _ _ _⟩
theorem Drew.trans {a b c : World} (h : Drew a b) (k : Drew b c) : Drew a c := by obtain ⟨n, rfl⟩ := k; exact h.more n
theorem Drew.cell {w w' : World} (h : Drew w w') (p : Addr) : w'.cell? p = w.cell? p := by obtain ⟨n, rfl⟩ := h; simp
theorem Drew.below {w w' : World} (h : Drew w w') (B : Nat) : Below B w w' := by obtain ⟨n, rfl⟩ := h; exact below_drewN (Below.refl _ _) n
theorem Drew.size {w w' : World} (h : Drew w w') : w'.heap.size = w.heap.size := by obtain ⟨n, rfl⟩ := h; simp

end Go.Proofs.YtccjlfjfmnmmhaaDoor
/-
  Contracts of nat.Norm, Of, Add, Sub, Mul.
-/
namespace Go.Proofs.YtccjlfjfmnmmhaaDoor
open Go.RowKit
set_option linter.unusedVariables false
set_option linter.unusedSimpArgs false

theorem ret_val {a b : Value} (h : a = b) : Ending.returned a = .returned b := by rw [h]

theorem add_none (b off j : Nat) : (⟨b, off, none⟩ : Addr).add j = ⟨b, off + j, none⟩ := by
  simp only [Addr.add]
  split
  · subst j; rfl
  · rfl

/-- copy into the head of a row of own memory. -/
theorem wpList_copy_row {P : Program} {w : World} {ops : Array Oper} {rest : List Oper} {o : Oper} {a : Act} {Q : Exit → Act → World → Prop} (hgd : o.guard = none) (d s : Operand) (dT sT : TypeId)
    (ho : o.op = .call { callee := .builtin .copy, args := #[d, s], argTypes := #[dT, sT] }) (e : TypeId) (hu : P.underlying dT = some (.slice e)) (k : IntKind) (bytes : Nat)
    (h2 : (P.info? e).map (fun i => (i.zero, i.size, i.bytes)) = some (some (.int k 0), 1, bytes)) (g : Nat) (ao : Option Addr) (dl dc sl sc : Nat)
    (hd : a.eval d = .slice (some ⟨g, 0, none⟩) dl dc) (hs : a.eval s = .slice ao sl sc) (xs ys : List Int) (hr : Row e k w g xs) (hy : Lies k w ao sl ys) (hdl : dl ≤ xs.length) (n : Nat) (hn : n = min sl dl)
    (B : Nat) (w0 : World) (hb : Below B w0 w) (hB : B ≤ g)
    (h : ∀ w', Row e k w' g (ys.take n ++ xs.drop n) → Below B w0 w' → wpList P ops Q rest (a.put o.dst (goInt n)) w') : wpList P ops Q (o :: rest) a w := by
  have hl := hy.len
  have hsz : (P.info? e).map (·.size) = some 1 := by
    obtain ⟨i, hi, _, hz, _⟩ := info_parts h2
    rw [hi]; simp [hz]
  have hcl : ((ys.take n).map (Value.int k)).length = n := by simp; omega
  refine wpList_copy_splice hgd d s dT sT ho e hu hsz _ ao dl dc sl sc hd hs g 0 (xs.map (Value.int k)) e hr ((ys.take n).map (Value.int k)) (by rw [hcl]; exact hn) ?_ (by rw [hcl]; simp; omega) (ints_oneCell _ _) B w0 hb hB ?_
  · intro h0
    rw [hcl] at h0
    obtain ⟨b, off, rfl, hlt, hc⟩ := hy.at (by omega)
    refine ⟨rfl, _, rfl, fun j v hj => ?_⟩
    simp only [List.getElem?_map, List.getElem?_take] at hj
    split at hj
    · have := hc j (by omega)
      rw [List.getElem?_eq_getElem (by omega)] at hj
      simp only [Option.map_some, Option.some.injEq] at hj
      rw [add_none, this, ← hj]
      simp [List.getD, List.getElem?_eq_getElem (show j < ys.length by omega)]
    · simp at hj
  · intro w' hg hb'
    rw [hcl]
    refine h w' ?_ hb'
    unfold Row
    rw [hg.out]
    congr 2
    simp only [splice, List.take_zero, List.nil_append, Nat.zero_add, hcl]
    simp

/-! ### The number that the lowest digits say -/
def low (B : Int) (xs : List Int) (i : Nat) : Int := val B (xs.take i)
theorem low_zero (B : Int) (xs : List Int) : low B xs 0 = 0 := by simp [low, val]
theorem low_succ (B : Int) (xs : List Int) (i : Nat) : low B xs (i + 1) = low B xs i + B ^ i * xs.getD i 0 := by
  unfold low
  by_cases h : i < xs.length
  · rw [take_succ_getD xs i h, val_append]
    have : (xs.take i).length = i := by simp; omega
    rw [this]; simp [val]
  · rw [List.take_of_length_le (by omega), List.take_of_length_le (by omega)]
    have : xs.getD i 0 = 0 := by simp [List.getD, List.getElem?_eq_none (show xs.length ≤ i by omega)]
    rw [this]; simp
theorem low_all (B : Int) (xs : List Int) (m : Nat) (h : top xs ≤ m) : low B xs m = val B xs := by
  unfold low
  rw [← val_take_top B xs]
  have e : xs.take m = xs.take (top xs) ++ (xs.drop (top xs)).take (m - top xs) := by
    conv => lhs; rw [show m = top xs + (m - top xs) by omega]
    rw [List.take_add]
  rw [e, val_append, val_zeros B ((xs.drop (top xs)).take (m - top xs)) ?_]
  · simp
  · intro j
    have := top_above xs (top xs + j) (by omega)
    simp only [List.getD, List.getElem?_take, List.getElem?_drop] at this ⊢
    split
    · exact this
    · rfl
theorem low_len (B : Int) (xs : List Int) : low B xs xs.length = val B xs := by unfold low; rw [List.take_of_length_le (Nat.le_refl _)]
theorem low_set (B : Int) (xs : List Int) (i j : Nat) (y : Int) (h : i ≤ j) : low B (xs.set j y) i = low B xs i := by
  unfold low
  rw [List.take_set_of_le h]
theorem low_set_succ (B : Int) (xs : List Int) (i : Nat) (y : Int) (h : i < xs.length) : low B (xs.set i y) (i + 1) = low B xs i + B ^ i * y := by
  rw [low_succ, low_set B xs i i y (Nat.le_refl _), getD_set _ _ _ _ h, if_pos rfl]

theorem row_alloc (w : World) (e : TypeId) (k : IntKind) (n : Int) : Row e k (w.alloc (.cells #[.int k n] e)) w.heap.size [n] := by
  unfold Row
  rw [heap_alloc_new w]; rfl

/-- What stands in the row when i limbs have been added. -/
def Adds (xs ys : List Int) (m i : Nat) (cur : List Int) (c : Int) : Prop :=
  cur.length = m + 1 ∧ Dg B64 cur ∧ 0 ≤ c ∧ c ≤ 1 ∧ low B64 cur i + B64 ^ i * c = low B64 xs i + low B64 ys i
theorem Adds.zero (xs ys : List Int) (m : Nat) : Adds xs ys m 0 (List.replicate (m + 1) 0) 0 :=
  ⟨by simp, Dg.zeros B64_pos _, by decide, by decide, by simp [low_zero]⟩
theorem Adds.step {xs ys : List Int} {m i : Nat} {cur : List Int} {c : Int} (h : Adds xs ys m i cur c) (hi : i < m + 1) {ne c' : Int} (hn : 0 ≤ ne ∧ ne < B64) (hc : 0 ≤ c' ∧ c' ≤ 1)
    (he : ne + B64 * c' = xs.getD i 0 + ys.getD i 0 + c) : Adds xs ys m (i + 1) (cur.set i ne) c' := by
  obtain ⟨h1, h2, h3, h4, h5⟩ := h
  refine ⟨by simp [h1], h2.set _ hn, hc.1, hc.2, ?_⟩
  rw [low_set_succ _ _ _ _ (by omega), low_succ, low_succ, Int.pow_succ]
  generalize low B64 cur i = A at *
  generalize low B64 xs i = X at *
  generalize low B64 ys i = Y at *
  generalize B64 ^ i = p at *
  generalize B64 = b at *
  grind
theorem Adds.done {xs ys : List Int} {m : Nat} {cur : List Int} {c : Int} (h : Adds xs ys m m cur c) (hx : top xs ≤ m) (hy : top ys ≤ m) : Dg B64 (cur.set m c) ∧ (cur.set m c).length = m + 1 ∧ val B64 (cur.set m c) = val B64 xs + val B64 ys := by
  obtain ⟨h1, h2, h3, h4, h5⟩ := h
  refine ⟨h2.set _ ⟨h3, by unfold B64; omega⟩, by simp [h1], ?_⟩
  have : (cur.set m c).length = m + 1 := by simp [h1]
  rw [← low_len, this, low_set_succ _ _ _ _ (by omega), h5, low_all _ _ _ hx, low_all _ _ _ hy]

end Go.Proofs.YtccjlfjfmnmmhaaDoor
/-
  Contracts of nat.Sub, Mul.
-/
namespace Go.Proofs.YtccjlfjfmnmmhaaDoor
open Go.RowKit
set_option linter.unusedVariables false
set_option linter.unusedSimpArgs false
attribute [local go_sem ↓] Go.wp_at_zero Go.wp_at_succ

/-- What stands in the row when i limbs have been taken away. -/
def Subs (xs ys : List Int) (m i : Nat) (cur : List Int) (c : Int) : Prop :=
  cur.length = m ∧ Dg B64 cur ∧ 0 ≤ c ∧ c ≤ 1 ∧ low B64 cur i - B64 ^ i * c = low B64 xs i - low B64 ys i
theorem Subs.zero (xs ys : List Int) (m : Nat) : Subs xs ys m 0 (List.replicate m 0) 0 :=
  ⟨by simp, Dg.zeros B64_pos _, by decide, by decide, by simp [low_zero]⟩
theorem Subs.step {xs ys : List Int} {m i : Nat} {cur : List Int} {c : Int} (h : Subs xs ys m i cur c) (hi : i < m) {ne c' : Int} (hn : 0 ≤ ne ∧ ne < B64) (hc : 0 ≤ c' ∧ c' ≤ 1)
    (he : ne - B64 * c' = xs.getD i 0 - ys.getD i 0 - c) : Subs xs ys m (i + 1) (cur.set i ne) c' := by
  obtain ⟨h1, h2, h3, h4, h5⟩ := h
  refine ⟨by simp [h1], h2.set _ hn, hc.1, hc.2, ?_⟩
  rw [low_set_succ _ _ _ _ (by omega), low_succ, low_succ, Int.pow_succ]
  generalize low B64 cur i = A at *
  generalize low B64 xs i = X at *
  generalize low B64 ys i = Y at *
  generalize B64 ^ i = p at *
  generalize B64 = b at *
  grind
theorem Subs.done {xs ys : List Int} {m : Nat} {cur : List Int} {c : Int} (h : Subs xs ys m m cur c) (hx : top xs ≤ m) (hy : top ys ≤ m) (hle : val B64 ys ≤ val B64 xs) : val B64 cur = val B64 xs - val B64 ys := by
  obtain ⟨h1, h2, h3, h4, h5⟩ := h
  rw [low_all _ _ _ hx, low_all _ _ _ hy] at h5
  have e : low B64 cur m = val B64 cur := by rw [← h1, low_len]
  rw [e] at h5
  have hlt := val_lt B64_pos h2
  rw [h1] at hlt
  have : c = 0 ∨ c = 1 := by omega
  rcases this with rfl | rfl
  · omega
  · rw [Int.mul_one] at h5; omega

end Go.Proofs.YtccjlfjfmnmmhaaDoor
/-
  Contract of nat.Mul.
-/
namespace Go.Proofs.YtccjlfjfmnmmhaaDoor
open Go.RowKit
set_option linter.unusedVariables false
set_option linter.unusedSimpArgs false
attribute [local go_sem ↓] Go.wp_at_zero Go.wp_at_succ

theorem low_congr (B : Int) (xs ys : List Int) : ∀ (i : Nat), (∀ j, j < i → xs.getD j 0 = ys.getD j 0) → low B xs i = low B ys i
  | 0, _ => by simp [low_zero]
  | i + 1, h => by rw [low_succ, low_succ, low_congr B xs ys i (fun j hj => h j (by omega)), h i (by omega)]
theorem low_add (B : Int) (xs : List Int) (o : Nat) : ∀ (i : Nat), o + i ≤ xs.length → low B xs (o + i) = low B xs o + B ^ o * val B (seg xs o i)
  | 0, _ => by simp [seg, val]
  | i + 1, h => by
    rw [show o + (i + 1) = (o + i) + 1 by omega, low_succ, low_add B xs o i (by omega), seg_succ xs o i (by omega), val_append, seg_len xs o i (by omega)]
    simp only [val, Int.mul_zero, Int.add_zero, Int.pow_add]
    grind

/-- What stands in the row when i limbs of x have been gone over. -/
def Muls (xs ys : List Int) (i : Nat) (cur : List Int) : Prop :=
  cur.length = xs.length + ys.length ∧ Dg B64 cur ∧ (∀ j, i + ys.length ≤ j → cur.getD j 0 = 0) ∧ low B64 cur (i + ys.length) = low B64 xs i * val B64 ys
theorem getD_zeros (n j : Nat) : (List.replicate n (0 : Int)).getD j 0 = 0 := by
  simp [List.getD, List.getElem?_replicate]; split <;> rfl
theorem low_zeros (B : Int) (n i : Nat) : low B (List.replicate n 0) i = 0 := by
  unfold low
  exact val_zeros B _ (fun j => by
    simp only [List.getD, List.getElem?_take]
    split
    · exact getD_zeros n j
    · rfl)
theorem Muls.zero (xs ys : List Int) : Muls xs ys 0 (List.replicate (xs.length + ys.length) 0) :=
  ⟨by simp, Dg.zeros B64_pos _, fun j _ => getD_zeros _ j, by rw [low_zeros, low_zero, Int.zero_mul]⟩
theorem Muls.step {xs ys : List Int} {i : Nat} {cur cur' : List Int} {c : Int} (h : Muls xs ys i cur) (hi : i < xs.length) (hr : Runs 1 cur ys i ys.length (xs.getD i 0) cur' c) : Muls xs ys (i + 1) (cur'.set (i + ys.length) c) := by
  obtain ⟨h1, h2, h3, h4⟩ := h
  obtain ⟨r1, r2, r3, r4, r5, r6⟩ := hr
  refine ⟨by simp [r1, h1], r3.set _ ⟨r4, r5⟩, fun j hj => ?_, ?_⟩
  · rw [getD_set _ _ _ _ (by omega), if_neg (by omega), r2 j (by omega)]
    exact h3 j (by omega)
  · rw [show i + 1 + ys.length = (i + ys.length) + 1 by omega, low_set_succ _ _ _ _ (by omega), low_add _ _ _ _ (by omega)]
    rw [low_congr B64 cur' cur i (fun j hj => r2 j (by omega))]
    rw [low_add _ _ _ _ (by omega)] at h4
    rw [low_succ, Int.pow_add]
    rw [List.take_of_length_le (Nat.le_refl _)] at r6
    generalize val B64 (seg cur' i ys.length) = A at *
    generalize val B64 (seg cur i ys.length) = C at *
    generalize low B64 cur i = L at *
    generalize low B64 xs i = X at *
    generalize B64 ^ i = p at *
    generalize B64 ^ ys.length = q at *
    generalize val B64 ys = Y at *
    generalize xs.getD i 0 = t at *
    have e : L + p * A + p * q * c = L + p * (A + 1 * (q * c)) := by grind
    rw [e, r6]
    grind
theorem Muls.done {xs ys : List Int} {cur : List Int} (h : Muls xs ys xs.length cur) : val B64 cur = val B64 xs * val B64 ys := by
  rw [← low_len, h.1, h.2.2.2, low_len]

end Go.Proofs.YtccjlfjfmnmmhaaDoor
/-
  Contracts of nat.double, halve, Shift.
-/
namespace Go.Proofs.YtccjlfjfmnmmhaaDoor
open Go.RowKit
set_option linter.unusedVariables false
set_option linter.unusedSimpArgs false
attribute [local go_sem ↓] Go.wp_at_zero Go.wp_at_succ

/-- A limb in two parts. -/
theorem parts (x p s : Int) (hp : 0 < p) (hs : 0 < s) (hps : p * s = 18446744073709551616) (hx : 0 ≤ x ∧ x < 18446744073709551616) :
    (x * p) % 18446744073709551616 = (x % s) * p ∧ 0 ≤ x / s ∧ x / s < p ∧ (x % s) * p + 18446744073709551616 * (x / s) = x * p ∧ 0 ≤ (x % s) * p ∧ (x % s) * p + p ≤ 18446744073709551616 := by
  have h1 := Int.emod_nonneg x (show s ≠ 0 by omega)
  have h2 := Int.emod_lt_of_pos x hs
  have h3 := Int.mul_ediv_add_emod x s
  have h4 : 0 ≤ x / s := Int.ediv_nonneg hx.1 (by omega)
  have h5 : x / s < p := by
    apply Int.ediv_lt_of_lt_mul hs
    rw [hps]; exact hx.2
  have h6 : (x % s) * p + 18446744073709551616 * (x / s) = x * p := by
    rw [← hps]
    conv => rhs; rw [← h3]
    grind
  have h7 : 0 ≤ (x % s) * p := Int.mul_nonneg h1 (by omega)
  have h8 : (x % s) * p + p ≤ 18446744073709551616 := by
    have : (x % s + 1) * p ≤ s * p := Int.mul_le_mul_of_nonneg_right (by omega) (by omega)
    rw [Int.add_mul, Int.one_mul, Int.mul_comm s p, hps] at this
    exact this
  refine ⟨?_, h4, h5, h6, h7, h8⟩
  rw [← h6, Int.add_mul_emod_self_left]
  exact Int.emod_eq_of_lt h7 (by omega)
/-- Or of parts that don't meet is the sum. -/
theorem or_sum (y : Int) (m r : Nat) (hy : 0 ≤ y ∧ y < 2 ^ r) (hm : (m : Int) * 2 ^ r + 2 ^ r ≤ 18446744073709551616) : bits .or .u64 y ((m : Int) * 2 ^ r) = y + (m : Int) * 2 ^ r := by
  obtain ⟨y, rfl⟩ := Int.eq_ofNat_of_zero_le hy.1
  have hp : ((2 ^ r : Nat) : Int) = (2 : Int) ^ r := by simp
  rw [← hp] at hy hm ⊢
  rw [← Int.natCast_mul] at hm ⊢
  have hy2 : y < 2 ^ r := by omega
  have := bits_or_u64_nat y (m * 2 ^ r) (by omega) (by omega)
  rw [this]
  have e := Nat.two_pow_add_eq_or_of_lt hy2 m
  rw [Nat.mul_comm m (2 ^ r), Nat.or_comm, ← e]
  omega
theorem or_sum' (y z : Int) (m r : Nat) (hz : z = (m : Int) * 2 ^ r) (hy : 0 ≤ y ∧ y < 2 ^ r) (hm : z + 2 ^ r ≤ 18446744073709551616) : bits .or .u64 y z = y + z := by
  subst hz; exact or_sum y m r hy hm
theorem pow64 (r : Nat) (hr : r ≤ 64) : (2 : Int) ^ r * 2 ^ (64 - r) = 18446744073709551616 := by
  rw [← Int.pow_add, show r + (64 - r) = 64 by omega]; rfl

/-- What stands in the row when i limbs have been gone over. -/
def Dbls (xs : List Int) (n q r i : Nat) (cur : List Int) : Prop :=
  cur.length = n ∧ Dg B64 cur ∧ (∀ j, q + i < j → cur.getD j 0 = 0) ∧ cur.getD (q + i) 0 < 2 ^ r ∧ low B64 cur (q + i + 1) = B64 ^ q * (low B64 xs i * 2 ^ r)
theorem Dbls.zero (xs : List Int) (n q r : Nat) : Dbls xs n q r 0 (List.replicate n 0) :=
  ⟨by simp, Dg.zeros B64_pos _, fun j _ => getD_zeros _ j, by rw [getD_zeros]; exact Int.pow_pos (by decide), by rw [low_zeros, low_zero]; simp⟩
theorem Dbls.step {xs : List Int} {n q r i : Nat} {cur : List Int} (h : Dbls xs n q r i cur) (hr : r < 64) (hn : q + i + 1 < n) (hx : 0 ≤ xs.getD i 0 ∧ xs.getD i 0 < 18446744073709551616) :
    Dbls xs n q r (i + 1) ((cur.set (q + i) (bits .or .u64 (cur.getD (q + i) 0) (IntKind.u64.wrap (xs.getD i 0 * 2 ^ r)))).set (q + i + 1) (xs.getD i 0 / 2 ^ (64 - r))) := by
  obtain ⟨h1, h2, h3, h4, h5⟩ := h
  have hp : (0 : Int) < 2 ^ r := Int.pow_pos (by decide)
  have hs : (0 : Int) < 2 ^ (64 - r) := Int.pow_pos (by decide)
  obtain ⟨a1, a2, a3, a4, a5, a6⟩ := parts (xs.getD i 0) (2 ^ r) (2 ^ (64 - r)) hp hs (pow64 r (by omega)) hx
  have hy := h2.getD B64_pos (q + i)
  obtain ⟨m, hm⟩ := Int.eq_ofNat_of_zero_le (Int.emod_nonneg (xs.getD i 0) (show (2 : Int) ^ (64 - r) ≠ 0 by omega))
  rw [IntKind.wrap_u64, a1, or_sum' (cur.getD (q + i) 0) _ m r (by rw [hm]) ⟨hy.1, h4⟩ a6]
  have hpb : (2 : Int) ^ r ≤ 18446744073709551616 := by omega
  refine ⟨by simp [h1], (h2.set _ ⟨by omega, by unfold B64; omega⟩).set _ ⟨a2, by unfold B64; omega⟩, fun j hj => ?_, ?_, ?_⟩
  · rw [getD_set _ _ _ _ (by simp; omega), if_neg (by omega), getD_set _ _ _ _ (by omega), if_neg (by omega)]
    exact h3 j (by omega)
  · rw [show q + (i + 1) = q + i + 1 by omega, getD_set _ _ _ _ (by simp; omega), if_pos rfl]
    exact a3
  · rw [show q + (i + 1) + 1 = (q + i + 1) + 1 by omega, low_set_succ _ _ _ _ (by simp; omega), low_set_succ _ _ _ _ (by omega)]
    rw [low_succ] at h5
    rw [low_succ B64 xs, Int.pow_succ, Int.pow_add]
    rw [Int.pow_add] at h5
    generalize xs.getD i 0 % 2 ^ (64 - r) * 2 ^ r = u at *
    generalize xs.getD i 0 / 2 ^ (64 - r) = v at *
    generalize cur.getD (q + i) 0 = y at *
    generalize low B64 cur (q + i) = L at *
    generalize low B64 xs i = X at *
    generalize xs.getD i 0 = x at *
    generalize (2 : Int) ^ r = p at *
    have e : B64 = 18446744073709551616 := rfl
    rw [← e] at a4
    generalize B64 ^ q = Q at *
    generalize B64 ^ i = I at *
    generalize B64 = b at *
    have : L + Q * I * (y + u) + Q * I * b * v = (L + Q * I * y) + Q * I * (u + b * v) := by grind
    rw [this, h5, a4]
    grind
theorem Dbls.done {xs : List Int} {n q r : Nat} {cur : List Int} (h : Dbls xs n q r xs.length cur) (hn : n = q + xs.length + 1) : val B64 cur = val B64 xs * 2 ^ (64 * q + r) := by
  rw [← low_len, h.1, hn, h.2.2.2.2, low_len, Int.pow_add, Int.pow_mul]
  have e : B64 = 2 ^ 64 := rfl
  rw [e]
  generalize val (2 ^ 64) xs = V
  generalize ((2 : Int) ^ 64) ^ q = Q
  generalize (2 : Int) ^ r = R
  grind

/-! ### halve -/
theorem getD_drop (xs : List Int) (q j : Nat) : (xs.drop q).getD j 0 = xs.getD (q + j) 0 := by simp [List.getD, List.getElem?_drop]
/-- What stands in the row when i limbs have been gone over. -/
def Hlvs (ds : List Int) (n r i : Nat) (cur : List Int) : Prop :=
  cur.length = n ∧ Dg B64 cur ∧ 2 ^ r * low B64 cur i + ds.getD 0 0 % 2 ^ r = low B64 ds i + B64 ^ i * (ds.getD i 0 % 2 ^ r)
theorem Hlvs.zero (ds : List Int) (n r : Nat) : Hlvs ds n r 0 (List.replicate n 0) :=
  ⟨by simp, Dg.zeros B64_pos _, by rw [low_zeros, low_zero]; simp⟩
theorem Hlvs.step {ds : List Int} {n r i : Nat} {cur : List Int} (h : Hlvs ds n r i cur) (hr : r < 64) (hn : i < n) (hx : 0 ≤ ds.getD i 0 ∧ ds.getD i 0 < 18446744073709551616) (hy : 0 ≤ ds.getD (i + 1) 0 ∧ ds.getD (i + 1) 0 < 18446744073709551616) :
    Hlvs ds n r (i + 1) (cur.set i (bits .or .u64 (ds.getD i 0 / 2 ^ r) (IntKind.u64.wrap (ds.getD (i + 1) 0 * 2 ^ (64 - r))))) := by
  obtain ⟨h1, h2, h3⟩ := h
  have hp : (0 : Int) < 2 ^ r := Int.pow_pos (by decide)
  have hs : (0 : Int) < 2 ^ (64 - r) := Int.pow_pos (by decide)
  have hps := pow64 r (by omega)
  obtain ⟨a1, a2, a3, a4, a5, a6⟩ := parts (ds.getD (i + 1) 0) (2 ^ (64 - r)) (2 ^ r) hs hp (by rw [Int.mul_comm]; exact hps) hy
  obtain ⟨_, b2, b3, b4, _, _⟩ := parts (ds.getD i 0) (2 ^ (64 - r)) (2 ^ r) hs hp (by rw [Int.mul_comm]; exact hps) hx
  obtain ⟨m, hm⟩ := Int.eq_ofNat_of_zero_le (Int.emod_nonneg (ds.getD (i + 1) 0) (show (2 : Int) ^ r ≠ 0 by omega))
  rw [IntKind.wrap_u64, a1, or_sum' (ds.getD i 0 / 2 ^ r) _ m (64 - r) (by rw [hm]) ⟨b2, b3⟩ a6]
  refine ⟨by simp [h1], h2.set _ ⟨by omega, by unfold B64; omega⟩, ?_⟩
  rw [low_set_succ _ _ _ _ (by omega), low_succ, Int.pow_succ]
  have c := Int.mul_ediv_add_emod (ds.getD i 0) (2 ^ r)
  generalize ds.getD i 0 / 2 ^ r = u at *
  generalize ds.getD i 0 % 2 ^ r = v at *
  generalize ds.getD (i + 1) 0 % 2 ^ r = y at *
  generalize ds.getD 0 0 % 2 ^ r = z at *
  generalize ds.getD i 0 = x at *
  generalize low B64 cur i = L at *
  generalize low B64 ds i = D at *
  have e : B64 = 18446744073709551616 := rfl
  rw [← e] at hps
  generalize (2 : Int) ^ r = p at *
  generalize (2 : Int) ^ (64 - r) = s at *
  generalize B64 ^ i = I at *
  generalize B64 = b at *
  have : p * (L + I * (u + y * s)) + z = (p * L + z) + I * (p * u) + I * (p * s) * y := by grind
  rw [this, h3, hps]
  have : p * u = x - v := by omega
  rw [this]
  grind
theorem Hlvs.done {ds : List Int} {r : Nat} {cur : List Int} (h : Hlvs ds ds.length r ds.length cur) : val B64 cur = val B64 ds / 2 ^ r := by
  obtain ⟨h1, h2, h3⟩ := h
  have hp : (0 : Int) < 2 ^ r := Int.pow_pos (by decide)
  have e0 : ds.getD ds.length 0 = 0 := by simp
  have e1 : low B64 cur ds.length = val B64 cur := by rw [← h1, low_len]
  rw [e0, low_len, e1, Int.zero_emod, Int.mul_zero, Int.add_zero] at h3
  have a := Int.emod_nonneg (ds.getD 0 0) (show (2 : Int) ^ r ≠ 0 by omega)
  have b := Int.emod_lt_of_pos (ds.getD 0 0) hp
  rw [← h3, Int.mul_comm, Int.add_comm, Int.add_mul_ediv_right _ _ (by omega), Int.ediv_eq_zero_of_lt a b]
  omega
theorem val_drop {B : Int} (hB : 0 < B) (xs : List Int) (hd : Dg B xs) (q : Nat) : val B (xs.drop q) = val B xs / B ^ q := by
  by_cases hq : q ≤ xs.length
  · have h := val_append B (xs.take q) (xs.drop q)
    rw [List.take_append_drop] at h
    have hl : (xs.take q).length = q := by simp; omega
    rw [hl] at h
    have a := val_nonneg hB (hd.take q)
    have b := val_lt hB (hd.take q)
    rw [hl] at b
    have hp : 0 < B ^ q := Int.pow_pos hB
    rw [h, Int.mul_comm, Int.add_mul_ediv_right _ _ (by omega), Int.ediv_eq_zero_of_lt a b]
    omega
  · rw [List.drop_eq_nil_of_le (by omega)]
    have a := val_nonneg hB hd
    have b := val_lt hB hd
    have c := pow_mono (B := B) (by omega) (show xs.length ≤ q by omega)
    rw [Int.ediv_eq_zero_of_lt a (by omega)]; rfl
theorem half_val (xs : List Int) (hd : Dg B64 xs) (q r : Nat) : val B64 (xs.drop q) / 2 ^ r = val B64 xs / 2 ^ (64 * q + r) := by
  have hp : (0 : Int) < B64 ^ q := Int.pow_pos B64_pos
  rw [val_drop B64_pos xs hd, Int.pow_add, Int.pow_mul]
  have e : B64 = 2 ^ 64 := rfl
  rw [e] at hp ⊢
  rw [Int.ediv_ediv_of_nonneg (by omega)]

end Go.Proofs.YtccjlfjfmnmmhaaDoor
/-
  Contracts of nat.Read and Bytes.
-/
namespace Go.Proofs.YtccjlfjfmnmmhaaDoor
open Go.RowKit
set_option linter.unusedVariables false
set_option linter.unusedSimpArgs false
attribute [local go_sem ↓] Go.wp_at_zero Go.wp_at_succ

theorem val_set (B : Int) : ∀ (xs : List Int) (j : Nat) (y : Int), j < xs.length → val B (xs.set j y) = val B xs + B ^ j * (y - xs.getD j 0)
  | [], j, y, h => by simp at h
  | x :: xs, 0, y, _ => by simp [val]; omega
  | x :: xs, j + 1, y, h => by
    simp only [List.set_cons_succ, val, val_set B xs j y (by simpa using h), List.getD_cons_succ, Int.pow_succ]
    grind
theorem getD_reverse (xs : List Int) (k : Nat) (h : k < xs.length) : xs.reverse.getD k 0 = xs.getD (xs.length - 1 - k) 0 := by
  simp only [List.getD]
  rw [List.getElem?_reverse h]
theorem pow256 (k : Nat) : (256 : Int) ^ k = B64 ^ (k / 8) * 256 ^ (k % 8) := by
  have e : B64 = 256 ^ 8 := rfl
  rw [e, ← Int.pow_mul, ← Int.pow_add]
  congr 1
  omega
theorem pow2_8 (r : Nat) : (2 : Int) ^ (8 * r) = 256 ^ r := by
  rw [Int.pow_mul]; rfl
theorem pow256_le (r : Nat) (h : r < 8) : (256 : Int) ^ r * 256 ≤ 18446744073709551616 := by
  have := pow_mono (B := 256) (by decide) (show r + 1 ≤ 8 by omega)
  rw [Int.pow_succ] at this
  exact this

/-- What stands in the row when k bytes have been gone over. -/
def Reads (rb : List Int) (n k : Nat) (cur : List Int) : Prop :=
  cur.length = n ∧ Dg B64 cur ∧ (∀ j, k / 8 < j → cur.getD j 0 = 0) ∧ cur.getD (k / 8) 0 < 256 ^ (k % 8) ∧ val B64 cur = low 256 rb k
theorem Reads.zero (rb : List Int) (n : Nat) : Reads rb n 0 (List.replicate n 0) :=
  ⟨by simp, Dg.zeros B64_pos _, fun j _ => getD_zeros _ j, by rw [getD_zeros]; decide, by rw [val_replicate, low_zero]⟩
theorem Reads.step {rb : List Int} {n k : Nat} {cur : List Int} (h : Reads rb n k cur) (hn : k / 8 < n) (hd : 0 ≤ rb.getD k 0 ∧ rb.getD k 0 < 256) :
    Reads rb n (k + 1) (cur.set (k / 8) (bits .or .u64 (cur.getD (k / 8) 0) (IntKind.u64.wrap (rb.getD k 0 * 2 ^ (8 * (k % 8)))))) := by
  obtain ⟨h1, h2, h3, h4, h5⟩ := h
  have hp : (0 : Int) < 256 ^ (k % 8) := Int.pow_pos (by decide)
  have hle := pow256_le (k % 8) (by omega)
  have hy := h2.getD B64_pos (k / 8)
  obtain ⟨m, hm⟩ := Int.eq_ofNat_of_zero_le hd.1
  have hmul : rb.getD k 0 * 256 ^ (k % 8) + 256 ^ (k % 8) ≤ 18446744073709551616 := by
    have : (rb.getD k 0 + 1) * 256 ^ (k % 8) ≤ 256 * 256 ^ (k % 8) := Int.mul_le_mul_of_nonneg_right (by omega) (by omega)
    rw [Int.add_mul, Int.one_mul] at this
    omega
  have hnn : 0 ≤ rb.getD k 0 * 256 ^ (k % 8) := Int.mul_nonneg hd.1 (by omega)
  rw [IntKind.wrap_u64, pow2_8, Int.emod_eq_of_lt hnn (by omega)]
  rw [or_sum' (cur.getD (k / 8) 0) _ m (8 * (k % 8)) (by rw [pow2_8, hm]) ⟨hy.1, by rw [pow2_8]; exact h4⟩ (by rw [pow2_8]; exact hmul)]
  refine ⟨by simp [h1], h2.set _ ⟨by omega, by unfold B64; omega⟩, fun j hj => ?_, ?_, ?_⟩
  · rw [getD_set _ _ _ _ (by omega), if_neg (by omega)]
    exact h3 j (by omega)
  · rw [getD_set _ _ _ _ (by omega)]
    by_cases h7 : k % 8 = 7
    · rw [if_neg (by omega), h3 _ (by omega), show (k + 1) % 8 = 0 by omega]; decide
    · rw [if_pos (by omega), show (k + 1) % 8 = k % 8 + 1 by omega, Int.pow_succ]
      have : (rb.getD k 0 + 1) * 256 ^ (k % 8) ≤ 256 * 256 ^ (k % 8) := Int.mul_le_mul_of_nonneg_right (by omega) (by omega)
      rw [Int.add_mul, Int.one_mul] at this
      omega
  · rw [val_set _ _ _ _ (by omega), low_succ, pow256 k, h5]
    generalize rb.getD k 0 = d at *
    generalize cur.getD (k / 8) 0 = c at *
    generalize B64 ^ (k / 8) = p at *
    generalize (256 : Int) ^ (k % 8) = q at *
    grind

set_option maxHeartbeats 2000000 in
/-- nat.Read: at most 512 bytes. -/
theorem Read_yes (ao : Option Addr) (n ca : Nat) (bs : List Int) (w : World) (h : NumIn .u8 256 w ao n ca bs) (hn : n ≤ 512) :
    Calls Tryd.prog 30 #[.slice ao n ca] w fun e w' => ∃ v, e = .returned (.tuple #[v, .int .i64 0]) ∧ NumOut .u64 B64 w w' v (val 256 bs.reverse) 64 := by
  have hl := h.len
  go_enter Tryd.func30, Tryd.ntmps30
  go_wp2_with (at_make; refine wpList_make_row _ rfl _ _ 52 rfl 34 .u64 8 Tryd.underlying52 Tryd.infoU _ _ _ _ ((n + 7) / 8) rfl rfl (by omega) (by omega) (by omega) (by unfold maxLen; omega) ?_)
  intro w3 hrow hbel
  go_wp2
  go_loopw [18] (fun i wr => ∃ (k : Nat) (cur : List Int), k ≤ n ∧ i = .int .i64 k ∧ Row 34 .u64 wr w.heap.size cur ∧ Reads bs.reverse ((n + 7) / 8) k cur ∧ Below w.heap.size w wr) (fun i _ => n - (intOf i).toNat)
  case atStart => exact ⟨0, _, Nat.zero_le _, rfl, hrow, Reads.zero _ _, hbel⟩
  case round =>
    obtain ⟨k, cur, hk, rfl, hrw, ha, hb⟩ := hrel
    by_cases hlt : k < n
    · have hx := h.lies.old hb
      obtain ⟨b, off, rfl, hblk, hc⟩ := hx.at (by omega)
      have hlen := ha.1
      have hcell := hc (n - 1 - k) (by omega)
      have hfr := hrw.frozen (k / 8)
      have hcl := hrw.cell (k / 8) (by omega)
      have gx := h.dg.getD (by decide) (n - 1 - k)
      have er := getD_reverse bs k (by omega)
      rw [hl] at er
      have HS : Hid (Reads _ _ _ _) := ha.step (by omega) (by rw [er]; exact gx)
      rw [er] at HS
      have HR : Hid (Row _ _ _ _ _) := hrw.set (k / 8) (bits .or .u64 (cur.getD (k / 8) 0) (IntKind.u64.wrap (bs.getD (n - 1 - k) 0 * 2 ^ (8 * (k % 8)))))
      have HB : Hid (Below w.heap.size w wr) := hb
      generalize bs.getD (n - 1 - k) 0 = x at *
      generalize cur.getD (k / 8) 0 = y at *
      clear hrw hrow hbel hb hx hc h ha hlen er
      go_wp2
      go_region
      all_goals
        go_wp2
        go_roundw
        case rel => exact ⟨k + 1, _, by omega, by go_num, HR.out, HS.out, (HB.out.setCell (Nat.le_refl _) _).drew⟩
        case measure => simp [intOf]; omega
    · obtain rfl : k = n := by omega
      have hlen := ha.1
      have HV : Hid (val B64 cur = val 256 bs.reverse) := by
        unfold Hid
        rw [ha.2.2.2.2]
        have e : bs.reverse.length = k := by simp [hl]
        rw [← e, low_len]
      have HR : Hid (NumIn _ _ _ _ _ _ _) := hrw.num ha.2.1 (by omega)
      have HB : Hid (Below w.heap.size w wr) := hb
      rw [hlen] at HR
      clear ha hb hrw hrow hbel hlen h
      go_wp2_with fail
      refine (trim_any _ _ _ _ _ HR.out.lies HR.out.lc HR.out.cm HR.out.nn).mono ?_
      rintro e w4 ⟨rfl, rfl⟩
      go_wp2
      go_ret2
      exact ⟨_, rfl, HR.out.out HB.out _ HV.out _ (by omega)⟩

set_option maxHeartbeats 400000 in
/-- nat.Read: more bytes. -/
theorem Read_no (ao : Option Addr) (n ca : Nat) (w : World) (hn : 512 < n) (hm : n ≤ maxLen) :
    Calls Tryd.prog 30 #[.slice ao n ca] w fun e w' => e = .returned (.tuple #[.slice none 0 0, .int .i64 3]) ∧ w' = w := by
  go_enter Tryd.func30, Tryd.ntmps30
  go_wp2
  go_ret2
  exact ⟨rfl, rfl⟩

/-! ### Bits and bytes of a number's value -/
theorem digit_at {B : Int} (hB : 0 < B) (xs : List Int) (hd : Dg B xs) (j : Nat) : xs.getD j 0 = val B xs / B ^ j % B := by
  rw [← val_drop hB xs hd j]
  have e : xs.getD j 0 = (xs.drop j).getD 0 0 := by rw [getD_drop]; rfl
  rw [e]
  have hdd := hd.drop j
  cases h : xs.drop j with
  | nil => simp [val]
  | cons d ds =>
    rw [h] at hdd
    simp only [val, List.getD_cons_zero, Int.add_mul_emod_self_left]
    exact (Int.emod_eq_of_lt hdd.head.1 hdd.head.2).symm
/-- The byte of that place. -/
def byteAt (V : Int) (p : Nat) : Int := V / 256 ^ p % 256
theorem byte_of_limb (xs : List Int) (hd : Dg B64 xs) (p : Nat) : xs.getD (p / 8) 0 / 256 ^ (p % 8) % 256 = byteAt (val B64 xs) p := by
  unfold byteAt
  rw [digit_at B64_pos xs hd (p / 8), pow256 p]
  have hp : (0 : Int) < B64 ^ (p / 8) := Int.pow_pos B64_pos
  have hq : (0 : Int) < 256 ^ (p % 8) := Int.pow_pos (by decide)
  rw [← Int.ediv_ediv_of_nonneg (by omega)]
  generalize val B64 xs / B64 ^ (p / 8) = Y
  have e : B64 = 256 ^ (p % 8) * (256 * 256 ^ (7 - p % 8)) := by
    rw [Int.mul_comm 256, ← Int.pow_succ, ← Int.pow_add, show p % 8 + (7 - p % 8 + 1) = 8 by omega]; rfl
  rw [e]
  generalize (256 : Int) ^ (p % 8) = q at *
  generalize (256 : Int) ^ (7 - p % 8) = s at *
  rw [Int.emod_def Y, show Y - q * (256 * s) * (Y / (q * (256 * s))) = Y + q * (-(256 * s * (Y / (q * (256 * s))))) by grind]
  rw [Int.add_mul_ediv_left _ _ (by omega)]
  rw [show Y / q + -(256 * s * (Y / (q * (256 * s)))) = Y / q + 256 * (-(s * (Y / (q * (256 * s))))) by grind, Int.add_mul_emod_self_left]
theorem low_bytes (V : Int) (rb : List Int) : ∀ (k : Nat), (∀ p, p < k → rb.getD p 0 = byteAt V p) → low 256 rb k = V % 256 ^ k
  | 0, _ => by simp [low_zero, Int.emod_one]
  | k + 1, h => by
    have hp : (0 : Int) < 256 ^ k := Int.pow_pos (by decide)
    rw [low_succ, low_bytes V rb k (fun p hp => h p (by omega)), h k (by omega)]
    unfold byteAt
    rw [Int.pow_succ]
    have e1 := Int.mul_ediv_add_emod V (256 ^ k)
    have e2 := Int.mul_ediv_add_emod (V / 256 ^ k) 256
    have a1 := Int.emod_nonneg V (show (256 : Int) ^ k ≠ 0 by omega)
    have a2 := Int.emod_lt_of_pos V hp
    have b1 := Int.emod_nonneg (V / 256 ^ k) (show (256 : Int) ≠ 0 by decide)
    have b2 := Int.emod_lt_of_pos (V / 256 ^ k) (show (0 : Int) < 256 by decide)
    have e3 : V = V % 256 ^ k + 256 ^ k * (V / 256 ^ k % 256) + 256 ^ k * 256 * (V / 256 ^ k / 256) := by
      conv => lhs; rw [← e1, ← e2]
      grind
    conv => rhs; rw [e3]
    rw [Int.add_mul_emod_self_left]
    refine (Int.emod_eq_of_lt ?_ ?_).symm
    · have := Int.mul_nonneg (show (0 : Int) ≤ 256 ^ k by omega) b1
      omega
    · have : 256 ^ k * (V / 256 ^ k % 256) ≤ 256 ^ k * 255 := Int.mul_le_mul_of_nonneg_left (by omega) (by omega)
      omega
theorem lenOf_eq (xs : List Int) (hd : Dg B64 xs) : lenOf xs = blen (val B64 xs).toNat := by
  unfold lenOf
  by_cases h : top xs = 0
  · rw [if_pos h, ← val_take_top, h]
    simp [val, blen]
  · rw [if_neg h]
    obtain ⟨m, hm⟩ : ∃ m, top xs = m + 1 := ⟨top xs - 1, by omega⟩
    have ht := top_hit xs (by omega)
    have hg := hd.getD B64_pos (top xs - 1)
    rw [hm] at ht hg ⊢
    simp only [Nat.add_sub_cancel] at ht hg ⊢
    have hv : val B64 xs = low B64 xs m + B64 ^ m * xs.getD m 0 := by rw [← low_succ, ← hm, low_all _ _ _ (Nat.le_refl _)]
    have l0 : 0 ≤ low B64 xs m := val_nonneg B64_pos (hd.take m)
    have l1 : low B64 xs m < B64 ^ m := by
      have a := val_lt B64_pos (hd.take m)
      have b : (xs.take m).length ≤ m := by simp; omega
      have c := pow_mono (B := B64) (by decide) b
      unfold low; omega
    generalize xs.getD m 0 = d at *
    generalize low B64 xs m = L at *
    obtain ⟨e, he⟩ := Int.eq_ofNat_of_zero_le hg.1
    subst he
    have hne : e ≠ 0 := by intro h0; rw [h0] at ht; exact ht rfl
    have b1 := blen_lt e
    have b2 := blen_ge e hne
    have b3 := blen_pos e hne
    have hB : B64 ^ m = ((2 ^ (64 * m) : Nat) : Int) := by
      rw [Int.natCast_pow, Int.pow_mul]; rfl
    rw [hB] at hv l1
    obtain ⟨L, rfl⟩ := Int.eq_ofNat_of_zero_le l0
    have hn : (val B64 xs).toNat = L + 2 ^ (64 * m) * e := by
      rw [hv, ← Int.natCast_mul, ← Int.natCast_add, Int.toNat_natCast]
    have hL : L < 2 ^ (64 * m) := by omega
    have hp := Nat.two_pow_pos (64 * m)
    obtain ⟨c, hc⟩ : ∃ c, blen e = c + 1 := ⟨blen e - 1, by omega⟩
    rw [hc] at b1 b2
    simp only [Nat.add_sub_cancel] at b2
    have := blen_eq (val B64 xs).toNat (64 * m + c) (by
      rw [hn, Nat.pow_add]
      have := Nat.mul_le_mul_left (2 ^ (64 * m)) b2
      omega) (by
      rw [hn, show 64 * m + c + 1 = 64 * m + (c + 1) by omega, Nat.pow_add]
      have := Nat.mul_le_mul_left (2 ^ (64 * m)) (show e + 1 ≤ 2 ^ (c + 1) by omega)
      rw [Nat.mul_add] at this
      omega)
    rw [Int.toNat_natCast, hc, this]
    omega
theorem lt_of_blen (V : Int) (h0 : 0 ≤ V) (n : Nat) (h : blen V.toNat ≤ 8 * n) : V < 256 ^ n := by
  have a := blen_lt V.toNat
  have b : 2 ^ blen V.toNat ≤ 2 ^ (8 * n) := Nat.pow_le_pow_right (by decide) h
  have e : ((2 ^ (8 * n) : Nat) : Int) = 256 ^ n := by rw [Int.natCast_pow, Int.pow_mul]; rfl
  rw [← e]
  omega


/-- What stands in the row when k bytes have been written, the least last. -/
def Wrts (V : Int) (n k : Nat) (cur : List Int) : Prop :=
  cur.length = n ∧ Dg 256 cur ∧ ∀ p, p < k → cur.getD (n - 1 - p) 0 = byteAt V p
theorem byteAt_range (V : Int) (p : Nat) : 0 ≤ byteAt V p ∧ byteAt V p < 256 := by unfold byteAt; omega
theorem Wrts.zero (V : Int) (n : Nat) : Wrts V n 0 (List.replicate n 0) :=
  ⟨by simp, Dg.zeros (by decide) _, fun p h => by omega⟩
theorem Wrts.step {V : Int} {n k : Nat} {cur : List Int} (h : Wrts V n k cur) (hk : k < n) : Wrts V n (k + 1) (cur.set (n - 1 - k) (byteAt V k)) := by
  obtain ⟨h1, h2, h3⟩ := h
  refine ⟨by simp [h1], h2.set _ (byteAt_range V k), fun p hp => ?_⟩
  rw [getD_set _ _ _ _ (by omega)]
  by_cases e : p = k
  · rw [e, if_pos rfl]
  · rw [if_neg (by omega)]; exact h3 p (by omega)
theorem Wrts.done {V : Int} {n : Nat} {cur : List Int} (h : Wrts V n n cur) (h0 : 0 ≤ V) (hv : V < 256 ^ n) : val 256 cur.reverse = V := by
  obtain ⟨h1, h2, h3⟩ := h
  have e : cur.reverse.length = n := by simp [h1]
  rw [← low_len, e, low_bytes V cur.reverse n (fun p hp => by rw [getD_reverse _ _ (by omega), h1]; exact h3 p hp)]
  exact Int.emod_eq_of_lt h0 hv

/-- An answer of bytes. -/
def BytesOut (w w' : World) (v : Value) (n : Nat) (V : Int) : Prop :=
  ∃ g bs, v = .slice (some ⟨g, 0, none⟩) n n ∧ Row 5 .u8 w' g bs ∧ bs.length = n ∧ Dg 256 bs ∧ val 256 bs.reverse = V ∧ Below w.heap.size w w'

end Go.Proofs.YtccjlfjfmnmmhaaDoor
/-
  The code's Int.
-/
namespace Go.Proofs.YtccjlfjfmnmmhaaDoor
open Go.Shelf Go.RowKit
set_option linter.unusedVariables false
set_option linter.unusedSimpArgs false

/-- Bytes as numbers. -/
def intsB (l : Bs) : List Int := l.map fun b => (b.toNat : Int)
theorem intsB_len (l : Bs) : (intsB l).length = l.length := by simp [intsB]
theorem intsB_dg (l : Bs) : Dg 256 (intsB l) := by
  intro x hx
  simp only [intsB, List.mem_map] at hx
  obtain ⟨b, _, rfl⟩ := hx
  have := b.toNat_lt
  omega
theorem intsB_get (l : Bs) (i : Nat) (hi : i < l.length) : (intsB l).getD i 0 = ((l.getD i 0).toNat : Int) := by simp [intsB, List.getD, hi]
/-- Bytes that are there, as a number's digits. -/
theorem numIn_bat {w : World} {p : Option Addr} {n c : Nat} {l : Bs} (h : BAt w p n l) (hl : l.length = n) (h0 : 0 < n) (hc : n ≤ c) (hc2 : c ≤ 9223372036854775807) (hn : n ≤ 1000000) : NumIn .u8 256 w p n c (intsB l) := by
  obtain ⟨b, o, rfl, hcl⟩ := h h0
  refine ⟨⟨(by rw [intsB_len, hl]), .inr ⟨b, o, rfl, ?_, fun i hi => (by rw [hcl i hi, intsB_get l i (by omega)])⟩⟩, hc, (by unfold maxLen; omega), (fun e => by cases e), intsB_dg l, (by omega)⟩
  exact World.block_lt_of_cell? w ⟨b, o + 0, none⟩ (hcl 0 h0)
/-- A number's digits as they stand. -/
def intL : Bs → Option Bs
  | [] => none
  | a :: xs => if 128 ≤ a.toNat then none else if a.toNat = 0 ∧ 0 < xs.length then (if (xs.getD 0 0).toNat < 128 then none else some xs) else some (a :: xs)
theorem intL_cons (a : UInt8) (xs : Bs) : intL (a :: xs) = if 128 ≤ a.toNat then none else if a.toNat = 0 ∧ 0 < xs.length then (if (xs.getD 0 0).toNat < 128 then none else some xs) else some (a :: xs) := rfl
/-- What Int answers. -/
def IntPost (w : World) (t : Nat) (b : Bs) (e : Ending) (w' : World) : Prop :=
  Below w.heap.size w w' ∧ (((t ≠ 2 ∨ intL b = none) ∧ e = .returned (.tuple #[.slice none 0 0, .int .i64 30])) ∨
    ∃ l, t = 2 ∧ intL b = some l ∧ ((512 < l.length ∧ e = .returned (.tuple #[.slice none 0 0, .int .i64 3])) ∨ (l.length ≤ 512 ∧ ∃ v, e = .returned (.tuple #[v, .int .i64 0]) ∧ NumOut .u64 B64 w w' v (val 256 (intsB l).reverse) 64)))
theorem NumOut.later {w w1 w' : World} {v : Value} {n : Int} {L : Nat} (hb : Below w.heap.size w w1) (h : NumOut .u64 B64 w1 w' v n L) : NumOut .u64 B64 w w' v n L := by
  obtain ⟨ao, len, cap, xs, e, h1, h2, h3, h4, h5⟩ := h
  exact ⟨ao, len, cap, xs, e, h1, h2, h3, h4, hb.trans (h5.mono hb.size)⟩
set_option maxRecDepth 100000 in
set_option maxHeartbeats 4000000 in
/-- Int. -/
theorem derInt (t : Nat) (ht : t < 256) (p : Option Addr) (n c : Nat) (l : Bs) (P : Nat → Prop) (w : World) (hl : l.length = n) (h : ByV w P p c l) (hn : n ≤ 1000000) :
    Calls Tryd.prog 17 #[.agg #[.int .u8 (t : Int), .slice p n c]] w (IntPost w t l) := by
  have hcap := h.cap
  have hbig := h.big
  rw [hl] at hcap
  obtain ⟨W1, hW1⟩ : ∃ W1, w.alloc (.cells #[.int .u8 (t : Int), .slice p n c] 24) = W1 := ⟨_, rfl⟩
  have b1 : Below w.heap.size w W1 := by rw [← hW1]; exact (Below.refl _ _).alloc (Nat.le_refl _) _
  have s1 : Tl W1 w.heap.size (.int .u8 (t : Int)) (.slice p n c) := by rw [← hW1]; exact Tl.new w _ _
  obtain ⟨g0, g1, g2, g3⟩ := s1.facts
  have HB : Hid (Below w.heap.size w W1) := b1
  have HBAD : Hid (t ≠ 2 ∨ intL l = none → IntPost w t l (.returned (.tuple #[.slice none 0 0, .int .i64 30])) W1) := fun hh => ⟨b1, .inl ⟨hh, rfl⟩⟩
  have HRD : Hid (∀ (q : Option Addr) (m d : Nat) (l' : Bs), t = 2 → intL l = some l' → l'.length = m → 0 < m → m ≤ d → d ≤ 9223372036854775807 → m ≤ 1000000 → BAt W1 q m l' → Calls Tryd.prog 30 #[.slice q m d] W1 fun e w' => ∃ v k, e = .returned (.tuple #[v, k]) ∧ IntPost w t l e w') := by
    intro q m d l' h2 hi hm h0 hd hd2 hm2 hb
    by_cases hbg : 512 < m
    · refine (Read_no q m d W1 hbg (by unfold maxLen; omega)).mono ?_
      rintro e w' ⟨rfl, rfl⟩
      exact ⟨_, _, rfl, b1, .inr ⟨l', h2, hi, .inl ⟨by omega, rfl⟩⟩⟩
    · refine (Read_yes q m d (intsB l') W1 (numIn_bat hb hm h0 hd hd2 hm2) (by omega)).mono ?_
      rintro e w' ⟨v, rfl, hv⟩
      have hv' := hv.later b1
      exact ⟨_, _, rfl, by obtain ⟨_, _, _, _, _, _, _, _, _, h5⟩ := hv'; exact h5, .inr ⟨l', h2, hi, .inr ⟨by omega, v, rfl, hv'⟩⟩⟩
  clear b1 s1
  by_cases q2 : t = 2
  rotate_left
  · have e2 : ((t : Int) == 2) = false := by simp; omega
    have e3 : ((t : Int) != 2) = true := by simp; omega
    go_enter Tryd.func17, Tryd.ntmps17
    go_wp2_with fail
    go_ret2
    exact HBAD.out (.inl q2)
  have e2 : ((t : Int) == 2) = true := by simp; omega
  have e3 : ((t : Int) != 2) = false := by simp; omega
  have HT2 : Hid (t = 2) := q2
  clear q2
  cases l with
  | nil =>
    simp at hl
    subst hl
    go_enter Tryd.func17, Tryd.ntmps17
    go_wp2_with fail
    go_ret2
    exact HBAD.out (.inr rfl)
  | cons a xs =>
    obtain ⟨b, o, rfl, hcl⟩ := h.lies (by simp)
    have HCL : Hid (∀ i, i < (a :: xs).length → W1.cell? ⟨b, o + i, none⟩ = some (.int .u8 (((a :: xs).getD i 0).toNat : Int))) := fun i hi => (HB.out.cell (p := ⟨b, o + i, none⟩) (World.block_lt_of_cell? w _ (hcl i hi))).trans (hcl i hi)
    have c0 : W1.cell? ⟨b, o, none⟩ = some (.int .u8 (a.toNat : Int)) := by simpa using HCL.out 0 (by simp)
    have ha := a.toNat_lt
    have hn0 : 0 < n := by simp at hl; omega
    have hz : ((n : Int) == 0) = false := by simp; omega
    have hnI : (0 : Int) < (n : Int) := by omega
    have hcI : (n : Int) ≤ (c : Int) := by omega
    obtain ⟨A, hA⟩ : ∃ A, a.toNat = A := ⟨_, rfl⟩
    have HL : Hid ((a :: xs).length = n ∧ a.toNat = A ∧ xs.length = n - 1) := ⟨hl, hA, by simp at hl; omega⟩
    rw [hA] at c0 ha
    clear hl hcl h hA
    by_cases q3 : 128 ≤ A
    · have q3I : (128 : Int) ≤ (A : Int) := by omega
      go_enter Tryd.func17, Tryd.ntmps17
      go_wp2_with fail
      go_ret2
      exact HBAD.out (.inr (by rw [intL_cons, if_pos (by rw [HL.out.2.1]; exact q3)]))
    have q3I : ¬ (128 : Int) ≤ (A : Int) := by omega
    have HWH : Hid (BAt W1 (some ⟨b, o, none⟩) n (a :: xs)) := fun _ => ⟨b, o, rfl, fun i hi => HCL.out i (by rw [HL.out.1]; exact hi)⟩
    by_cases q4 : A = 0
    · subst q4
      by_cases q5 : 1 < n
      · have q5I : (1 : Int) < (n : Int) := by omega
        have q6I : (1 : Int) ≤ (n : Int) := by omega
        have q7I : (1 : Int) ≤ (c : Int) := by omega
        have hc1 : ¬ c = 1 := by omega
        have hn1 : (0 : Int) < (n : Int) - 1 := by omega
        have c1 : W1.cell? ⟨b, o + 1, none⟩ = some (.int .u8 ((xs.getD 0 0).toNat : Int)) := by simpa using HCL.out 1 (by rw [HL.out.1]; omega)
        obtain ⟨X, hX⟩ : ∃ X, (xs.getD 0 0).toNat = X := ⟨_, rfl⟩
        have hx := (xs.getD 0 0).toNat_lt
        rw [hX] at c1 hx
        have HX : Hid ((xs.getD 0 0).toNat = X) := hX
        clear hX
        by_cases q8 : X < 128
        · have q8I : (X : Int) < 128 := by omega
          go_enter Tryd.func17, Tryd.ntmps17
          go_wp2_with fail
          go_ret2
          exact HBAD.out (.inr (by rw [intL_cons, if_neg (by rw [HL.out.2.1]; omega), if_pos ⟨HL.out.2.1, by rw [HL.out.2.2]; omega⟩, if_pos (by rw [HX.out]; exact q8)]))
        · have q8I : ¬ (X : Int) < 128 := by omega
          have HR := HRD.out (some ⟨b, o + 1, none⟩) (n - 1) (c - 1) xs HT2.out (by rw [intL_cons, if_neg (by rw [HL.out.2.1]; omega), if_pos ⟨HL.out.2.1, by rw [HL.out.2.2]; omega⟩, if_neg (by rw [HX.out]; exact q8)]) HL.out.2.2 (by omega) (by omega) (by omega) (by omega) (fun _ => ⟨b, o + 1, rfl, fun i hi => by have := HCL.out (i + 1) (by rw [HL.out.1]; omega); rw [show o + 1 + i = o + (i + 1) by omega]; simpa using this⟩)
          go_enter Tryd.func17, Tryd.ntmps17
          go_wp2_with (go_at_call 30; refine HR.mono ?_; rintro e w' ⟨v, k, rfl, hp⟩; have HP : Hid (IntPost w t (a :: xs) (.returned (.tuple #[v, k])) w') := hp; clear hp)
          go_ret2
          exact HP.out
      · have q5I : ¬ (1 : Int) < (n : Int) := by omega
        have HR := HRD.out (some ⟨b, o, none⟩) n c (a :: xs) HT2.out (by rw [intL_cons, if_neg (by rw [HL.out.2.1]; omega), if_neg (by rw [HL.out.2.2]; omega)]) HL.out.1 (by omega) (by omega) (by omega) (by omega) HWH.out
        go_enter Tryd.func17, Tryd.ntmps17
        go_wp2_with (go_at_call 30; refine HR.mono ?_; rintro e w' ⟨v, k, rfl, hp⟩; have HP : Hid (IntPost w t (a :: xs) (.returned (.tuple #[v, k])) w') := hp; clear hp)
        go_ret2
        exact HP.out
    have q4I : ((A : Int) == 0) = false := by simp; omega
    have HR := HRD.out (some ⟨b, o, none⟩) n c (a :: xs) HT2.out (by rw [intL_cons, if_neg (by rw [HL.out.2.1]; omega), if_neg (by rw [HL.out.2.1]; omega)]) HL.out.1 (by omega) (by omega) (by omega) (by omega) HWH.out
    go_enter Tryd.func17, Tryd.ntmps17
    go_wp2_with (go_at_call 30; refine HR.mono ?_; rintro e w' ⟨v, k, rfl, hp⟩; have HP : Hid (IntPost w t (a :: xs) (.returned (.tuple #[v, k])) w') := hp; clear hp)
    go_ret2
    exact HP.out
end Go.Proofs.YtccjlfjfmnmmhaaDoor
/-
  The code's splitRow.
-/
namespace Go.Proofs.YtccjlfjfmnmmhaaDoor
open Go.Shelf Go.RowKit
set_option linter.unusedVariables false
set_option linter.unusedSimpArgs false

/-- A row's number, and what is left. -/
def rowGo : Nat → Bool → Bs → Option (Nat × Bs)
  | _, _, [] => none
  | n, first, c :: xs => if (first = true ∧ c.toNat = 128) ∨ 72057594037927935 < n then none else if c.toNat < 128 then some (n * 128 + c.toNat % 128, xs) else rowGo (n * 128 + c.toNat % 128) false xs
def rowD (bs : Bs) : Option (Nat × Bs) := rowGo 0 true bs
theorem rowGo_cons (n : Nat) (f : Bool) (c : UInt8) (xs : Bs) : rowGo n f (c :: xs) = if (f = true ∧ c.toNat = 128) ∨ 72057594037927935 < n then none else if c.toNat < 128 then some (n * 128 + c.toNat % 128, xs) else rowGo (n * 128 + c.toNat % 128) false xs := rfl
theorem rowGo_len : ∀ (bs : Bs) (n : Nat) (f : Bool) (m : Nat) (r : Bs), rowGo n f bs = some (m, r) → r.length < bs.length ∧ m < 9223372036854775808
  | [], n, f, m, r, h => by cases h
  | c :: xs, n, f, m, r, h => by
    rw [rowGo_cons] at h
    split at h
    · cases h
    · split at h
      · cases h
        refine ⟨by simp, ?_⟩
        have := c.toNat_lt
        omega
      · have := rowGo_len xs _ _ _ _ h
        exact ⟨by simp; omega, this.2⟩
theorem u64_or7 (x y : Nat) (hx : x < 72057594037927936) (hy : y < 128) : bits .or .u64 ((x : Int) * 128) (y : Int) = ((x * 128 + y : Nat) : Int) := by
  have h2 : 128 * x ||| y = 128 * x + y := by
    have := Nat.two_pow_add_eq_or_of_lt (i := 7) (b := y) (by omega) x
    rw [show (2 : Nat) ^ 7 = 128 by rfl] at this
    exact this.symm
  have e : (x : Int) * 128 = ((128 * x : Nat) : Int) := by omega
  rw [e]
  show IntKind.u64.wrap ((BitVec.ofInt 64 ((128 * x : Nat) : Int) ||| BitVec.ofInt 64 (y : Int)).toNat : Int) = _
  rw [BitVec.toNat_or, ofInt_u64 (128 * x) (by omega), ofInt_u64 y (by omega), h2, Nat.mul_comm 128 x]
  clear h2 e
  have h3 : x * 128 + y < 18446744073709551616 := by omega
  generalize x * 128 + y = z at h3 ⊢
  simp [IntKind.wrap, IntKind.signed, IntKind.bits]
  omega
theorem u8_low7 : ∀ y : Nat, y < 256 → bits .andNot .u8 (y : Int) 128 = ((y % 128 : Nat) : Int) := by decide +kernel
/-- What splitRow answers. -/
def RwPost (w : World) (P : Nat → Prop) (R : Option (Nat × Bs)) (e : Ending) (w' : World) : Prop :=
  Below w.heap.size w w' ∧ ((∃ m r p c, R = some (m, r) ∧ m < 9223372036854775808 ∧ e = .returned (.tuple #[.int .u64 (m : Int), .slice p r.length c, .bool true]) ∧ ByV w' P p c r) ∨ (R = none ∧ e = .returned (.tuple #[.int .u64 0, .slice none 0 0, .bool false])))
set_option maxRecDepth 100000 in
set_option maxHeartbeats 4000000 in
/-- splitRow. -/
theorem splitRow_any (p : Option Addr) (n c : Nat) (bs : Bs) (P : Nat → Prop) (w : World) (hl : bs.length = n) (h : ByV w P p c bs) :
    Calls Tryd.prog 18 #[.slice p n c] w (RwPost w P (rowD bs)) := by
  have hcap := h.cap
  have hbig := h.big
  rw [hl] at hcap
  obtain ⟨R, hR⟩ : ∃ R, rowD bs = R := ⟨_, rfl⟩
  rw [hR]
  have HNO : Hid (R = none → RwPost w P R (.returned (.tuple #[.int .u64 0, .slice none 0 0, .bool false])) w) := fun hh => ⟨Below.refl _ _, .inr ⟨hh, rfl⟩⟩
  have HV : Hid (ByV w P p c bs ∧ bs.length = n ∧ rowGo 0 true bs = R) := ⟨h, hl, hR⟩
  clear h hl hR
  go_enter Tryd.func18, Tryd.ntmps18
  go_wp2_with fail
  go_loopw [5, 10] (fun v5 v10 wr => ∃ j N : Nat, j ≤ n ∧ v10 = .int .i64 (j : Int) ∧ v5 = .int .u64 (N : Int) ∧ N < 9223372036854775808 ∧ rowGo N (decide (j = 0)) (bs.drop j) = R ∧ wr = w) (fun _ v10 _ => n - (intOf v10).toNat)
  case atStart => exact ⟨0, 0, by omega, rfl, rfl, by omega, by simpa using HV.out.2.2, rfl⟩
  case round =>
    obtain ⟨j, N, hj, rfl, rfl, hN, hRj, rfl⟩ := hrel
    have HR : Hid (rowGo N (decide (j = 0)) (bs.drop j) = R) := hRj
    clear hRj
    rcases Nat.lt_or_eq_of_le hj with hj | rfl
    rotate_left
    · go_wp2_with fail
      go_ret3
      exact HNO.out (by rw [← HR.out, List.drop_of_length_le (by rw [HV.out.2.1]; exact Nat.le_refl _)]; rfl)
    obtain ⟨b, o, rfl, hcl⟩ := HV.out.1.lies (by rw [HV.out.2.1]; omega)
    have hjI : (j : Int) < (n : Int) := by omega
    have hj0 : (0 : Int) ≤ (j : Int) := by omega
    have c0 := hcl j (by rw [HV.out.2.1]; omega)
    obtain ⟨y, hy⟩ : ∃ y, bs.getD j 0 = y := ⟨_, rfl⟩
    have hyl := y.toNat_lt
    have hdr : bs.drop j = y :: bs.drop (j + 1) := by
      have hjl : j < bs.length := by rw [HV.out.2.1]; omega
      rw [List.drop_eq_getElem_cons hjl]
      congr 1
      rw [← hy]
      simp [List.getD, hjl]
    rw [hy] at c0
    obtain ⟨Y, hY⟩ : ∃ Y, y.toNat = Y := ⟨_, rfl⟩
    rw [hY] at c0 hyl
    have HY : Hid (y.toNat = Y ∧ bs.drop j = y :: bs.drop (j + 1)) := ⟨hY, hdr⟩
    clear hY hdr hy hcl
    by_cases q1 : (j = 0 ∧ Y = 128) ∨ 72057594037927935 < N
    · have hRn : R = none := by rw [← HR.out, HY.out.2, rowGo_cons, if_pos (by rw [HY.out.1]; simpa using q1)]
      by_cases q2 : j = 0
      · have q2I : ((j : Int) == 0) = true := by simp; omega
        by_cases q3 : Y = 128
        · have q3I : ((Y : Int) == 128) = true := by simp; omega
          clear q2 q3 q1
          go_wp2_with fail
          go_ret3
          exact HNO.out hRn
        · have q3I : ((Y : Int) == 128) = false := by simp; omega
          have q4I : (72057594037927935 : Int) < (N : Int) := by omega
          clear q2 q3 q1
          go_wp2_with fail
          go_ret3
          exact HNO.out hRn
      · have q2I : ((j : Int) == 0) = false := by simp; omega
        have q4I : (72057594037927935 : Int) < (N : Int) := by omega
        clear q2 q1
        go_wp2_with fail
        go_ret3
        exact HNO.out hRn
    have q4I : ¬ (72057594037927935 : Int) < (N : Int) := by omega
    have HR2 : Hid (R = if Y < 128 then some (N * 128 + Y % 128, bs.drop (j + 1)) else rowGo (N * 128 + Y % 128) false (bs.drop (j + 1))) := by
      show R = _
      rw [← HR.out, HY.out.2, rowGo_cons, if_neg (by rw [HY.out.1]; simpa using q1), HY.out.1]
    have hN2 : N * 128 + Y % 128 < 9223372036854775808 := by omega
    obtain ⟨Z, hZ⟩ : ∃ Z, Y % 128 = Z := ⟨_, rfl⟩
    have hA := u8_low7 Y (by omega)
    rw [hZ] at hA
    have hZ2 : Z < 128 := by omega
    have hO := u64_or7 N Z (by omega) hZ2
    obtain ⟨M, hM⟩ : ∃ M, N * 128 + Z = M := ⟨_, rfl⟩
    rw [hM] at hO
    have HM : Hid (N * 128 + Y % 128 = M) := by show _ = M; rw [hZ, hM]
    have hM2 : M < 9223372036854775808 := by omega
    clear hM hZ hN2
    by_cases q2 : j = 0
    · have q2I : ((j : Int) == 0) = true := by simp; omega
      have q3I : ((Y : Int) == 128) = false := by simp; omega
      clear q2 q1
      by_cases q5 : Y < 128
      · have q5I : (Y : Int) < 128 := by omega
        have HY2 : Hid (R = some (M, bs.drop (j + 1))) := by show R = _; rw [HR2.out, if_pos q5, HM.out]
        have HE : Hid (∀ W p2 c2, Below wr.heap.size wr W → ByV wr P p2 c2 (bs.drop (j + 1)) → RwPost wr P R (.returned (.tuple #[.int .u64 (M : Int), .slice p2 (n - (j + 1)) c2, .bool true])) W) := fun W p2 c2 hW hv2 => ⟨hW, .inl ⟨M, bs.drop (j + 1), p2, c2, HY2.out, hM2, by rw [List.length_drop, HV.out.2.1], hv2.keep (fun g _ hlt => hW.block g hlt)⟩⟩
        have HV3 := HV.out.1.drop (j + 1) (by rw [HV.out.2.1]; omega)
        have k1 : ((j : Int) + 1) ≤ (n : Int) := by omega
        have k2 : ((j : Int) + 1) ≤ (c : Int) := by omega
        have k3 : (n : Int) ≤ (c : Int) := by omega
        have k4 : (c : Int) ≤ 9223372036854775807 := by omega
        have k5 : IntKind.i64.wrap ((j : Int) + 1) = (j : Int) + 1 := Go.IntWalk.i64_in _ (by omega)
        by_cases qc : c = j + 1
        · rw [if_pos qc, show c - (j + 1) = 0 by omega] at HV3
          have HV4 : Hid (ByV wr P (some ⟨b, o, none⟩) 0 (bs.drop (j + 1))) := HV3
          clear HV3 q5
          go_wp2_with fail
          go_region
          go_wp2_with fail
          go_ret3
          exact HE.out _ _ _ (Below.refl _ _).drew HV4.out
        · rw [if_neg qc] at HV3
          have HV4 : Hid (ByV wr P (some ⟨b, o + (j + 1), none⟩) (c - (j + 1)) (bs.drop (j + 1))) := HV3
          clear HV3 q5
          go_wp2_with fail
          go_region
          go_wp2_with fail
          go_ret3
          exact HE.out _ _ _ (Below.refl _ _).drew HV4.out
      · have q5I : ¬ (Y : Int) < 128 := by omega
        have HY2 : Hid (rowGo M false (bs.drop (j + 1)) = R) := by show _ = R; rw [HR2.out, if_neg q5, HM.out]
        clear q5
        go_wp2_with fail
        exact ⟨⟨j + 1, M, by omega, by push_cast; rfl, rfl, hM2, HY2.out, trivial⟩, by simp only [intOf]; omega⟩
    · have q2I : ((j : Int) == 0) = false := by simp; omega
      clear q2 q1
      by_cases q5 : Y < 128
      · have q5I : (Y : Int) < 128 := by omega
        have HY2 : Hid (R = some (M, bs.drop (j + 1))) := by show R = _; rw [HR2.out, if_pos q5, HM.out]
        have HE : Hid (∀ W p2 c2, Below wr.heap.size wr W → ByV wr P p2 c2 (bs.drop (j + 1)) → RwPost wr P R (.returned (.tuple #[.int .u64 (M : Int), .slice p2 (n - (j + 1)) c2, .bool true])) W) := fun W p2 c2 hW hv2 => ⟨hW, .inl ⟨M, bs.drop (j + 1), p2, c2, HY2.out, hM2, by rw [List.length_drop, HV.out.2.1], hv2.keep (fun g _ hlt => hW.block g hlt)⟩⟩
        have HV3 := HV.out.1.drop (j + 1) (by rw [HV.out.2.1]; omega)
        have k1 : ((j : Int) + 1) ≤ (n : Int) := by omega
        have k2 : ((j : Int) + 1) ≤ (c : Int) := by omega
        have k3 : (n : Int) ≤ (c : Int) := by omega
        have k4 : (c : Int) ≤ 9223372036854775807 := by omega
        have k5 : IntKind.i64.wrap ((j : Int) + 1) = (j : Int) + 1 := Go.IntWalk.i64_in _ (by omega)
        by_cases qc : c = j + 1
        · rw [if_pos qc, show c - (j + 1) = 0 by omega] at HV3
          have HV4 : Hid (ByV wr P (some ⟨b, o, none⟩) 0 (bs.drop (j + 1))) := HV3
          clear HV3 q5
          go_wp2_with fail
          go_region
          go_wp2_with fail
          go_ret3
          exact HE.out _ _ _ (Below.refl _ _).drew HV4.out
        · rw [if_neg qc] at HV3
          have HV4 : Hid (ByV wr P (some ⟨b, o + (j + 1), none⟩) (c - (j + 1)) (bs.drop (j + 1))) := HV3
          clear HV3 q5
          go_wp2_with fail
          go_region
          go_wp2_with fail
          go_ret3
          exact HE.out _ _ _ (Below.refl _ _).drew HV4.out
      · have q5I : ¬ (Y : Int) < 128 := by omega
        have HY2 : Hid (rowGo M false (bs.drop (j + 1)) = R) := by show _ = R; rw [HR2.out, if_neg q5, HM.out]
        clear q5
        go_wp2_with fail
        exact ⟨⟨j + 1, M, by omega, by push_cast; rfl, rfl, hM2, HY2.out, trivial⟩, by simp only [intOf]; omega⟩
end Go.Proofs.YtccjlfjfmnmmhaaDoor
/-
  The code's appendRow.
-/
namespace Go.Proofs.YtccjlfjfmnmmhaaDoor
open Go.Shelf Go.RowKit
set_option linter.unusedVariables false
set_option linter.unusedSimpArgs false

/-- Numbers as cells. -/
def cellsU (l : List Nat) : List Value := l.map fun (x : Nat) => Value.int .u64 (x : Int)
theorem cellsU_len (l : List Nat) : (cellsU l).length = l.length := by simp [cellsU]
theorem infoU64 : (Tryd.prog.info? 34).map (fun i => (i.zero, i.size, i.bytes)) = some (some (.int .u64 0), 1, 8) := by kernel_rfl
/-- Numbers appended to numbers of the call's own. -/
theorem wpList_append_u {w : World} {ops : Array Oper} {rest : List Oper} {o : Oper} {a : Act} {Q : Exit → Act → World → Prop} (hgd : o.guard = none) (s x : Operand)
    (ho : o.op = .call { callee := .builtin .append, args := #[s, x], argTypes := #[25, 25] }) (base : Nat) (v : Value) (hs : a.eval s = v) (old : List Nat) (m : Nat) (hown : w.ownsRow base 34 1 v m (cellsU old)) (ad : Addr) (n c : Nat) (l : List Nat) (hn : l.length = n) (hx : a.eval x = .slice (some ad) n c) (hr : ∀ j u, (cellsU l)[j]? = some u → w.cell? (ad.add j) = some u) (hlen : m + n ≤ 1000000) (hbase : base ≤ w.heap.size)
    (h : ∀ v' w', w'.ownsRow base 34 1 v' (m + n) (cellsU (old ++ l)) → w.grownBy w' v.ownBlock → wpList Tryd.prog ops Q rest (a.put o.dst v') w') : wpList Tryd.prog ops Q (o :: rest) a w := by
  obtain ⟨i0, hi0, hz0, hz1, hz2⟩ := info_parts infoU64
  refine wpList_append_own (w := w) hgd s x _ ho base 34 i0 (.int .u64 0) 1 8 Tryd.underlying25 hi0 hz0 hz1 hz2 rfl (by decide) v m (cellsU old) hs hown ad n c (cellsU l) hx (by rw [cellsU_len, hn, Nat.mul_one]) hr (by intro u hu; simp only [cellsU, List.mem_map] at hu; obtain ⟨x, _, rfl⟩ := hu; rfl) (by unfold maxLen; omega) (by omega) hbase ?_
  intro v' w' hown' hgr _
  rw [show cellsU old ++ cellsU l = cellsU (old ++ l) by simp [cellsU]] at hown'
  exact h v' w' hown' hgr
/-- A row's numbers behind the others. -/
def pushD (xs : List Nat) (row : Nat) : List Nat := if xs.length = 0 then [min (row / 40) 2, row - min (row / 40) 2 * 40] else xs ++ [row]
set_option maxRecDepth 100000 in
set_option maxHeartbeats 4000000 in
/-- appendRow. -/
theorem appendRow_any (B : Nat) (p : Option Addr) (m c : Nat) (xs : List Nat) (row : Nat) (hrow : row < 9223372036854775808) (w : World) (hl : xs.length = m) (hm : m ≤ 100000) (hB : B ≤ w.heap.size) (h : w.ownsRow B 34 1 (.slice p m c) m (cellsU xs)) :
    Calls Tryd.prog 19 #[.slice p m c, .int .u64 (row : Int)] w fun e w' => ∃ v, e = .returned v ∧ w'.ownsRow B 34 1 v (pushD xs row).length (cellsU (pushD xs row)) ∧ w.heap.size ≤ w'.heap.size ∧ (∀ k, k < B → w'.heap[k]? = w.heap[k]?) ∧ Below B w w' := by
  have HB : Hid (B ≤ w.heap.size) := hB
  by_cases q : m = 0
  · subst q
    have hx0 : xs = [] := List.eq_nil_of_length_eq_zero hl
    subst hx0
    obtain ⟨r, hr⟩ : ∃ r, min (row / 40) 2 = r := ⟨_, rfl⟩
    have hmin : min ((row : Int) / 40) 2 = (r : Int) := by omega
    have hr2 : r ≤ 2 := by omega
    have hrr : r * 40 ≤ row := by omega
    have hp : pushD [] row = [r, row - r * 40] := by simp [pushD, hr]
    rw [hp]
    have HH : Hid (w.ownsRow B 34 1 (.slice p 0 c) 0 (cellsU [])) := h
    clear h hp hr
    go_enter Tryd.func19, Tryd.ntmps19
    go_wp2_with (at_builtin; refine wpList_append_u rfl (.tmp 16) (.tmp 22) rfl B (.slice p 0 c) rfl [] 0 (HH.out.alloc _) ⟨w.heap.size, 0, none⟩ 2 2 [r, row - r * 40] rfl rfl (fun j u hj => by match j with | 0 => (simp [cellsU] at hj; subst hj; exact cell_of_row _ w.heap.size 0 _ _ _ (heap_alloc_new w _)) | 1 => (simp [cellsU] at hj; subst hj; rw [show (((row - r * 40 : Nat)) : Int) = (row : Int) - (r : Int) * 40 by omega]; exact cell_of_row _ w.heap.size 1 _ _ _ (heap_alloc_new w _)) | j + 2 => simp [cellsU] at hj) (by omega) (Nat.le_trans hB (alloc_le _ _)) ?_; intro v1 w1 o1 gr1)
    go_ret
    have hb := below_grownT ((Below.refl B w).alloc hB _) hB (HH.out.alloc _) gr1
    exact ⟨v1, rfl, o1, hb.size, hb.block, hb⟩
  · have q0 : (0 : Int) < (m : Int) := by omega
    have hp : pushD xs row = xs ++ [row] := by unfold pushD; rw [if_neg (by omega)]
    rw [hp, List.length_append, hl]
    have HH : Hid (w.ownsRow B 34 1 (.slice p m c) m (cellsU xs)) := h
    clear h hp hl
    go_enter Tryd.func19, Tryd.ntmps19
    go_wp2_with (at_builtin; refine wpList_append_u rfl (.tmp 9) (.tmp 11) rfl B (.slice p m c) rfl xs m (HH.out.alloc _) ⟨w.heap.size, 0, none⟩ 1 1 [row] rfl rfl (fun j u hj => by cases j with | zero => (simp [cellsU] at hj; subst hj; exact cell_of_row _ w.heap.size 0 _ _ _ (heap_alloc_new w _)) | succ j => simp [cellsU] at hj) (by omega) (Nat.le_trans hB (alloc_le _ _)) ?_; intro v1 w1 o1 gr1)
    go_ret
    have hb := below_grownT ((Below.refl B w).alloc hB _) hB (HH.out.alloc _) gr1
    exact ⟨v1, rfl, o1, hb.size, hb.block, hb⟩
end Go.Proofs.YtccjlfjfmnmmhaaDoor
/-
  The code's Oid.
-/
namespace Go.Proofs.YtccjlfjfmnmmhaaDoor
open Go.Shelf Go.RowKit
set_option linter.unusedVariables false
set_option linter.unusedSimpArgs false

/-- A slice's length. -/
def lenOfV : Value → Nat
  | .slice _ n _ => n
  | _ => 0
/-- All rows' numbers. -/
def rowsD : Nat → Bs → Option (List Nat)
  | 0, _ => some []
  | m + 1, bs => if bs.length = 0 then some [] else match rowD bs with
    | none => none
    | some (r, rest) => match rowsD m rest with
      | none => none
      | some l => some (r :: l)
/-- The numbers of rows. -/
def numsD : List Nat → List Nat
  | [] => []
  | r :: l => [min (r / 40) 2, r - min (r / 40) 2 * 40] ++ l
/-- A row of numbers; an error's number. -/
def oidD (t : Nat) (bs : Bs) : Except Nat (List Nat) :=
  if t ≠ 6 ∨ bs.length = 0 then .error 30 else match rowsD bs.length bs with
    | none => .error 30
    | some l => if 16 < (numsD l).length then .error 14 else .ok (numsD l)
theorem rowsD_more : ∀ (m k : Nat) (bs : Bs), bs.length ≤ m → bs.length ≤ k → rowsD m bs = rowsD k bs
  | 0, k, bs, hm, hk => by
    have : bs = [] := List.eq_nil_of_length_eq_zero (by omega)
    subst this
    cases k with
    | zero => rfl
    | succ k => rfl
  | m + 1, 0, bs, hm, hk => by
    have : bs = [] := List.eq_nil_of_length_eq_zero (by omega)
    subst this
    rfl
  | m + 1, k + 1, bs, hm, hk => by
    simp only [rowsD]
    by_cases h : bs.length = 0
    · rw [if_pos h, if_pos h]
    rw [if_neg h, if_neg h]
    cases hr : rowD bs with
    | none => rfl
    | some q =>
      obtain ⟨r, rest⟩ := q
      have := (rowGo_len bs 0 true r rest hr).1
      simp only []
      rw [rowsD_more m k rest (by omega) (by omega)]
theorem rowsD_step {bs : Bs} (h : bs.length ≠ 0) : rowsD bs.length bs = match rowD bs with
    | none => none
    | some (r, rest) => (rowsD rest.length rest).map (fun l => r :: l) := by
  obtain ⟨m, hm⟩ : ∃ m, bs.length = m + 1 := ⟨bs.length - 1, by omega⟩
  rw [hm]
  simp only [rowsD]
  rw [if_neg h]
  cases hr : rowD bs with
  | none => rfl
  | some q =>
    obtain ⟨r, rest⟩ := q
    have := (rowGo_len bs 0 true r rest hr).1
    simp only []
    rw [rowsD_more m rest.length rest (by omega) (Nat.le_refl _)]
    cases rowsD rest.length rest with
    | none => rfl
    | some l => rfl
theorem numsD_len (l : List Nat) : (numsD l).length = if l.length = 0 then 0 else l.length + 1 := by
  cases l with
  | nil => rfl
  | cons a l => simp [numsD]
theorem push_nums (R : List Nat) (r : Nat) : pushD (numsD R) r = numsD (R ++ [r]) := by
  cases R with
  | nil => simp [pushD, numsD]
  | cons a R => simp [pushD, numsD]
/-- The numbers so far: no more than 17 are kept. -/
theorem push_take (R : List Nat) (r : Nat) : (if ((numsD R).take 17).length ≤ 16 then pushD ((numsD R).take 17) r else (numsD R).take 17) = (numsD (R ++ [r])).take 17 := by
  by_cases h : (numsD R).length ≤ 16
  · have e : (numsD R).take 17 = numsD R := List.take_of_length_le (by omega)
    rw [e, if_pos h, push_nums]
    have h2 := numsD_len (R ++ [r])
    have h1 := numsD_len R
    rw [List.take_of_length_le]
    rw [h2]
    simp
    by_cases h0 : R.length = 0
    · omega
    · rw [if_neg h0] at h1
      omega
  · have h2 : ((numsD R).take 17).length = 17 := by rw [List.length_take]; omega
    rw [h2, if_neg (by omega)]
    cases R with
    | nil => simp [numsD] at h
    | cons a R =>
      simp [numsD] at h ⊢
      rw [List.take_append_of_le_length (by omega)]
/-- What Oid answers. -/
def OidPost (w : World) (R : Except Nat (List Nat)) (e : Ending) (w' : World) : Prop :=
  Below w.heap.size w w' ∧ ((∃ k, R = .error k ∧ e = .returned (.tuple #[.slice none 0 0, .int .i64 (k : Int)])) ∨
    ∃ l v, R = .ok l ∧ l.length ≤ 16 ∧ e = .returned (.tuple #[v, .int .i64 0]) ∧ w'.ownsRow w.heap.size 34 1 v l.length (cellsU l))
set_option maxRecDepth 100000 in
set_option maxHeartbeats 4000000 in
/-- Oid. -/
theorem derOid (t : Nat) (ht : t < 256) (p : Option Addr) (n c : Nat) (bs : Bs) (P : Nat → Prop) (w : World) (hl : bs.length = n) (h : ByV w P p c bs) :
    Calls Tryd.prog 7 #[.agg #[.int .u8 (t : Int), .slice p n c]] w (OidPost w (oidD t bs)) := by
  obtain ⟨W1, hW1⟩ : ∃ W1, w.alloc (.cells #[.int .u8 (t : Int), .slice p n c] 24) = W1 := ⟨_, rfl⟩
  have b1 : Below w.heap.size w W1 := by rw [← hW1]; exact (Below.refl _ _).alloc (Nat.le_refl _) _
  have s1 : Tl W1 w.heap.size (.int .u8 (t : Int)) (.slice p n c) := by rw [← hW1]; exact Tl.new w _ _
  obtain ⟨g0, g1, g2, g3⟩ := s1.facts
  have hbig := h.big
  have hcap := h.cap
  rw [hl] at hcap
  have HS : Hid (Below w.heap.size w W1 ∧ ByV w (fun b => b < w.heap.size) p c bs ∧ bs.length = n) := ⟨b1, h.mono (fun g _ hlt => hlt), hl⟩
  have HBAD : Hid (∀ W k, Below w.heap.size w W → oidD t bs = .error k → OidPost w (oidD t bs) (.returned (.tuple #[.slice none 0 0, .int .i64 (k : Int)])) W) := fun W k hW hk => ⟨hW, .inl ⟨k, hk, rfl⟩⟩
  clear s1 b1 h
  by_cases q2 : t = 6
  rotate_left
  · have e3 : ((t : Int) != 6) = true := by simp; omega
    have e2 : ((t : Int) == 6) = false := by simp; omega
    go_enter Tryd.func7, Tryd.ntmps7
    go_wp2_with fail
    go_ret2
    exact HBAD.out _ 30 HS.out.1 (by unfold oidD; rw [if_pos (.inl q2)])
  have e3 : ((t : Int) != 6) = false := by simp; omega
  have e2 : ((t : Int) == 6) = true := by simp; omega
  by_cases q3 : n = 0
  · have e4 : ((n : Int) == 0) = true := by simp; omega
    have HQ3 : Hid (n = 0) := q3
    clear q2 q3 hcap
    go_enter Tryd.func7, Tryd.ntmps7
    go_wp2_with fail
    go_ret2
    exact HBAD.out _ 30 HS.out.1 (by unfold oidD; rw [if_pos (.inr (by rw [HS.out.2.2]; exact HQ3.out))])
  have e4 : ((n : Int) == 0) = false := by simp; omega
  have HO : Hid (oidD t bs = match rowsD n bs with
    | none => .error 30
    | some l => if 16 < (numsD l).length then .error 14 else .ok (numsD l)) := by
    show oidD t bs = _
    unfold oidD
    rw [if_neg (by rw [HS.out.2.2]; simp [q2, q3]), HS.out.2.2]
  clear q2 hl
  go_enter Tryd.func7, Tryd.ntmps7
  go_wp2_with fail
  go_loopw [4, 5] (fun v4 v5 wr => ∃ (R : List Nat) (ys : Bs) (L : Nat) (q : Option Addr) (d : Nat) (pv : Option Addr) (cv K : Nat), v5 = .slice q L d ∧ ys.length = L ∧ ByV wr (fun b => b < w.heap.size) q d ys ∧ v4 = .slice pv K cv ∧ ((numsD R).take 17).length = K ∧ wr.ownsRow w.heap.size 34 1 (.slice pv K cv) K (cellsU ((numsD R).take 17)) ∧ Below w.heap.size w wr ∧ rowsD n bs = (rowsD L ys).map (fun l => R ++ l)) (fun _ v5 _ => lenOfV v5)
  case atStart => exact ⟨[], bs, n, p, c, none, 0, 0, rfl, HS.out.2.2, HS.out.2.1.keep (fun g _ hlt => HS.out.1.block g hlt), rfl, rfl, World.ownsRow_nil _ _ _ _, HS.out.1, by cases rowsD n bs <;> rfl⟩
  case round =>
    obtain ⟨R, ys, L, q, d, pv, cv, K, rfl, hL, hv, rfl, hK, hown, hb, hrows⟩ := hrel
    have hK17 : K ≤ 17 := by rw [← hK, List.length_take]; omega
    have hBs := hb.size
    have HI : Hid (ys.length = L ∧ ((numsD R).take 17).length = K ∧ Below w.heap.size w wr ∧ rowsD n bs = (rowsD L ys).map (fun l => R ++ l)) := ⟨hL, hK, hb, hrows⟩
    have HV : Hid (ByV wr (fun b => b < w.heap.size) q d ys ∧ wr.ownsRow w.heap.size 34 1 (.slice pv K cv) K (cellsU ((numsD R).take 17))) := ⟨hv, hown⟩
    by_cases q5 : L = 0
    · have q5I : ¬ (0 : Int) < (L : Int) := by omega
      have hys : ys = [] := List.eq_nil_of_length_eq_zero (by omega)
      have hR : rowsD n bs = some R := by rw [hrows, q5]; simp [rowsD]
      have HR : Hid (rowsD n bs = some R) := hR
      clear hR hrows hys hL hown hv hK hb
      by_cases q6 : 16 < K
      · have q6I : (16 : Int) < (K : Int) := by omega
        go_wp2_with fail
        go_ret2
        exact HBAD.out _ 14 HI.out.2.2.1 (by rw [HO.out, HR.out]; simp only []; rw [if_pos (by have := HI.out.2.1; rw [List.length_take] at this; omega)])
      · have q6I : ¬ (16 : Int) < (K : Int) := by omega
        have hnl : (numsD R).length = K := by have := HI.out.2.1; rw [List.length_take] at this; omega
        have HNL : Hid ((numsD R).length = K) := hnl
        clear hnl
        go_wp2_with fail
        go_ret2
        refine ⟨HI.out.2.2.1, .inr ⟨numsD R, _, ?_, by rw [HNL.out]; omega, rfl, ?_⟩⟩
        · rw [HO.out, HR.out]
          simp only []
          rw [if_neg (by rw [HNL.out]; omega)]
        · have h1 := HV.out.2
          rw [List.take_of_length_le (by rw [HNL.out]; omega)] at h1
          rw [HNL.out]
          exact h1
    have q5I : (0 : Int) < (L : Int) := by omega
    have hstep := rowsD_step (bs := ys) (by omega)
    rw [hL] at hstep
    have HSR := splitRow_any q L d ys (fun b => b < w.heap.size) wr hL hv
    clear hown hv hK hb
    cases hrow : rowD ys with
    | none =>
      rw [hrow] at HSR hstep
      have HR : Hid (rowsD n bs = none) := by show rowsD n bs = none; rw [hrows, hstep]; rfl
      clear hrows hstep hL
      go_wp2_with (go_at_call 18; refine HSR.mono ?_; rintro e w2 ⟨hb2, (⟨m, r, p2, c2, hk, _⟩ | ⟨_, rfl⟩)⟩; (try cases hk); have HB2 : Hid (Below wr.heap.size wr w2) := hb2; clear hb2)
      go_ret2
      exact HBAD.out _ 30 (HI.out.2.2.1.trans (HB2.out.mono hBs)) (by rw [HO.out, HR.out])
    | some x =>
      obtain ⟨m, r⟩ := x
      rw [hrow] at HSR hstep
      simp only [] at hstep
      obtain ⟨Lr, hLr⟩ : ∃ Lr, r.length = Lr := ⟨_, rfl⟩
      have hlt := (rowGo_len ys 0 true m r hrow).1
      rw [hL, hLr] at hlt
      have HR : Hid (rowsD n bs = (rowsD Lr r).map (fun l => (R ++ [m]) ++ l) ∧ r.length = Lr) := by
        refine ⟨?_, hLr⟩
        rw [hrows, hstep, hLr]
        cases rowsD Lr r with
        | none => rfl
        | some l => simp
      clear hrows hstep hL
      by_cases q6 : K ≤ 16
      · have q6I : (K : Int) ≤ 16 := by omega
        have HPT := push_take R m
        rw [if_pos (by rw [HI.out.2.1]; exact q6)] at HPT
        have HPT' : Hid (pushD ((numsD R).take 17) m = (numsD (R ++ [m])).take 17) := HPT
        clear HPT
        go_wp2_with (first
          | (go_at_call 18; refine HSR.mono ?_; rintro e w2 ⟨hb2, (⟨m', r', p2, c2, hk, hm', rfl, hv2⟩ | ⟨hk, _⟩)⟩; rotate_left; (cases hk); cases hk; rw [hLr]; have HB2 : Hid (Below w.heap.size w w2 ∧ ByV w2 (fun b => b < w.heap.size) p2 c2 r ∧ w2.ownsRow w.heap.size 34 1 (.slice pv K cv) K (cellsU ((numsD R).take 17))) := ⟨HI.out.2.2.1.trans (hb2.mono hBs), hv2, owns_keep HV.out.2 (fun g hg => hb2.block g (owns_lt HV.out.2 hg).2.1)⟩; clear hb2 hv2)
          | (go_at_call 19; refine (appendRow_any w.heap.size pv K cv ((numsD R).take 17) m hm' w2 HI.out.2.1 (by omega) HB2.out.1.size HB2.out.2.2).mono ?_; rintro e w3 ⟨v3, rfl, ho3, _, _, hb3⟩; have HB3 : Hid (Below w.heap.size w2 w3 ∧ w3.ownsRow w.heap.size 34 1 v3 ((numsD (R ++ [m])).take 17).length (cellsU ((numsD (R ++ [m])).take 17))) := ⟨hb3, by rw [HPT'.out] at ho3; exact ho3⟩; clear hb3 ho3))
        obtain ⟨p3, c3, rfl⟩ := owns_slice HB3.out.2
        exact ⟨⟨R ++ [m], r, Lr, p2, c2, p3, c3, _, rfl, HR.out.2, HB2.out.2.1.keep (fun g hg _ => HB3.out.1.block g hg), rfl, rfl, HB3.out.2, HB2.out.1.trans HB3.out.1, HR.out.1⟩, by simp only [lenOfV]; omega⟩
      · have q6I : ¬ (K : Int) ≤ 16 := by omega
        have HPT := push_take R m
        rw [if_neg (by rw [HI.out.2.1]; exact q6)] at HPT
        have HPT' : Hid ((numsD R).take 17 = (numsD (R ++ [m])).take 17) := HPT
        clear HPT
        go_wp2_with (go_at_call 18; refine HSR.mono ?_; rintro e w2 ⟨hb2, (⟨m', r', p2, c2, hk, hm', rfl, hv2⟩ | ⟨hk, _⟩)⟩; rotate_left; (cases hk); cases hk; rw [hLr]; have HB2 : Hid (Below w.heap.size w w2 ∧ ByV w2 (fun b => b < w.heap.size) p2 c2 r ∧ w2.ownsRow w.heap.size 34 1 (.slice pv K cv) K (cellsU ((numsD R).take 17))) := ⟨HI.out.2.2.1.trans (hb2.mono hBs), hv2, owns_keep HV.out.2 (fun g hg => hb2.block g (owns_lt HV.out.2 hg).2.1)⟩; clear hb2 hv2)
        exact ⟨⟨R ++ [m], r, Lr, p2, c2, pv, cv, K, rfl, HR.out.2, HB2.out.2.1, rfl, by rw [← HPT'.out]; exact HI.out.2.1, by rw [← HPT'.out]; exact HB2.out.2.2, HB2.out.1, HR.out.1⟩, by simp only [lenOfV]; omega⟩
end Go.Proofs.YtccjlfjfmnmmhaaDoor
