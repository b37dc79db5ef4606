import Derived.Test.YtnckmcmobkpdcaaDoorK02
import Derived.Deep.RegionWith
import Derived.Deep.RegionHeld3
import Derived.Deep.DrawnRows
import Derived.Laws.BytesArg
import Derived.Laws.AppendOwnNone
/-
  Contracts of nat.Norm, Of, Add, Sub, Mul.
-/
namespace Go.Proofs.YtnckmcmobkpdcaaDoor
open Go.RowKit
set_option linter.unusedVariables false
set_option linter.unusedSimpArgs false

theorem ret_val {a b : Value} (h : a = b) : Ending.returned a = .returned b := by rw [h]

theorem add_none (b off j : Nat) : (⟨b, off, none⟩ : Addr).add j = ⟨b, off + j, none⟩ := by
  simp only [Addr.add]
  split
  · subst j; rfl
  · rfl

/-- copy into the head of a row of own memory. -/
theorem wpList_copy_row {P : Program} {w : World} {ops : Array Oper} {rest : List Oper} {o : Oper} {a : Act} {Q : Exit → Act → World → Prop} (hgd : o.guard = none) (d s : Operand) (dT sT : TypeId)
    (ho : o.op = .call { callee := .builtin .copy, args := #[d, s], argTypes := #[dT, sT] }) (e : TypeId) (hu : P.underlying dT = some (.slice e)) (k : IntKind) (bytes : Nat)
    (h2 : (P.info? e).map (fun i => (i.zero, i.size, i.bytes)) = some (some (.int k 0), 1, bytes)) (g : Nat) (ao : Option Addr) (dl dc sl sc : Nat)
    (hd : a.eval d = .slice (some ⟨g, 0, none⟩) dl dc) (hs : a.eval s = .slice ao sl sc) (xs ys : List Int) (hr : Row e k w g xs) (hy : Lies k w ao sl ys) (hdl : dl ≤ xs.length) (n : Nat) (hn : n = min sl dl)
    (B : Nat) (w0 : World) (hb : Below B w0 w) (hB : B ≤ g)
    (h : ∀ w', Row e k w' g (ys.take n ++ xs.drop n) → Below B w0 w' → wpList P ops Q rest (a.put o.dst (goInt n)) w') : wpList P ops Q (o :: rest) a w := by
  have hl := hy.len
  have hsz : (P.info? e).map (·.size) = some 1 := by
    obtain ⟨i, hi, _, hz, _⟩ := info_parts h2
    rw [hi]; simp [hz]
  have hcl : ((ys.take n).map (Value.int k)).length = n := by simp; omega
  refine wpList_copy_splice hgd d s dT sT ho e hu hsz _ ao dl dc sl sc hd hs g 0 (xs.map (Value.int k)) e hr ((ys.take n).map (Value.int k)) (by rw [hcl]; exact hn) ?_ (by rw [hcl]; simp; omega) (ints_oneCell _ _) B w0 hb hB ?_
  · intro h0
    rw [hcl] at h0
    obtain ⟨b, off, rfl, hlt, hc⟩ := hy.at (by omega)
    refine ⟨rfl, _, rfl, fun j v hj => ?_⟩
    simp only [List.getElem?_map, List.getElem?_take] at hj
    split at hj
    · have := hc j (by omega)
      rw [List.getElem?_eq_getElem (by omega)] at hj
      simp only [Option.map_some, Option.some.injEq] at hj
      rw [add_none, this, ← hj]
      simp [List.getD, List.getElem?_eq_getElem (show j < ys.length by omega)]
    · simp at hj
  · intro w' hg hb'
    rw [hcl]
    refine h w' ?_ hb'
    unfold Row
    rw [hg.out]
    congr 2
    simp only [splice, List.take_zero, List.nil_append, Nat.zero_add, hcl]
    simp

/-! ### The number that the lowest digits say -/
def low (B : Int) (xs : List Int) (i : Nat) : Int := val B (xs.take i)
theorem low_zero (B : Int) (xs : List Int) : low B xs 0 = 0 := by simp [low, val]
theorem low_succ (B : Int) (xs : List Int) (i : Nat) : low B xs (i + 1) = low B xs i + B ^ i * xs.getD i 0 := by
  unfold low
  by_cases h : i < xs.length
  · rw [take_succ_getD xs i h, val_append]
    have : (xs.take i).length = i := by simp; omega
    rw [this]; simp [val]
  · rw [List.take_of_length_le (by omega), List.take_of_length_le (by omega)]
    have : xs.getD i 0 = 0 := by simp [List.getD, List.getElem?_eq_none (show xs.length ≤ i by omega)]
    rw [this]; simp
theorem low_all (B : Int) (xs : List Int) (m : Nat) (h : top xs ≤ m) : low B xs m = val B xs := by
  unfold low
  rw [← val_take_top B xs]
  have e : xs.take m = xs.take (top xs) ++ (xs.drop (top xs)).take (m - top xs) := by
    conv => lhs; rw [show m = top xs + (m - top xs) by omega]
    rw [List.take_add]
  rw [e, val_append, val_zeros B ((xs.drop (top xs)).take (m - top xs)) ?_]
  · simp
  · intro j
    have := top_above xs (top xs + j) (by omega)
    simp only [List.getD, List.getElem?_take, List.getElem?_drop] at this ⊢
    split
    · exact this
    · rfl
theorem low_len (B : Int) (xs : List Int) : low B xs xs.length = val B xs := by unfold low; rw [List.take_of_length_le (Nat.le_refl _)]
theorem low_set (B : Int) (xs : List Int) (i j : Nat) (y : Int) (h : i ≤ j) : low B (xs.set j y) i = low B xs i := by
  unfold low
  rw [List.take_set_of_le h]
theorem low_set_succ (B : Int) (xs : List Int) (i : Nat) (y : Int) (h : i < xs.length) : low B (xs.set i y) (i + 1) = low B xs i + B ^ i * y := by
  rw [low_succ, low_set B xs i i y (Nat.le_refl _), getD_set _ _ _ _ h, if_pos rfl]

theorem row_alloc (w : World) (e : TypeId) (k : IntKind) (n : Int) : Row e k (w.alloc (.cells #[.int k n] e)) w.heap.size [n] := by
  unfold Row
  rw [heap_alloc_new w]; rfl

/-- What stands in the row when i limbs have been added. -/
def Adds (xs ys : List Int) (m i : Nat) (cur : List Int) (c : Int) : Prop :=
  cur.length = m + 1 ∧ Dg B64 cur ∧ 0 ≤ c ∧ c ≤ 1 ∧ low B64 cur i + B64 ^ i * c = low B64 xs i + low B64 ys i
theorem Adds.zero (xs ys : List Int) (m : Nat) : Adds xs ys m 0 (List.replicate (m + 1) 0) 0 :=
  ⟨by simp, Dg.zeros B64_pos _, by decide, by decide, by simp [low_zero]⟩
theorem Adds.step {xs ys : List Int} {m i : Nat} {cur : List Int} {c : Int} (h : Adds xs ys m i cur c) (hi : i < m + 1) {ne c' : Int} (hn : 0 ≤ ne ∧ ne < B64) (hc : 0 ≤ c' ∧ c' ≤ 1)
    (he : ne + B64 * c' = xs.getD i 0 + ys.getD i 0 + c) : Adds xs ys m (i + 1) (cur.set i ne) c' := by
  obtain ⟨h1, h2, h3, h4, h5⟩ := h
  refine ⟨by simp [h1], h2.set _ hn, hc.1, hc.2, ?_⟩
  rw [low_set_succ _ _ _ _ (by omega), low_succ, low_succ, Int.pow_succ]
  generalize low B64 cur i = A at *
  generalize low B64 xs i = X at *
  generalize low B64 ys i = Y at *
  generalize B64 ^ i = p at *
  generalize B64 = b at *
  grind
theorem Adds.done {xs ys : List Int} {m : Nat} {cur : List Int} {c : Int} (h : Adds xs ys m m cur c) (hx : top xs ≤ m) (hy : top ys ≤ m) : Dg B64 (cur.set m c) ∧ (cur.set m c).length = m + 1 ∧ val B64 (cur.set m c) = val B64 xs + val B64 ys := by
  obtain ⟨h1, h2, h3, h4, h5⟩ := h
  refine ⟨h2.set _ ⟨h3, by unfold B64; omega⟩, by simp [h1], ?_⟩
  have : (cur.set m c).length = m + 1 := by simp [h1]
  rw [← low_len, this, low_set_succ _ _ _ _ (by omega), h5, low_all _ _ _ hx, low_all _ _ _ hy]

end Go.Proofs.YtnckmcmobkpdcaaDoor
/-
  Contracts of nat.Sub, Mul.
-/
namespace Go.Proofs.YtnckmcmobkpdcaaDoor
open Go.RowKit
set_option linter.unusedVariables false
set_option linter.unusedSimpArgs false
attribute [local go_sem ↓] Go.wp_at_zero Go.wp_at_succ

/-- What stands in the row when i limbs have been taken away. -/
def Subs (xs ys : List Int) (m i : Nat) (cur : List Int) (c : Int) : Prop :=
  cur.length = m ∧ Dg B64 cur ∧ 0 ≤ c ∧ c ≤ 1 ∧ low B64 cur i - B64 ^ i * c = low B64 xs i - low B64 ys i
theorem Subs.zero (xs ys : List Int) (m : Nat) : Subs xs ys m 0 (List.replicate m 0) 0 :=
  ⟨by simp, Dg.zeros B64_pos _, by decide, by decide, by simp [low_zero]⟩
theorem Subs.step {xs ys : List Int} {m i : Nat} {cur : List Int} {c : Int} (h : Subs xs ys m i cur c) (hi : i < m) {ne c' : Int} (hn : 0 ≤ ne ∧ ne < B64) (hc : 0 ≤ c' ∧ c' ≤ 1)
    (he : ne - B64 * c' = xs.getD i 0 - ys.getD i 0 - c) : Subs xs ys m (i + 1) (cur.set i ne) c' := by
  obtain ⟨h1, h2, h3, h4, h5⟩ := h
  refine ⟨by simp [h1], h2.set _ hn, hc.1, hc.2, ?_⟩
  rw [low_set_succ _ _ _ _ (by omega), low_succ, low_succ, Int.pow_succ]
  generalize low B64 cur i = A at *
  generalize low B64 xs i = X at *
  generalize low B64 ys i = Y at *
  generalize B64 ^ i = p at *
  generalize B64 = b at *
  grind
theorem Subs.done {xs ys : List Int} {m : Nat} {cur : List Int} {c : Int} (h : Subs xs ys m m cur c) (hx : top xs ≤ m) (hy : top ys ≤ m) (hle : val B64 ys ≤ val B64 xs) : val B64 cur = val B64 xs - val B64 ys := by
  obtain ⟨h1, h2, h3, h4, h5⟩ := h
  rw [low_all _ _ _ hx, low_all _ _ _ hy] at h5
  have e : low B64 cur m = val B64 cur := by rw [← h1, low_len]
  rw [e] at h5
  have hlt := val_lt B64_pos h2
  rw [h1] at hlt
  have : c = 0 ∨ c = 1 := by omega
  rcases this with rfl | rfl
  · omega
  · rw [Int.mul_one] at h5; omega

end Go.Proofs.YtnckmcmobkpdcaaDoor
/-
  Contract of nat.Mul.
-/
namespace Go.Proofs.YtnckmcmobkpdcaaDoor
open Go.RowKit
set_option linter.unusedVariables false
set_option linter.unusedSimpArgs false
attribute [local go_sem ↓] Go.wp_at_zero Go.wp_at_succ

theorem low_congr (B : Int) (xs ys : List Int) : ∀ (i : Nat), (∀ j, j < i → xs.getD j 0 = ys.getD j 0) → low B xs i = low B ys i
  | 0, _ => by simp [low_zero]
  | i + 1, h => by rw [low_succ, low_succ, low_congr B xs ys i (fun j hj => h j (by omega)), h i (by omega)]
theorem low_add (B : Int) (xs : List Int) (o : Nat) : ∀ (i : Nat), o + i ≤ xs.length → low B xs (o + i) = low B xs o + B ^ o * val B (seg xs o i)
  | 0, _ => by simp [seg, val]
  | i + 1, h => by
    rw [show o + (i + 1) = (o + i) + 1 by omega, low_succ, low_add B xs o i (by omega), seg_succ xs o i (by omega), val_append, seg_len xs o i (by omega)]
    simp only [val, Int.mul_zero, Int.add_zero, Int.pow_add]
    grind

/-- What stands in the row when i limbs of x have been gone over. -/
def Muls (xs ys : List Int) (i : Nat) (cur : List Int) : Prop :=
  cur.length = xs.length + ys.length ∧ Dg B64 cur ∧ (∀ j, i + ys.length ≤ j → cur.getD j 0 = 0) ∧ low B64 cur (i + ys.length) = low B64 xs i * val B64 ys
theorem getD_zeros (n j : Nat) : (List.replicate n (0 : Int)).getD j 0 = 0 := by
  simp [List.getD, List.getElem?_replicate]; split <;> rfl
theorem low_zeros (B : Int) (n i : Nat) : low B (List.replicate n 0) i = 0 := by
  unfold low
  exact val_zeros B _ (fun j => by
    simp only [List.getD, List.getElem?_take]
    split
    · exact getD_zeros n j
    · rfl)
theorem Muls.zero (xs ys : List Int) : Muls xs ys 0 (List.replicate (xs.length + ys.length) 0) :=
  ⟨by simp, Dg.zeros B64_pos _, fun j _ => getD_zeros _ j, by rw [low_zeros, low_zero, Int.zero_mul]⟩
theorem Muls.step {xs ys : List Int} {i : Nat} {cur cur' : List Int} {c : Int} (h : Muls xs ys i cur) (hi : i < xs.length) (hr : Runs 1 cur ys i ys.length (xs.getD i 0) cur' c) : Muls xs ys (i + 1) (cur'.set (i + ys.length) c) := by
  obtain ⟨h1, h2, h3, h4⟩ := h
  obtain ⟨r1, r2, r3, r4, r5, r6⟩ := hr
  refine ⟨by simp [r1, h1], r3.set _ ⟨r4, r5⟩, fun j hj => ?_, ?_⟩
  · rw [getD_set _ _ _ _ (by omega), if_neg (by omega), r2 j (by omega)]
    exact h3 j (by omega)
  · rw [show i + 1 + ys.length = (i + ys.length) + 1 by omega, low_set_succ _ _ _ _ (by omega), low_add _ _ _ _ (by omega)]
    rw [low_congr B64 cur' cur i (fun j hj => r2 j (by omega))]
    rw [low_add _ _ _ _ (by omega)] at h4
    rw [low_succ, Int.pow_add]
    rw [List.take_of_length_le (Nat.le_refl _)] at r6
    generalize val B64 (seg cur' i ys.length) = A at *
    generalize val B64 (seg cur i ys.length) = C at *
    generalize low B64 cur i = L at *
    generalize low B64 xs i = X at *
    generalize B64 ^ i = p at *
    generalize B64 ^ ys.length = q at *
    generalize val B64 ys = Y at *
    generalize xs.getD i 0 = t at *
    have e : L + p * A + p * q * c = L + p * (A + 1 * (q * c)) := by grind
    rw [e, r6]
    grind
theorem Muls.done {xs ys : List Int} {cur : List Int} (h : Muls xs ys xs.length cur) : val B64 cur = val B64 xs * val B64 ys := by
  rw [← low_len, h.1, h.2.2.2, low_len]

end Go.Proofs.YtnckmcmobkpdcaaDoor
/-
  Contracts of nat.double, halve, Shift.
-/
namespace Go.Proofs.YtnckmcmobkpdcaaDoor
open Go.RowKit
set_option linter.unusedVariables false
set_option linter.unusedSimpArgs false
attribute [local go_sem ↓] Go.wp_at_zero Go.wp_at_succ

/-- A limb in two parts. -/
theorem parts (x p s : Int) (hp : 0 < p) (hs : 0 < s) (hps : p * s = 18446744073709551616) (hx : 0 ≤ x ∧ x < 18446744073709551616) :
    (x * p) % 18446744073709551616 = (x % s) * p ∧ 0 ≤ x / s ∧ x / s < p ∧ (x % s) * p + 18446744073709551616 * (x / s) = x * p ∧ 0 ≤ (x % s) * p ∧ (x % s) * p + p ≤ 18446744073709551616 := by
  have h1 := Int.emod_nonneg x (show s ≠ 0 by omega)
  have h2 := Int.emod_lt_of_pos x hs
  have h3 := Int.mul_ediv_add_emod x s
  have h4 : 0 ≤ x / s := Int.ediv_nonneg hx.1 (by omega)
  have h5 : x / s < p := by
    apply Int.ediv_lt_of_lt_mul hs
    rw [hps]; exact hx.2
  have h6 : (x % s) * p + 18446744073709551616 * (x / s) = x * p := by
    rw [← hps]
    conv => rhs; rw [← h3]
    grind
  have h7 : 0 ≤ (x % s) * p := Int.mul_nonneg h1 (by omega)
  have h8 : (x % s) * p + p ≤ 18446744073709551616 := by
    have : (x % s + 1) * p ≤ s * p := Int.mul_le_mul_of_nonneg_right (by omega) (by omega)
    rw [Int.add_mul, Int.one_mul, Int.mul_comm s p, hps] at this
    exact this
  refine ⟨?_, h4, h5, h6, h7, h8⟩
  rw [← h6, Int.add_mul_emod_self_left]
  exact Int.emod_eq_of_lt h7 (by omega)
/-- Or of parts that don't meet is the sum. -/
theorem or_sum (y : Int) (m r : Nat) (hy : 0 ≤ y ∧ y < 2 ^ r) (hm : (m : Int) * 2 ^ r + 2 ^ r ≤ 18446744073709551616) : bits .or .u64 y ((m : Int) * 2 ^ r) = y + (m : Int) * 2 ^ r := by
  obtain ⟨y, rfl⟩ := Int.eq_ofNat_of_zero_le hy.1
  have hp : ((2 ^ r : Nat) : Int) = (2 : Int) ^ r := by simp
  rw [← hp] at hy hm ⊢
  rw [← Int.natCast_mul] at hm ⊢
  have hy2 : y < 2 ^ r := by omega
  have := bits_or_u64_nat y (m * 2 ^ r) (by omega) (by omega)
  rw [this]
  have e := Nat.two_pow_add_eq_or_of_lt hy2 m
  rw [Nat.mul_comm m (2 ^ r), Nat.or_comm, ← e]
  omega
theorem or_sum' (y z : Int) (m r : Nat) (hz : z = (m : Int) * 2 ^ r) (hy : 0 ≤ y ∧ y < 2 ^ r) (hm : z + 2 ^ r ≤ 18446744073709551616) : bits .or .u64 y z = y + z := by
  subst hz; exact or_sum y m r hy hm
theorem pow64 (r : Nat) (hr : r ≤ 64) : (2 : Int) ^ r * 2 ^ (64 - r) = 18446744073709551616 := by
  rw [← Int.pow_add, show r + (64 - r) = 64 by omega]; rfl

/-- What stands in the row when i limbs have been gone over. -/
def Dbls (xs : List Int) (n q r i : Nat) (cur : List Int) : Prop :=
  cur.length = n ∧ Dg B64 cur ∧ (∀ j, q + i < j → cur.getD j 0 = 0) ∧ cur.getD (q + i) 0 < 2 ^ r ∧ low B64 cur (q + i + 1) = B64 ^ q * (low B64 xs i * 2 ^ r)
theorem Dbls.zero (xs : List Int) (n q r : Nat) : Dbls xs n q r 0 (List.replicate n 0) :=
  ⟨by simp, Dg.zeros B64_pos _, fun j _ => getD_zeros _ j, by rw [getD_zeros]; exact Int.pow_pos (by decide), by rw [low_zeros, low_zero]; simp⟩
theorem Dbls.step {xs : List Int} {n q r i : Nat} {cur : List Int} (h : Dbls xs n q r i cur) (hr : r < 64) (hn : q + i + 1 < n) (hx : 0 ≤ xs.getD i 0 ∧ xs.getD i 0 < 18446744073709551616) :
    Dbls xs n q r (i + 1) ((cur.set (q + i) (bits .or .u64 (cur.getD (q + i) 0) (IntKind.u64.wrap (xs.getD i 0 * 2 ^ r)))).set (q + i + 1) (xs.getD i 0 / 2 ^ (64 - r))) := by
  obtain ⟨h1, h2, h3, h4, h5⟩ := h
  have hp : (0 : Int) < 2 ^ r := Int.pow_pos (by decide)
  have hs : (0 : Int) < 2 ^ (64 - r) := Int.pow_pos (by decide)
  obtain ⟨a1, a2, a3, a4, a5, a6⟩ := parts (xs.getD i 0) (2 ^ r) (2 ^ (64 - r)) hp hs (pow64 r (by omega)) hx
  have hy := h2.getD B64_pos (q + i)
  obtain ⟨m, hm⟩ := Int.eq_ofNat_of_zero_le (Int.emod_nonneg (xs.getD i 0) (show (2 : Int) ^ (64 - r) ≠ 0 by omega))
  rw [IntKind.wrap_u64, a1, or_sum' (cur.getD (q + i) 0) _ m r (by rw [hm]) ⟨hy.1, h4⟩ a6]
  have hpb : (2 : Int) ^ r ≤ 18446744073709551616 := by omega
  refine ⟨by simp [h1], (h2.set _ ⟨by omega, by unfold B64; omega⟩).set _ ⟨a2, by unfold B64; omega⟩, fun j hj => ?_, ?_, ?_⟩
  · rw [getD_set _ _ _ _ (by simp; omega), if_neg (by omega), getD_set _ _ _ _ (by omega), if_neg (by omega)]
    exact h3 j (by omega)
  · rw [show q + (i + 1) = q + i + 1 by omega, getD_set _ _ _ _ (by simp; omega), if_pos rfl]
    exact a3
  · rw [show q + (i + 1) + 1 = (q + i + 1) + 1 by omega, low_set_succ _ _ _ _ (by simp; omega), low_set_succ _ _ _ _ (by omega)]
    rw [low_succ] at h5
    rw [low_succ B64 xs, Int.pow_succ, Int.pow_add]
    rw [Int.pow_add] at h5
    generalize xs.getD i 0 % 2 ^ (64 - r) * 2 ^ r = u at *
    generalize xs.getD i 0 / 2 ^ (64 - r) = v at *
    generalize cur.getD (q + i) 0 = y at *
    generalize low B64 cur (q + i) = L at *
    generalize low B64 xs i = X at *
    generalize xs.getD i 0 = x at *
    generalize (2 : Int) ^ r = p at *
    have e : B64 = 18446744073709551616 := rfl
    rw [← e] at a4
    generalize B64 ^ q = Q at *
    generalize B64 ^ i = I at *
    generalize B64 = b at *
    have : L + Q * I * (y + u) + Q * I * b * v = (L + Q * I * y) + Q * I * (u + b * v) := by grind
    rw [this, h5, a4]
    grind
theorem Dbls.done {xs : List Int} {n q r : Nat} {cur : List Int} (h : Dbls xs n q r xs.length cur) (hn : n = q + xs.length + 1) : val B64 cur = val B64 xs * 2 ^ (64 * q + r) := by
  rw [← low_len, h.1, hn, h.2.2.2.2, low_len, Int.pow_add, Int.pow_mul]
  have e : B64 = 2 ^ 64 := rfl
  rw [e]
  generalize val (2 ^ 64) xs = V
  generalize ((2 : Int) ^ 64) ^ q = Q
  generalize (2 : Int) ^ r = R
  grind

/-! ### halve -/
theorem getD_drop (xs : List Int) (q j : Nat) : (xs.drop q).getD j 0 = xs.getD (q + j) 0 := by simp [List.getD, List.getElem?_drop]
/-- What stands in the row when i limbs have been gone over. -/
def Hlvs (ds : List Int) (n r i : Nat) (cur : List Int) : Prop :=
  cur.length = n ∧ Dg B64 cur ∧ 2 ^ r * low B64 cur i + ds.getD 0 0 % 2 ^ r = low B64 ds i + B64 ^ i * (ds.getD i 0 % 2 ^ r)
theorem Hlvs.zero (ds : List Int) (n r : Nat) : Hlvs ds n r 0 (List.replicate n 0) :=
  ⟨by simp, Dg.zeros B64_pos _, by rw [low_zeros, low_zero]; simp⟩
theorem Hlvs.step {ds : List Int} {n r i : Nat} {cur : List Int} (h : Hlvs ds n r i cur) (hr : r < 64) (hn : i < n) (hx : 0 ≤ ds.getD i 0 ∧ ds.getD i 0 < 18446744073709551616) (hy : 0 ≤ ds.getD (i + 1) 0 ∧ ds.getD (i + 1) 0 < 18446744073709551616) :
    Hlvs ds n r (i + 1) (cur.set i (bits .or .u64 (ds.getD i 0 / 2 ^ r) (IntKind.u64.wrap (ds.getD (i + 1) 0 * 2 ^ (64 - r))))) := by
  obtain ⟨h1, h2, h3⟩ := h
  have hp : (0 : Int) < 2 ^ r := Int.pow_pos (by decide)
  have hs : (0 : Int) < 2 ^ (64 - r) := Int.pow_pos (by decide)
  have hps := pow64 r (by omega)
  obtain ⟨a1, a2, a3, a4, a5, a6⟩ := parts (ds.getD (i + 1) 0) (2 ^ (64 - r)) (2 ^ r) hs hp (by rw [Int.mul_comm]; exact hps) hy
  obtain ⟨_, b2, b3, b4, _, _⟩ := parts (ds.getD i 0) (2 ^ (64 - r)) (2 ^ r) hs hp (by rw [Int.mul_comm]; exact hps) hx
  obtain ⟨m, hm⟩ := Int.eq_ofNat_of_zero_le (Int.emod_nonneg (ds.getD (i + 1) 0) (show (2 : Int) ^ r ≠ 0 by omega))
  rw [IntKind.wrap_u64, a1, or_sum' (ds.getD i 0 / 2 ^ r) _ m (64 - r) (by rw [hm]) ⟨b2, b3⟩ a6]
  refine ⟨by simp [h1], h2.set _ ⟨by omega, by unfold B64; omega⟩, ?_⟩
  rw [low_set_succ _ _ _ _ (by omega), low_succ, Int.pow_succ]
  have c := Int.mul_ediv_add_emod (ds.getD i 0) (2 ^ r)
  generalize ds.getD i 0 / 2 ^ r = u at *
  generalize ds.getD i 0 % 2 ^ r = v at *
  generalize ds.getD (i + 1) 0 % 2 ^ r = y at *
  generalize ds.getD 0 0 % 2 ^ r = z at *
  generalize ds.getD i 0 = x at *
  generalize low B64 cur i = L at *
  generalize low B64 ds i = D at *
  have e : B64 = 18446744073709551616 := rfl
  rw [← e] at hps
  generalize (2 : Int) ^ r = p at *
  generalize (2 : Int) ^ (64 - r) = s at *
  generalize B64 ^ i = I at *
  generalize B64 = b at *
  have : p * (L + I * (u + y * s)) + z = (p * L + z) + I * (p * u) + I * (p * s) * y := by grind
  rw [this, h3, hps]
  have : p * u = x - v := by omega
  rw [this]
  grind
theorem Hlvs.done {ds : List Int} {r : Nat} {cur : List Int} (h : Hlvs ds ds.length r ds.length cur) : val B64 cur = val B64 ds / 2 ^ r := by
  obtain ⟨h1, h2, h3⟩ := h
  have hp : (0 : Int) < 2 ^ r := Int.pow_pos (by decide)
  have e0 : ds.getD ds.length 0 = 0 := by simp
  have e1 : low B64 cur ds.length = val B64 cur := by rw [← h1, low_len]
  rw [e0, low_len, e1, Int.zero_emod, Int.mul_zero, Int.add_zero] at h3
  have a := Int.emod_nonneg (ds.getD 0 0) (show (2 : Int) ^ r ≠ 0 by omega)
  have b := Int.emod_lt_of_pos (ds.getD 0 0) hp
  rw [← h3, Int.mul_comm, Int.add_comm, Int.add_mul_ediv_right _ _ (by omega), Int.ediv_eq_zero_of_lt a b]
  omega
theorem val_drop {B : Int} (hB : 0 < B) (xs : List Int) (hd : Dg B xs) (q : Nat) : val B (xs.drop q) = val B xs / B ^ q := by
  by_cases hq : q ≤ xs.length
  · have h := val_append B (xs.take q) (xs.drop q)
    rw [List.take_append_drop] at h
    have hl : (xs.take q).length = q := by simp; omega
    rw [hl] at h
    have a := val_nonneg hB (hd.take q)
    have b := val_lt hB (hd.take q)
    rw [hl] at b
    have hp : 0 < B ^ q := Int.pow_pos hB
    rw [h, Int.mul_comm, Int.add_mul_ediv_right _ _ (by omega), Int.ediv_eq_zero_of_lt a b]
    omega
  · rw [List.drop_eq_nil_of_le (by omega)]
    have a := val_nonneg hB hd
    have b := val_lt hB hd
    have c := pow_mono (B := B) (by omega) (show xs.length ≤ q by omega)
    rw [Int.ediv_eq_zero_of_lt a (by omega)]; rfl
theorem half_val (xs : List Int) (hd : Dg B64 xs) (q r : Nat) : val B64 (xs.drop q) / 2 ^ r = val B64 xs / 2 ^ (64 * q + r) := by
  have hp : (0 : Int) < B64 ^ q := Int.pow_pos B64_pos
  rw [val_drop B64_pos xs hd, Int.pow_add, Int.pow_mul]
  have e : B64 = 2 ^ 64 := rfl
  rw [e] at hp ⊢
  rw [Int.ediv_ediv_of_nonneg (by omega)]

end Go.Proofs.YtnckmcmobkpdcaaDoor
/-
  Contracts of nat.Read and Bytes.
-/
namespace Go.Proofs.YtnckmcmobkpdcaaDoor
open Go.RowKit
set_option linter.unusedVariables false
set_option linter.unusedSimpArgs false
attribute [local go_sem ↓] Go.wp_at_zero Go.wp_at_succ

theorem val_set (B : Int) : ∀ (xs : List Int) (j : Nat) (y : Int), j < xs.length → val B (xs.set j y) = val B xs + B ^ j * (y - xs.getD j 0)
  | [], j, y, h => by simp at h
  | x :: xs, 0, y, _ => by simp [val]; omega
  | x :: xs, j + 1, y, h => by
    simp only [List.set_cons_succ, val, val_set B xs j y (by simpa using h), List.getD_cons_succ, Int.pow_succ]
    grind
theorem getD_reverse (xs : List Int) (k : Nat) (h : k < xs.length) : xs.reverse.getD k 0 = xs.getD (xs.length - 1 - k) 0 := by
  simp only [List.getD]
  rw [List.getElem?_reverse h]
theorem pow256 (k : Nat) : (256 : Int) ^ k = B64 ^ (k / 8) * 256 ^ (k % 8) := by
  have e : B64 = 256 ^ 8 := rfl
  rw [e, ← Int.pow_mul, ← Int.pow_add]
  congr 1
  omega
theorem pow2_8 (r : Nat) : (2 : Int) ^ (8 * r) = 256 ^ r := by
  rw [Int.pow_mul]; rfl
theorem pow256_le (r : Nat) (h : r < 8) : (256 : Int) ^ r * 256 ≤ 18446744073709551616 := by
  have := pow_mono (B := 256) (by decide) (show r + 1 ≤ 8 by omega)
  rw [Int.pow_succ] at this
  exact this

/-- What stands in the row when k bytes have been gone over. -/
def Reads (rb : List Int) (n k : Nat) (cur : List Int) : Prop :=
  cur.length = n ∧ Dg B64 cur ∧ (∀ j, k / 8 < j → cur.getD j 0 = 0) ∧ cur.getD (k / 8) 0 < 256 ^ (k % 8) ∧ val B64 cur = low 256 rb k
theorem Reads.zero (rb : List Int) (n : Nat) : Reads rb n 0 (List.replicate n 0) :=
  ⟨by simp, Dg.zeros B64_pos _, fun j _ => getD_zeros _ j, by rw [getD_zeros]; decide, by rw [val_replicate, low_zero]⟩
theorem Reads.step {rb : List Int} {n k : Nat} {cur : List Int} (h : Reads rb n k cur) (hn : k / 8 < n) (hd : 0 ≤ rb.getD k 0 ∧ rb.getD k 0 < 256) :
    Reads rb n (k + 1) (cur.set (k / 8) (bits .or .u64 (cur.getD (k / 8) 0) (IntKind.u64.wrap (rb.getD k 0 * 2 ^ (8 * (k % 8)))))) := by
  obtain ⟨h1, h2, h3, h4, h5⟩ := h
  have hp : (0 : Int) < 256 ^ (k % 8) := Int.pow_pos (by decide)
  have hle := pow256_le (k % 8) (by omega)
  have hy := h2.getD B64_pos (k / 8)
  obtain ⟨m, hm⟩ := Int.eq_ofNat_of_zero_le hd.1
  have hmul : rb.getD k 0 * 256 ^ (k % 8) + 256 ^ (k % 8) ≤ 18446744073709551616 := by
    have : (rb.getD k 0 + 1) * 256 ^ (k % 8) ≤ 256 * 256 ^ (k % 8) := Int.mul_le_mul_of_nonneg_right (by omega) (by omega)
    rw [Int.add_mul, Int.one_mul] at this
    omega
  have hnn : 0 ≤ rb.getD k 0 * 256 ^ (k % 8) := Int.mul_nonneg hd.1 (by omega)
  rw [IntKind.wrap_u64, pow2_8, Int.emod_eq_of_lt hnn (by omega)]
  rw [or_sum' (cur.getD (k / 8) 0) _ m (8 * (k % 8)) (by rw [pow2_8, hm]) ⟨hy.1, by rw [pow2_8]; exact h4⟩ (by rw [pow2_8]; exact hmul)]
  refine ⟨by simp [h1], h2.set _ ⟨by omega, by unfold B64; omega⟩, fun j hj => ?_, ?_, ?_⟩
  · rw [getD_set _ _ _ _ (by omega), if_neg (by omega)]
    exact h3 j (by omega)
  · rw [getD_set _ _ _ _ (by omega)]
    by_cases h7 : k % 8 = 7
    · rw [if_neg (by omega), h3 _ (by omega), show (k + 1) % 8 = 0 by omega]; decide
    · rw [if_pos (by omega), show (k + 1) % 8 = k % 8 + 1 by omega, Int.pow_succ]
      have : (rb.getD k 0 + 1) * 256 ^ (k % 8) ≤ 256 * 256 ^ (k % 8) := Int.mul_le_mul_of_nonneg_right (by omega) (by omega)
      rw [Int.add_mul, Int.one_mul] at this
      omega
  · rw [val_set _ _ _ _ (by omega), low_succ, pow256 k, h5]
    generalize rb.getD k 0 = d at *
    generalize cur.getD (k / 8) 0 = c at *
    generalize B64 ^ (k / 8) = p at *
    generalize (256 : Int) ^ (k % 8) = q at *
    grind

set_option maxHeartbeats 2000000 in
/-- nat.Read: at most 512 bytes. -/
theorem Read_yes (ao : Option Addr) (n ca : Nat) (bs : List Int) (w : World) (h : NumIn .u8 256 w ao n ca bs) (hn : n ≤ 512) :
    Calls Tryd.prog 27 #[.slice ao n ca] w fun e w' => ∃ v, e = .returned (.tuple #[v, .int .i64 0]) ∧ NumOut .u64 B64 w w' v (val 256 bs.reverse) 64 := by
  have hl := h.len
  go_enter Tryd.func27, Tryd.ntmps27
  go_wp2_with (at_make; refine wpList_make_row _ rfl _ _ 46 rfl 34 .u64 8 Tryd.underlying46 Tryd.infoU _ _ _ _ ((n + 7) / 8) rfl rfl (by omega) (by omega) (by omega) (by unfold maxLen; omega) ?_)
  intro w3 hrow hbel
  go_wp2
  go_loopw [18] (fun i wr => ∃ (k : Nat) (cur : List Int), k ≤ n ∧ i = .int .i64 k ∧ Row 34 .u64 wr w.heap.size cur ∧ Reads bs.reverse ((n + 7) / 8) k cur ∧ Below w.heap.size w wr) (fun i _ => n - (intOf i).toNat)
  case atStart => exact ⟨0, _, Nat.zero_le _, rfl, hrow, Reads.zero _ _, hbel⟩
  case round =>
    obtain ⟨k, cur, hk, rfl, hrw, ha, hb⟩ := hrel
    by_cases hlt : k < n
    · have hx := h.lies.old hb
      obtain ⟨b, off, rfl, hblk, hc⟩ := hx.at (by omega)
      have hlen := ha.1
      have hcell := hc (n - 1 - k) (by omega)
      have hfr := hrw.frozen (k / 8)
      have hcl := hrw.cell (k / 8) (by omega)
      have gx := h.dg.getD (by decide) (n - 1 - k)
      have er := getD_reverse bs k (by omega)
      rw [hl] at er
      have HS : Hid (Reads _ _ _ _) := ha.step (by omega) (by rw [er]; exact gx)
      rw [er] at HS
      have HR : Hid (Row _ _ _ _ _) := hrw.set (k / 8) (bits .or .u64 (cur.getD (k / 8) 0) (IntKind.u64.wrap (bs.getD (n - 1 - k) 0 * 2 ^ (8 * (k % 8)))))
      have HB : Hid (Below w.heap.size w wr) := hb
      generalize bs.getD (n - 1 - k) 0 = x at *
      generalize cur.getD (k / 8) 0 = y at *
      clear hrw hrow hbel hb hx hc h ha hlen er
      go_wp2
      go_region
      all_goals
        go_wp2
        go_roundw
        case rel => exact ⟨k + 1, _, by omega, by go_num, HR.out, HS.out, (HB.out.setCell (Nat.le_refl _) _).drew⟩
        case measure => simp [intOf]; omega
    · obtain rfl : k = n := by omega
      have hlen := ha.1
      have HV : Hid (val B64 cur = val 256 bs.reverse) := by
        unfold Hid
        rw [ha.2.2.2.2]
        have e : bs.reverse.length = k := by simp [hl]
        rw [← e, low_len]
      have HR : Hid (NumIn _ _ _ _ _ _ _) := hrw.num ha.2.1 (by omega)
      have HB : Hid (Below w.heap.size w wr) := hb
      rw [hlen] at HR
      clear ha hb hrw hrow hbel hlen h
      go_wp2_with fail
      refine (trim_any _ _ _ _ _ HR.out.lies HR.out.lc HR.out.cm HR.out.nn).mono ?_
      rintro e w4 ⟨rfl, rfl⟩
      go_wp2
      go_ret2
      exact ⟨_, rfl, HR.out.out HB.out _ HV.out _ (by omega)⟩

set_option maxHeartbeats 400000 in
/-- nat.Read: more bytes. -/
theorem Read_no (ao : Option Addr) (n ca : Nat) (w : World) (hn : 512 < n) (hm : n ≤ maxLen) :
    Calls Tryd.prog 27 #[.slice ao n ca] w fun e w' => e = .returned (.tuple #[.slice none 0 0, .int .i64 3]) ∧ w' = w := by
  go_enter Tryd.func27, Tryd.ntmps27
  go_wp2
  go_ret2
  exact ⟨rfl, rfl⟩

/-! ### Bits and bytes of a number's value -/
theorem digit_at {B : Int} (hB : 0 < B) (xs : List Int) (hd : Dg B xs) (j : Nat) : xs.getD j 0 = val B xs / B ^ j % B := by
  rw [← val_drop hB xs hd j]
  have e : xs.getD j 0 = (xs.drop j).getD 0 0 := by rw [getD_drop]; rfl
  rw [e]
  have hdd := hd.drop j
  cases h : xs.drop j with
  | nil => simp [val]
  | cons d ds =>
    rw [h] at hdd
    simp only [val, List.getD_cons_zero, Int.add_mul_emod_self_left]
    exact (Int.emod_eq_of_lt hdd.head.1 hdd.head.2).symm
/-- The byte of that place. -/
def byteAt (V : Int) (p : Nat) : Int := V / 256 ^ p % 256
theorem byte_of_limb (xs : List Int) (hd : Dg B64 xs) (p : Nat) : xs.getD (p / 8) 0 / 256 ^ (p % 8) % 256 = byteAt (val B64 xs) p := by
  unfold byteAt
  rw [digit_at B64_pos xs hd (p / 8), pow256 p]
  have hp : (0 : Int) < B64 ^ (p / 8) := Int.pow_pos B64_pos
  have hq : (0 : Int) < 256 ^ (p % 8) := Int.pow_pos (by decide)
  rw [← Int.ediv_ediv_of_nonneg (by omega)]
  generalize val B64 xs / B64 ^ (p / 8) = Y
  have e : B64 = 256 ^ (p % 8) * (256 * 256 ^ (7 - p % 8)) := by
    rw [Int.mul_comm 256, ← Int.pow_succ, ← Int.pow_add, show p % 8 + (7 - p % 8 + 1) = 8 by omega]; rfl
  rw [e]
  generalize (256 : Int) ^ (p % 8) = q at *
  generalize (256 : Int) ^ (7 - p % 8) = s at *
  rw [Int.emod_def Y, show Y - q * (256 * s) * (Y / (q * (256 * s))) = Y + q * (-(256 * s * (Y / (q * (256 * s))))) by grind]
  rw [Int.add_mul_ediv_left _ _ (by omega)]
  rw [show Y / q + -(256 * s * (Y / (q * (256 * s)))) = Y / q + 256 * (-(s * (Y / (q * (256 * s))))) by grind, Int.add_mul_emod_self_left]
theorem low_bytes (V : Int) (rb : List Int) : ∀ (k : Nat), (∀ p, p < k → rb.getD p 0 = byteAt V p) → low 256 rb k = V % 256 ^ k
  | 0, _ => by simp [low_zero, Int.emod_one]
  | k + 1, h => by
    have hp : (0 : Int) < 256 ^ k := Int.pow_pos (by decide)
    rw [low_succ, low_bytes V rb k (fun p hp => h p (by omega)), h k (by omega)]
    unfold byteAt
    rw [Int.pow_succ]
    have e1 := Int.mul_ediv_add_emod V (256 ^ k)
    have e2 := Int.mul_ediv_add_emod (V / 256 ^ k) 256
    have a1 := Int.emod_nonneg V (show (256 : Int) ^ k ≠ 0 by omega)
    have a2 := Int.emod_lt_of_pos V hp
    have b1 := Int.emod_nonneg (V / 256 ^ k) (show (256 : Int) ≠ 0 by decide)
    have b2 := Int.emod_lt_of_pos (V / 256 ^ k) (show (0 : Int) < 256 by decide)
    have e3 : V = V % 256 ^ k + 256 ^ k * (V / 256 ^ k % 256) + 256 ^ k * 256 * (V / 256 ^ k / 256) := by
      conv => lhs; rw [← e1, ← e2]
      grind
    conv => rhs; rw [e3]
    rw [Int.add_mul_emod_self_left]
    refine (Int.emod_eq_of_lt ?_ ?_).symm
    · have := Int.mul_nonneg (show (0 : Int) ≤ 256 ^ k by omega) b1
      omega
    · have : 256 ^ k * (V / 256 ^ k % 256) ≤ 256 ^ k * 255 := Int.mul_le_mul_of_nonneg_left (by omega) (by omega)
      omega
theorem lenOf_eq (xs : List Int) (hd : Dg B64 xs) : lenOf xs = blen (val B64 xs).toNat := by
  unfold lenOf
  by_cases h : top xs = 0
  · rw [if_pos h, ← val_take_top, h]
    simp [val, blen]
  · rw [if_neg h]
    obtain ⟨m, hm⟩ : ∃ m, top xs = m + 1 := ⟨top xs - 1, by omega⟩
    have ht := top_hit xs (by omega)
    have hg := hd.getD B64_pos (top xs - 1)
    rw [hm] at ht hg ⊢
    simp only [Nat.add_sub_cancel] at ht hg ⊢
    have hv : val B64 xs = low B64 xs m + B64 ^ m * xs.getD m 0 := by rw [← low_succ, ← hm, low_all _ _ _ (Nat.le_refl _)]
    have l0 : 0 ≤ low B64 xs m := val_nonneg B64_pos (hd.take m)
    have l1 : low B64 xs m < B64 ^ m := by
      have a := val_lt B64_pos (hd.take m)
      have b : (xs.take m).length ≤ m := by simp; omega
      have c := pow_mono (B := B64) (by decide) b
      unfold low; omega
    generalize xs.getD m 0 = d at *
    generalize low B64 xs m = L at *
    obtain ⟨e, he⟩ := Int.eq_ofNat_of_zero_le hg.1
    subst he
    have hne : e ≠ 0 := by intro h0; rw [h0] at ht; exact ht rfl
    have b1 := blen_lt e
    have b2 := blen_ge e hne
    have b3 := blen_pos e hne
    have hB : B64 ^ m = ((2 ^ (64 * m) : Nat) : Int) := by
      rw [Int.natCast_pow, Int.pow_mul]; rfl
    rw [hB] at hv l1
    obtain ⟨L, rfl⟩ := Int.eq_ofNat_of_zero_le l0
    have hn : (val B64 xs).toNat = L + 2 ^ (64 * m) * e := by
      rw [hv, ← Int.natCast_mul, ← Int.natCast_add, Int.toNat_natCast]
    have hL : L < 2 ^ (64 * m) := by omega
    have hp := Nat.two_pow_pos (64 * m)
    obtain ⟨c, hc⟩ : ∃ c, blen e = c + 1 := ⟨blen e - 1, by omega⟩
    rw [hc] at b1 b2
    simp only [Nat.add_sub_cancel] at b2
    have := blen_eq (val B64 xs).toNat (64 * m + c) (by
      rw [hn, Nat.pow_add]
      have := Nat.mul_le_mul_left (2 ^ (64 * m)) b2
      omega) (by
      rw [hn, show 64 * m + c + 1 = 64 * m + (c + 1) by omega, Nat.pow_add]
      have := Nat.mul_le_mul_left (2 ^ (64 * m)) (show e + 1 ≤ 2 ^ (c + 1) by omega)
      rw [Nat.mul_add] at this
      omega)
    rw [Int.toNat_natCast, hc, this]
    omega
theorem lt_of_blen (V : Int) (h0 : 0 ≤ V) (n : Nat) (h : blen V.toNat ≤ 8 * n) : V < 256 ^ n := by
  have a := blen_lt V.toNat
  have b : 2 ^ blen V.toNat ≤ 2 ^ (8 * n) := Nat.pow_le_pow_right (by decide) h
  have e : ((2 ^ (8 * n) : Nat) : Int) = 256 ^ n := by rw [Int.natCast_pow, Int.pow_mul]; rfl
  rw [← e]
  omega


/-- What stands in the row when k bytes have been written, the least last. -/
def Wrts (V : Int) (n k : Nat) (cur : List Int) : Prop :=
  cur.length = n ∧ Dg 256 cur ∧ ∀ p, p < k → cur.getD (n - 1 - p) 0 = byteAt V p
theorem byteAt_range (V : Int) (p : Nat) : 0 ≤ byteAt V p ∧ byteAt V p < 256 := by unfold byteAt; omega
theorem Wrts.zero (V : Int) (n : Nat) : Wrts V n 0 (List.replicate n 0) :=
  ⟨by simp, Dg.zeros (by decide) _, fun p h => by omega⟩
theorem Wrts.step {V : Int} {n k : Nat} {cur : List Int} (h : Wrts V n k cur) (hk : k < n) : Wrts V n (k + 1) (cur.set (n - 1 - k) (byteAt V k)) := by
  obtain ⟨h1, h2, h3⟩ := h
  refine ⟨by simp [h1], h2.set _ (byteAt_range V k), fun p hp => ?_⟩
  rw [getD_set _ _ _ _ (by omega)]
  by_cases e : p = k
  · rw [e, if_pos rfl]
  · rw [if_neg (by omega)]; exact h3 p (by omega)
theorem Wrts.done {V : Int} {n : Nat} {cur : List Int} (h : Wrts V n n cur) (h0 : 0 ≤ V) (hv : V < 256 ^ n) : val 256 cur.reverse = V := by
  obtain ⟨h1, h2, h3⟩ := h
  have e : cur.reverse.length = n := by simp [h1]
  rw [← low_len, e, low_bytes V cur.reverse n (fun p hp => by rw [getD_reverse _ _ (by omega), h1]; exact h3 p hp)]
  exact Int.emod_eq_of_lt h0 hv

/-- An answer of bytes. -/
def BytesOut (w w' : World) (v : Value) (n : Nat) (V : Int) : Prop :=
  ∃ g bs, v = .slice (some ⟨g, 0, none⟩) n n ∧ Row 5 .u8 w' g bs ∧ bs.length = n ∧ Dg 256 bs ∧ val 256 bs.reverse = V ∧ Below w.heap.size w w'

end Go.Proofs.YtnckmcmobkpdcaaDoor
/-
  Contract of math/bits.Div64 where the divisor's greatest bit is set, and of nat.guessLimb there.
-/
namespace Go.Proofs.YtnckmcmobkpdcaaDoor
open Go.RowKit
set_option linter.unusedVariables false
set_option linter.unusedSimpArgs false

/-- A quotient's half, guessed: q y1 + r = H, and q is not below how often y1 2^32 + y0 is in H 2^32 + u. -/
def Gs (H u y1 y0 q r : Int) : Prop := q * y1 + r = H ∧ (H * 4294967296 + u) / (y1 * 4294967296 + y0) ≤ q ∧ 0 ≤ r ∧ 0 ≤ q ∧ q ≤ 4294967297
/-- .. and found. -/
def Fd (H u y1 y0 q : Int) : Prop := q = (H * 4294967296 + u) / (y1 * 4294967296 + y0)

/-- What is known of the halves. -/
structure Hv (H u y1 y0 : Int) : Prop where
  h0 : 0 ≤ H
  h1 : H < y1 * 4294967296 + y0
  u0 : 0 ≤ u
  u1 : u < 4294967296
  a0 : 2147483648 ≤ y1
  a1 : y1 < 4294967296
  b0 : 0 ≤ y0
  b1 : y0 < 4294967296
theorem Hv.qlt {H u y1 y0 : Int} (h : Hv H u y1 y0) : (H * 4294967296 + u) / (y1 * 4294967296 + y0) < 4294967296 := by
  obtain ⟨h0, h1, u0, u1, a0, a1, b0, b1⟩ := h
  apply Int.ediv_lt_of_lt_mul (by omega)
  have : (H + 1) * 4294967296 ≤ (y1 * 4294967296 + y0) * 4294967296 := by omega
  generalize y1 * 4294967296 + y0 = Y at *
  omega
theorem Hv.qge {H u y1 y0 : Int} (h : Hv H u y1 y0) : 0 ≤ (H * 4294967296 + u) / (y1 * 4294967296 + y0) := by
  obtain ⟨h0, h1, u0, u1, a0, a1, b0, b1⟩ := h
  exact Int.ediv_nonneg (by omega) (by omega)
theorem Hv.start {H u y1 y0 : Int} (h : Hv H u y1 y0) : Gs H u y1 y0 (H / y1) (H % y1) ∧ H % y1 < 4294967296 := by
  obtain ⟨h0, h1, u0, u1, a0, a1, b0, b1⟩ := h
  have e := Int.mul_ediv_add_emod H y1
  have r0 := Int.emod_nonneg H (show y1 ≠ 0 by omega)
  have r1 := Int.emod_lt_of_pos H (show 0 < y1 by omega)
  have q0 : 0 ≤ H / y1 := Int.ediv_nonneg h0 (by omega)
  have qle : H / y1 ≤ 4294967297 := by
    have : H / y1 < 4294967298 := by
      apply Int.ediv_lt_of_lt_mul (by omega)
      omega
    omega
  refine ⟨⟨by rw [Int.mul_comm]; exact e, ?_, r0, q0, qle⟩, by omega⟩
  have : (H * 4294967296 + u) / (y1 * 4294967296 + y0) < H / y1 + 1 := by
    apply Int.ediv_lt_of_lt_mul (by omega)
    generalize H / y1 = q at *
    generalize H % y1 = r at *
    have e2 : (q + 1) * (y1 * 4294967296 + y0) = (y1 * q) * 4294967296 + y1 * 4294967296 + q * y0 + y0 := by grind
    have e3 : 0 ≤ q * y0 := Int.mul_nonneg q0 b0
    rw [e2, ← e]
    generalize y1 * q = P at *
    generalize q * y0 = R at *
    omega
  omega
/-- One round: the guess was too great. -/
theorem Gs.step {H u y1 y0 q r : Int} (hv : Hv H u y1 y0) (h : Gs H u y1 y0 q r) (hr : r < 4294967296) (hc : 4294967296 ≤ q ∨ 4294967296 * r + u < q * y0) :
    Gs H u y1 y0 (q - 1) (r + y1) ∧ 1 ≤ q ∧ q - 1 ≤ 4294967296 := by
  have hq := hv.qlt
  have hqg := hv.qge
  obtain ⟨h0, h1, u0, u1, a0, a1, b0, b1⟩ := hv
  obtain ⟨g1, g2, g3, g4, g5⟩ := h
  have key : (H * 4294967296 + u) / (y1 * 4294967296 + y0) ≤ q - 1 := by
    rcases hc with hc | hc
    · omega
    · have : (H * 4294967296 + u) / (y1 * 4294967296 + y0) < q := by
        apply Int.ediv_lt_of_lt_mul (by omega)
        have e2 : q * (y1 * 4294967296 + y0) = (q * y1) * 4294967296 + q * y0 := by grind
        rw [e2, ← g1]
        generalize q * y1 = P at *
        generalize q * y0 = R at *
        omega
      omega
  refine ⟨⟨?_, key, by omega, by omega, by omega⟩, by omega, by omega⟩
  rw [← g1]; grind
/-- The guess is right. -/
theorem Gs.found {H u y1 y0 q r : Int} (hv : Hv H u y1 y0) (h : Gs H u y1 y0 q r) (hc : q * y0 ≤ 4294967296 * r + u) : Fd H u y1 y0 q := by
  obtain ⟨h0, h1, u0, u1, a0, a1, b0, b1⟩ := hv
  obtain ⟨g1, g2, g3, g4, g5⟩ := h
  unfold Fd
  have : q ≤ (H * 4294967296 + u) / (y1 * 4294967296 + y0) := by
    apply (Int.le_ediv_iff_mul_le (by omega)).2
    have e2 : q * (y1 * 4294967296 + y0) = (q * y1) * 4294967296 + q * y0 := by grind
    rw [e2, ← g1]
    generalize q * y1 = P at *
    generalize q * y0 = R at *
    omega
  omega
/-- .. as what is left is a half too great. -/
theorem Gs.over {H u y1 y0 q r : Int} (hv : Hv H u y1 y0) (h : Gs H u y1 y0 q r) (hq : q ≤ 4294967296) (hr : 4294967296 ≤ r) : Fd H u y1 y0 q := by
  refine h.found hv ?_
  obtain ⟨h0, h1, u0, u1, a0, a1, b0, b1⟩ := hv
  obtain ⟨g1, g2, g3, g4, g5⟩ := h
  have : q * y0 ≤ 4294967296 * 4294967295 := Int.mul_le_mul hq (by omega) b0 (by omega)
  omega
theorem Fd.lt {H u y1 y0 q : Int} (hv : Hv H u y1 y0) (h : Fd H u y1 y0 q) : 0 ≤ q ∧ q < 4294967296 := by
  unfold Fd at h
  have := hv.qlt
  have := hv.qge
  omega
/-- What is left, modulo 2^64, is what is left. -/
theorem Fd.rest {H u y1 y0 q : Int} (hv : Hv H u y1 y0) (h : Fd H u y1 y0 q) : (H * 4294967296 + u - q * (y1 * 4294967296 + y0)) % 18446744073709551616 = (H * 4294967296 + u) % (y1 * 4294967296 + y0) := by
  unfold Fd at h
  obtain ⟨h0, h1, u0, u1, a0, a1, b0, b1⟩ := hv
  have e : H * 4294967296 + u - q * (y1 * 4294967296 + y0) = (H * 4294967296 + u) % (y1 * 4294967296 + y0) := by
    rw [Int.emod_def, h, Int.mul_comm (y1 * 4294967296 + y0)]
  rw [e]
  have r0 := Int.emod_nonneg (H * 4294967296 + u) (show y1 * 4294967296 + y0 ≠ 0 by omega)
  have r1 := Int.emod_lt_of_pos (H * 4294967296 + u) (show 0 < y1 * 4294967296 + y0 by omega)
  exact Int.emod_eq_of_lt r0 (by omega)
/-- Both halves. -/
theorem two_halves (hi u1 u0 Y q1 q0 : Int) (hY : 0 < Y) (h1 : q1 = (hi * 4294967296 + u1) / Y) (h0 : q0 = ((hi * 4294967296 + u1) % Y * 4294967296 + u0) / Y) :
    q1 * 4294967296 + q0 = (hi * 18446744073709551616 + (u1 * 4294967296 + u0)) / Y := by
  have e := Int.mul_ediv_add_emod (hi * 4294967296 + u1) Y
  rw [← h1] at e
  generalize (hi * 4294967296 + u1) % Y = R at *
  have e2 : hi * 18446744073709551616 + (u1 * 4294967296 + u0) = (R * 4294967296 + u0) + Y * (q1 * 4294967296) := by
    have : hi * 18446744073709551616 + (u1 * 4294967296 + u0) = (hi * 4294967296 + u1) * 4294967296 + u0 := by omega
    rw [this, ← e]
    grind
  rw [e2, Int.add_mul_ediv_left _ _ (by omega), ← h0]
  omega

theorem wrap_prod (q b : Int) (h0 : 0 ≤ q) (h1 : q < 4294967296) (b0 : 0 ≤ b) (b1 : b < 4294967296) : IntKind.u64.wrap (q * b) = q * b := by
  rw [IntKind.wrap_u64]
  have a : 0 ≤ q * b := Int.mul_nonneg h0 b0
  have c : q * b ≤ 4294967295 * 4294967295 := Int.mul_le_mul (by omega) (by omega) b0 (by omega)
  exact Int.emod_eq_of_lt a (by omega)
theorem wrap_quot (R a : Int) (h0 : 0 ≤ R / a) (h1 : R / a ≤ 4294967297) : IntKind.u64.wrap (R / a) = R / a := by
  rw [IntKind.wrap_u64]
  exact Int.emod_eq_of_lt h0 (by omega)
theorem wrap_back (R a : Int) {u b : Int} (h0 : 0 ≤ R) (hv : Hv R u a b) : IntKind.u64.wrap (R / a * a) = R - R % a := by
  have e := Int.mul_ediv_add_emod R a
  have r0 := Int.emod_nonneg R (show a ≠ 0 by have := hv.a0; omega)
  have x := hv.h1
  have y := hv.a1
  have z := hv.b1
  rw [IntKind.wrap_u64, Int.mul_comm, show a * (R / a) = R - R % a by omega]
  have q0 : 0 ≤ a * (R / a) := Int.mul_nonneg (by have := hv.a0; omega) (Int.ediv_nonneg h0 (by have := hv.a0; omega))
  exact Int.emod_eq_of_lt (by omega) (by omega)
theorem back_nonneg (R a : Int) (h0 : 0 ≤ R) (ha : 0 < a) : 0 ≤ R - R % a := by
  have e := Int.mul_ediv_add_emod R a
  have : 0 ≤ a * (R / a) := Int.mul_nonneg (by omega) (Int.ediv_nonneg h0 (by omega))
  omega
theorem wrap_chain (hi u1 q y : Int) : IntKind.u64.wrap (IntKind.u64.wrap (IntKind.u64.wrap (hi * 4294967296) + u1) - IntKind.u64.wrap (q * y)) = (hi * 4294967296 + u1 - q * y) % 18446744073709551616 := by
  simp only [IntKind.wrap_u64]
  generalize q * y = Z
  omega

end Go.Proofs.YtnckmcmobkpdcaaDoor
/-
  Contract of nat.guessLimb.
-/
namespace Go.Proofs.YtnckmcmobkpdcaaDoor
open Go.RowKit
set_option linter.unusedVariables false
set_option linter.unusedSimpArgs false
/-- A guess. -/
def gss (hi lo y : Int) : Int := if y ≤ hi then 18446744073709551615 else (hi * 18446744073709551616 + lo) / y

end Go.Proofs.YtnckmcmobkpdcaaDoor
/-
  Contract of nat.divLimb: how often the divisor is in what is left, and what is left of it then, in its place.
-/
namespace Go.Proofs.YtnckmcmobkpdcaaDoor
open Go.RowKit
set_option linter.unusedVariables false
set_option linter.unusedSimpArgs false
attribute [local go_sem ↓] Go.wp_at_zero Go.wp_at_succ

/-- The guess by the greatest limbs is not too small, and at most 2 too great. -/
theorem guess_bounds (P ll ld xn x v L D : Int) (hP : 0 < P) (hl : 0 ≤ ll ∧ ll < P) (hd : 0 ≤ ld ∧ ld < P) (hx : 0 ≤ x ∧ x < 18446744073709551616) (hxn : 0 ≤ xn) (hv : 9223372036854775808 ≤ v ∧ v < 18446744073709551616)
    (eL : L = ll + P * (xn * 18446744073709551616 + x)) (eD : D = ld + P * v) (hlt : L < 18446744073709551616 * D) :
    L / D ≤ gss xn x v ∧ gss xn x v ≤ L / D + 2 ∧ 0 ≤ gss xn x v ∧ gss xn x v < 18446744073709551616 := by
  have hPv : 0 < P * v := Int.mul_pos hP (by omega)
  have hD : 0 < D := by omega
  have hS : 0 ≤ xn * 18446744073709551616 + x := by omega
  have hL0 : 0 ≤ L := by
    have := Int.mul_nonneg (show 0 ≤ P by omega) hS
    omega
  have hq : L / D < 18446744073709551616 := Int.ediv_lt_of_lt_mul hD hlt
  have hq0 : 0 ≤ L / D := Int.ediv_nonneg hL0 (by omega)
  have hG : 0 ≤ gss xn x v ∧ gss xn x v ≤ 18446744073709551615 ∧ gss xn x v * v ≤ xn * 18446744073709551616 + x := by
    unfold gss
    split
    · rename_i h
      exact ⟨by omega, by omega, by omega⟩
    · rename_i h
      refine ⟨Int.ediv_nonneg hS (by omega), ?_, Int.ediv_mul_le _ (by omega)⟩
      have : (xn * 18446744073709551616 + x) / v < 18446744073709551616 := Int.ediv_lt_of_lt_mul (by omega) (by omega)
      omega
  refine ⟨?_, ?_, hG.1, by omega⟩
  · unfold gss
    split
    · omega
    · apply (Int.le_ediv_iff_mul_le (by omega)).2
      have h1 : L / D * D ≤ L := Int.ediv_mul_le L (by omega)
      have h2 : L / D * (P * v) ≤ L / D * D := Int.mul_le_mul_of_nonneg_left (by omega) hq0
      have h3 : P * (L / D * v) < P * (xn * 18446744073709551616 + x + 1) := by
        have : P * (L / D * v) = L / D * (P * v) := by grind
        rw [this, Int.mul_add]; omega
      have := Int.lt_of_mul_lt_mul_left h3 (by omega)
      omega
  · generalize gss xn x v = G at *
    have h1 : G * ld ≤ 18446744073709551615 * P := Int.mul_le_mul hG.2.1 (by omega) hd.1 (by omega)
    have h2 : P * (G * v) ≤ P * (xn * 18446744073709551616 + x) := Int.mul_le_mul_of_nonneg_left hG.2.2 (by omega)
    have h3 : P * 18446744073709551616 ≤ P * (2 * v) := Int.mul_le_mul_of_nonneg_left (by omega) (by omega)
    have h4 : G * D = G * ld + P * (G * v) := by rw [eD]; grind
    have h5 : P * (2 * v) = 2 * (P * v) := by grind
    have h6 : (G - 2) * D ≤ L := by
      rw [Int.sub_mul, h4]
      omega
    have := (Int.le_ediv_iff_mul_le hD).2 h6
    omega

/-- What stands in the row: G divisors have been taken away; t is the limb above, were it not cut. -/
def Dls (xs : List Int) (L D : Int) (o n : Nat) (cur : List Int) (G t : Int) : Prop :=
  cur.length = xs.length ∧ (∀ j, j < o ∨ o + n < j → cur.getD j 0 = xs.getD j 0) ∧ Dg B64 cur ∧ cur.getD (o + n) 0 = t % 18446744073709551616 ∧
    val B64 (seg cur o n) + B64 ^ n * t = L - G * D ∧ L / D ≤ G ∧ G ≤ L / D + 2
theorem Dls.range {xs : List Int} {L D : Int} {o n : Nat} {cur : List Int} {G t : Int} (h : Dls xs L D o n cur G t) (hD0 : 0 < D) (hD : D < B64 ^ n) (hL : 0 ≤ L) (ho : o + n < xs.length) : -2 ≤ t ∧ t ≤ 0 := by
  obtain ⟨h1, h2, h3, h4, h5, h6, h7⟩ := h
  have hs : Dg B64 (seg cur o n) := (h3.drop o).take n
  have v0 := val_nonneg B64_pos hs
  have v1 := val_lt B64_pos hs
  rw [seg_len cur o n (by omega)] at v1
  have e := Int.mul_ediv_add_emod L D
  have r0 := Int.emod_nonneg L (show D ≠ 0 by omega)
  have r1 := Int.emod_lt_of_pos L hD0
  have m1 : D * (L / D) ≤ D * G := Int.mul_le_mul_of_nonneg_left h6 (by omega)
  have m2 : D * G ≤ D * (L / D + 2) := Int.mul_le_mul_of_nonneg_left h7 (by omega)
  rw [Int.mul_add] at m2
  rw [Int.mul_comm G D] at h5
  have hp : 0 < B64 ^ n := Int.pow_pos B64_pos
  generalize B64 ^ n = p at *
  generalize val B64 (seg cur o n) = V at *
  generalize D * (L / D) = Q at *
  generalize D * G = W at *
  constructor
  · have : p * (-3) < p * t := by omega
    have := Int.lt_of_mul_lt_mul_left this (by omega)
    omega
  · have : p * t < p * 1 := by omega
    have := Int.lt_of_mul_lt_mul_left this (by omega)
    omega
/-- No limb above: done. -/
theorem Dls.done {xs : List Int} {L D : Int} {o n : Nat} {cur : List Int} {G t : Int} (h : Dls xs L D o n cur G t) (hD0 : 0 < D) (hD : D < B64 ^ n) (hL : 0 ≤ L) (ho : o + n < xs.length) (hz : cur.getD (o + n) 0 = 0) :
    G = L / D ∧ val B64 (seg cur o (n + 1)) = L % D := by
  have ht := h.range hD0 hD hL ho
  obtain ⟨h1, h2, h3, h4, h5, h6, h7⟩ := h
  have t0 : t = 0 := by omega
  have hs : Dg B64 (seg cur o n) := (h3.drop o).take n
  have v0 := val_nonneg B64_pos hs
  rw [t0, Int.mul_zero, Int.add_zero] at h5
  have : G ≤ L / D := (Int.le_ediv_iff_mul_le hD0).2 (by omega)
  have hG : G = L / D := by omega
  refine ⟨hG, ?_⟩
  rw [seg_succ _ _ _ (by omega), val_append, hz]
  simp only [val, Int.mul_zero, Int.add_zero]
  rw [h5, hG, Int.emod_def, Int.mul_comm]
/-- A limb above: the guess was too great. -/
theorem Dls.more {xs : List Int} {L D : Int} {o n : Nat} {cur : List Int} {G t : Int} (h : Dls xs L D o n cur G t) (hD0 : 0 < D) (hD : D < B64 ^ n) (hL : 0 ≤ L) (ho : o + n < xs.length) (hz : cur.getD (o + n) 0 ≠ 0) : L / D < G := by
  obtain ⟨h1, h2, h3, h4, h5, h6, h7⟩ := h
  by_cases hG : G = L / D
  · exfalso
    have hs : Dg B64 (seg cur o n) := (h3.drop o).take n
    have v0 := val_nonneg B64_pos hs
    have v1 := val_lt B64_pos hs
    rw [seg_len cur o n (by omega)] at v1
    have e := Int.mul_ediv_add_emod L D
    have r0 := Int.emod_nonneg L (show D ≠ 0 by omega)
    have r1 := Int.emod_lt_of_pos L hD0
    rw [hG, Int.mul_comm (L / D) D] at h5
    have hp : 0 < B64 ^ n := Int.pow_pos B64_pos
    generalize B64 ^ n = p at *
    generalize val B64 (seg cur o n) = V at *
    generalize D * (L / D) = Q at *
    have a : p * (-1) < p * t := by omega
    have a := Int.lt_of_mul_lt_mul_left a (by omega)
    have b : p * t < p * 1 := by omega
    have b := Int.lt_of_mul_lt_mul_left b (by omega)
    have : t = 0 := by omega
    rw [this] at h4
    exact hz h4
  · omega
/-- Behind subTimes and the limb above. -/
theorem Dls.start {xs ds : List Int} {o n : Nat} {cur : List Int} {G c : Int} (hr : Runs (-1) xs ds o n G cur c) (hn : ds.length = n) (ho : o + n < xs.length) {L D : Int} (eL : L = val B64 (seg xs o (n + 1))) (eD : D = val B64 ds)
    (g1 : L / D ≤ G) (g2 : G ≤ L / D + 2) : Dls xs L D o n (cur.set (o + n) (IntKind.u64.wrap (xs.getD (o + n) 0 - c))) G (xs.getD (o + n) 0 - c) := by
  obtain ⟨r1, r2, r3, r4, r5, r6⟩ := hr
  rw [IntKind.wrap_u64]
  refine ⟨by simp [r1], fun j hj => ?_, r3.set _ ⟨by omega, by unfold B64; omega⟩, ?_, ?_, g1, g2⟩
  · rw [getD_set _ _ _ _ (by omega), if_neg (by omega)]
    exact r2 j (by omega)
  · rw [getD_set _ _ _ _ (by omega), if_pos rfl]
  · rw [seg_set, eL, eD, seg_succ xs o n ho, val_append, seg_len xs o n (by omega)]
    simp only [val, Int.mul_zero, Int.add_zero]
    rw [← hn, List.take_of_length_le (Nat.le_refl _)] at r6
    rw [← hn]
    generalize val B64 (seg cur o ds.length) = A at *
    generalize val B64 (seg xs o ds.length) = X at *
    generalize val B64 ds = Y at *
    generalize B64 ^ ds.length = p at *
    generalize xs.getD (o + ds.length) 0 = x at *
    grind
/-- Behind addTimes and the limb above. -/
theorem Dls.step {xs ds : List Int} {o n : Nat} {cur cur' : List Int} {G t c L D : Int} (h : Dls xs L D o n cur G t) (hr : Runs 1 cur ds o n 1 cur' c) (hn : ds.length = n) (ho : o + n < xs.length) (eD : D = val B64 ds) (hG : L / D < G) :
    Dls xs L D o n (cur'.set (o + n) (IntKind.u64.wrap (cur.getD (o + n) 0 + c))) (G - 1) (t + c) := by
  obtain ⟨h1, h2, h3, h4, h5, h6, h7⟩ := h
  obtain ⟨r1, r2, r3, r4, r5, r6⟩ := hr
  rw [IntKind.wrap_u64]
  refine ⟨by simp [r1, h1], fun j hj => ?_, r3.set _ ⟨by omega, by unfold B64; omega⟩, ?_, ?_, by omega, by omega⟩
  · rw [getD_set _ _ _ _ (by omega), if_neg (by omega), r2 j (by omega)]
    exact h2 j hj
  · rw [getD_set _ _ _ _ (by omega), if_pos rfl, h4]
    omega
  · rw [seg_set]
    rw [← hn, List.take_of_length_le (Nat.le_refl _)] at r6
    rw [← hn] at h5 ⊢
    rw [← eD] at r6
    generalize val B64 (seg cur o ds.length) = A at *
    generalize val B64 (seg cur' o ds.length) = X at *
    generalize B64 ^ ds.length = p at *
    grind

/-- A divisor whose greatest bit is set. -/
structure Dv (w : World) (ao : Option Addr) (n : Nat) (ds : List Int) : Prop where
  lies : Lies .u64 w ao n ds
  dg : Dg B64 ds
  pos : 0 < n
  big : 9223372036854775808 ≤ ds.getD (n - 1) 0
theorem Dv.range {w : World} {ao : Option Addr} {n : Nat} {ds : List Int} (h : Dv w ao n ds) : 0 < val B64 ds ∧ val B64 ds < B64 ^ n := by
  have hl := h.lies.len
  have hp := h.pos
  have hb := h.big
  have ht : top ds = (n - 1) + 1 := by
    rw [show n - 1 + 1 = n by omega]
    exact top_eq ds n (fun j h1 h2 => by omega) (.inr (by omega))
  have a := val_ge B64_pos h.dg (n - 1) ht
  have b := val_lt B64_pos h.dg
  have c : (0 : Int) < B64 ^ (n - 1) := Int.pow_pos B64_pos
  rw [hl] at b
  exact ⟨by omega, b⟩
theorem split_top (xs : List Int) (o n : Nat) (hn : 0 < n) (h : o + n ≤ xs.length) : val B64 (seg xs o n) = val B64 (seg xs o (n - 1)) + B64 ^ (n - 1) * xs.getD (o + (n - 1)) 0 := by
  have e : n = (n - 1) + 1 := by omega
  conv => lhs; rw [e]
  rw [seg_succ _ _ _ (by omega), val_append, seg_len _ _ _ (by omega)]
  simp [val]
theorem pow_pred (n : Nat) (h : 0 < n) : B64 ^ n = B64 ^ (n - 1) * B64 := by
  obtain ⟨m, rfl⟩ : ∃ m, n = m + 1 := ⟨n - 1, by omega⟩
  rw [Nat.add_sub_cancel, Int.pow_succ]
/-- The guess of divLimb. -/
theorem Dv.guess {w : World} {ao : Option Addr} {n : Nat} {ds xs : List Int} (h : Dv w ao n ds) (hx : Dg B64 xs) (o : Nat) (ho : o + n < xs.length) (hlt : val B64 (seg xs o (n + 1)) < 18446744073709551616 * val B64 ds) :
    val B64 (seg xs o (n + 1)) / val B64 ds ≤ gss (xs.getD (o + n) 0) (xs.getD (o + (n - 1)) 0) (ds.getD (n - 1) 0) ∧
    gss (xs.getD (o + n) 0) (xs.getD (o + (n - 1)) 0) (ds.getD (n - 1) 0) ≤ val B64 (seg xs o (n + 1)) / val B64 ds + 2 ∧
    0 ≤ gss (xs.getD (o + n) 0) (xs.getD (o + (n - 1)) 0) (ds.getD (n - 1) 0) ∧ gss (xs.getD (o + n) 0) (xs.getD (o + (n - 1)) 0) (ds.getD (n - 1) 0) < 18446744073709551616 := by
  have hl := h.lies.len
  have hp := h.pos
  have e1 := split_top xs o (n + 1) (by omega) (by omega)
  have e2 := split_top xs o n hp (by omega)
  have e3 := split_top ds 0 n hp (by omega)
  have e4 : seg ds 0 n = ds := by unfold seg; rw [List.drop_zero, List.take_of_length_le (by omega)]
  rw [e4] at e3
  simp only [Nat.add_sub_cancel, Nat.zero_add] at e1 e3
  rw [e2] at e1
  have eB : B64 ^ n = B64 ^ (n - 1) * B64 := pow_pred n hp
  have l0 := val_nonneg B64_pos ((hx.drop o).take (n - 1))
  have l1 := val_lt B64_pos ((hx.drop o).take (n - 1))
  have d0 := val_nonneg B64_pos ((h.dg.drop 0).take (n - 1))
  have d1 := val_lt B64_pos ((h.dg.drop 0).take (n - 1))
  have s1 := seg_len xs o (n - 1) (by omega)
  have s2 := seg_len ds 0 (n - 1) (by omega)
  unfold seg at s1 s2
  rw [s1] at l1
  rw [s2] at d1
  refine guess_bounds (B64 ^ (n - 1)) (val B64 (seg xs o (n - 1))) (val B64 (seg ds 0 (n - 1))) _ _ _ _ _ (Int.pow_pos B64_pos) ⟨l0, l1⟩ ⟨d0, d1⟩ (hx.getD B64_pos _) (hx.getD B64_pos _).1 ⟨h.big, (h.dg.getD B64_pos _).2⟩ ?_ e3 hlt
  rw [e1, eB]
  have e5 : B64 = 18446744073709551616 := rfl
  generalize B64 ^ (n - 1) = p at *
  rw [e5]
  grind

end Go.Proofs.YtnckmcmobkpdcaaDoor
/-
  Contract of nat.divLimb.
-/
namespace Go.Proofs.YtnckmcmobkpdcaaDoor
open Go.RowKit
set_option linter.unusedVariables false
set_option linter.unusedSimpArgs false
attribute [local go_sem ↓] Go.wp_at_zero Go.wp_at_succ

/-- What divLimb leaves. -/
def DlOut (e : TypeId) (g o n : Nat) (xs : List Int) (L D : Int) (w w' : World) (G : Int) : Prop :=
  ∃ cur, Row e .u64 w' g cur ∧ cur.length = xs.length ∧ Dg B64 cur ∧ (∀ j, j < o ∨ o + n < j → cur.getD j 0 = xs.getD j 0) ∧ G = L / D ∧ val B64 (seg cur o (n + 1)) = L % D ∧ w.grownBy w' (some g)

end Go.Proofs.YtnckmcmobkpdcaaDoor
/-
  Contract of nat.Div.
-/
namespace Go.Proofs.YtnckmcmobkpdcaaDoor
open Go.RowKit
set_option linter.unusedVariables false
set_option linter.unusedSimpArgs false
attribute [local go_sem ↓] Go.wp_at_zero Go.wp_at_succ
/-- How many digits a number without zeros above has. -/
theorem canon_len {xs : List Int} (hd : Dg B64 xs) (hc : Canon xs) (n : Nat) (h1 : B64 ^ n ≤ val B64 xs) (h2 : val B64 xs < B64 ^ (n + 1)) : xs.length = n + 1 := by
  unfold Canon at hc
  have a := val_lt B64_pos hd
  rcases Nat.lt_trichotomy xs.length (n + 1) with h | h | h
  · have := pow_mono (B := B64) (by decide) (show xs.length ≤ n by omega)
    omega
  · exact h
  · have b := val_ge B64_pos hd (xs.length - 1) (by omega)
    have := pow_mono (B := B64) (by decide) (show n + 1 ≤ xs.length - 1 by omega)
    omega

/-- The divisor, shifted. -/
theorem norm_div (ys : List Int) (hd : Dg B64 ys) (n : Nat) (hn : ys.length = n + 1) (hc : Canon ys) :
    ∃ t, t < 64 ∧ 64 - blen (ys.getD n 0).toNat = t ∧ 9223372036854775808 * B64 ^ n ≤ val B64 ys * 2 ^ t ∧ val B64 ys * 2 ^ t < B64 ^ (n + 1) := by
  have hg := hd.getD B64_pos n
  have ht : ys.getD n 0 ≠ 0 := by
    have := top_hit ys (by unfold Canon at hc; omega)
    unfold Canon at hc
    rw [hc, hn] at this
    simpa using this
  have hv := split_top ys 0 (n + 1) (by omega) (by omega)
  have e4 : seg ys 0 (n + 1) = ys := by unfold seg; rw [List.drop_zero, List.take_of_length_le (by omega)]
  rw [e4] at hv
  simp only [Nat.add_sub_cancel, Nat.zero_add] at hv
  have l0 := val_nonneg B64_pos ((hd.drop 0).take n)
  have l1 := val_lt B64_pos ((hd.drop 0).take n)
  have s2 := seg_len ys 0 n (by omega)
  have l0' : 0 ≤ val B64 (seg ys 0 n) := l0
  have l1' : val B64 (seg ys 0 n) < B64 ^ n := by
    have : val B64 (seg ys 0 n) < B64 ^ (seg ys 0 n).length := l1
    rwa [s2] at this
  generalize val B64 (seg ys 0 n) = lo at *
  generalize ys.getD n 0 = d at *
  obtain ⟨e, rfl⟩ := Int.eq_ofNat_of_zero_le hg.1
  have hne : e ≠ 0 := by omega
  have hlt : e < 2 ^ 64 := by have := hg.2; unfold B64 at this; omega
  have b0 := blen_le e 64 hlt
  have b1 := blen_lt e
  have b2 := blen_ge e hne
  have b3 := blen_pos e hne
  rw [Int.toNat_natCast]
  obtain ⟨t, et⟩ : ∃ t, 64 - blen e = t := ⟨_, rfl⟩
  refine ⟨t, by omega, et, ?_, ?_⟩
  · have c1 : 2 ^ 63 ≤ e * 2 ^ t := by
      have : 2 ^ (blen e - 1) * 2 ^ t ≤ e * 2 ^ t := Nat.mul_le_mul_right _ b2
      rw [← Nat.pow_add, show blen e - 1 + t = 63 by omega] at this
      exact this
    have c2 : (9223372036854775808 : Int) ≤ (e : Int) * 2 ^ t := by
      have : ((2 ^ 63 : Nat) : Int) ≤ ((e * 2 ^ t : Nat) : Int) := by omega
      rw [Int.natCast_mul, Int.natCast_pow] at this
      exact this
    have hp : (0 : Int) < B64 ^ n := Int.pow_pos B64_pos
    have c3 := Int.mul_le_mul_of_nonneg_right c2 (show (0 : Int) ≤ B64 ^ n by omega)
    have c4 : 0 ≤ lo * 2 ^ t := Int.mul_nonneg l0' (Int.le_of_lt (Int.pow_pos (by decide)))
    rw [hv, Int.add_mul]
    have : B64 ^ n * (e : Int) * 2 ^ t = (e : Int) * 2 ^ t * B64 ^ n := by grind
    omega
  · have c1 : (e + 1) * 2 ^ t ≤ 2 ^ 64 := by
      have : (e + 1) * 2 ^ t ≤ 2 ^ blen e * 2 ^ t := Nat.mul_le_mul_right _ (by omega)
      rw [← Nat.pow_add, show blen e + t = 64 by omega] at this
      exact this
    have c2 : ((e : Int) + 1) * 2 ^ t ≤ B64 := by
      have : (((e + 1) * 2 ^ t : Nat) : Int) ≤ ((2 ^ 64 : Nat) : Int) := by omega
      rw [Int.natCast_mul, Int.natCast_pow, Int.natCast_add] at this
      exact this
    have hp : (0 : Int) < 2 ^ t := Int.pow_pos (by decide)
    have hp2 : (0 : Int) < B64 ^ n := Int.pow_pos B64_pos
    have c3 : (lo + B64 ^ n * e) * 2 ^ t < (B64 ^ n + B64 ^ n * e) * 2 ^ t := Int.mul_lt_mul_of_pos_right (by omega) hp
    have c4 : (B64 ^ n + B64 ^ n * (e : Int)) * 2 ^ t = B64 ^ n * (((e : Int) + 1) * 2 ^ t) := by grind
    have c5 : B64 ^ n * (((e : Int) + 1) * 2 ^ t) ≤ B64 ^ n * B64 := Int.mul_le_mul_of_nonneg_left c2 (by omega)
    rw [hv, Int.pow_succ]
    omega

/-- What stands in both rows when the places from p on are done. -/
def Dvs (X D : Int) (lx m p : Nat) (cur qs : List Int) : Prop :=
  cur.length = lx + 1 ∧ Dg B64 cur ∧ qs.length = m ∧ Dg B64 qs ∧ val B64 cur < B64 ^ p * D ∧ X = val B64 cur + B64 ^ p * val B64 (qs.drop p) * D
theorem seg_whole (xs : List Int) (k n : Nat) (hk : k + n ≤ xs.length) (hz : ∀ j, k + n ≤ j → xs.getD j 0 = 0) : val B64 xs = low B64 xs k + B64 ^ k * val B64 (seg xs k n) := by
  rw [← low_add _ _ _ _ hk]
  refine (low_all _ _ _ ?_).symm
  by_cases h : top xs ≤ k + n
  · exact h
  · exfalso
    exact top_hit xs (by omega) (hz _ (by omega))
theorem high_zero {xs : List Int} (hd : Dg B64 xs) (n : Nat) (h : val B64 xs < B64 ^ n) (j : Nat) (hj : n ≤ j) : xs.getD j 0 = 0 := by
  apply top_above
  by_cases ht : top xs ≤ n
  · omega
  · exfalso
    obtain ⟨m, hm⟩ : ∃ m, top xs = m + 1 := ⟨top xs - 1, by omega⟩
    have := val_ge B64_pos hd m hm
    have := pow_mono (B := B64) (by decide) (show n ≤ m by omega)
    omega
theorem drop_cons (qs : List Int) (k : Nat) (h : k < qs.length) : qs.drop k = qs.getD k 0 :: qs.drop (k + 1) := by
  rw [List.drop_eq_getElem_cons h]
  simp [List.getD, List.getElem?_eq_getElem h]
theorem Dvs.pre {X D : Int} {lx m k n : Nat} {cur qs : List Int} (h : Dvs X D lx m (k + 1) cur qs) (hn : k + n + 1 ≤ lx + 1) (hD : D < B64 ^ n) (hD0 : 0 < D) :
    val B64 cur = low B64 cur k + B64 ^ k * val B64 (seg cur k (n + 1)) ∧ val B64 (seg cur k (n + 1)) < 18446744073709551616 * D := by
  obtain ⟨h1, h2, h3, h4, h5, h6⟩ := h
  have hp : (0 : Int) < B64 ^ k := Int.pow_pos B64_pos
  have hpp : (0 : Int) < B64 ^ (k + 1) := Int.pow_pos B64_pos
  have hb : val B64 cur < B64 ^ (k + 1 + n) := by
    rw [Int.pow_add]
    have := Int.mul_lt_mul_of_pos_left hD hpp
    omega
  have hz := high_zero h2 (k + 1 + n) hb
  have e := seg_whole cur k (n + 1) (by omega) (fun j hj => hz j (by omega))
  refine ⟨e, ?_⟩
  have l0 : 0 ≤ low B64 cur k := val_nonneg B64_pos (h2.take k)
  have : B64 ^ k * val B64 (seg cur k (n + 1)) < B64 ^ k * (18446744073709551616 * D) := by
    have e2 : B64 ^ (k + 1) * D = B64 ^ k * (18446744073709551616 * D) := by rw [Int.pow_succ]; have : B64 = 18446744073709551616 := rfl; rw [Int.mul_assoc]; conv => lhs; rw [show B64 * D = 18446744073709551616 * D from by rw [this]]
    omega
  exact Int.lt_of_mul_lt_mul_left this (by omega)
theorem Dvs.step {X D : Int} {lx m k n : Nat} {cur cur' qs : List Int} {G : Int} (h : Dvs X D lx m (k + 1) cur qs) (hn : k + n + 1 ≤ lx + 1) (hk : k < m) (hD : D < B64 ^ n) (hD0 : 0 < D)
    (c1 : cur'.length = cur.length) (c2 : Dg B64 cur') (c3 : ∀ j, j < k ∨ k + n < j → cur'.getD j 0 = cur.getD j 0) (eG : G = val B64 (seg cur k (n + 1)) / D) (eR : val B64 (seg cur' k (n + 1)) = val B64 (seg cur k (n + 1)) % D) :
    (0 ≤ G ∧ G < 18446744073709551616) ∧ Dvs X D lx m k cur' (qs.set k G) := by
  obtain ⟨p1, p2⟩ := h.pre hn hD hD0
  obtain ⟨h1, h2, h3, h4, h5, h6⟩ := h
  have hp : (0 : Int) < B64 ^ k := Int.pow_pos B64_pos
  have hb : val B64 cur < B64 ^ (k + 1 + n) := by
    have hpp : (0 : Int) < B64 ^ (k + 1) := Int.pow_pos B64_pos
    rw [Int.pow_add]
    have := Int.mul_lt_mul_of_pos_left hD hpp
    omega
  have hz := high_zero h2 (k + 1 + n) hb
  have s0 : 0 ≤ val B64 (seg cur k (n + 1)) := val_nonneg B64_pos ((h2.drop k).take (n + 1))
  have hG : 0 ≤ G ∧ G < 18446744073709551616 := ⟨by rw [eG]; exact Int.ediv_nonneg s0 (by omega), by rw [eG]; exact Int.ediv_lt_of_lt_mul hD0 p2⟩
  have q1 := seg_whole cur' k (n + 1) (by omega) (fun j hj => by rw [c3 j (by omega)]; exact hz j (by omega))
  rw [low_congr B64 cur' cur k (fun j hj => c3 j (by omega)), eR] at q1
  have l0 : 0 ≤ low B64 cur k := val_nonneg B64_pos (h2.take k)
  have l1 : low B64 cur k < B64 ^ k := by
    have a := val_lt B64_pos (h2.take k)
    have b : (cur.take k).length = k := by simp; omega
    rw [b] at a; exact a
  have r0 := Int.emod_nonneg (val B64 (seg cur k (n + 1))) (show D ≠ 0 by omega)
  have r1 := Int.emod_lt_of_pos (val B64 (seg cur k (n + 1))) hD0
  refine ⟨hG, by omega, c2, by simp [h3], h4.set _ hG, ?_, ?_⟩
  · rw [q1]
    have : B64 ^ k * (val B64 (seg cur k (n + 1)) % D + 1) ≤ B64 ^ k * D := Int.mul_le_mul_of_nonneg_left (by omega) (by omega)
    rw [Int.mul_add] at this
    omega
  · have e1 : (qs.set k G).drop k = G :: qs.drop (k + 1) := by
      rw [drop_cons _ _ (by simp; omega), getD_set _ _ _ _ (by omega), if_pos rfl, List.drop_set_of_lt (by omega)]
    rw [e1, val, h6, p1, q1, Int.pow_succ]
    have e2 := Int.mul_ediv_add_emod (val B64 (seg cur k (n + 1))) D
    rw [← eG] at e2
    generalize val B64 (seg cur k (n + 1)) % D = r at *
    generalize val B64 (qs.drop (k + 1)) = Q at *
    rw [← e2]
    generalize low B64 cur k = l at *
    generalize B64 ^ k = p at *
    generalize B64 = b at *
    grind
theorem Dvs.done {D : Int} {lx m t : Nat} {cur qs : List Int} {x y : Int} (h : Dvs (x * 2 ^ t) D lx m 0 cur qs) (eD : D = y * 2 ^ t) (hD0 : 0 < D) : val B64 qs = x / y ∧ val B64 cur / 2 ^ t = x % y := by
  obtain ⟨h1, h2, h3, h4, h5, h6⟩ := h
  simp only [Int.pow_zero, Int.one_mul, List.drop_zero] at h5 h6
  have hp : (0 : Int) < 2 ^ t := Int.pow_pos (by decide)
  have v0 := val_nonneg B64_pos h2
  have hy : 0 < y := by
    by_cases hy : 0 < y
    · exact hy
    · exfalso
      have : y * 2 ^ t ≤ 0 * 2 ^ t := Int.mul_le_mul_of_nonneg_right (by omega) (by omega)
      omega
  have e1 : x * 2 ^ t / D = val B64 qs := by
    rw [h6, Int.add_mul_ediv_right _ _ (by omega), Int.ediv_eq_zero_of_lt v0 h5]; omega
  have e2 : x * 2 ^ t % D = val B64 cur := by
    rw [h6, Int.add_mul_emod_self_right]; exact Int.emod_eq_of_lt v0 h5
  rw [eD] at e1 e2
  rw [Int.mul_ediv_mul_of_pos_left _ _ hp] at e1
  rw [Int.mul_comm x, Int.mul_comm y, Int.mul_emod_mul_of_pos _ _ hp] at e2
  refine ⟨e1.symm, ?_⟩
  rw [← e2, Int.mul_ediv_cancel_left _ (by omega)]
end Go.Proofs.YtnckmcmobkpdcaaDoor
/-
  Contract of nat.Div.
-/
namespace Go.Proofs.YtnckmcmobkpdcaaDoor
open Go.RowKit
set_option linter.unusedVariables false
set_option linter.unusedSimpArgs false
attribute [local go_sem ↓] Go.wp_at_zero Go.wp_at_succ
/-- Both answers of Div. -/
def DivOut (w w' : World) (q r : Value) (x y : Int) (L : Nat) : Prop := NumOut .u64 B64 w w' q (x / y) L ∧ NumOut .u64 B64 w w' r (x % y) L

end Go.Proofs.YtnckmcmobkpdcaaDoor
/-
  Contract of the fixed facts: Awake answers true; and of long.
-/
namespace Go.Proofs.YtnckmcmobkpdcaaDoor
open Go.RowKit
set_option linter.unusedVariables false
set_option linter.unusedSimpArgs false

theorem one_number {xs : List Int} (hd : Dg B64 xs) (hc : Canon xs) {ys : List Int} (hd' : Dg B64 ys) (hc' : Canon ys) (h : val B64 xs = val B64 ys) : xs = ys := canon_inj B64_one hd hd' hc hc' h
theorem dg_lit2 (a b : Int) (ha : 0 ≤ a ∧ a < 18446744073709551616) (hb : 0 ≤ b ∧ b < 18446744073709551616) : Dg B64 [a, b] := Dg.cons ha (Dg.cons hb (Dg.nil _))

end Go.Proofs.YtnckmcmobkpdcaaDoor
/-
  Contract of long: whether one of the numbers handed over has more limbs than are gone to.
-/
namespace Go.Proofs.YtnckmcmobkpdcaaDoor
open Go.RowKit
set_option linter.unusedVariables false
set_option linter.unusedSimpArgs false

end Go.Proofs.YtnckmcmobkpdcaaDoor
/-
  What a law is told of a slice of integers that came in, as a number.
-/
namespace Go.Proofs.YtnckmcmobkpdcaaDoor
open Go.RowKit
set_option linter.unusedVariables false
set_option linter.unusedSimpArgs false

/-- A slice of integers that came in: nil, or a row of 'cap' cells. -/
def Came (k : IntKind) (w : World) (a : Option Addr) (len cap : Nat) (zs : List Int) : Prop :=
  (a = none ∧ len = 0 ∧ cap = 0 ∧ zs = []) ∨
  ∃ x, a = some x ∧ len ≤ cap ∧ cap ≤ maxLen ∧ zs.length = cap ∧ (∀ i, i < zs.length → w.cell? (x.add i) = some (.int k (zs.getD i 0))) ∧ ∀ n ∈ zs, (Lit.int k n).wf = true

theorem word_u64 {x : Int} (h : (Lit.int .u64 x).wf = true) : 0 ≤ x ∧ x < 18446744073709551616 := by
  simp [Lit.wf, IntKind.min, IntKind.max, IntKind.signed, IntKind.bits] at h
  exact ⟨by omega, by omega⟩
theorem word_u8 {x : Int} (h : (Lit.int .u8 x).wf = true) : 0 ≤ x ∧ x < 256 := by
  simp [Lit.wf, IntKind.min, IntKind.max, IntKind.signed, IntKind.bits] at h
  exact ⟨by omega, by omega⟩

theorem Came.le {k : IntKind} {w : World} {a : Option Addr} {len cap : Nat} {zs : List Int} (h : Came k w a len cap zs) : len ≤ maxLen := by
  rcases h with ⟨rfl, rfl, rfl, rfl⟩ | ⟨x, rfl, h1, h2, _⟩
  · simp
  · omega
theorem Came.num {k : IntKind} {B : Int} {w : World} {a : Option Addr} {len cap : Nat} {zs : List Int} (hk : ∀ n, (Lit.int k n).wf = true → 0 ≤ n ∧ n < B) (h : Came k w a len cap zs) (hs : len ≤ 1073741824) : NumIn k B w a len cap (zs.take len) := by
  rcases h with ⟨rfl, rfl, rfl, rfl⟩ | ⟨x, rfl, h1, h2, h3, h4, h5⟩
  · exact NumIn.nil
  · refine ⟨⟨by simp; omega, ?_⟩, h1, h2, (fun h => by cases h), fun n hn => hk n (h5 n (List.mem_of_mem_take hn)), hs⟩
    by_cases h0 : len = 0
    · exact .inl h0
    · right
      obtain ⟨b, off, spot⟩ := x
      have hc := h4 0 (by omega)
      have hspot : spot = none := by simpa [Addr.add] using World.cell?_spot hc
      subst hspot
      refine ⟨b, off, rfl, ?_, fun i hi => ?_⟩
      · rw [add_none] at hc
        exact World.block_lt_of_cell? w ⟨b, off + 0, none⟩ hc
      · have := h4 i (by omega)
        rw [add_none] at this
        rw [this]
        simp only [List.getD, List.getElem?_take]
        rw [if_pos hi]
theorem Came.nat {w : World} {a : Option Addr} {len cap : Nat} {zs : List Int} (h : Came .u64 w a len cap zs) (hs : len ≤ 70) : NumIn .u64 B64 w a len cap (zs.take len) := h.num (fun _ => word_u64) (by omega)
theorem Came.bytes {w : World} {a : Option Addr} {len cap : Nat} {zs : List Int} (h : Came .u8 w a len cap zs) (hs : len ≤ 2000) : NumIn .u8 256 w a len cap (zs.take len) := h.num (fun _ => word_u8) (by omega)
theorem Came.old {k : IntKind} {w w' : World} {a : Option Addr} {len cap : Nat} {zs : List Int} (h : Came k w a len cap zs) (hb : Below w.heap.size w w') : Came k w' a len cap zs := by
  rcases h with h | ⟨x, rfl, h1, h2, h3, h4, h5⟩
  · exact .inl h
  · refine .inr ⟨x, rfl, h1, h2, h3, fun i hi => ?_, h5⟩
    have := h4 i hi
    have hlt := World.block_lt_of_cell? w _ this
    rw [hb.cell hlt]; exact this
end Go.Proofs.YtnckmcmobkpdcaaDoor
/-
  append of numbers to a slice of the call's own.
-/
namespace Go.Proofs.YtnckmcmobkpdcaaDoor
open Go.RowKit
set_option linter.unusedVariables false
set_option linter.unusedSimpArgs false

/-- The slice value v is the call's own (its block is from 'base' on) and holds xs. -/
def Own (e : TypeId) (k : IntKind) (w : World) (base : Nat) (v : Value) (xs : List Int) : Prop := w.ownsRow base e 1 v xs.length (xs.map (Value.int k))

theorem Own.nil (e : TypeId) (k : IntKind) (w : World) (base : Nat) : Own e k w base (.slice none 0 0) [] := World.ownsRow_nil w base e 1
theorem Own.num {e : TypeId} {k : IntKind} {B : Int} {w : World} {base : Nat} {v : Value} {xs : List Int} (h : Own e k w base v xs) (hd : Dg B xs) (hs : xs.length ≤ 1073741824) : ∃ ao cap, v = .slice ao xs.length cap ∧ NumIn k B w ao xs.length cap xs := by
  rcases h.2 with ⟨rfl, h0⟩ | ⟨g, cap, cur, rfl, hg, hrow, h1, h2, h3, h4⟩
  · have : xs = [] := List.eq_nil_of_length_eq_zero h0
    subst this
    exact ⟨none, 0, rfl, NumIn.nil⟩
  · refine ⟨_, cap, rfl, ⟨⟨rfl, ?_⟩, h1, h2, (fun h => by cases h), hd, hs⟩⟩
    right
    refine ⟨g, 0, rfl, (Array.getElem?_eq_some_iff.1 hrow).1, fun i hi => ?_⟩
    rw [Nat.zero_add, cell_of_row w g i cur e (0, 0) hrow]
    have : (cur.toList.take (xs.length * 1))[i]? = (xs.map (Value.int k))[i]? := by rw [h4]
    rw [List.getElem?_take, if_pos (by omega)] at this
    rw [← Array.getElem?_toList, this]
    simp [hi]
theorem Own.below {e : TypeId} {k : IntKind} {w w' : World} {base : Nat} {v : Value} {xs : List Int} (h : Own e k w base v xs) (hb : Below w.heap.size w w') : Own e k w' base v xs := by
  refine ⟨h.1, ?_⟩
  rcases h.2 with h0 | ⟨g, cap, cur, rfl, hg, hrow, r⟩
  · exact .inl h0
  · exact .inr ⟨g, cap, cur, rfl, hg, by rw [hb.block g (Array.getElem?_eq_some_iff.1 hrow).1]; exact hrow, r⟩
theorem Own.alloc {e : TypeId} {k : IntKind} {w : World} {base : Nat} {v : Value} {xs : List Int} (h : Own e k w base v xs) (o : Obj) : Own e k (w.alloc o) base v xs := World.ownsRow.alloc h o
/-- A slice literal without elements. -/
theorem own_lit0 (e : TypeId) (k : IntKind) (w : World) (base : Nat) (hb : base ≤ w.heap.size) : Own e k (w.alloc (.cells #[] e)) base (.slice (some ⟨w.heap.size, 0, none⟩) 0 0) [] :=
  World.ownsRow_lit w #[] 0 hb (Nat.zero_le _) (by simp)
theorem Row.own {e : TypeId} {k : IntKind} {w : World} {g base : Nat} {xs : List Int} (h : Row e k w g xs) (hb : base ≤ g) (hs : xs.length ≤ 1073741824) : Own e k w base (.slice (some ⟨g, 0, none⟩) xs.length xs.length) xs := by
  refine ⟨by simp, .inr ⟨g, xs.length, _, rfl, hb, h, Nat.le_refl _, by unfold maxLen; omega, by simp, ?_⟩⟩
  simp only [Nat.mul_one]
  exact List.take_of_length_le (by simp)

/-- append(out, src...): whatever the source. -/
theorem wpList_append_nums {P : Program} {w : World} {ops : Array Oper} {rest : List Oper} {o : Oper} {a : Act} {Q : Exit → Act → World → Prop} (hgd : o.guard = none) (s x : Operand) (t : TypeId)
    (ho : o.op = .call { callee := .builtin .append, args := #[s, x], argTypes := #[t, t] }) (e : TypeId) (k : IntKind) (bytes : Nat) (ht : P.underlying t = some (.slice e))
    (h2 : (P.info? e).map (fun i => (i.zero, i.size, i.bytes)) = some (some (.int k 0), 1, bytes)) (base : Nat) (v : Value) (xs : List Int) (hs : a.eval s = v) (hown : Own e k w base v xs)
    (ao : Option Addr) (m c : Nat) (ys : List Int) (hx : a.eval x = .slice ao m c) (hy : Lies k w ao m ys) (hnn : ao = none → c = 0) (hb1 : xs.length + m ≤ 1073741824) (hb2 : bytes ≤ 8) (w0 : World) (hb : Below base w0 w) (hbase : base ≤ w.heap.size)
    (h : ∀ v' w', Own e k w' base v' (xs ++ ys) → Below base w0 w' → (∀ g, v.ownBlock ≠ some g → g < w.heap.size → w'.heap[g]? = w.heap[g]?) → w.heap.size ≤ w'.heap.size → wpList P ops Q rest (a.put o.dst v') w') : wpList P ops Q (o :: rest) a w := by
  obtain ⟨i, hi, hz0, hz1, hz2⟩ := info_parts h2
  have hl := hy.len
  cases ao with
  | none =>
    obtain rfl := hnn rfl
    have hm0 : m = 0 := by
      rcases hy.2 with h | ⟨b, off, e', _⟩
      · exact h
      · cases e'
    subst hm0
    have hy0 : ys = [] := List.eq_nil_of_length_eq_zero hl
    subst hy0
    refine wpList_append_own_none hgd s x t ho base e i 1 ht hi v _ _ hs hown hx ?_
    exact h v w (by rw [List.append_nil]; exact hown) hb (fun _ _ _ => rfl) (Nat.le_refl _)
  | some ad =>
    have hbt : (xs.length + m) * bytes ≤ 140737488355328 := by
      have := Nat.mul_le_mul hb1 hb2
      omega
    refine wpList_append_own (w := w) hgd s x t ho base e i (.int k 0) 1 bytes ht hi hz0 hz1 hz2 rfl (by decide) v _ _ hs hown ad m c (ys.map (Value.int k)) hx (by simp [hl]) ?_ (ints_oneCell _ _) (by unfold maxLen; omega) hbt hbase ?_
    · intro j u hj
      simp only [List.getElem?_map] at hj
      by_cases hjm : j < ys.length
      · obtain ⟨b, off, e', hlt, hc⟩ := hy.at (by omega)
        injection e' with e'
        subst e'
        have := hc j (by omega)
        rw [List.getElem?_eq_getElem hjm] at hj
        simp only [Option.map_some, Option.some.injEq] at hj
        rw [add_none, this, ← hj]
        simp [List.getD, List.getElem?_eq_getElem hjm]
      · rw [List.getElem?_eq_none (by omega)] at hj
        simp at hj
    · intro v' w' hown' hgr _
      refine h v' w' ?_ (hb.grown hgr hbase ?_) ?_ hgr.size
      · unfold Own
        rw [List.length_append, List.map_append, hl]
        exact hown'
      · intro g hg
        exact (hown.lt g hg).1
      · intro g hg hlt
        exact hgr.block g hlt (fun e => hg e.symm)

theorem blen_bytes (B : Int) (n : Nat) (h0 : 0 ≤ B) (h : B < 256 ^ n) : blen B.toNat ≤ 8 * n := by
  apply blen_le
  have e : ((2 ^ (8 * n) : Nat) : Int) = 256 ^ n := by rw [Int.natCast_pow, Int.pow_mul]; rfl
  rw [← e] at h
  omega
/-- Bytes as a text. -/
theorem conv_bytes (w : World) (src dst e : TypeId) (hs : Tryd.prog.underlying src = some (.slice e)) (he : Tryd.prog.underlying e = some (.int .u8)) (hd : Tryd.prog.underlying dst = some .string) (ao : Option Addr) (len cap : Nat) (xs : List Int) (h : Lies .u8 w ao len xs) :
    (convert src dst (.slice ao len cap)).run Tryd.prog w = .ok (.string (strOfNums xs)) w := by
  have hl := h.len
  rcases h.2 with h0 | ⟨b, off, rfl, hb, hc⟩
  · subst h0
    have hx : xs = [] := List.eq_nil_of_length_eq_zero hl
    subst hx
    cases ao with
    | none => exact run_convert_bytes_nil w src e hs he 0 cap dst hd
    | some a =>
      rw [run_convert_bytes_string w src dst e _ 0 cap hs he hd, run_bytesToString w a 0 cap [] (by rfl)]
      rfl
  · exact run_convert_bytes_arg w src e hs he b off len cap xs hl hc dst hd

end Go.Proofs.YtnckmcmobkpdcaaDoor
/-
  Contracts of the document's answer (numbers as digits of 16 bits): trim, Of, Nat, Same.
-/
namespace Go.Proofs.YtnckmcmobkpdcaaDoor
open Go.RowKit
set_option linter.unusedVariables false
set_option linter.unusedSimpArgs false

/-- An operation whose guard is met is walked as one without. -/
theorem wpList_unguard {P : Program} {w : World} {ops : Array Oper} {rest : List Oper} {o : Oper} {a : Act} {Q : Exit → Act → World → Prop} (hw : Region.wanted o (yielded ops a.tmps) = true)
    (h : wpList P ops Q ({ o with guard := none } :: rest) a w) : wpList P ops Q (o :: rest) a w := by
  have hn : Region.wanted { o with guard := none } (yielded ops a.tmps) = true := rfl
  unfold wpList at h ⊢
  rw [if_pos hn] at h
  rw [if_pos hw]
  exact h

/-- append(out, x). -/
theorem wpList_append_one {P : Program} {w : World} {ops : Array Oper} {rest : List Oper} {o : Oper} {a : Act} {Q : Exit → Act → World → Prop} (hgd : o.guard = none) (s x : Operand) (t : TypeId)
    (ho : o.op = .call { callee := .builtin .append, args := #[s, x], argTypes := #[t, t] }) (e : TypeId) (k : IntKind) (bytes : Nat) (ht : P.underlying t = some (.slice e))
    (h2 : (P.info? e).map (fun i => (i.zero, i.size, i.bytes)) = some (some (.int k 0), 1, bytes)) (base : Nat) (v : Value) (xs : List Int) (y : Int) (hs : a.eval s = v) (hown : Own e k w base v xs)
    (hx : a.eval x = .slice (some ⟨w.heap.size, 0, none⟩) 1 1) (hb1 : xs.length < 1073741824) (hb2 : bytes ≤ 8) (w0 : World) (hb : Below base w0 w) (hbase : base ≤ w.heap.size)
    (h : ∀ v' w', Own e k w' base v' (xs ++ [y]) → Below base w0 w' → wpList P ops Q rest (a.put o.dst v') w') : wpList P ops Q (o :: rest) a (w.alloc (.cells #[.int k y] e)) := by
  refine wpList_append_nums hgd s x t ho e k bytes ht h2 base v xs hs (hown.alloc _) (some ⟨w.heap.size, 0, none⟩) 1 1 [y] hx ((row_alloc w e k y).lies 0 1 (by simp)) (fun h => by cases h) (by omega) hb2 w0 (hb.alloc hbase _) (by simp; omega) ?_
  intro v' w' h1 h2 _ _
  exact h v' w' h1 h2

def D16 : Int := 65536
theorem D16_pos : 0 < D16 := by decide
theorem D16_one : 1 < D16 := by decide
theorem D16_4 : D16 ^ 4 = B64 := by decide


end Go.Proofs.YtnckmcmobkpdcaaDoor
/-
  The document's Time: what it reckons, beside the code's.
-/
namespace Go.Proofs.YtnckmcmobkpdcaaDoor
open Go.Shelf Go.RowKit
set_option linter.unusedVariables false
set_option linter.unusedSimpArgs false

theorem numGo_app : ∀ (xs ys : Bs) (n : Nat), numGo n (xs ++ ys) = (numGo n xs).bind (fun m => numGo m ys)
  | [], ys, n => rfl
  | c :: xs, ys, n => by
    rw [List.cons_append, numGo_cons, numGo_cons]
    split
    · rfl
    · exact numGo_app xs ys _
theorem numGo_2 (n : Nat) (c d : UInt8) : numGo n [c, d] = (numGo 0 [c, d]).map (fun x => 100 * n + x) := by
  rw [numGo_cons, numGo_cons 0]
  by_cases h : c.toNat < 48 ∨ 57 < c.toNat
  · rw [if_pos h, if_pos h]; rfl
  · rw [if_neg h, if_neg h, numGo_cons, numGo_cons (10 * 0 + (c.toNat - 48))]
    by_cases h2 : d.toNat < 48 ∨ 57 < d.toNat
    · rw [if_pos h2, if_pos h2]; rfl
    · rw [if_neg h2, if_neg h2]
      show some (10 * (10 * n + (c.toNat - 48)) + (d.toNat - 48)) = some (100 * n + (10 * (10 * 0 + (c.toNat - 48)) + (d.toNat - 48)))
      congr 1
      omega
theorem twosD_shift (bs : Bs) : ∀ k, twosD bs (k + 1) = (twoD bs 0).bind (fun x => (twosD (bs.drop 2) k).map (fun l => x :: l))
  | 0 => by
    show (match twoD bs 0 with | none => none | some x => some ([] ++ [x])) = _
    cases twoD bs 0 <;> rfl
  | k + 1 => by
    have h := twosD_shift bs k
    have e : twoD (bs.drop 2) k = twoD bs (k + 1) := by
      unfold twoD
      rw [List.drop_drop]
      congr 3
      omega
    show (match twosD bs (k + 1) with | none => none | some l => match twoD bs (k + 1) with | none => none | some x => some (l ++ [x])) = _
    rw [h]
    show _ = (twoD bs 0).bind (fun x => (match twosD (bs.drop 2) k with | none => none | some l => match twoD (bs.drop 2) k with | none => none | some y => some (l ++ [y])).map (fun l => x :: l))
    rw [e]
    cases twoD bs 0 with
    | none => rfl
    | some x =>
      cases twosD (bs.drop 2) k with
      | none => rfl
      | some l =>
        simp only [Option.bind_some, Option.map_some]
        cases twoD bs (k + 1) <;> rfl
theorem take4 (bs : Bs) (h : 4 ≤ bs.length) : numGo 0 (bs.take 4) = (twoD bs 0).bind (fun a => (twoD bs 1).map (fun b => 100 * a + b)) := by
  match bs, h with
  | c0 :: c1 :: c2 :: c3 :: xs, _ =>
    show numGo 0 ([c0, c1] ++ [c2, c3]) = (numGo 0 [c0, c1]).bind (fun a => (numGo 0 [c2, c3]).map (fun b => 100 * a + b))
    rw [numGo_app]
    congr 1
    funext m
    exact numGo_2 m c2 c3
/-- The seconds of numbers behind a year. -/
def afterD (y : Nat) (z : Nat) (l : List Nat) : Option Nat := match l with
  | [m, d, h, mi, s] => if z = 90 ∧ existB y m d h mi s = true then some (secsD y m d h mi s) else none
  | _ => none
theorem mom_after (y : Nat) (r : Bs) : momD y r = (twosD r 5).bind (afterD y (r.getD 10 0).toNat) := by
  unfold momD
  cases twosD r 5 with
  | none => rfl
  | some l =>
    rcases l with _ | ⟨a, _ | ⟨b, _ | ⟨c, _ | ⟨d, _ | ⟨e, _ | ⟨f, l⟩⟩⟩⟩⟩⟩ <;> rfl
theorem time23 (bs : Bs) (hl : bs.length = 13) : timeD 23 bs = (twosD bs 6).bind (fun l => match l with
    | y :: r => if 1970 ≤ centD y then afterD (centD y) (bs.getD 12 0).toNat r else none
    | [] => none) := by
  rw [twosD_shift bs 5]
  unfold timeD yearD
  rw [if_pos ⟨rfl, hl⟩]
  have e : numGo 0 (bs.take 2) = twoD bs 0 := rfl
  rw [e]
  cases twoD bs 0 with
  | none => rfl
  | some y =>
    simp only [Option.bind_some]
    by_cases hy : 1970 ≤ centD y
    · rw [if_pos hy]
      show momD (centD y) (bs.drop 2) = _
      have e2 : (bs.drop 2).getD 10 0 = bs.getD 12 0 := by simp [List.getD]
      rw [mom_after, e2]
      cases h5 : twosD (bs.drop 2) 5 with
      | none => rfl
      | some l =>
        simp only [Option.map_some, Option.bind_some, if_pos hy]
    · rw [if_neg hy]
      cases twosD (bs.drop 2) 5 with
      | none => rfl
      | some l => simp only [Option.map_some, Option.bind_some, if_neg hy]
theorem time24 (bs : Bs) (hl : bs.length = 15) : timeD 24 bs = (twosD bs 7).bind (fun l => match l with
    | a :: b :: r => if 2050 ≤ 100 * a + b then afterD (100 * a + b) (bs.getD 14 0).toNat r else none
    | _ => none) := by
  rw [twosD_shift bs 6, twosD_shift (bs.drop 2) 5]
  unfold timeD yearD
  rw [if_neg (fun h => absurd h.1 (by decide)), if_pos ⟨rfl, hl⟩, take4 bs (by omega)]
  have e1 : twoD (bs.drop 2) 0 = twoD bs 1 := rfl
  rw [e1, List.drop_drop]
  cases twoD bs 0 with
  | none => rfl
  | some a =>
    cases twoD bs 1 with
    | none => rfl
    | some b =>
      simp only [Option.bind_some, Option.map_some]
      by_cases hy : 2050 ≤ 100 * a + b
      · rw [if_pos hy]
        show momD (100 * a + b) (bs.drop 4) = _
        have e2 : (bs.drop 4).getD 10 0 = bs.getD 14 0 := by simp [List.getD]
        rw [mom_after, e2]
        show _ = ((twosD (bs.drop 4) 5).map _ |>.map _).bind _
        cases h5 : twosD (bs.drop 4) 5 with
        | none => rfl
        | some l =>
          simp only [Option.map_some, Option.bind_some, if_pos hy]
      · rw [if_neg hy]
        show _ = ((twosD (bs.drop 4) 5).map _ |>.map _).bind _
        cases twosD (bs.drop 4) 5 with
        | none => rfl
        | some l => simp only [Option.map_some, Option.bind_some, if_neg hy]
theorem time_other (t : Nat) (bs : Bs) (h : ¬ (t = 23 ∧ bs.length = 13)) (h2 : ¬ (t = 24 ∧ bs.length = 15)) : timeD t bs = none := by
  unfold timeD yearD
  rw [if_neg h, if_neg h2]
end Go.Proofs.YtnckmcmobkpdcaaDoor
/-
  The document's Time: a year, a month.
-/
namespace Go.Proofs.YtnckmcmobkpdcaaDoor
open Go.Shelf Go.RowKit
set_option linter.unusedVariables false
set_option linter.unusedSimpArgs false

set_option maxRecDepth 100000 in
set_option maxHeartbeats 1000000 in
/-- leap. -/
theorem rLeap_any (y : Nat) (hy : y ≤ 99999) (w : World) : Calls Tryd.prog 23 #[.int .i64 (y : Int)] w fun e w' => e = .returned (.bool (leapD y)) ∧ w' = w := by
  obtain ⟨B, hB⟩ : ∃ B, leapD y = B := ⟨_, rfl⟩
  rw [hB]
  have HB : Hid (leapD y = B) := hB
  clear hB
  by_cases h4 : y % 4 = 0
  · have k4 : (((y : Int) % 4) == 0) = true := by simp; omega
    by_cases h1 : y % 100 = 0
    · have k1 : (((y : Int) % 100) != 0) = false := by simp; omega
      by_cases h5 : y % 400 = 0
      · have k5 : (((y : Int) % 400) == 0) = true := by simp; omega
        have hb : B = true := by rw [← HB.out]; simp [leapD, h4, h1, h5]
        subst hb
        clear h4 h1 h5
        go_enter Tryd.func23, Tryd.ntmps23
        go_wp2_with fail
        go_ret
        exact ⟨rfl, rfl⟩
      · have k5 : (((y : Int) % 400) == 0) = false := by simp; omega
        have hb : B = false := by rw [← HB.out]; simp [leapD, h4, h1, h5]
        subst hb
        clear h4 h1 h5
        go_enter Tryd.func23, Tryd.ntmps23
        go_wp2_with fail
        go_ret
        exact ⟨rfl, rfl⟩
    · have k1 : (((y : Int) % 100) != 0) = true := by simp; omega
      have hb : B = true := by rw [← HB.out]; simp [leapD, h4, h1]
      subst hb
      clear h4 h1
      go_enter Tryd.func23, Tryd.ntmps23
      go_wp2_with fail
      go_ret
      exact ⟨rfl, rfl⟩
  · have k4 : (((y : Int) % 4) == 0) = false := by simp; omega
    have h5 : ¬ y % 400 = 0 := by omega
    have k5 : (((y : Int) % 400) == 0) = false := by simp; omega
    have hb : B = false := by rw [← HB.out]; simp [leapD, h4, h5]
    subst hb
    clear h4 h5
    go_enter Tryd.func23, Tryd.ntmps23
    go_wp2_with fail
    go_ret
    exact ⟨rfl, rfl⟩
set_option maxRecDepth 100000 in
set_option maxHeartbeats 1000000 in
/-- month. -/
theorem rMonth_any (y m : Nat) (hy : y ≤ 99999) (h1 : 1 ≤ m) (h2 : m ≤ 12) (w : World) : Calls Tryd.prog 22 #[.int .i64 (y : Int), .int .i64 (m : Int)] w fun e w' => e = .returned (.int .i64 (monD y m : Int)) ∧ Below w.heap.size w w' := by
  have HL := rLeap_any y hy
  obtain ⟨k, rfl⟩ : ∃ k, m = k + 1 := ⟨m - 1, by omega⟩
  have R1 : Row 3 .i64 (w.alloc (.cells #[.int .i64 31, .int .i64 28, .int .i64 31, .int .i64 30, .int .i64 31, .int .i64 30, .int .i64 31, .int .i64 31, .int .i64 30, .int .i64 31, .int .i64 30, .int .i64 31] 3)) w.heap.size mdL := heap_alloc_new w _
  have b1 : Below w.heap.size w (w.alloc (.cells #[.int .i64 31, .int .i64 28, .int .i64 31, .int .i64 30, .int .i64 31, .int .i64 30, .int .i64 31, .int .i64 31, .int .i64 30, .int .i64 31, .int .i64 30, .int .i64 31] 3)) := (Below.refl _ _).alloc (Nat.le_refl _) _
  have hc := R1.cell k (by simp [mdL]; omega)
  obtain ⟨D, hD⟩ : ∃ D, mdL.getD k 0 = D := ⟨_, rfl⟩
  have hD2 : 28 ≤ D ∧ D ≤ 31 := by
    rw [← hD]
    have : ∀ k, k < 12 → 28 ≤ mdL.getD k 0 ∧ mdL.getD k 0 ≤ 31 := by decide
    exact this k (by omega)
  rw [hD] at hc
  have HV : Hid ((monD y (k + 1) : Int) = D + (if k = 1 ∧ leapD y = true then 1 else 0) ∧ (k = 1 → D = 28)) := by
    refine ⟨?_, fun hk => by rw [← hD, hk]; rfl⟩
    show (monD y (k + 1) : Int) = _
    unfold monD
    rw [Nat.add_sub_cancel, hD]
    by_cases hh : k + 1 = 2 ∧ leapD y = true
    · rw [if_pos hh, if_pos ⟨by omega, hh.2⟩]
      omega
    · rw [if_neg hh, if_neg (by intro h; exact hh ⟨by omega, h.2⟩)]
      omega
  obtain ⟨V, hV⟩ : ∃ V : Nat, monD y (k + 1) = V := ⟨_, rfl⟩
  rw [hV] at HV ⊢
  have HB : Hid (Below w.heap.size w (w.alloc (.cells #[.int .i64 31, .int .i64 28, .int .i64 31, .int .i64 30, .int .i64 31, .int .i64 30, .int .i64 31, .int .i64 31, .int .i64 30, .int .i64 31, .int .i64 30, .int .i64 31] 3))) := b1
  clear hD hV R1 b1
  obtain ⟨hD3, hD4⟩ := hD2
  by_cases q : k = 1
  · have qI : ((k : Int) + 1 == 2) = true := by simp; omega
    cases hlp : leapD y with
    | true =>
      rw [hlp] at HL HV
      have hv : (V : Int) = 29 := by rw [HV.out.1, if_pos ⟨q, rfl⟩, HV.out.2 q]; rfl
      clear HV q
      go_enter Tryd.func22, Tryd.ntmps22
      go_wp2_with (go_at_call 23; refine (HL _).mono ?_; rintro e w1 ⟨rfl, rfl⟩)
      go_ret
      exact ⟨by rw [hv]; rfl, HB.out⟩
    | false =>
      rw [hlp] at HL HV
      have hv : (V : Int) = D := by rw [HV.out.1, if_neg (by simp)]; omega
      clear HV q
      go_enter Tryd.func22, Tryd.ntmps22
      go_wp2_with (go_at_call 23; refine (HL _).mono ?_; rintro e w1 ⟨rfl, rfl⟩)
      go_ret
      exact ⟨by rw [hv]; rfl, HB.out⟩
  · have qI : ((k : Int) + 1 == 2) = false := by simp; omega
    have hv : (V : Int) = D := by rw [HV.out.1, if_neg (by intro h; exact q h.1)]; omega
    clear HV q
    go_enter Tryd.func22, Tryd.ntmps22
    go_wp2_with fail
    go_ret
    exact ⟨by rw [hv]; rfl, HB.out⟩
end Go.Proofs.YtnckmcmobkpdcaaDoor
/-
  The code's split, whole.
-/
namespace Go.Proofs.YtnckmcmobkpdcaaDoor
open Go.Shelf Go.RowKit
set_option linter.unusedVariables false
set_option linter.unusedSimpArgs false

set_option maxRecDepth 100000 in
set_option maxHeartbeats 4000000 in
/-- split. -/
theorem derSplit (p : Option Addr) (n c : Nat) (bs : Bs) (P : Nat → Prop) (w : World) (hn : bs.length = n) (h : ByV w P p c bs) :
    Calls Tryd.prog 24 #[.slice p n c] w (SpPost w (fun _ => P) (readD bs)) := by
  have hcap := h.cap
  have hbig := h.big
  rw [hn] at hcap
  have hnI : (n : Int) ≤ 9223372036854775807 := by omega
  have hcI : (c : Int) ≤ 9223372036854775807 := by omega
  obtain ⟨W0, hW0⟩ : ∃ W0, w.alloc (.cells #[.int .u8 0, .slice none 0 0] 24) = W0 := ⟨_, rfl⟩
  have b0 : Below w.heap.size w W0 := by rw [← hW0]; exact (Below.refl _ _).alloc (Nat.le_refl _) _
  have s0 : Tl W0 w.heap.size (.int .u8 0) (.slice none 0 0) := by rw [← hW0]; exact Tl.new w _ _
  obtain ⟨g0, g1, g2, g3⟩ := s0.facts
  obtain ⟨g4, g5⟩ := s0.facts1 (.int .u8 0)
  have HBAD : Hid (∀ k, readD bs = .error k → SpPost w (fun _ => P) (readD bs) (.returned (.tuple #[.agg #[.int .u8 0, .slice none 0 0], .slice none 0 0, .int .i64 (k : Int)])) ((W0.setCell ⟨w.heap.size, 0, none⟩ (.int .u8 0)).setCell ⟨w.heap.size, 1, none⟩ (.slice none 0 0))) := fun k hk => SpPost.bad k hk (b0.trans ((but_set2 W0 w.heap.size _ _).below (Nat.le_refl _) b0.size))
  have HBAD2 : Hid (∀ W k, Below W0.heap.size W0 W → readD bs = .error k → SpPost w (fun _ => P) (readD bs) (.returned (.tuple #[.agg #[.int .u8 0, .slice none 0 0], .slice none 0 0, .int .i64 (k : Int)])) ((W.setCell ⟨w.heap.size, 0, none⟩ (.int .u8 0)).setCell ⟨w.heap.size, 1, none⟩ (.slice none 0 0))) := fun W k hW hk => SpPost.bad k hk ((b0.trans (hW.mono b0.size)).trans ((but_set2 W w.heap.size _ _).below (Nat.le_refl _) (Nat.le_trans b0.size hW.size)))
  have HS0 : Hid (Tl W0 w.heap.size (.int .u8 0) (.slice none 0 0) ∧ Below w.heap.size w W0) := ⟨s0, b0⟩
  clear s0
  by_cases hl : 4096 < n
  · have hlI : 4096 < (n : Int) := by omega
    have hR : readD bs = .error 3 := by unfold readD; rw [if_pos (by omega)]
    go_enter Tryd.func24, Tryd.ntmps24
    go_wp2_with fail
    refine bodyPost_ret (ret_tlv3 rfl _ _ w.heap.size _ _ rfl (HS0.out.1.set2 _ _)) rfl ?_
    exact HBAD.out 3 hR
  have hlI : ¬ 4096 < (n : Int) := by omega
  cases bs with
  | nil =>
    simp at hn
    subst hn
    have hR : readD [] = .error 30 := rfl
    go_enter Tryd.func24, Tryd.ntmps24
    go_wp2_with fail
    refine bodyPost_ret (ret_tlv3 rfl _ _ w.heap.size _ _ rfl (HS0.out.1.set2 _ _)) rfl ?_
    exact HBAD.out 30 hR
  | cons t xs =>
    obtain ⟨b, o, rfl, hcl⟩ := h.lies (by simp)
    have c0 : W0.cell? ⟨b, o, none⟩ = some (.int .u8 (t.toNat : Int)) := by
      have := hcl 0 (by simp)
      have h2 : w.cell? ⟨b, o, none⟩ = some (.int .u8 (t.toNat : Int)) := by simpa using this
      exact (b0.cell (p := ⟨b, o, none⟩) (World.block_lt_of_cell? w _ h2)).trans h2
    have ht := t.toNat_lt
    have hm : xs.length = n - 1 := by simp at hn; omega
    have hn0 : 0 < n := by simp at hn; omega
    have hz : ((n : Int) == 0) = false := by simp; omega
    have hn1 : (1 : Int) ≤ (n : Int) := by omega
    obtain ⟨TN, hTN⟩ : ∃ T, t.toNat = T := ⟨_, rfl⟩
    rw [hTN] at c0 ht
    have HTN : Hid (t.toNat = TN ∧ xs.length = n - 1) := ⟨hTN, hm⟩
    have HV : Hid (ByV w P (some ⟨b, o, none⟩) c (t :: xs)) := h
    clear h hcl hn hm hTN
    by_cases q1 : TN % 32 = 31
    · have HT := isTag_any TN ht
      rw [show decide (TN % 32 ≠ 31) = false by simp [q1]] at HT
      have hR : readD (t :: xs) = .error 30 := by
        unfold readD
        rw [if_neg (by simp; rw [HTN.out.2]; omega)]
        simp only []
        rw [HTN.out.1, if_pos q1]
      clear q1
      go_enter Tryd.func24, Tryd.ntmps24
      go_wp2_with (go_at_call 32; refine (HT _).mono ?_; rintro e w1 ⟨rfl, rfl⟩)
      refine bodyPost_ret (ret_tlv3 rfl _ _ w.heap.size _ _ rfl (HS0.out.1.set2 _ _)) rfl ?_
      exact HBAD.out 30 hR
    have HT := isTag_any TN ht
    rw [show decide (TN % 32 ≠ 31) = true by simp [q1]] at HT
    have HR0 : Hid (readD (t :: xs) = match lenD xs with
        | none => .error 30
        | some (k, ys) => if ys.length < k then .error 30 else .ok ((t, ys.take k), ys.drop k)) := by
      show readD (t :: xs) = _
      unfold readD
      rw [if_neg (by simp; rw [HTN.out.2]; omega)]
      simp only []
      rw [HTN.out.1, if_neg q1]
      cases lenD xs with
      | none => rfl
      | some q => rfl
    obtain ⟨P', hP'⟩ : ∃ P' : Nat → Prop, P' = fun b => P b ∧ b < w.heap.size := ⟨_, rfl⟩
    have HP : Hid (P' = fun b => P b ∧ b < w.heap.size) := hP'
    have hrest : Hid (ByV W0 P' (if c = 1 then some ⟨b, o, none⟩ else some ⟨b, o + 1, none⟩) (c - 1) xs) := by
      have h1 := ((HV.out.mono (Q := P') (fun b hb hlt => by rw [hP']; exact ⟨hb, hlt⟩)).keep (w' := W0) (fun k _ hk => b0.block k hk)).drop 1 (by simp)
      by_cases hc : c = 1
      · rw [if_pos hc] at h1
        rw [show (if c = 1 then some (⟨b, o, none⟩ : Addr) else some ⟨b, o + 1, none⟩) = some ⟨b, o, none⟩ from if_pos hc]
        exact h1
      · rw [if_neg hc] at h1
        rw [show (if c = 1 then some (⟨b, o, none⟩ : Addr) else some ⟨b, o + 1, none⟩) = some ⟨b, o + 1, none⟩ from if_neg hc]
        exact h1
    by_cases hc : c = 1
    · subst hc
      have hx : xs = [] := List.eq_nil_of_length_eq_zero (by rw [HTN.out.2]; omega)
      have hm0 : n = 1 := by omega
      subst hx hm0
      have HL := splitLength_any (some ⟨b, o, none⟩) 0 0 [] P' W0 rfl hrest.out
      have hR : Hid (readD [t] = .error 30) := HR0.out
      clear HR0 hrest HV q1
      go_enter Tryd.func24, Tryd.ntmps24
      go_wp2_with (first | (go_at_call 32; refine (HT _).mono ?_; rintro e w1 ⟨rfl, rfl⟩) | (go_at_call 33; refine HL.mono ?_; rintro e w2 ⟨hb2, (⟨k, ys, p1, c1, hk, _⟩ | ⟨_, s, v, rfl⟩)⟩; (try cases hk); have s2 := HS0.out.1.below hb2; obtain ⟨k0, k1, k2, k3⟩ := s2.facts; obtain ⟨k4, k5⟩ := s2.facts1 (.int .u8 0); have HS2 : Hid (Tl w2 w.heap.size (.int .u8 0) (.slice none 0 0) ∧ Below w1.heap.size w1 w2) := ⟨s2, hb2⟩; clear s2 hb2))
      refine bodyPost_ret (ret_tlv3 rfl _ _ w.heap.size _ _ rfl (HS2.out.1.set2 _ _)) rfl ?_
      exact HBAD2.out _ 30 HS2.out.2 hR.out
    have HL := splitLength_any (some ⟨b, o + 1, none⟩) (n - 1) (c - 1) xs P' W0 HTN.out.2 (by have := hrest.out; rw [if_neg hc] at this; exact this)
    have h1c : (1 : Int) ≤ (c : Int) := by omega
    have hmc : (n : Int) ≤ (c : Int) := by omega
    clear hrest HV q1 hP'
    cases hLD : lenD xs with
    | none =>
      rw [hLD] at HL
      have hR : Hid (readD (t :: xs) = .error 30) := by have := HR0.out; rw [hLD] at this; exact this
      clear HR0 hLD
      go_enter Tryd.func24, Tryd.ntmps24
      go_wp2_with (first | (go_at_call 32; refine (HT _).mono ?_; rintro e w1 ⟨rfl, rfl⟩) | (go_at_call 33; refine HL.mono ?_; rintro e w2 ⟨hb2, (⟨k, ys, p1, c1, hk, _⟩ | ⟨_, s, v, rfl⟩)⟩; (try cases hk); have s2 := HS0.out.1.below hb2; obtain ⟨k0, k1, k2, k3⟩ := s2.facts; obtain ⟨k4, k5⟩ := s2.facts1 (.int .u8 0); have HS2 : Hid (Tl w2 w.heap.size (.int .u8 0) (.slice none 0 0) ∧ Below w1.heap.size w1 w2) := ⟨s2, hb2⟩; clear s2 hb2))
      refine bodyPost_ret (ret_tlv3 rfl _ _ w.heap.size _ _ rfl (HS2.out.1.set2 _ _)) rfl ?_
      exact HBAD2.out _ 30 HS2.out.2 hR.out
    | some q =>
      obtain ⟨k, ys⟩ := q
      rw [hLD] at HL
      obtain ⟨L, hL⟩ : ∃ L, ys.length = L := ⟨_, rfl⟩
      by_cases q5 : L < k
      · have hR : Hid (readD (t :: xs) = .error 30) := by have := HR0.out; rw [hLD] at this; simp only [] at this; rw [if_pos (by omega)] at this; exact this
        have q5I : (L : Int) < (k : Int) := by omega
        clear HR0 hLD
        go_enter Tryd.func24, Tryd.ntmps24
        go_wp2_with (first | (go_at_call 32; refine (HT _).mono ?_; rintro e w1 ⟨rfl, rfl⟩) | (go_at_call 33; refine HL.mono ?_; rintro e w2 ⟨hb2, (⟨k', ys', p1, c1, hk, hk6, rfl, hv⟩ | ⟨hk, _⟩)⟩; rotate_left; (cases hk); cases hk; rw [hL]; have s2 := HS0.out.1.below hb2; obtain ⟨k0, k1, k2, k3⟩ := s2.facts; obtain ⟨k4, k5⟩ := s2.facts1 (.int .u8 0); have HS2 : Hid (Tl w2 w.heap.size (.int .u8 0) (.slice none 0 0) ∧ Below w1.heap.size w1 w2) := ⟨s2, hb2⟩; clear s2 hb2 hv))
        refine bodyPost_ret (ret_tlv3 rfl _ _ w.heap.size _ _ rfl (HS2.out.1.set2 _ _)) rfl ?_
        exact HBAD2.out _ 30 HS2.out.2 hR.out
      have hR : Hid (readD (t :: xs) = .ok ((t, ys.take k), ys.drop k)) := by have := HR0.out; rw [hLD] at this; simp only [] at this; rw [if_neg (by omega)] at this; exact this
      have q5I : ¬ (L : Int) < (k : Int) := by omega
      clear HR0 hLD
      go_enter Tryd.func24, Tryd.ntmps24
      go_wp2_with (first | (go_at_call 32; refine (HT _).mono ?_; rintro e w1 ⟨rfl, rfl⟩) | (go_at_call 33; refine HL.mono ?_; rintro e w2 ⟨hb2, (⟨k', ys', p1, c1, hk, hk6, rfl, hv⟩ | ⟨hk, _⟩)⟩; rotate_left; (cases hk); cases hk; rw [hL]; have s2 := HS0.out.1.below hb2; obtain ⟨k0, k1, k2, k3⟩ := s2.facts; have HS2 : Hid (Tl w2 w.heap.size (.int .u8 0) (.slice none 0 0) ∧ Below w1.heap.size w1 w2) := ⟨s2, hb2⟩; have HV2 : Hid (ByV w2 P' p1 c1 ys) := hv.keep (fun b _ hb => hb2.block b hb); have hcap1 := hv.cap; have hbig1 := hv.big; have cc0 : w2.cell? ⟨b, o, none⟩ = some (.int .u8 (TN : Int)) := (hb2.cell (p := ⟨b, o, none⟩) (World.block_lt_of_cell? w1 _ c0)).trans c0; clear s2 hb2 hv))
      rw [hL] at hcap1
      have k1I : (k : Int) ≤ (L : Int) := by omega
      have k2I : (k : Int) ≤ (c1 : Int) := by omega
      have k3I : (L : Int) ≤ (c1 : Int) := by omega
      have k4I : (c1 : Int) ≤ 9223372036854775807 := by omega
      have HE : Hid (∀ W p2 c2, Below w2.heap.size w2 W → ByV w2 P' p2 c2 (ys.drop k) → SpPost w (fun _ => P) (readD (t :: xs)) (.returned (.tuple #[.agg #[.int .u8 (TN : Int), .slice p1 k c1], .slice p2 (L - k) c2, .int .i64 0])) ((W.setCell ⟨w.heap.size, 0, none⟩ (.int .u8 (TN : Int))).setCell ⟨w.heap.size, 1, none⟩ (.slice p1 k c1))) := fun W p2 c2 hW hv2 => by
        have hb : Below w.heap.size w W := HS0.out.2.trans ((HS2.out.2.mono HS0.out.2.size).trans (hW.mono (Nat.le_trans HS0.out.2.size HS2.out.2.size)))
        have hbut := but_set2 W w.heap.size (.int .u8 (TN : Int)) (.slice p1 k c1)
        have hk2 : ∀ g, P' g → g < w2.heap.size → ((W.setCell ⟨w.heap.size, 0, none⟩ (.int .u8 (TN : Int))).setCell ⟨w.heap.size, 1, none⟩ (.slice p1 k c1)).heap[g]? = w2.heap[g]? := fun g hg hlt => by
          rw [HP.out] at hg
          exact (hbut.block g (Nat.lt_of_lt_of_le hlt hW.size) (by have := hg.2; omega)).trans (hW.block g hlt)
        have hm : ∀ g, P' g → g < ((W.setCell ⟨w.heap.size, 0, none⟩ (.int .u8 (TN : Int))).setCell ⟨w.heap.size, 1, none⟩ (.slice p1 k c1)).heap.size → P g := fun g hg _ => by rw [HP.out] at hg; exact hg.1
        refine ⟨hb.trans (hbut.below (Nat.le_refl _) hb.size), .inl ⟨t, ys.take k, ys.drop k, p1, c1, p2, c2, hR.out, ?_, ((HV2.out.take k (by omega)).keep hk2).mono hm, (hv2.keep hk2).mono hm⟩⟩
        rw [HTN.out.1, List.length_take, List.length_drop, hL, Nat.min_eq_left (by omega)]
      have HV3 := HV2.out.drop k (by omega)
      by_cases qc : c1 = k
      · subst qc
        rw [if_pos rfl, Nat.sub_self] at HV3
        have HV4 : Hid (ByV w2 P' p1 0 (ys.drop c1)) := HV3
        clear HV3
        go_region
        go_wp2_with fail
        refine bodyPost_ret (ret_tlv3 rfl _ _ w.heap.size _ _ rfl (Tl.set2 (v0 := .int .u8 0) (v1 := .slice none 0 0) (HS2.out.1.same rfl) _ _)) rfl ?_
        have hz0 : L - c1 = 0 := by omega
        have hfin := HE.out _ _ _ (Below.refl _ _).drew HV4.out
        rw [hz0] at hfin
        exact hfin
      · rw [if_neg qc] at HV3
        have HV4 : Hid (ByV w2 P' (p1.map (fun x => x.add k)) (c1 - k) (ys.drop k)) := HV3
        clear HV3
        go_region
        go_wp2_with fail
        refine bodyPost_ret (ret_tlv3 rfl _ _ w.heap.size _ _ rfl (Tl.set2 (v0 := .int .u8 0) (v1 := .slice none 0 0) (HS2.out.1.same rfl) _ _)) rfl ?_
        exact HE.out _ _ _ (Below.refl _ _).drew HV4.out
end Go.Proofs.YtnckmcmobkpdcaaDoor
