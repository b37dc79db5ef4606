import Derived.Test.YtiblpcfkecalcaaDoorK04
import Derived.Laws.BytesArg
import Derived.Laws.AppendOwnNone
/-
  Contract of nat.Div.
-/
namespace Go.Proofs.YtiblpcfkecalcaaDoor
open Go.RowKit
set_option linter.unusedVariables false
set_option linter.unusedSimpArgs false
attribute [local go_sem ↓] Go.wp_at_zero Go.wp_at_succ
/-- How many digits a number without zeros above has. -/
theorem canon_len {xs : List Int} (hd : Dg B64 xs) (hc : Canon xs) (n : Nat) (h1 : B64 ^ n ≤ val B64 xs) (h2 : val B64 xs < B64 ^ (n + 1)) : xs.length = n + 1 := by
  unfold Canon at hc
  have a := val_lt B64_pos hd
  rcases Nat.lt_trichotomy xs.length (n + 1) with h | h | h
  · have := pow_mono (B := B64) (by decide) (show xs.length ≤ n by omega)
    omega
  · exact h
  · have b := val_ge B64_pos hd (xs.length - 1) (by omega)
    have := pow_mono (B := B64) (by decide) (show n + 1 ≤ xs.length - 1 by omega)
    omega

/-- The divisor, shifted. -/
theorem norm_div (ys : List Int) (hd : Dg B64 ys) (n : Nat) (hn : ys.length = n + 1) (hc : Canon ys) :
    ∃ t, t < 64 ∧ 64 - blen (ys.getD n 0).toNat = t ∧ 9223372036854775808 * B64 ^ n ≤ val B64 ys * 2 ^ t ∧ val B64 ys * 2 ^ t < B64 ^ (n + 1) := by
  have hg := hd.getD B64_pos n
  have ht : ys.getD n 0 ≠ 0 := by
    have := top_hit ys (by unfold Canon at hc; omega)
    unfold Canon at hc
    rw [hc, hn] at this
    simpa using this
  have hv := split_top ys 0 (n + 1) (by omega) (by omega)
  have e4 : seg ys 0 (n + 1) = ys := by unfold seg; rw [List.drop_zero, List.take_of_length_le (by omega)]
  rw [e4] at hv
  simp only [Nat.add_sub_cancel, Nat.zero_add] at hv
  have l0 := val_nonneg B64_pos ((hd.drop 0).take n)
  have l1 := val_lt B64_pos ((hd.drop 0).take n)
  have s2 := seg_len ys 0 n (by omega)
  have l0' : 0 ≤ val B64 (seg ys 0 n) := l0
  have l1' : val B64 (seg ys 0 n) < B64 ^ n := by
    have : val B64 (seg ys 0 n) < B64 ^ (seg ys 0 n).length := l1
    rwa [s2] at this
  generalize val B64 (seg ys 0 n) = lo at *
  generalize ys.getD n 0 = d at *
  obtain ⟨e, rfl⟩ := Int.eq_ofNat_of_zero_le hg.1
  have hne : e ≠ 0 := by omega
  have hlt : e < 2 ^ 64 := by have := hg.2; unfold B64 at this; omega
  have b0 := blen_le e 64 hlt
  have b1 := blen_lt e
  have b2 := blen_ge e hne
  have b3 := blen_pos e hne
  rw [Int.toNat_natCast]
  obtain ⟨t, et⟩ : ∃ t, 64 - blen e = t := ⟨_, rfl⟩
  refine ⟨t, by omega, et, ?_, ?_⟩
  · have c1 : 2 ^ 63 ≤ e * 2 ^ t := by
      have : 2 ^ (blen e - 1) * 2 ^ t ≤ e * 2 ^ t := Nat.mul_le_mul_right _ b2
      rw [← Nat.pow_add, show blen e - 1 + t = 63 by omega] at this
      exact this
    have c2 : (9223372036854775808 : Int) ≤ (e : Int) * 2 ^ t := by
      have : ((2 ^ 63 : Nat) : Int) ≤ ((e * 2 ^ t : Nat) : Int) := by omega
      rw [Int.natCast_mul, Int.natCast_pow] at this
      exact this
    have hp : (0 : Int) < B64 ^ n := Int.pow_pos B64_pos
    have c3 := Int.mul_le_mul_of_nonneg_right c2 (show (0 : Int) ≤ B64 ^ n by omega)
    have c4 : 0 ≤ lo * 2 ^ t := Int.mul_nonneg l0' (Int.le_of_lt (Int.pow_pos (by decide)))
    rw [hv, Int.add_mul]
    have : B64 ^ n * (e : Int) * 2 ^ t = (e : Int) * 2 ^ t * B64 ^ n := by grind
    omega
  · have c1 : (e + 1) * 2 ^ t ≤ 2 ^ 64 := by
      have : (e + 1) * 2 ^ t ≤ 2 ^ blen e * 2 ^ t := Nat.mul_le_mul_right _ (by omega)
      rw [← Nat.pow_add, show blen e + t = 64 by omega] at this
      exact this
    have c2 : ((e : Int) + 1) * 2 ^ t ≤ B64 := by
      have : (((e + 1) * 2 ^ t : Nat) : Int) ≤ ((2 ^ 64 : Nat) : Int) := by omega
      rw [Int.natCast_mul, Int.natCast_pow, Int.natCast_add] at this
      exact this
    have hp : (0 : Int) < 2 ^ t := Int.pow_pos (by decide)
    have hp2 : (0 : Int) < B64 ^ n := Int.pow_pos B64_pos
    have c3 : (lo + B64 ^ n * e) * 2 ^ t < (B64 ^ n + B64 ^ n * e) * 2 ^ t := Int.mul_lt_mul_of_pos_right (by omega) hp
    have c4 : (B64 ^ n + B64 ^ n * (e : Int)) * 2 ^ t = B64 ^ n * (((e : Int) + 1) * 2 ^ t) := by grind
    have c5 : B64 ^ n * (((e : Int) + 1) * 2 ^ t) ≤ B64 ^ n * B64 := Int.mul_le_mul_of_nonneg_left c2 (by omega)
    rw [hv, Int.pow_succ]
    omega

/-- What stands in both rows when the places from p on are done. -/
def Dvs (X D : Int) (lx m p : Nat) (cur qs : List Int) : Prop :=
  cur.length = lx + 1 ∧ Dg B64 cur ∧ qs.length = m ∧ Dg B64 qs ∧ val B64 cur < B64 ^ p * D ∧ X = val B64 cur + B64 ^ p * val B64 (qs.drop p) * D
theorem seg_whole (xs : List Int) (k n : Nat) (hk : k + n ≤ xs.length) (hz : ∀ j, k + n ≤ j → xs.getD j 0 = 0) : val B64 xs = low B64 xs k + B64 ^ k * val B64 (seg xs k n) := by
  rw [← low_add _ _ _ _ hk]
  refine (low_all _ _ _ ?_).symm
  by_cases h : top xs ≤ k + n
  · exact h
  · exfalso
    exact top_hit xs (by omega) (hz _ (by omega))
theorem high_zero {xs : List Int} (hd : Dg B64 xs) (n : Nat) (h : val B64 xs < B64 ^ n) (j : Nat) (hj : n ≤ j) : xs.getD j 0 = 0 := by
  apply top_above
  by_cases ht : top xs ≤ n
  · omega
  · exfalso
    obtain ⟨m, hm⟩ : ∃ m, top xs = m + 1 := ⟨top xs - 1, by omega⟩
    have := val_ge B64_pos hd m hm
    have := pow_mono (B := B64) (by decide) (show n ≤ m by omega)
    omega
theorem drop_cons (qs : List Int) (k : Nat) (h : k < qs.length) : qs.drop k = qs.getD k 0 :: qs.drop (k + 1) := by
  rw [List.drop_eq_getElem_cons h]
  simp [List.getD, List.getElem?_eq_getElem h]
theorem Dvs.pre {X D : Int} {lx m k n : Nat} {cur qs : List Int} (h : Dvs X D lx m (k + 1) cur qs) (hn : k + n + 1 ≤ lx + 1) (hD : D < B64 ^ n) (hD0 : 0 < D) :
    val B64 cur = low B64 cur k + B64 ^ k * val B64 (seg cur k (n + 1)) ∧ val B64 (seg cur k (n + 1)) < 18446744073709551616 * D := by
  obtain ⟨h1, h2, h3, h4, h5, h6⟩ := h
  have hp : (0 : Int) < B64 ^ k := Int.pow_pos B64_pos
  have hpp : (0 : Int) < B64 ^ (k + 1) := Int.pow_pos B64_pos
  have hb : val B64 cur < B64 ^ (k + 1 + n) := by
    rw [Int.pow_add]
    have := Int.mul_lt_mul_of_pos_left hD hpp
    omega
  have hz := high_zero h2 (k + 1 + n) hb
  have e := seg_whole cur k (n + 1) (by omega) (fun j hj => hz j (by omega))
  refine ⟨e, ?_⟩
  have l0 : 0 ≤ low B64 cur k := val_nonneg B64_pos (h2.take k)
  have : B64 ^ k * val B64 (seg cur k (n + 1)) < B64 ^ k * (18446744073709551616 * D) := by
    have e2 : B64 ^ (k + 1) * D = B64 ^ k * (18446744073709551616 * D) := by rw [Int.pow_succ]; have : B64 = 18446744073709551616 := rfl; rw [Int.mul_assoc]; conv => lhs; rw [show B64 * D = 18446744073709551616 * D from by rw [this]]
    omega
  exact Int.lt_of_mul_lt_mul_left this (by omega)
theorem Dvs.step {X D : Int} {lx m k n : Nat} {cur cur' qs : List Int} {G : Int} (h : Dvs X D lx m (k + 1) cur qs) (hn : k + n + 1 ≤ lx + 1) (hk : k < m) (hD : D < B64 ^ n) (hD0 : 0 < D)
    (c1 : cur'.length = cur.length) (c2 : Dg B64 cur') (c3 : ∀ j, j < k ∨ k + n < j → cur'.getD j 0 = cur.getD j 0) (eG : G = val B64 (seg cur k (n + 1)) / D) (eR : val B64 (seg cur' k (n + 1)) = val B64 (seg cur k (n + 1)) % D) :
    (0 ≤ G ∧ G < 18446744073709551616) ∧ Dvs X D lx m k cur' (qs.set k G) := by
  obtain ⟨p1, p2⟩ := h.pre hn hD hD0
  obtain ⟨h1, h2, h3, h4, h5, h6⟩ := h
  have hp : (0 : Int) < B64 ^ k := Int.pow_pos B64_pos
  have hb : val B64 cur < B64 ^ (k + 1 + n) := by
    have hpp : (0 : Int) < B64 ^ (k + 1) := Int.pow_pos B64_pos
    rw [Int.pow_add]
    have := Int.mul_lt_mul_of_pos_left hD hpp
    omega
  have hz := high_zero h2 (k + 1 + n) hb
  have s0 : 0 ≤ val B64 (seg cur k (n + 1)) := val_nonneg B64_pos ((h2.drop k).take (n + 1))
  have hG : 0 ≤ G ∧ G < 18446744073709551616 := ⟨by rw [eG]; exact Int.ediv_nonneg s0 (by omega), by rw [eG]; exact Int.ediv_lt_of_lt_mul hD0 p2⟩
  have q1 := seg_whole cur' k (n + 1) (by omega) (fun j hj => by rw [c3 j (by omega)]; exact hz j (by omega))
  rw [low_congr B64 cur' cur k (fun j hj => c3 j (by omega)), eR] at q1
  have l0 : 0 ≤ low B64 cur k := val_nonneg B64_pos (h2.take k)
  have l1 : low B64 cur k < B64 ^ k := by
    have a := val_lt B64_pos (h2.take k)
    have b : (cur.take k).length = k := by simp; omega
    rw [b] at a; exact a
  have r0 := Int.emod_nonneg (val B64 (seg cur k (n + 1))) (show D ≠ 0 by omega)
  have r1 := Int.emod_lt_of_pos (val B64 (seg cur k (n + 1))) hD0
  refine ⟨hG, by omega, c2, by simp [h3], h4.set _ hG, ?_, ?_⟩
  · rw [q1]
    have : B64 ^ k * (val B64 (seg cur k (n + 1)) % D + 1) ≤ B64 ^ k * D := Int.mul_le_mul_of_nonneg_left (by omega) (by omega)
    rw [Int.mul_add] at this
    omega
  · have e1 : (qs.set k G).drop k = G :: qs.drop (k + 1) := by
      rw [drop_cons _ _ (by simp; omega), getD_set _ _ _ _ (by omega), if_pos rfl, List.drop_set_of_lt (by omega)]
    rw [e1, val, h6, p1, q1, Int.pow_succ]
    have e2 := Int.mul_ediv_add_emod (val B64 (seg cur k (n + 1))) D
    rw [← eG] at e2
    generalize val B64 (seg cur k (n + 1)) % D = r at *
    generalize val B64 (qs.drop (k + 1)) = Q at *
    rw [← e2]
    generalize low B64 cur k = l at *
    generalize B64 ^ k = p at *
    generalize B64 = b at *
    grind
theorem Dvs.done {D : Int} {lx m t : Nat} {cur qs : List Int} {x y : Int} (h : Dvs (x * 2 ^ t) D lx m 0 cur qs) (eD : D = y * 2 ^ t) (hD0 : 0 < D) : val B64 qs = x / y ∧ val B64 cur / 2 ^ t = x % y := by
  obtain ⟨h1, h2, h3, h4, h5, h6⟩ := h
  simp only [Int.pow_zero, Int.one_mul, List.drop_zero] at h5 h6
  have hp : (0 : Int) < 2 ^ t := Int.pow_pos (by decide)
  have v0 := val_nonneg B64_pos h2
  have hy : 0 < y := by
    by_cases hy : 0 < y
    · exact hy
    · exfalso
      have : y * 2 ^ t ≤ 0 * 2 ^ t := Int.mul_le_mul_of_nonneg_right (by omega) (by omega)
      omega
  have e1 : x * 2 ^ t / D = val B64 qs := by
    rw [h6, Int.add_mul_ediv_right _ _ (by omega), Int.ediv_eq_zero_of_lt v0 h5]; omega
  have e2 : x * 2 ^ t % D = val B64 cur := by
    rw [h6, Int.add_mul_emod_self_right]; exact Int.emod_eq_of_lt v0 h5
  rw [eD] at e1 e2
  rw [Int.mul_ediv_mul_of_pos_left _ _ hp] at e1
  rw [Int.mul_comm x, Int.mul_comm y, Int.mul_emod_mul_of_pos _ _ hp] at e2
  refine ⟨e1.symm, ?_⟩
  rw [← e2, Int.mul_ediv_cancel_left _ (by omega)]
end Go.Proofs.YtiblpcfkecalcaaDoor
/-
  Contract of nat.Div.
-/
namespace Go.Proofs.YtiblpcfkecalcaaDoor
open Go.RowKit
set_option linter.unusedVariables false
set_option linter.unusedSimpArgs false
attribute [local go_sem ↓] Go.wp_at_zero Go.wp_at_succ
/-- Both answers of Div. -/
def DivOut (w w' : World) (q r : Value) (x y : Int) (L : Nat) : Prop := NumOut .u64 B64 w w' q (x / y) L ∧ NumOut .u64 B64 w w' r (x % y) L

end Go.Proofs.YtiblpcfkecalcaaDoor
/-
  Contract of the fixed facts: Awake answers true; and of long.
-/
namespace Go.Proofs.YtiblpcfkecalcaaDoor
open Go.RowKit
set_option linter.unusedVariables false
set_option linter.unusedSimpArgs false

theorem one_number {xs : List Int} (hd : Dg B64 xs) (hc : Canon xs) {ys : List Int} (hd' : Dg B64 ys) (hc' : Canon ys) (h : val B64 xs = val B64 ys) : xs = ys := canon_inj B64_one hd hd' hc hc' h
theorem dg_lit2 (a b : Int) (ha : 0 ≤ a ∧ a < 18446744073709551616) (hb : 0 ≤ b ∧ b < 18446744073709551616) : Dg B64 [a, b] := Dg.cons ha (Dg.cons hb (Dg.nil _))

end Go.Proofs.YtiblpcfkecalcaaDoor
/-
  Contract of long: whether one of the numbers handed over has more limbs than are gone to.
-/
namespace Go.Proofs.YtiblpcfkecalcaaDoor
open Go.RowKit
set_option linter.unusedVariables false
set_option linter.unusedSimpArgs false

end Go.Proofs.YtiblpcfkecalcaaDoor
/-
  What a law is told of a slice of integers that came in, as a number.
-/
namespace Go.Proofs.YtiblpcfkecalcaaDoor
open Go.RowKit
set_option linter.unusedVariables false
set_option linter.unusedSimpArgs false

/-- A slice of integers that came in: nil, or a row of 'cap' cells. -/
def Came (k : IntKind) (w : World) (a : Option Addr) (len cap : Nat) (zs : List Int) : Prop :=
  (a = none ∧ len = 0 ∧ cap = 0 ∧ zs = []) ∨
  ∃ x, a = some x ∧ len ≤ cap ∧ cap ≤ maxLen ∧ zs.length = cap ∧ (∀ i, i < zs.length → w.cell? (x.add i) = some (.int k (zs.getD i 0))) ∧ ∀ n ∈ zs, (Lit.int k n).wf = true

theorem word_u64 {x : Int} (h : (Lit.int .u64 x).wf = true) : 0 ≤ x ∧ x < 18446744073709551616 := by
  simp [Lit.wf, IntKind.min, IntKind.max, IntKind.signed, IntKind.bits] at h
  exact ⟨by omega, by omega⟩
theorem word_u8 {x : Int} (h : (Lit.int .u8 x).wf = true) : 0 ≤ x ∧ x < 256 := by
  simp [Lit.wf, IntKind.min, IntKind.max, IntKind.signed, IntKind.bits] at h
  exact ⟨by omega, by omega⟩

theorem Came.le {k : IntKind} {w : World} {a : Option Addr} {len cap : Nat} {zs : List Int} (h : Came k w a len cap zs) : len ≤ maxLen := by
  rcases h with ⟨rfl, rfl, rfl, rfl⟩ | ⟨x, rfl, h1, h2, _⟩
  · simp
  · omega
theorem Came.num {k : IntKind} {B : Int} {w : World} {a : Option Addr} {len cap : Nat} {zs : List Int} (hk : ∀ n, (Lit.int k n).wf = true → 0 ≤ n ∧ n < B) (h : Came k w a len cap zs) (hs : len ≤ 1073741824) : NumIn k B w a len cap (zs.take len) := by
  rcases h with ⟨rfl, rfl, rfl, rfl⟩ | ⟨x, rfl, h1, h2, h3, h4, h5⟩
  · exact NumIn.nil
  · refine ⟨⟨by simp; omega, ?_⟩, h1, h2, (fun h => by cases h), fun n hn => hk n (h5 n (List.mem_of_mem_take hn)), hs⟩
    by_cases h0 : len = 0
    · exact .inl h0
    · right
      obtain ⟨b, off, spot⟩ := x
      have hc := h4 0 (by omega)
      have hspot : spot = none := by simpa [Addr.add] using World.cell?_spot hc
      subst hspot
      refine ⟨b, off, rfl, ?_, fun i hi => ?_⟩
      · rw [add_none] at hc
        exact World.block_lt_of_cell? w ⟨b, off + 0, none⟩ hc
      · have := h4 i (by omega)
        rw [add_none] at this
        rw [this]
        simp only [List.getD, List.getElem?_take]
        rw [if_pos hi]
theorem Came.nat {w : World} {a : Option Addr} {len cap : Nat} {zs : List Int} (h : Came .u64 w a len cap zs) (hs : len ≤ 70) : NumIn .u64 B64 w a len cap (zs.take len) := h.num (fun _ => word_u64) (by omega)
theorem Came.bytes {w : World} {a : Option Addr} {len cap : Nat} {zs : List Int} (h : Came .u8 w a len cap zs) (hs : len ≤ 2000) : NumIn .u8 256 w a len cap (zs.take len) := h.num (fun _ => word_u8) (by omega)
theorem Came.old {k : IntKind} {w w' : World} {a : Option Addr} {len cap : Nat} {zs : List Int} (h : Came k w a len cap zs) (hb : Below w.heap.size w w') : Came k w' a len cap zs := by
  rcases h with h | ⟨x, rfl, h1, h2, h3, h4, h5⟩
  · exact .inl h
  · refine .inr ⟨x, rfl, h1, h2, h3, fun i hi => ?_, h5⟩
    have := h4 i hi
    have hlt := World.block_lt_of_cell? w _ this
    rw [hb.cell hlt]; exact this
end Go.Proofs.YtiblpcfkecalcaaDoor
/-
  append of numbers to a slice of the call's own.
-/
namespace Go.Proofs.YtiblpcfkecalcaaDoor
open Go.RowKit
set_option linter.unusedVariables false
set_option linter.unusedSimpArgs false

/-- The slice value v is the call's own (its block is from 'base' on) and holds xs. -/
def Own (e : TypeId) (k : IntKind) (w : World) (base : Nat) (v : Value) (xs : List Int) : Prop := w.ownsRow base e 1 v xs.length (xs.map (Value.int k))

theorem Own.nil (e : TypeId) (k : IntKind) (w : World) (base : Nat) : Own e k w base (.slice none 0 0) [] := World.ownsRow_nil w base e 1
theorem Own.num {e : TypeId} {k : IntKind} {B : Int} {w : World} {base : Nat} {v : Value} {xs : List Int} (h : Own e k w base v xs) (hd : Dg B xs) (hs : xs.length ≤ 1073741824) : ∃ ao cap, v = .slice ao xs.length cap ∧ NumIn k B w ao xs.length cap xs := by
  rcases h.2 with ⟨rfl, h0⟩ | ⟨g, cap, cur, rfl, hg, hrow, h1, h2, h3, h4⟩
  · have : xs = [] := List.eq_nil_of_length_eq_zero h0
    subst this
    exact ⟨none, 0, rfl, NumIn.nil⟩
  · refine ⟨_, cap, rfl, ⟨⟨rfl, ?_⟩, h1, h2, (fun h => by cases h), hd, hs⟩⟩
    right
    refine ⟨g, 0, rfl, (Array.getElem?_eq_some_iff.1 hrow).1, fun i hi => ?_⟩
    rw [Nat.zero_add, cell_of_row w g i cur e (0, 0) hrow]
    have : (cur.toList.take (xs.length * 1))[i]? = (xs.map (Value.int k))[i]? := by rw [h4]
    rw [List.getElem?_take, if_pos (by omega)] at this
    rw [← Array.getElem?_toList, this]
    simp [hi]
theorem Own.below {e : TypeId} {k : IntKind} {w w' : World} {base : Nat} {v : Value} {xs : List Int} (h : Own e k w base v xs) (hb : Below w.heap.size w w') : Own e k w' base v xs := by
  refine ⟨h.1, ?_⟩
  rcases h.2 with h0 | ⟨g, cap, cur, rfl, hg, hrow, r⟩
  · exact .inl h0
  · exact .inr ⟨g, cap, cur, rfl, hg, by rw [hb.block g (Array.getElem?_eq_some_iff.1 hrow).1]; exact hrow, r⟩
theorem Own.alloc {e : TypeId} {k : IntKind} {w : World} {base : Nat} {v : Value} {xs : List Int} (h : Own e k w base v xs) (o : Obj) : Own e k (w.alloc o) base v xs := World.ownsRow.alloc h o
/-- A slice literal without elements. -/
theorem own_lit0 (e : TypeId) (k : IntKind) (w : World) (base : Nat) (hb : base ≤ w.heap.size) : Own e k (w.alloc (.cells #[] e)) base (.slice (some ⟨w.heap.size, 0, none⟩) 0 0) [] :=
  World.ownsRow_lit w #[] 0 hb (Nat.zero_le _) (by simp)
theorem Row.own {e : TypeId} {k : IntKind} {w : World} {g base : Nat} {xs : List Int} (h : Row e k w g xs) (hb : base ≤ g) (hs : xs.length ≤ 1073741824) : Own e k w base (.slice (some ⟨g, 0, none⟩) xs.length xs.length) xs := by
  refine ⟨by simp, .inr ⟨g, xs.length, _, rfl, hb, h, Nat.le_refl _, by unfold maxLen; omega, by simp, ?_⟩⟩
  simp only [Nat.mul_one]
  exact List.take_of_length_le (by simp)

/-- append(out, src...): whatever the source. -/
theorem wpList_append_nums {P : Program} {w : World} {ops : Array Oper} {rest : List Oper} {o : Oper} {a : Act} {Q : Exit → Act → World → Prop} (hgd : o.guard = none) (s x : Operand) (t : TypeId)
    (ho : o.op = .call { callee := .builtin .append, args := #[s, x], argTypes := #[t, t] }) (e : TypeId) (k : IntKind) (bytes : Nat) (ht : P.underlying t = some (.slice e))
    (h2 : (P.info? e).map (fun i => (i.zero, i.size, i.bytes)) = some (some (.int k 0), 1, bytes)) (base : Nat) (v : Value) (xs : List Int) (hs : a.eval s = v) (hown : Own e k w base v xs)
    (ao : Option Addr) (m c : Nat) (ys : List Int) (hx : a.eval x = .slice ao m c) (hy : Lies k w ao m ys) (hnn : ao = none → c = 0) (hb1 : xs.length + m ≤ 1073741824) (hb2 : bytes ≤ 8) (w0 : World) (hb : Below base w0 w) (hbase : base ≤ w.heap.size)
    (h : ∀ v' w', Own e k w' base v' (xs ++ ys) → Below base w0 w' → (∀ g, v.ownBlock ≠ some g → g < w.heap.size → w'.heap[g]? = w.heap[g]?) → w.heap.size ≤ w'.heap.size → wpList P ops Q rest (a.put o.dst v') w') : wpList P ops Q (o :: rest) a w := by
  obtain ⟨i, hi, hz0, hz1, hz2⟩ := info_parts h2
  have hl := hy.len
  cases ao with
  | none =>
    obtain rfl := hnn rfl
    have hm0 : m = 0 := by
      rcases hy.2 with h | ⟨b, off, e', _⟩
      · exact h
      · cases e'
    subst hm0
    have hy0 : ys = [] := List.eq_nil_of_length_eq_zero hl
    subst hy0
    refine wpList_append_own_none hgd s x t ho base e i 1 ht hi v _ _ hs hown hx ?_
    exact h v w (by rw [List.append_nil]; exact hown) hb (fun _ _ _ => rfl) (Nat.le_refl _)
  | some ad =>
    have hbt : (xs.length + m) * bytes ≤ 140737488355328 := by
      have := Nat.mul_le_mul hb1 hb2
      omega
    refine wpList_append_own (w := w) hgd s x t ho base e i (.int k 0) 1 bytes ht hi hz0 hz1 hz2 rfl (by decide) v _ _ hs hown ad m c (ys.map (Value.int k)) hx (by simp [hl]) ?_ (ints_oneCell _ _) (by unfold maxLen; omega) hbt hbase ?_
    · intro j u hj
      simp only [List.getElem?_map] at hj
      by_cases hjm : j < ys.length
      · obtain ⟨b, off, e', hlt, hc⟩ := hy.at (by omega)
        injection e' with e'
        subst e'
        have := hc j (by omega)
        rw [List.getElem?_eq_getElem hjm] at hj
        simp only [Option.map_some, Option.some.injEq] at hj
        rw [add_none, this, ← hj]
        simp [List.getD, List.getElem?_eq_getElem hjm]
      · rw [List.getElem?_eq_none (by omega)] at hj
        simp at hj
    · intro v' w' hown' hgr _
      refine h v' w' ?_ (hb.grown hgr hbase ?_) ?_ hgr.size
      · unfold Own
        rw [List.length_append, List.map_append, hl]
        exact hown'
      · intro g hg
        exact (hown.lt g hg).1
      · intro g hg hlt
        exact hgr.block g hlt (fun e => hg e.symm)

theorem blen_bytes (B : Int) (n : Nat) (h0 : 0 ≤ B) (h : B < 256 ^ n) : blen B.toNat ≤ 8 * n := by
  apply blen_le
  have e : ((2 ^ (8 * n) : Nat) : Int) = 256 ^ n := by rw [Int.natCast_pow, Int.pow_mul]; rfl
  rw [← e] at h
  omega
/-- Bytes as a text. -/
theorem conv_bytes (w : World) (src dst e : TypeId) (hs : Tryd.prog.underlying src = some (.slice e)) (he : Tryd.prog.underlying e = some (.int .u8)) (hd : Tryd.prog.underlying dst = some .string) (ao : Option Addr) (len cap : Nat) (xs : List Int) (h : Lies .u8 w ao len xs) :
    (convert src dst (.slice ao len cap)).run Tryd.prog w = .ok (.string (strOfNums xs)) w := by
  have hl := h.len
  rcases h.2 with h0 | ⟨b, off, rfl, hb, hc⟩
  · subst h0
    have hx : xs = [] := List.eq_nil_of_length_eq_zero hl
    subst hx
    cases ao with
    | none => exact run_convert_bytes_nil w src e hs he 0 cap dst hd
    | some a =>
      rw [run_convert_bytes_string w src dst e _ 0 cap hs he hd, run_bytesToString w a 0 cap [] (by rfl)]
      rfl
  · exact run_convert_bytes_arg w src e hs he b off len cap xs hl hc dst hd

end Go.Proofs.YtiblpcfkecalcaaDoor
/-
  Contracts of the document's answer (numbers as digits of 16 bits): trim, Of, Nat, Same.
-/
namespace Go.Proofs.YtiblpcfkecalcaaDoor
open Go.RowKit
set_option linter.unusedVariables false
set_option linter.unusedSimpArgs false

/-- An operation whose guard is met is walked as one without. -/
theorem wpList_unguard {P : Program} {w : World} {ops : Array Oper} {rest : List Oper} {o : Oper} {a : Act} {Q : Exit → Act → World → Prop} (hw : Region.wanted o (yielded ops a.tmps) = true)
    (h : wpList P ops Q ({ o with guard := none } :: rest) a w) : wpList P ops Q (o :: rest) a w := by
  have hn : Region.wanted { o with guard := none } (yielded ops a.tmps) = true := rfl
  unfold wpList at h ⊢
  rw [if_pos hn] at h
  rw [if_pos hw]
  exact h

/-- append(out, x). -/
theorem wpList_append_one {P : Program} {w : World} {ops : Array Oper} {rest : List Oper} {o : Oper} {a : Act} {Q : Exit → Act → World → Prop} (hgd : o.guard = none) (s x : Operand) (t : TypeId)
    (ho : o.op = .call { callee := .builtin .append, args := #[s, x], argTypes := #[t, t] }) (e : TypeId) (k : IntKind) (bytes : Nat) (ht : P.underlying t = some (.slice e))
    (h2 : (P.info? e).map (fun i => (i.zero, i.size, i.bytes)) = some (some (.int k 0), 1, bytes)) (base : Nat) (v : Value) (xs : List Int) (y : Int) (hs : a.eval s = v) (hown : Own e k w base v xs)
    (hx : a.eval x = .slice (some ⟨w.heap.size, 0, none⟩) 1 1) (hb1 : xs.length < 1073741824) (hb2 : bytes ≤ 8) (w0 : World) (hb : Below base w0 w) (hbase : base ≤ w.heap.size)
    (h : ∀ v' w', Own e k w' base v' (xs ++ [y]) → Below base w0 w' → wpList P ops Q rest (a.put o.dst v') w') : wpList P ops Q (o :: rest) a (w.alloc (.cells #[.int k y] e)) := by
  refine wpList_append_nums hgd s x t ho e k bytes ht h2 base v xs hs (hown.alloc _) (some ⟨w.heap.size, 0, none⟩) 1 1 [y] hx ((row_alloc w e k y).lies 0 1 (by simp)) (fun h => by cases h) (by omega) hb2 w0 (hb.alloc hbase _) (by simp; omega) ?_
  intro v' w' h1 h2 _ _
  exact h v' w' h1 h2

def D16 : Int := 65536
theorem D16_pos : 0 < D16 := by decide
theorem D16_one : 1 < D16 := by decide
theorem D16_4 : D16 ^ 4 = B64 := by decide

set_option maxHeartbeats 1000000 in
/-- the document's trim. -/
theorem rtrim_any (ao : Option Addr) (len cap : Nat) (xs : List Int) (w : World) (h : NumIn .i64 D16 w ao len cap xs) :
    Calls Tryd.prog 42 #[.slice ao len cap] w fun e w' => e = .returned (.slice ao (top xs) cap) ∧ w' = w := by
  have hl := h.len
  have ht := top_le xs
  have hs := h.sm
  have hm := h.cm
  have hlc := h.lc
  have hn := h.nn
  unfold maxLen at hm
  go_enter Tryd.func42, Tryd.ntmps42
  go_wp2
  go_loop [3] (fun v => ∃ k : Nat, k ≤ len ∧ v = .int .i64 k ∧ ∀ j, k ≤ j → j < len → xs.getD j 0 = 0) (fun v => (intOf v).toNat)
  case atStart => exact ⟨len, Nat.le_refl _, rfl, fun j h1 h2 => by omega⟩
  case round =>
    obtain ⟨k, hk, rfl, hz⟩ := hrel
    have fin : top xs = k → ∀ (K : Prop), (top xs = k → K) → K := fun h K f => f h
    by_cases h0 : k = 0
    · subst h0
      have htop : top xs = 0 := top_eq xs 0 (fun j h1 h2 => hz j h1 (by omega)) (.inl rfl)
      have HT : Hid (top xs = 0) := htop
      clear htop hz fin h
      cases ao with
      | none =>
        obtain rfl := hn rfl
        obtain rfl : len = 0 := by omega
        go_wp2
        go_ret
        exact ⟨ret_slice HT.out.symm rfl, rfl⟩
      | some a =>
        go_wp2
        go_ret
        exact ⟨ret_slice HT.out.symm rfl, rfl⟩
    · obtain ⟨b, off, rfl, hb, hc⟩ := h.lies.at (by omega)
      obtain ⟨m, rfl⟩ : ∃ m, k = m + 1 := ⟨k - 1, by omega⟩
      have hcell := hc m (by omega)
      by_cases hz0 : xs.getD m 0 = 0
      · have HZ : Hid (∀ j, m ≤ j → j < len → xs.getD j 0 = 0) := fun j h1 h2 => by
          by_cases e : j = m
          · rw [e]; exact hz0
          · exact hz j (by omega) h2
        rw [hz0] at hcell
        clear hz hc hz0 fin h0 h
        go_wp2
        go_round
        case rel => exact ⟨m, by omega, by go_num, HZ.out⟩
        case measure => simp only [intOf]; omega
      · have htop : top xs = m + 1 := top_eq xs (m + 1) (fun j h1 h2 => hz j h1 (by omega)) (.inr (by simpa using hz0))
        have HT : Hid (top xs = m + 1) := htop
        have hzb : (xs.getD m 0 == 0) = false := by simpa using hz0
        generalize xs.getD m 0 = x at *
        clear htop hz hc hz0 fin h0 h ht
        go_wp2
        go_ret
        exact ⟨ret_slice HT.out.symm rfl, rfl⟩

theorem val_snoc (B : Int) (xs : List Int) (y : Int) : val B (xs ++ [y]) = val B xs + B ^ xs.length * y := by rw [val_append]; simp [val]
/-- What Of has gathered: i limbs whole, k digits of the next. -/
def Ofs (xs : List Int) (i k : Nat) (ds : List Int) (x : Int) : Prop :=
  ds.length = 4 * i + k ∧ Dg D16 ds ∧ 0 ≤ x ∧ x < D16 ^ (4 - k) ∧ val D16 ds + D16 ^ (4 * i + k) * x = low B64 xs (i + 1)
theorem pow_D (i : Nat) : D16 ^ (4 * i) = B64 ^ i := by rw [Int.pow_mul, D16_4]
theorem Ofs.start {xs : List Int} {i : Nat} {ds : List Int} (h1 : ds.length = 4 * i) (h2 : Dg D16 ds) (h3 : val D16 ds = low B64 xs i) (hx : 0 ≤ xs.getD i 0 ∧ xs.getD i 0 < B64) : Ofs xs i 0 ds (xs.getD i 0) :=
  ⟨by omega, h2, hx.1, by rw [Nat.sub_zero, D16_4]; exact hx.2, by rw [Nat.add_zero, pow_D, low_succ, h3]⟩
theorem Ofs.step {xs : List Int} {i k : Nat} {ds : List Int} {x : Int} (h : Ofs xs i k ds x) (hk : k < 4) : Ofs xs i (k + 1) (ds ++ [x % 65536]) (x / 65536) := by
  obtain ⟨h1, h2, h3, h4, h5⟩ := h
  refine ⟨by simp [h1]; omega, h2.append (Dg.cons ⟨by omega, by unfold D16; omega⟩ (Dg.nil _)), by omega, ?_, ?_⟩
  · obtain ⟨j, hj⟩ : ∃ j, 4 - k = j + 1 := ⟨3 - k, by omega⟩
    rw [show 4 - (k + 1) = j by omega]
    rw [hj, Int.pow_succ] at h4
    unfold D16 at h4 ⊢
    omega
  · rw [val_snoc, h1, show 4 * i + (k + 1) = (4 * i + k) + 1 by omega, Int.pow_succ, ← h5]
    have e : x = x % 65536 + 65536 * (x / 65536) := by omega
    generalize x / 65536 = q at *
    generalize x % 65536 = r at *
    rw [e]
    have : D16 = 65536 := rfl
    generalize D16 ^ (4 * i + k) = p at *
    rw [this]
    grind
theorem Ofs.done {xs : List Int} {i : Nat} {ds : List Int} {x : Int} (h : Ofs xs i 4 ds x) : ds.length = 4 * (i + 1) ∧ Dg D16 ds ∧ val D16 ds = low B64 xs (i + 1) := by
  obtain ⟨h1, h2, h3, h4, h5⟩ := h
  have : x = 0 := by simp at h4; omega
  rw [this, Int.mul_zero, Int.add_zero] at h5
  exact ⟨by omega, h2, h5⟩

set_option maxHeartbeats 4000000 in
/-- the document's Of. -/
theorem rOf_any (ao : Option Addr) (la ca : Nat) (xs : List Int) (w : World) (h : NumIn .u64 B64 w ao la ca xs) (hla : la ≤ 1000000) :
    Calls Tryd.prog 20 #[.slice ao la ca] w fun e w' => ∃ v, e = .returned v ∧ NumOut .i64 D16 w w' v (val B64 xs) (4 * la) := by
  have hl := h.len
  go_enter Tryd.func20, Tryd.ntmps20
  go_wp2
  go_loopw [3, 4] (fun vo vi wr => ∃ (i : Nat) (ds : List Int), i ≤ la ∧ vi = .int .i64 i ∧ Own 3 .i64 wr w.heap.size vo ds ∧ (ds.length = 4 * i ∧ Dg D16 ds ∧ val D16 ds = low B64 xs i) ∧ Below w.heap.size w wr) (fun _ vi _ => la - (intOf vi).toNat)
  case atStart => exact ⟨0, [], Nat.zero_le _, rfl, Own.nil _ _ _ _, ⟨rfl, Dg.nil _, by simp [val, low_zero]⟩, Below.refl _ _⟩
  case round =>
    obtain ⟨i, ds, hi, rfl, hown, hds, hb⟩ := hrel
    by_cases hlt : i < la
    · have hx := h.lies.old hb
      obtain ⟨b, off, rfl, hblk, hc⟩ := hx.at (by omega)
      have hcell := hc i hlt
      have gx := h.dg.getD B64_pos i
      have hst := Ofs.start hds.1 hds.2.1 hds.2.2 gx
      generalize xs.getD i 0 = x at *
      have HST : Hid (Ofs xs i 0 ds x) := hst
      have HOWN : Hid (Own 3 .i64 wr w.heap.size u3 ds) := hown
      have HB : Hid (Below w.heap.size w wr) := hb
      have HX : Hid (0 ≤ x ∧ x < B64) := gx
      clear hst hown hb hc hx hds gx
      go_wp2
      go_loopw [3, 5, 6] (fun vo vx vk wr => ∃ (k : Nat) (ds : List Int) (x : Int), k ≤ 4 ∧ vk = .int .i64 k ∧ vx = .int .u64 x ∧ Own 3 .i64 wr w.heap.size vo ds ∧ Ofs xs i k ds x ∧ Below w.heap.size w wr) (fun _ _ vk _ => 4 - (intOf vk).toNat)
      case atStart => exact ⟨0, ds, x, by omega, rfl, rfl, HOWN.out, HST.out, HB.out⟩
      case round =>
        obtain ⟨k, ds2, x2, hk, rfl, rfl, hown2, hof, hb2⟩ := hrel
        by_cases hk4 : k < 4
        · have hx0 := hof.2.2.1
          have hlen2 := hof.1
          have HS : Hid (Ofs xs i (k + 1) (ds2 ++ [x2 % 65536]) (x2 / 65536)) := hof.step hk4
          have hxb : x2 < 18446744073709551616 := by
            have := hof.2.2.2.1
            have hp := pow_mono (B := D16) (by decide) (show 4 - k ≤ 4 by omega)
            rw [D16_4] at hp
            unfold B64 at hp
            omega
          have hbs := hb2.size
          have HLB : Hid (ds2.length < 1073741824) := by unfold Hid; omega
          clear hof HST HOWN HB HX hcell hlen2
          go_wp2_with (at_builtin; refine wpList_append_one rfl _ _ 50 rfl 3 .i64 8 Tryd.underlying50 Tryd.infoI w.heap.size u3 ds2 (x2 % 65536) (by rfl) hown2 (by rfl) HLB.out (by decide) w hb2 hbs ?_)
          intro v' w' hown' hb'
          clear hown2 hb2 hbs
          go_wp2
          go_roundw
          case rel => exact ⟨k + 1, _, _, by omega, by go_num, rfl, hown', HS.out, hb'⟩
          case measure => simp [intOf]; omega
        · obtain rfl : k = 4 := by omega
          have hdn := hof.done
          have HF : Hid _ := hdn
          clear hof hdn HST HOWN HB HX hcell
          go_wp2
          go_roundw
          case rel => exact ⟨i + 1, _, by omega, by go_num, hown2, HF.out, hb2⟩
          case measure => simp [intOf]; omega
    · obtain rfl : i = la := by omega
      obtain ⟨a2, c2, hv, hnum⟩ := hown.num hds.2.1 (by omega)
      have HV : Hid (val D16 ds = val B64 xs) := by unfold Hid; rw [hds.2.2, ← hl, low_len]
      have HL : Hid (ds.length = 4 * i) := hds.1
      have HN : Hid (NumIn .i64 D16 wr a2 ds.length c2 ds) := hnum
      have HB : Hid (Below w.heap.size w wr) := hb
      subst hv
      clear hown hds hnum hb
      go_wp2_with fail
      refine (rtrim_any _ _ _ _ _ HN.out).mono ?_
      rintro e w4 ⟨rfl, rfl⟩
      go_wp2
      go_ret
      exact ⟨_, rfl, HN.out.out HB.out _ HV.out _ (by have := HL.out; omega)⟩
end Go.Proofs.YtiblpcfkecalcaaDoor
/-
  Contracts of the document's answer: a number of digits as limbs (Nat), two numbers as they stand (Same), and the law's own 'is'.
-/
namespace Go.Proofs.YtiblpcfkecalcaaDoor
open Go.RowKit
set_option linter.unusedVariables false
set_option linter.unusedSimpArgs false

/-- The number that n digits from place p on say. -/
def hi (ds : List Int) (p : Nat) : Nat → Int
  | 0 => 0
  | n + 1 => ds.getD p 0 + 65536 * hi ds (p + 1) n
theorem hi_range (ds : List Int) (hd : Dg D16 ds) : ∀ (n p : Nat), 0 ≤ hi ds p n ∧ hi ds p n < D16 ^ n
  | 0, p => by simp [hi]
  | n + 1, p => by
    have h := hi_range ds hd n (p + 1)
    have g := hd.getD D16_pos p
    rw [hi, Int.pow_succ]
    unfold D16 at *
    omega
theorem hi_low (ds : List Int) : ∀ (n p : Nat), low D16 ds (p + n) = low D16 ds p + D16 ^ p * hi ds p n
  | 0, p => by simp [hi]
  | n + 1, p => by
    have h := hi_low ds n (p + 1)
    rw [show p + (n + 1) = p + 1 + n by omega, h, hi, low_succ, Int.pow_succ]
    have : D16 = 65536 := rfl
    generalize D16 ^ p = q at *
    rw [this]
    grind
/-- A number that fills its digits has no zeros above. -/
theorem canon_of_ge {B : Int} (hB : 1 < B) {xs : List Int} (hd : Dg B xs) (n : Nat) (hl : xs.length = n + 1) (h : B ^ n ≤ val B xs) : Canon xs := by
  unfold Canon
  have ht := top_le xs
  by_cases e : top xs = xs.length
  · exact e
  · exfalso
    have a := val_lt (by omega) (hd.take (top xs))
    rw [val_take_top] at a
    have c : (xs.take (top xs)).length = top xs := by simp; omega
    rw [c] at a
    have d := pow_mono (B := B) (by omega) (show top xs ≤ n by omega)
    omega
/-- What Nat has gathered: m limbs. -/
def Nats (ds : List Int) (m : Nat) (outs : List Int) : Prop := outs.length = m ∧ Dg B64 outs ∧ val B64 outs = low D16 ds (4 * m)
theorem Nats.step {ds : List Int} {m : Nat} {outs : List Int} (hd : Dg D16 ds) (h : Nats ds m outs) : Nats ds (m + 1) (outs ++ [hi ds (4 * m) 4]) := by
  obtain ⟨h1, h2, h3⟩ := h
  have hr := hi_range ds hd 4 (4 * m)
  rw [D16_4] at hr
  refine ⟨by simp [h1], h2.append (Dg.cons hr (Dg.nil _)), ?_⟩
  rw [val_snoc, h3, h1, show 4 * (m + 1) = 4 * m + 4 by omega, hi_low, pow_D]
theorem Nats.done {ds : List Int} {m : Nat} {outs : List Int} (h : Nats ds m outs) (hd : Dg D16 ds) (hc : Canon ds) (h1 : ds.length ≤ 4 * m) (h2 : 4 * m < ds.length + 4) : val B64 outs = val D16 ds ∧ Canon outs := by
  obtain ⟨e1, e2, e3⟩ := h
  have hv : val B64 outs = val D16 ds := by rw [e3]; exact low_all _ _ _ (by unfold Canon at hc; omega)
  refine ⟨hv, ?_⟩
  cases m with
  | zero =>
    have : outs = [] := List.eq_nil_of_length_eq_zero e1
    rw [this]; exact Canon.nil
  | succ m =>
    refine canon_of_ge B64_one e2 m e1 ?_
    rw [hv, ← pow_D]
    have a := val_ge D16_pos hd (ds.length - 1) (by unfold Canon at hc; omega)
    have b := pow_mono (B := D16) (by decide) (show 4 * m ≤ ds.length - 1 by omega)
    omega

set_option maxHeartbeats 4000000 in
/-- the document's Nat. -/
theorem rNat_any (ao : Option Addr) (la ca : Nat) (ds : List Int) (w : World) (h : NumIn .i64 D16 w ao la ca ds) (hc : Canon ds) (hla : la ≤ 1000000) :
    Calls Tryd.prog 26 #[.slice ao la ca] w fun e w' => ∃ v, e = .returned v ∧ NumOut .u64 B64 w w' v (val D16 ds) la := by
  have hl := h.len
  go_enter Tryd.func26, Tryd.ntmps26
  go_wp2
  go_loopw [3, 4] (fun vo vi wr => ∃ (m : Nat) (outs : List Int), 4 * m < la + 4 ∧ vi = .int .i64 ((4 * m : Nat) : Int) ∧ Own 66 .u64 wr w.heap.size vo outs ∧ Nats ds m outs ∧ Below w.heap.size w wr) (fun _ vi _ => la + 4 - (intOf vi).toNat)
  case atStart => exact ⟨0, [], by omega, rfl, Own.nil _ _ _ _, ⟨rfl, Dg.nil _, by simp [val, low_zero]⟩, Below.refl _ _⟩
  case round =>
    obtain ⟨m, outs, hi0, rfl, hown, hns, hb⟩ := hrel
    by_cases hlt : 4 * m < la
    · have hx := h.lies.old hb
      obtain ⟨b, off, rfl, hblk, hcs⟩ := hx.at (by omega)
      have HC : Hid (∀ i, i < la → wr.cell? ⟨b, off + i, none⟩ = some (.int .i64 (ds.getD i 0))) := hcs
      have HN : Hid (Nats ds m outs) := hns
      have HOWN : Hid (Own 66 .u64 wr w.heap.size u3 outs) := hown
      have HB : Hid (Below w.heap.size w wr) := hb
      have HD : Hid (Dg D16 ds) := h.dg
      clear hns hown hb hcs hx h hc
      go_wp2
      go_loop [5, 6] (fun vx vk => ∃ (kk : Nat), kk ≤ 4 ∧ vk = .int .i64 ((kk : Int) - 1) ∧ vx = .int .u64 (hi ds (4 * m + kk) (4 - kk))) (fun _ vk => (intOf vk + 1).toNat)
      case atStart => exact ⟨4, by omega, rfl, rfl⟩
      case round =>
        obtain ⟨kk, hk, rfl, rfl⟩ := hrel
        by_cases hk0 : kk = 0
        · subst hk0
          have HS : Hid (Nats ds (m + 1) (outs ++ [hi ds (4 * m) 4])) := HN.out.step HD.out
          have hlen := HN.out.1
          have HLB : Hid (outs.length < 1073741824) := by unfold Hid; omega
          have hbs := HB.out.size
          have hbw := HB.out
          have how := HOWN.out
          rw [show 4 * m + 0 = 4 * m from rfl, show 4 - 0 = 4 from rfl]
          generalize hi ds (4 * m) 4 = x at *
          clear HN HB HOWN HC HD hlen
          go_wp2_with (at_builtin; refine wpList_append_one rfl _ _ 48 rfl 66 .u64 8 Tryd.underlying48 Tryd.infoU w.heap.size u3 outs x (by rfl) how (by rfl) HLB.out (by decide) w hbw hbs ?_)
          intro v' w' hown' hb'
          clear how hbw hbs
          go_wp2
          go_roundw
          case rel => exact ⟨m + 1, _, by omega, by go_num, hown', HS.out, hb'⟩
          case measure => simp [intOf]; omega
        · obtain ⟨k, rfl⟩ : ∃ k, kk = k + 1 := ⟨kk - 1, by omega⟩
          have hr := hi_range ds HD.out (4 - (k + 1)) (4 * m + (k + 1))
          have hp := pow_mono (B := D16) (by decide) (show 4 - (k + 1) ≤ 3 by omega)
          have e3 : D16 ^ 3 = 281474976710656 := by decide
          rw [e3] at hp
          have hx2 : hi ds (4 * m + (k + 1)) (4 - (k + 1)) < 281474976710656 := by omega
          have hx1 := hr.1
          have hg := HD.out.getD D16_pos (4 * m + k)
          have HE : Hid (hi ds (4 * m + k) (4 - k) = ds.getD (4 * m + k) 0 + 65536 * hi ds (4 * m + (k + 1)) (4 - (k + 1))) := by
            unfold Hid
            rw [show 4 - k = (4 - (k + 1)) + 1 by omega, hi]
            rfl
          clear hr hp e3
          unfold D16 at hg
          by_cases hin : 4 * m + k < la
          · have hcell := HC.out (4 * m + k) hin
            generalize hi ds (4 * m + (k + 1)) (4 - (k + 1)) = x at *
            generalize ds.getD (4 * m + k) 0 = y at *
            have ei : ((4 * m + k : Nat) : Int) = 4 * (m : Int) + (k : Int) := by omega
            clear HN HB HOWN HC HD
            go_wp2
            go_round
            case rel => exact ⟨k, by omega, by go_num, by rw [HE.out]; go_num⟩
            case measure => simp [intOf] <;> omega
          · have hz : ds.getD (4 * m + k) 0 = 0 := by simp [List.getD, List.getElem?_eq_none (show ds.length ≤ 4 * m + k by omega)]
            rw [hz] at HE
            generalize hi ds (4 * m + (k + 1)) (4 - (k + 1)) = x at *
            clear HN HB HOWN HC HD hz hg
            go_wp2
            go_round
            case rel => exact ⟨k, by omega, by go_num, by rw [HE.out]; go_num⟩
            case measure => simp [intOf] <;> omega
    · have hdn := hns.done h.dg hc (by omega) (by omega)
      have hlen := hns.1
      obtain ⟨a2, c2, hv, hnum⟩ := hown.num hns.2.1 (by omega)
      have HF : Hid (NumOut .u64 B64 w wr (.slice a2 outs.length c2) (val D16 ds) la) := ⟨_, _, _, _, rfl, hnum, hdn.2, hdn.1, by omega, hb⟩
      subst hv
      clear hown hns hnum hb hdn hlen hc h
      go_wp2
      go_ret
      exact ⟨_, rfl, HF.out⟩

set_option maxHeartbeats 1000000 in
/-- the document's Same, of two numbers that are the same. -/
theorem Same_yes (ao bo : Option Addr) (n ca cb : Nat) (xs : List Int) (w : World) (h : Lies .u64 w ao n xs) (h' : Lies .u64 w bo n xs) (hn : n ≤ 1073741824) :
    Calls Tryd.prog 25 #[.slice ao n ca, .slice bo n cb] w fun e w' => e = .returned (.bool true) ∧ Drew w w' := by
  go_enter Tryd.func25, Tryd.ntmps25
  go_wp2
  go_loopw [5] (fun vi wr => ∃ (i : Nat), i ≤ n ∧ vi = .int .i64 i ∧ Drew w wr) (fun vi _ => n - (intOf vi).toNat)
  case atStart => exact ⟨0, Nat.zero_le _, rfl, Drew.refl _⟩
  case round =>
    obtain ⟨i, hi, rfl, hdr⟩ := hrel
    by_cases hlt : i < n
    · obtain ⟨b, off, rfl, hb, hc⟩ := h.at (by omega)
      obtain ⟨b2, off2, rfl, hb2, hc2⟩ := h'.at (by omega)
      have hcell := (hdr.cell _).trans (hc i hlt)
      have hcell2 := (hdr.cell _).trans (hc2 i hlt)
      generalize xs.getD i 0 = x at *
      have HDR : Hid (Drew w wr) := hdr
      clear hc hc2 h h' hdr
      go_wp2
      go_quiet (fail)
      go_wp2
      go_roundw
      case rel => exact ⟨i + 1, by omega, by go_num, HDR.out.more _⟩
      case measure => simp [intOf]; omega
    · obtain rfl : i = n := by omega
      clear h h'
      go_wp2
      go_ret
      exact ⟨rfl, hdr⟩

end Go.Proofs.YtiblpcfkecalcaaDoor
/-
  Contracts of the document's answer: bytes as a number (Read), a number as bytes (Bytes).
-/
namespace Go.Proofs.YtiblpcfkecalcaaDoor
open Go.RowKit
set_option linter.unusedVariables false
set_option linter.unusedSimpArgs false

theorem pow256_2 (m : Nat) : (256 : Int) ^ (2 * m) = D16 ^ m := by rw [Int.pow_mul]; rfl

/-- Where a slice of the call's own lies: it is read there, and written. -/
theorem Own.spot {e : TypeId} {k : IntKind} {w : World} {base : Nat} {v : Value} {xs : List Int} (h : Own e k w base v xs) (h0 : 0 < xs.length) :
    ∃ g cap, v = .slice (some ⟨g, 0, none⟩) xs.length cap ∧ base ≤ g ∧ g < w.heap.size ∧ xs.length ≤ cap ∧ cap ≤ maxLen ∧ (∀ j, j < xs.length → w.cell? ⟨g, j, none⟩ = some (.int k (xs.getD j 0))) ∧ (∀ j, w.frozen? ⟨g, j, none⟩ = false) ∧
      ∀ j y, j < xs.length → Own e k (w.setCell ⟨g, j, none⟩ (.int k y)) base v (xs.set j y) := by
  rcases h.2 with ⟨rfl, h1⟩ | ⟨g, cap, cur, rfl, hg, hrow, h1, h2, h3, h4⟩
  · omega
  · refine ⟨g, cap, rfl, hg, (Array.getElem?_eq_some_iff.1 hrow).1, h1, h2, fun j hj => ?_, fun j => frozen_of_row w g j cur e hrow, fun j y hj => ⟨by simp, .inr ⟨g, cap, cur.set! j (.int k y), ?_, hg, heap_setCell_same w g j _ e _ hrow, ?_, h2, ?_, ?_⟩⟩⟩
    · rw [cell_of_row w g j cur e (0, 0) hrow]
      have : (cur.toList.take (xs.length * 1))[j]? = (xs.map (Value.int k))[j]? := by rw [h4]
      rw [List.getElem?_take, if_pos (by omega)] at this
      rw [← Array.getElem?_toList, this]
      simp [hj]
    · simp
    · simpa using h1
    · simpa using h3
    · have e1 : (cur.set! j (Value.int k y)).toList = cur.toList.set j (.int k y) := by simp
      rw [e1, List.length_set, List.take_set, h4, List.map_set]

/-- What Read has gathered when i bytes have been gone over, the last first. -/
def RReads (rb : List Int) (i : Nat) (ds : List Int) : Prop :=
  ds.length = (i + 1) / 2 ∧ Dg D16 ds ∧ (i % 2 = 1 → ds.getD (i / 2) 0 < 256) ∧ val D16 ds = low 256 rb i
theorem RReads.even {rb : List Int} {m : Nat} {ds : List Int} (h : RReads rb (2 * m) ds) (hd : 0 ≤ rb.getD (2 * m) 0 ∧ rb.getD (2 * m) 0 < 256) : RReads rb (2 * m + 1) (ds ++ [rb.getD (2 * m) 0]) := by
  obtain ⟨h1, h2, h3, h4⟩ := h
  have hl : ds.length = m := by omega
  refine ⟨by simp [hl]; omega, h2.append (Dg.cons (by unfold D16; omega) (Dg.nil _)), fun _ => ?_, ?_⟩
  · rw [show (2 * m + 1) / 2 = m by omega]
    have : (ds ++ [rb.getD (2 * m) 0]).getD m 0 = rb.getD (2 * m) 0 := by simp [List.getD, List.getElem?_append, hl]
    rw [this]; exact hd.2
  · rw [val_snoc, low_succ, h4, hl, pow256_2]
theorem RReads.odd {rb : List Int} {m : Nat} {ds : List Int} (h : RReads rb (2 * m + 1) ds) (hd : 0 ≤ rb.getD (2 * m + 1) 0 ∧ rb.getD (2 * m + 1) 0 < 256) : RReads rb (2 * m + 1 + 1) (ds.set m (ds.getD m 0 + 256 * rb.getD (2 * m + 1) 0)) := by
  obtain ⟨h1, h2, h3, h4⟩ := h
  have hl : ds.length = m + 1 := by omega
  have h3' := h3 (by omega)
  rw [show (2 * m + 1) / 2 = m by omega] at h3'
  have g := h2.getD D16_pos m
  refine ⟨by simp [hl]; omega, h2.set _ ⟨by omega, by unfold D16; omega⟩, fun e => by omega, ?_⟩
  rw [val_set _ _ _ _ (by omega), low_succ, h4, Int.pow_succ, pow256_2]
  generalize D16 ^ m = p at *
  grind

set_option maxHeartbeats 2000000 in
/-- the document's Read. -/
theorem rRead_any (ao : Option Addr) (n ca : Nat) (bs : List Int) (w : World) (h : NumIn .u8 256 w ao n ca bs) (hn : n ≤ 2000) :
    Calls Tryd.prog 44 #[.slice ao n ca] w fun e w' => ∃ v, e = .returned v ∧ NumOut .i64 D16 w w' v (val 256 bs.reverse) 1001 := by
  have hl := h.len
  go_enter Tryd.func44, Tryd.ntmps44
  go_wp2
  go_loopw [3, 4] (fun vo vi wr => ∃ (i : Nat) (ds : List Int), i ≤ n ∧ vi = .int .i64 i ∧ Own 3 .i64 wr w.heap.size vo ds ∧ RReads bs.reverse i ds ∧ Below w.heap.size w wr) (fun _ vi _ => n - (intOf vi).toNat)
  case atStart => exact ⟨0, [], Nat.zero_le _, rfl, Own.nil _ _ _ _, ⟨rfl, Dg.nil _, fun e => by omega, by simp [val, low_zero]⟩, Below.refl _ _⟩
  case round =>
    obtain ⟨i, ds, hi, rfl, hown, hs, hb⟩ := hrel
    by_cases hlt : i < n
    · have hx := h.lies.old hb
      obtain ⟨b, off, rfl, hblk, hcs⟩ := hx.at (by omega)
      have hcell := hcs (n - 1 - i) (by omega)
      have gx := h.dg.getD (by decide) (n - 1 - i)
      have er := getD_reverse bs i (by omega)
      rw [hl] at er
      have hlen := hs.1
      have hbs := hb.size
      obtain ⟨p, hp⟩ : ∃ p, n - 1 - i = p := ⟨_, rfl⟩
      rw [hp] at hcell gx er
      have hpn : p < n := by omega
      have hpe : n = p + 1 + i := by omega
      clear hp
      rw [← er] at gx hcell
      rcases (show i % 2 = 0 ∨ i % 2 = 1 by omega) with hpar | hpar
      · obtain ⟨m, rfl⟩ : ∃ m, i = 2 * m := ⟨i / 2, by omega⟩
        have HS : Hid (RReads bs.reverse (2 * m + 1) (ds ++ [bs.reverse.getD (2 * m) 0])) := hs.even gx
        have HLB : Hid (ds.length < 1073741824) := by unfold Hid; omega
        generalize bs.reverse.getD (2 * m) 0 = x at *
        obtain ⟨i, hie⟩ : ∃ i, 2 * m = i := ⟨_, rfl⟩
        rw [hie] at hlt hi hpe HS hlen ⊢
        have hev : (i : Int) % 2 = 0 := by omega
        have ek : (n : Int) - 1 - (i : Int) = (p : Int) := by omega
        clear hs hx hcs h hl er hpar hlen hie hpe
        go_wp2_with (at_builtin; refine wpList_append_one rfl _ _ 50 rfl 3 .i64 8 Tryd.underlying50 Tryd.infoI w.heap.size u3 ds x (by rfl) hown (by rfl) HLB.out (by decide) w hb hbs ?_)
        intro v' w' hown' hb'
        clear hown hb hbs
        go_wp2
        go_roundw
        case rel => exact ⟨i + 1, _, by omega, by go_num, hown', HS.out, hb'⟩
        case measure => simp [intOf] <;> omega
      · obtain ⟨m, rfl⟩ : ∃ m, i = 2 * m + 1 := ⟨i / 2, by omega⟩
        have HS : Hid (RReads bs.reverse (2 * m + 1 + 1) (ds.set m (ds.getD m 0 + 256 * bs.reverse.getD (2 * m + 1) 0))) := hs.odd gx
        obtain ⟨g, cap, hv, hg1, hg2, hg3, hg4, hcl, hfz, hset⟩ := hown.spot (by omega)
        have hm : m < ds.length := by omega
        have hcg := hcl m hm
        have hfr := hfz m
        have gd := hs.2.1.getD D16_pos m
        have gd0 := gd.1
        have gd1 : ds.getD m 0 < 65536 := gd.2
        have hbne : b < w.heap.size := by
          obtain ⟨b', off', e, hlt', _⟩ := h.lies.at (by omega)
          injection e with e
          injection e with e
          omega
        have hne : b ≠ g := by omega
        have HO : Hid (Own 3 .i64 (wr.setCell ⟨g, m, none⟩ (.int .i64 (ds.getD m 0 + 256 * bs.reverse.getD (2 * m + 1) 0))) w.heap.size (.slice (some ⟨g, 0, none⟩) ds.length cap) (ds.set m (ds.getD m 0 + 256 * bs.reverse.getD (2 * m + 1) 0))) := by have := hset m (ds.getD m 0 + 256 * bs.reverse.getD (2 * m + 1) 0) hm; rw [hv] at this; exact this
        have HB : Hid (Below w.heap.size w wr) := hb
        subst hv
        generalize bs.reverse.getD (2 * m + 1) 0 = x at *
        generalize ds.getD m 0 = y at *
        obtain ⟨i, hie⟩ : ∃ i, 2 * m + 1 = i := ⟨_, rfl⟩
        rw [hie] at hlt hi hpe HS hlen ⊢
        have hev : (i : Int) % 2 = 1 := by omega
        have ehalf : (i : Int) / 2 = (m : Int) := by omega
        have ek : (n : Int) - 1 - (i : Int) = (p : Int) := by omega
        have hmi : (m : Int) < (ds.length : Int) := by omega
        generalize ds.length = L at *
        clear hs hx hcs h hl er hpar hlen hie hpe hset hcl hfz hown hb gd
        go_wp2
        go_region
        all_goals
          go_wp2
          go_roundw
          case rel => exact ⟨i + 1, _, by omega, by go_num, HO.out, HS.out, (HB.out.setCell (by assumption) _).drew⟩
          case measure => simp [intOf] <;> omega
    · obtain rfl : i = n := by omega
      have hlen := hs.1
      obtain ⟨a2, c2, hv, hnum⟩ := hown.num hs.2.1 (by omega)
      have HV : Hid (val D16 ds = val 256 bs.reverse) := by
        unfold Hid
        have e : bs.reverse.length = i := by simp [hl]
        rw [hs.2.2.2, ← e, low_len]
      have HN : Hid (NumIn .i64 D16 wr a2 ds.length c2 ds) := hnum
      have HB : Hid (Below w.heap.size w wr) := hb
      have HL : Hid (ds.length ≤ 1001) := by unfold Hid; omega
      subst hv
      clear hown hs hnum hb h hlen
      go_wp2_with fail
      refine (rtrim_any a2 ds.length c2 ds wr HN.out).mono ?_
      rintro e w4 ⟨rfl, rfl⟩
      go_wp2
      go_ret
      exact ⟨_, rfl, HN.out.out HB.out _ HV.out _ HL.out⟩

theorem byte_even (ds : List Int) (hd : Dg D16 ds) (m : Nat) : ds.getD m 0 % 256 = byteAt (val D16 ds) (2 * m) := by
  unfold byteAt
  rw [digit_at D16_pos ds hd m, pow256_2]
  generalize val D16 ds / D16 ^ m = Y
  unfold D16
  omega
theorem byte_odd (ds : List Int) (hd : Dg D16 ds) (m : Nat) : ds.getD m 0 / 256 % 256 = byteAt (val D16 ds) (2 * m + 1) := by
  unfold byteAt
  have hp : (0 : Int) < D16 ^ m := Int.pow_pos D16_pos
  rw [digit_at D16_pos ds hd m, Int.pow_succ, pow256_2, ← Int.ediv_ediv_of_nonneg (by omega)]
  generalize val D16 ds / D16 ^ m = Y
  unfold D16
  omega

set_option maxHeartbeats 2000000 in
/-- the document's Bytes. -/
theorem rBytes_big (ao : Option Addr) (la ca : Nat) (ds : List Int) (n : Nat) (w : World) (h : NumIn .i64 D16 w ao la ca ds) (hn : n ≤ 1000) (hV : val D16 ds < 256 ^ n) :
    Calls Tryd.prog 21 #[.slice ao la ca, .int .i64 n] w fun e w' => ∃ v, e = .returned v ∧ BytesOut w w' v n (val D16 ds) := by
  have hl := h.len
  have HV : Hid (0 ≤ val D16 ds ∧ val D16 ds < 256 ^ n) := ⟨val_nonneg D16_pos h.dg, hV⟩
  clear hV
  go_enter Tryd.func21, Tryd.ntmps21
  go_wp2_with (at_make; refine wpList_make_row _ rfl _ _ 22 rfl 5 .u8 1 Tryd.underlying22 Tryd.infoB _ _ _ _ n rfl rfl rfl rfl (by omega) (by unfold maxLen; omega) ?_)
  intro w3 hrow hbel
  go_wp2
  go_loopw [6] (fun vi wr => ∃ (k : Nat) (cur : List Int), k ≤ n ∧ vi = .int .i64 k ∧ Row 5 .u8 wr w.heap.size cur ∧ Wrts (val D16 ds) n k cur ∧ Below w.heap.size w wr) (fun vi _ => n - (intOf vi).toNat)
  case atStart => exact ⟨0, _, Nat.zero_le _, rfl, hrow, Wrts.zero _ _, hbel⟩
  case round =>
    obtain ⟨k, cur, hk, rfl, hrw, ha, hb⟩ := hrel
    clear hrow hbel
    by_cases hlt : k < n
    · have hx := h.lies.old hb
      have hln := ha.1
      have HS : Hid (Wrts (val D16 ds) n (k + 1) (cur.set (n - 1 - k) (byteAt (val D16 ds) k))) := ha.step hlt
      have HR : Hid (Row 5 .u8 (wr.setCell ⟨w.heap.size, n - 1 - k, none⟩ (.int .u8 (byteAt (val D16 ds) k))) w.heap.size (cur.set (n - 1 - k) (byteAt (val D16 ds) k))) := hrw.set (n - 1 - k) (byteAt (val D16 ds) k)
      have HB : Hid (Below w.heap.size w wr) := hb
      obtain ⟨m, hm⟩ : ∃ m, k / 2 = m := ⟨_, rfl⟩
      have hx0 := h.dg.getD D16_pos m
      have x0 := hx0.1
      have x1 : ds.getD m 0 < 65536 := hx0.2
      have heven : k % 2 = 0 → byteAt (val D16 ds) k = ds.getD m 0 % 256 := fun e => by rw [byte_even ds h.dg m]; congr 1; omega
      have hodd : k % 2 = 1 → byteAt (val D16 ds) k = ds.getD m 0 / 256 % 256 := fun e => by rw [byte_odd ds h.dg m]; congr 1; omega
      have hfr := hrw.frozen (n - 1 - k)
      have hcl := hrw.cell (n - 1 - k) (by omega)
      have ehalf : (k : Int) / 2 = (m : Int) := by omega
      obtain ⟨p, hp⟩ : ∃ p, n - 1 - k = p := ⟨_, rfl⟩
      have ek : (n : Int) - 1 - (k : Int) = (p : Int) := by omega
      have hpn : p < n := by omega
      rw [hp] at hfr hcl HS HR
      generalize cur.getD p 0 = y at *
      have hout : ¬ m < la → ds.getD m 0 = 0 := fun hk => by simp [List.getD, List.getElem?_eq_none (show ds.length ≤ m by omega)]
      have hin : m < la → ∃ b2 off2, ao = some ⟨b2, off2, none⟩ ∧ wr.cell? ⟨b2, off2 + m, none⟩ = some (.int .i64 (ds.getD m 0)) := fun hk => by
        obtain ⟨b2, off2, e, _, hc2⟩ := hx.at (by omega)
        exact ⟨b2, off2, e, hc2 m hk⟩
      clear h hrw ha hln hb hx HV hl hp hx0
      generalize ds.getD m 0 = x at *
      rcases (show k % 2 = 0 ∨ k % 2 = 1 by omega) with hpar | hpar
      · have hb8 := heven hpar
        rw [hb8] at HS HR
        have hev : (k : Int) % 2 = 0 := by omega
        clear heven hodd hb8 hpar hm
        by_cases hma : m < la
        · obtain ⟨b2, off2, rfl, hc2⟩ := hin hma
          clear hin hout
          go_wp2
          go_roundw
          case rel => exact ⟨k + 1, _, by omega, by go_num, HR.out, HS.out, HB.out.setCell (Nat.le_refl _) _⟩
          case measure => simp [intOf] <;> omega
        · obtain rfl := hout hma
          clear hin hout
          rw [show (0 : Int) % 256 = 0 from rfl] at HR HS
          go_wp2
          go_roundw
          case rel => exact ⟨k + 1, _, by omega, by go_num, HR.out, HS.out, HB.out.setCell (Nat.le_refl _) _⟩
          case measure => simp [intOf] <;> omega
      · have hb8 := hodd hpar
        rw [hb8] at HS HR
        have hev : (k : Int) % 2 = 1 := by omega
        clear heven hodd hb8 hpar hm
        by_cases hma : m < la
        · obtain ⟨b2, off2, rfl, hc2⟩ := hin hma
          clear hin hout
          go_wp2
          go_roundw
          case rel => exact ⟨k + 1, _, by omega, by go_num, HR.out, HS.out, HB.out.setCell (Nat.le_refl _) _⟩
          case measure => simp [intOf] <;> omega
        · obtain rfl := hout hma
          clear hin hout
          rw [show (0 : Int) / 256 % 256 = 0 from rfl] at HR HS
          go_wp2
          go_roundw
          case rel => exact ⟨k + 1, _, by omega, by go_num, HR.out, HS.out, HB.out.setCell (Nat.le_refl _) _⟩
          case measure => simp [intOf] <;> omega
    · obtain rfl : k = n := by omega
      have HF : Hid (BytesOut w wr (.slice (some ⟨w.heap.size, 0, none⟩) k k) k (val D16 ds)) := ⟨_, cur, rfl, hrw, ha.1, ha.2.1, ha.done HV.out.1 HV.out.2, hb⟩
      clear hrw ha hb h HV
      go_wp2
      go_ret
      exact ⟨_, rfl, HF.out⟩
theorem rBytes_any (ao : Option Addr) (la ca : Nat) (ds : List Int) (n : Nat) (w : World) (h : NumIn .i64 D16 w ao la ca ds) (hn : n ≤ 512) (hV : val D16 ds < 256 ^ n) :
    Calls Tryd.prog 21 #[.slice ao la ca, .int .i64 n] w fun e w' => ∃ v, e = .returned v ∧ BytesOut w w' v n (val D16 ds) := rBytes_big ao la ca ds n w h (by omega) hV
end Go.Proofs.YtiblpcfkecalcaaDoor
