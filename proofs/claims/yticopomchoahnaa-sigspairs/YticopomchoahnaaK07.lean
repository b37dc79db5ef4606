import Derived.Test.YticopomchoahnaaK06
import Derived.Laws.BytesArg
import Derived.Laws.AppendOwnNone
/-
  Contract of nat.Div.
-/
namespace Go.Proofs.Yticopomchoahnaa
open Go.RowKit
set_option linter.unusedVariables false
set_option linter.unusedSimpArgs false
attribute [local go_sem ↓] Go.wp_at_zero Go.wp_at_succ

/-- nat.Shift by few, multiplied. -/
theorem Shift_neg (ao : Option Addr) (la ca : Nat) (xs : List Int) (t : Nat) (w : World) (h : NumIn .u64 B64 w ao la ca xs) (ht : t < 64) (hlb : la < 1073741000) :
    Calls Try.prog 128 #[.slice ao la ca, .int .i64 (-(t : Int))] w fun e w' => ∃ v, e = .returned v ∧ NumOut .u64 B64 w w' v (val B64 xs * 2 ^ t) (la + 1) := by
  by_cases h0 : t = 0
  · subst h0
    refine (Shift_down ao la ca xs 0 w h (by decide)).mono ?_
    rintro e w' ⟨v, rfl, a, b, c, d, rfl, e1, e2, e3, e4, e5⟩
    refine ⟨_, rfl, a, b, c, d, rfl, e1, e2, ?_, by omega, e5⟩
    rw [e3]; simp
  · refine (Shift_up ao la ca xs t w h (by omega) (by omega) hlb).mono ?_
    rintro e w' ⟨v, rfl, a, b, c, d, rfl, e1, e2, e3, e4, e5⟩
    exact ⟨_, rfl, a, b, c, d, rfl, e1, e2, e3, by omega, e5⟩

/-- How many digits a number without zeros above has. -/
theorem canon_len {xs : List Int} (hd : Dg B64 xs) (hc : Canon xs) (n : Nat) (h1 : B64 ^ n ≤ val B64 xs) (h2 : val B64 xs < B64 ^ (n + 1)) : xs.length = n + 1 := by
  unfold Canon at hc
  have a := val_lt B64_pos hd
  rcases Nat.lt_trichotomy xs.length (n + 1) with h | h | h
  · have := pow_mono (B := B64) (by decide) (show xs.length ≤ n by omega)
    omega
  · exact h
  · have b := val_ge B64_pos hd (xs.length - 1) (by omega)
    have := pow_mono (B := B64) (by decide) (show n + 1 ≤ xs.length - 1 by omega)
    omega

/-- The divisor, shifted. -/
theorem norm_div (ys : List Int) (hd : Dg B64 ys) (n : Nat) (hn : ys.length = n + 1) (hc : Canon ys) :
    ∃ t, t < 64 ∧ 64 - blen (ys.getD n 0).toNat = t ∧ 9223372036854775808 * B64 ^ n ≤ val B64 ys * 2 ^ t ∧ val B64 ys * 2 ^ t < B64 ^ (n + 1) := by
  have hg := hd.getD B64_pos n
  have ht : ys.getD n 0 ≠ 0 := by
    have := top_hit ys (by unfold Canon at hc; omega)
    unfold Canon at hc
    rw [hc, hn] at this
    simpa using this
  have hv := split_top ys 0 (n + 1) (by omega) (by omega)
  have e4 : seg ys 0 (n + 1) = ys := by unfold seg; rw [List.drop_zero, List.take_of_length_le (by omega)]
  rw [e4] at hv
  simp only [Nat.add_sub_cancel, Nat.zero_add] at hv
  have l0 := val_nonneg B64_pos ((hd.drop 0).take n)
  have l1 := val_lt B64_pos ((hd.drop 0).take n)
  have s2 := seg_len ys 0 n (by omega)
  have l0' : 0 ≤ val B64 (seg ys 0 n) := l0
  have l1' : val B64 (seg ys 0 n) < B64 ^ n := by
    have : val B64 (seg ys 0 n) < B64 ^ (seg ys 0 n).length := l1
    rwa [s2] at this
  generalize val B64 (seg ys 0 n) = lo at *
  generalize ys.getD n 0 = d at *
  obtain ⟨e, rfl⟩ := Int.eq_ofNat_of_zero_le hg.1
  have hne : e ≠ 0 := by omega
  have hlt : e < 2 ^ 64 := by have := hg.2; unfold B64 at this; omega
  have b0 := blen_le e 64 hlt
  have b1 := blen_lt e
  have b2 := blen_ge e hne
  have b3 := blen_pos e hne
  rw [Int.toNat_natCast]
  obtain ⟨t, et⟩ : ∃ t, 64 - blen e = t := ⟨_, rfl⟩
  refine ⟨t, by omega, et, ?_, ?_⟩
  · have c1 : 2 ^ 63 ≤ e * 2 ^ t := by
      have : 2 ^ (blen e - 1) * 2 ^ t ≤ e * 2 ^ t := Nat.mul_le_mul_right _ b2
      rw [← Nat.pow_add, show blen e - 1 + t = 63 by omega] at this
      exact this
    have c2 : (9223372036854775808 : Int) ≤ (e : Int) * 2 ^ t := by
      have : ((2 ^ 63 : Nat) : Int) ≤ ((e * 2 ^ t : Nat) : Int) := by omega
      rw [Int.natCast_mul, Int.natCast_pow] at this
      exact this
    have hp : (0 : Int) < B64 ^ n := Int.pow_pos B64_pos
    have c3 := Int.mul_le_mul_of_nonneg_right c2 (show (0 : Int) ≤ B64 ^ n by omega)
    have c4 : 0 ≤ lo * 2 ^ t := Int.mul_nonneg l0' (Int.le_of_lt (Int.pow_pos (by decide)))
    rw [hv, Int.add_mul]
    have : B64 ^ n * (e : Int) * 2 ^ t = (e : Int) * 2 ^ t * B64 ^ n := by grind
    omega
  · have c1 : (e + 1) * 2 ^ t ≤ 2 ^ 64 := by
      have : (e + 1) * 2 ^ t ≤ 2 ^ blen e * 2 ^ t := Nat.mul_le_mul_right _ (by omega)
      rw [← Nat.pow_add, show blen e + t = 64 by omega] at this
      exact this
    have c2 : ((e : Int) + 1) * 2 ^ t ≤ B64 := by
      have : (((e + 1) * 2 ^ t : Nat) : Int) ≤ ((2 ^ 64 : Nat) : Int) := by omega
      rw [Int.natCast_mul, Int.natCast_pow, Int.natCast_add] at this
      exact this
    have hp : (0 : Int) < 2 ^ t := Int.pow_pos (by decide)
    have hp2 : (0 : Int) < B64 ^ n := Int.pow_pos B64_pos
    have c3 : (lo + B64 ^ n * e) * 2 ^ t < (B64 ^ n + B64 ^ n * e) * 2 ^ t := Int.mul_lt_mul_of_pos_right (by omega) hp
    have c4 : (B64 ^ n + B64 ^ n * (e : Int)) * 2 ^ t = B64 ^ n * (((e : Int) + 1) * 2 ^ t) := by grind
    have c5 : B64 ^ n * (((e : Int) + 1) * 2 ^ t) ≤ B64 ^ n * B64 := Int.mul_le_mul_of_nonneg_left c2 (by omega)
    rw [hv, Int.pow_succ]
    omega

/-- What stands in both rows when the places from p on are done. -/
def Dvs (X D : Int) (lx m p : Nat) (cur qs : List Int) : Prop :=
  cur.length = lx + 1 ∧ Dg B64 cur ∧ qs.length = m ∧ Dg B64 qs ∧ val B64 cur < B64 ^ p * D ∧ X = val B64 cur + B64 ^ p * val B64 (qs.drop p) * D
theorem seg_whole (xs : List Int) (k n : Nat) (hk : k + n ≤ xs.length) (hz : ∀ j, k + n ≤ j → xs.getD j 0 = 0) : val B64 xs = low B64 xs k + B64 ^ k * val B64 (seg xs k n) := by
  rw [← low_add _ _ _ _ hk]
  refine (low_all _ _ _ ?_).symm
  by_cases h : top xs ≤ k + n
  · exact h
  · exfalso
    exact top_hit xs (by omega) (hz _ (by omega))
theorem high_zero {xs : List Int} (hd : Dg B64 xs) (n : Nat) (h : val B64 xs < B64 ^ n) (j : Nat) (hj : n ≤ j) : xs.getD j 0 = 0 := by
  apply top_above
  by_cases ht : top xs ≤ n
  · omega
  · exfalso
    obtain ⟨m, hm⟩ : ∃ m, top xs = m + 1 := ⟨top xs - 1, by omega⟩
    have := val_ge B64_pos hd m hm
    have := pow_mono (B := B64) (by decide) (show n ≤ m by omega)
    omega
theorem drop_cons (qs : List Int) (k : Nat) (h : k < qs.length) : qs.drop k = qs.getD k 0 :: qs.drop (k + 1) := by
  rw [List.drop_eq_getElem_cons h]
  simp [List.getD, List.getElem?_eq_getElem h]
theorem Dvs.pre {X D : Int} {lx m k n : Nat} {cur qs : List Int} (h : Dvs X D lx m (k + 1) cur qs) (hn : k + n + 1 ≤ lx + 1) (hD : D < B64 ^ n) (hD0 : 0 < D) :
    val B64 cur = low B64 cur k + B64 ^ k * val B64 (seg cur k (n + 1)) ∧ val B64 (seg cur k (n + 1)) < 18446744073709551616 * D := by
  obtain ⟨h1, h2, h3, h4, h5, h6⟩ := h
  have hp : (0 : Int) < B64 ^ k := Int.pow_pos B64_pos
  have hpp : (0 : Int) < B64 ^ (k + 1) := Int.pow_pos B64_pos
  have hb : val B64 cur < B64 ^ (k + 1 + n) := by
    rw [Int.pow_add]
    have := Int.mul_lt_mul_of_pos_left hD hpp
    omega
  have hz := high_zero h2 (k + 1 + n) hb
  have e := seg_whole cur k (n + 1) (by omega) (fun j hj => hz j (by omega))
  refine ⟨e, ?_⟩
  have l0 : 0 ≤ low B64 cur k := val_nonneg B64_pos (h2.take k)
  have : B64 ^ k * val B64 (seg cur k (n + 1)) < B64 ^ k * (18446744073709551616 * D) := by
    have e2 : B64 ^ (k + 1) * D = B64 ^ k * (18446744073709551616 * D) := by rw [Int.pow_succ]; have : B64 = 18446744073709551616 := rfl; rw [Int.mul_assoc]; conv => lhs; rw [show B64 * D = 18446744073709551616 * D from by rw [this]]
    omega
  exact Int.lt_of_mul_lt_mul_left this (by omega)
theorem Dvs.step {X D : Int} {lx m k n : Nat} {cur cur' qs : List Int} {G : Int} (h : Dvs X D lx m (k + 1) cur qs) (hn : k + n + 1 ≤ lx + 1) (hk : k < m) (hD : D < B64 ^ n) (hD0 : 0 < D)
    (c1 : cur'.length = cur.length) (c2 : Dg B64 cur') (c3 : ∀ j, j < k ∨ k + n < j → cur'.getD j 0 = cur.getD j 0) (eG : G = val B64 (seg cur k (n + 1)) / D) (eR : val B64 (seg cur' k (n + 1)) = val B64 (seg cur k (n + 1)) % D) :
    (0 ≤ G ∧ G < 18446744073709551616) ∧ Dvs X D lx m k cur' (qs.set k G) := by
  obtain ⟨p1, p2⟩ := h.pre hn hD hD0
  obtain ⟨h1, h2, h3, h4, h5, h6⟩ := h
  have hp : (0 : Int) < B64 ^ k := Int.pow_pos B64_pos
  have hb : val B64 cur < B64 ^ (k + 1 + n) := by
    have hpp : (0 : Int) < B64 ^ (k + 1) := Int.pow_pos B64_pos
    rw [Int.pow_add]
    have := Int.mul_lt_mul_of_pos_left hD hpp
    omega
  have hz := high_zero h2 (k + 1 + n) hb
  have s0 : 0 ≤ val B64 (seg cur k (n + 1)) := val_nonneg B64_pos ((h2.drop k).take (n + 1))
  have hG : 0 ≤ G ∧ G < 18446744073709551616 := ⟨by rw [eG]; exact Int.ediv_nonneg s0 (by omega), by rw [eG]; exact Int.ediv_lt_of_lt_mul hD0 p2⟩
  have q1 := seg_whole cur' k (n + 1) (by omega) (fun j hj => by rw [c3 j (by omega)]; exact hz j (by omega))
  rw [low_congr B64 cur' cur k (fun j hj => c3 j (by omega)), eR] at q1
  have l0 : 0 ≤ low B64 cur k := val_nonneg B64_pos (h2.take k)
  have l1 : low B64 cur k < B64 ^ k := by
    have a := val_lt B64_pos (h2.take k)
    have b : (cur.take k).length = k := by simp; omega
    rw [b] at a; exact a
  have r0 := Int.emod_nonneg (val B64 (seg cur k (n + 1))) (show D ≠ 0 by omega)
  have r1 := Int.emod_lt_of_pos (val B64 (seg cur k (n + 1))) hD0
  refine ⟨hG, by omega, c2, by simp [h3], h4.set _ hG, ?_, ?_⟩
  · rw [q1]
    have : B64 ^ k * (val B64 (seg cur k (n + 1)) % D + 1) ≤ B64 ^ k * D := Int.mul_le_mul_of_nonneg_left (by omega) (by omega)
    rw [Int.mul_add] at this
    omega
  · have e1 : (qs.set k G).drop k = G :: qs.drop (k + 1) := by
      rw [drop_cons _ _ (by simp; omega), getD_set _ _ _ _ (by omega), if_pos rfl, List.drop_set_of_lt (by omega)]
    rw [e1, val, h6, p1, q1, Int.pow_succ]
    have e2 := Int.mul_ediv_add_emod (val B64 (seg cur k (n + 1))) D
    rw [← eG] at e2
    generalize val B64 (seg cur k (n + 1)) % D = r at *
    generalize val B64 (qs.drop (k + 1)) = Q at *
    rw [← e2]
    generalize low B64 cur k = l at *
    generalize B64 ^ k = p at *
    generalize B64 = b at *
    grind
theorem Dvs.done {D : Int} {lx m t : Nat} {cur qs : List Int} {x y : Int} (h : Dvs (x * 2 ^ t) D lx m 0 cur qs) (eD : D = y * 2 ^ t) (hD0 : 0 < D) : val B64 qs = x / y ∧ val B64 cur / 2 ^ t = x % y := by
  obtain ⟨h1, h2, h3, h4, h5, h6⟩ := h
  simp only [Int.pow_zero, Int.one_mul, List.drop_zero] at h5 h6
  have hp : (0 : Int) < 2 ^ t := Int.pow_pos (by decide)
  have v0 := val_nonneg B64_pos h2
  have hy : 0 < y := by
    by_cases hy : 0 < y
    · exact hy
    · exfalso
      have : y * 2 ^ t ≤ 0 * 2 ^ t := Int.mul_le_mul_of_nonneg_right (by omega) (by omega)
      omega
  have e1 : x * 2 ^ t / D = val B64 qs := by
    rw [h6, Int.add_mul_ediv_right _ _ (by omega), Int.ediv_eq_zero_of_lt v0 h5]; omega
  have e2 : x * 2 ^ t % D = val B64 cur := by
    rw [h6, Int.add_mul_emod_self_right]; exact Int.emod_eq_of_lt v0 h5
  rw [eD] at e1 e2
  rw [Int.mul_ediv_mul_of_pos_left _ _ hp] at e1
  rw [Int.mul_comm x, Int.mul_comm y, Int.mul_emod_mul_of_pos _ _ hp] at e2
  refine ⟨e1.symm, ?_⟩
  rw [← e2, Int.mul_ediv_cancel_left _ (by omega)]
end Go.Proofs.Yticopomchoahnaa
/-
  Contract of nat.Div.
-/
namespace Go.Proofs.Yticopomchoahnaa
open Go.RowKit
set_option linter.unusedVariables false
set_option linter.unusedSimpArgs false
attribute [local go_sem ↓] Go.wp_at_zero Go.wp_at_succ

set_option maxHeartbeats 1000000 in
/-- nat.Div by 0. -/
theorem Div_zero (ao bo : Option Addr) (la ca lb cb : Nat) (xs ys : List Int) (w : World) (h : NumIn .u64 B64 w ao la ca xs) (h' : NumIn .u64 B64 w bo lb cb ys) (h0 : val B64 ys = 0) :
    Calls Try.prog 123 #[.slice ao la ca, .slice bo lb cb] w fun e w' => e = .returned (.tuple #[.slice none 0 0, .slice none 0 0, .bool false]) ∧ w' = w := by
  have HX := trim_any ao la ca xs w h.lies h.lc h.cm h.nn
  have HY := trim_any bo lb cb ys w h'.lies h'.lc h'.cm h'.nn
  have hz : top ys = 0 := by
    by_cases ht : top ys = 0
    · exact ht
    · exfalso
      have := val_ge B64_pos h'.dg (top ys - 1) (by omega)
      have : (0 : Int) < B64 ^ (top ys - 1) := Int.pow_pos B64_pos
      omega
  rw [hz] at HY
  go_enter Try.func123, Try.ntmps123
  go_wp2_with fail
  refine HX.mono ?_
  rintro e w1 ⟨rfl, rfl⟩
  go_wp2_with fail
  refine HY.mono ?_
  rintro e w2 ⟨rfl, rfl⟩
  go_wp2
  go_ret3
  exact ⟨rfl, rfl⟩

/-- Both answers of Div. -/
def DivOut (w w' : World) (q r : Value) (x y : Int) (L : Nat) : Prop := NumOut .u64 B64 w w' q (x / y) L ∧ NumOut .u64 B64 w w' r (x % y) L

set_option maxHeartbeats 4000000 in
/-- nat.Div. -/
theorem Div_any (ao bo : Option Addr) (la ca lb cb : Nat) (xs0 ys0 : List Int) (w : World) (h0 : NumIn .u64 B64 w ao la ca xs0) (h0' : NumIn .u64 B64 w bo lb cb ys0) (hy0 : val B64 ys0 ≠ 0) (hsm : la + lb < 1073740000) :
    Calls Try.prog 123 #[.slice ao la ca, .slice bo lb cb] w fun e w' => ∃ q r, e = .returned (.tuple #[q, r, .bool true]) ∧ DivOut w w' q r (val B64 xs0) (val B64 ys0) (la + 1) := by
  have hl := h0.len
  have hl' := h0'.len
  have ht := top_le xs0
  have ht' := top_le ys0
  have h := h0.take (top xs0) (by omega)
  have h' := h0'.take (top ys0) (by omega)
  have HX := trim_any ao la ca xs0 w h0.lies h0.lc h0.cm h0.nn
  have HY := trim_any bo lb cb ys0 w h0'.lies h0'.lc h0'.cm h0'.nn
  have cx := canon_take_top xs0
  have cy := canon_take_top ys0
  rw [← val_take_top B64 ys0] at hy0
  rw [← val_take_top B64 xs0, ← val_take_top B64 ys0]
  have lx := h.len
  have ly := h'.len
  generalize xs0.take (top xs0) = xs at *
  generalize ys0.take (top ys0) = ys at *
  generalize top xs0 = n at *
  generalize htm : top ys0 = m1 at *
  have hm0 : m1 ≠ 0 := by
    intro hz
    apply hy0
    have : ys = [] := List.eq_nil_of_length_eq_zero (by omega)
    rw [this]; rfl
  obtain ⟨m, rfl⟩ : ∃ m, m1 = m + 1 := ⟨m1 - 1, by omega⟩
  have hnl : n ≤ la := by omega
  have hml : m + 1 ≤ lb := by omega
  clear h0 h0' ht ht' hl hl' htm hm0
  have hx0 := val_nonneg B64_pos h.dg
  have hyp : 0 < val B64 ys := by have := val_nonneg B64_pos h'.dg; omega
  by_cases hlt : n < m + 1
  · have hv : val B64 xs < val B64 ys := by
      apply top_lt_val B64_one h.dg h'.dg
      unfold Canon at cx cy
      omega
    have HN := Norm_any ao n ca xs w h
    have HFIN : Hid (∀ v w', NumOut .u64 B64 w w' v (val B64 xs) n → DivOut w w' (.slice none 0 0) v (val B64 xs) (val B64 ys) (la + 1)) := by
      rintro v w' ⟨a, b, c, d, rfl, e1, e2, e3, e4, e5⟩
      refine ⟨⟨none, 0, 0, [], rfl, NumIn.nil, Canon.nil, ?_, by omega, e5⟩, ⟨a, b, c, d, rfl, e1, e2, ?_, by omega, e5⟩⟩
      · rw [Int.ediv_eq_zero_of_lt hx0 hv]; rfl
      · rw [e3, Int.emod_eq_of_lt hx0 hv]
    clear hv h h' cx cy hx0 hyp hy0
    go_enter Try.func123, Try.ntmps123
    go_wp2_with fail
    refine HX.mono ?_
    rintro e w1 ⟨rfl, rfl⟩
    go_wp2_with fail
    refine HY.mono ?_
    rintro e w2 ⟨rfl, rfl⟩
    go_wp2_with (go_at_call 126; refine HN.mono ?_; rintro e w3 ⟨v, rfl, hv⟩)
    go_ret3
    exact ⟨_, _, rfl, HFIN.out _ _ (by assumption)⟩
  · obtain ⟨t, ht64, ebl, hbig, hsmall⟩ := norm_div ys h'.dg m ly cy
    obtain ⟨b, off, rfl, hblk, hc⟩ := h'.lies.at (by omega)
    have hcell := hc m (by omega)
    have gy := h'.dg.getD B64_pos m
    have HLZ := fun w => lead_any (ys.getD m 0) w gy.1 gy.2
    rw [ebl] at HLZ
    generalize ys.getD m 0 = yt at *
    have HSY := Shift_neg (some ⟨b, off, none⟩) (m + 1) cb ys t w h' ht64 (by omega)
    have hmn : m + 1 ≤ n := by omega
    clear hlt hc ebl gy
    go_enter Try.func123, Try.ntmps123
    go_wp2_with fail
    refine HX.mono ?_
    rintro e w1 ⟨rfl, rfl⟩
    go_wp2_with fail
    refine HY.mono ?_
    rintro e w2 ⟨rfl, rfl⟩
    go_wp2_with fail
    refine (HLZ _).mono ?_
    rintro e w3 ⟨rfl, rfl⟩
    go_wp2_with fail
    refine HSY.mono ?_
    rintro e w4 ⟨v, rfl, ad, ld, cd, ds, rfl, hdn, hdc, hdv, hdl, hbel⟩
    have hld : ld = m + 1 := by
      have hp : (0 : Int) < B64 ^ m := Int.pow_pos B64_pos
      rw [← hdn.len]
      exact canon_len hdn.dg hdc m (by rw [hdv]; omega) (by rw [hdv]; exact hsmall)
    subst hld
    have hDv : Dv w4 ad (m + 1) ds := by
      refine ⟨hdn.lies, hdn.dg, by omega, ?_⟩
      rw [Nat.add_sub_cancel, digit_at B64_pos ds hdn.dg m, hdv]
      have hp : (0 : Int) < B64 ^ m := Int.pow_pos B64_pos
      have a1 : 9223372036854775808 ≤ val B64 ys * 2 ^ t / B64 ^ m := (Int.le_ediv_iff_mul_le hp).2 hbig
      have a2 : val B64 ys * 2 ^ t / B64 ^ m < B64 := Int.ediv_lt_of_lt_mul hp (by rw [Int.mul_comm B64, ← Int.pow_succ]; exact hsmall)
      rw [Int.emod_eq_of_lt (by omega) a2]
      exact a1
    obtain ⟨b2, off2, rfl, hblk2, hc2⟩ := hdn.lies.at (by omega)
    obtain ⟨M, rfl⟩ : ∃ M, n = m + 1 + M := ⟨n - (m + 1), by omega⟩
    have h4 := h.old hbel
    have HBEL : Hid (Below w3.heap.size w3 w4) := hbel
    have HD0 : Hid (0 < val B64 ds ∧ val B64 ds < B64 ^ (m + 1)) := hDv.range
    have HX0 : Hid (val B64 xs * 2 ^ t < B64 ^ (M + 1) * val B64 ds) := by
      unfold Hid
      have a := val_lt B64_pos h.dg
      rw [lx] at a
      have hp : (0 : Int) < 2 ^ t := Int.pow_pos (by decide)
      have hp2 : (0 : Int) < B64 ^ (M + 1) := Int.pow_pos B64_pos
      have c1 := Int.mul_lt_mul_of_pos_right a hp
      have c2 : (2 : Int) ^ t ≤ 9223372036854775808 := pow_mono (B := 2) (by decide) (show t ≤ 63 by omega)
      have c3 : (0 : Int) < B64 ^ m := Int.pow_pos B64_pos
      have c4 : B64 ^ m * 2 ^ t ≤ B64 ^ m * 9223372036854775808 := Int.mul_le_mul_of_nonneg_left c2 (by omega)
      have c5 : B64 ^ (M + 1) * (B64 ^ m * 2 ^ t) ≤ B64 ^ (M + 1) * val B64 ds := Int.mul_le_mul_of_nonneg_left (by rw [hdv]; omega) (by omega)
      have c6 : B64 ^ (m + 1 + M) * 2 ^ t = B64 ^ (M + 1) * (B64 ^ m * 2 ^ t) := by rw [show m + 1 + M = (M + 1) + m by omega, Int.pow_add]; grind
      omega
    have HDV : Hid (val B64 ds = val B64 ys * 2 ^ t) := hdv
    have HLX : Hid (xs.length = m + 1 + M) := lx
    clear hsmall hbig hdv hdc HLZ hcell hbel cx cy hy0 hx0 hyp lx ly hc2 HX HY HSY h' hblk
    go_wp2_with (at_make; refine wpList_make_row _ rfl _ _ 29 rfl 38 .u64 8 Try.underlying29 Try.infoU _ _ _ _ (m + 1 + M + 1) rfl rfl (by omega) (by omega) (by omega) (by unfold maxLen; omega) ?_)
    intro w5 hrowl hbel5
    have HSX := Shift_neg ao (m + 1 + M) ca xs t w5 (h4.old hbel5) ht64 (by omega)
    go_wp2_with fail
    refine HSX.mono ?_
    rintro e w6 ⟨v, rfl, asx, ls, cs, sx, rfl, hsn, hsc, hsv, hsl, hbel6⟩
    have hrow6 := hrowl.below hbel6 hrowl.lt
    have hbel46 : Below w4.heap.size w4 w6 := hbel5.trans (hbel6.mono hbel5.size)
    have hlsx := hsn.len
    go_wp2_with (refine wpList_copy_row rfl _ _ 29 29 rfl 38 Try.underlying29 .u64 8 Try.infoU w4.heap.size asx _ _ _ _ rfl rfl _ sx hrow6 hsn.lies (by simp) ls (by omega) w4.heap.size w4 hbel46 (Nat.le_refl _) ?_)
    intro w7 hrow7 hbel7
    have HV7 : Hid (val B64 (sx.take ls ++ List.replicate (m + 1 + M + 1 - ls) 0) = val B64 xs * 2 ^ t ∧ Dg B64 (sx.take ls ++ List.replicate (m + 1 + M + 1 - ls) 0) ∧ (sx.take ls ++ List.replicate (m + 1 + M + 1 - ls) (0 : Int)).length = m + 1 + M + 1) := by
      refine ⟨?_, (hsn.dg.take _).append (Dg.zeros B64_pos _), ?_⟩
      · rw [val_append, List.take_of_length_le (by omega), hsv, val_replicate]; simp
      · simp; omega
    have HROW7 : Hid (Row 38 .u64 w7 w4.heap.size (sx.take ls ++ List.replicate (m + 1 + M + 1 - ls) 0)) := hrow7
    clear hrow7 hsv hsc hsl hsn hlsx hrow6 hbel46 hbel6 hbel5 hrowl HSX
    generalize sx.take ls ++ List.replicate (m + 1 + M + 1 - ls) 0 = cur0 at *
    go_wp2_with (at_make; refine wpList_make_row _ rfl _ _ 29 rfl 38 .u64 8 Try.underlying29 Try.infoU _ _ _ _ (M + 1) rfl rfl (by omega) (by omega) (by omega) (by unfold maxLen; omega) ?_)
    intro w8 hrowq hbel8
    have hrow8 := HROW7.out.below hbel8 HROW7.out.lt
    have hgq : w4.heap.size < w7.heap.size := HROW7.out.lt
    have hbel48 : Below w4.heap.size w4 w8 := hbel7.trans (hbel8.mono hbel7.size)
    have HINI : Hid (Dvs (val B64 xs * 2 ^ t) (val B64 ds) (m + 1 + M) (M + 1) (M + 1) cur0 (List.replicate (M + 1) 0)) := by
      refine ⟨HV7.out.2.2, HV7.out.2.1, by simp, Dg.zeros B64_pos _, by rw [HV7.out.1]; exact HX0.out, ?_⟩
      rw [HV7.out.1, List.drop_eq_nil_of_le (by simp)]
      simp [val]
    clear HROW7 hbel7 hbel8
    go_wp2
    go_loopw [58] (fun v wr => ∃ (i : Nat) (cur qs : List Int), i ≤ M + 1 ∧ v = .int .i64 i ∧ Row 38 .u64 wr w4.heap.size cur ∧ Row 38 .u64 wr w7.heap.size qs ∧ Dvs (val B64 xs * 2 ^ t) (val B64 ds) (m + 1 + M) (M + 1) (M + 1 - i) cur qs ∧ Below w4.heap.size w4 wr) (fun v _ => M + 1 - (intOf v).toNat)
    case atStart => exact ⟨0, _, _, Nat.zero_le _, rfl, hrow8, hrowq, HINI.out, hbel48⟩
    case round =>
      obtain ⟨i, cur, qs, hi, rfl, hrl, hrq, hdv, hbw⟩ := hrel
      by_cases hlt : i < M + 1
      · obtain ⟨k, hk⟩ : ∃ k : Nat, (M : Int) - i = k := ⟨M - i, by omega⟩
        have hkM : k < M + 1 := by omega
        rw [show M + 1 - i = k + 1 by omega] at hdv
        have hpre := hdv.pre (n := m + 1) (by omega) HD0.out.2 HD0.out.1
        have hlc := hdv.1
        have hDw : Dv wr (some ⟨b2, off2, none⟩) (m + 1) ds := ⟨hDv.lies.old hbw, hDv.dg, hDv.pos, hDv.big⟩
        have HDL := divLimb_any 38 w4.heap.size k m (m + 1 + M + 1 - k) cd (some ⟨b2, off2, none⟩) cur ds wr hrl hdv.2.1 hDw (fun b' off' s hb' => by injection hb' with hb'; injection hb' with hb'; omega) (by omega) (by omega) _ _ rfl rfl hpre.2
        have HST : Hid (∀ cur' G, cur'.length = cur.length → Dg B64 cur' → (∀ j, j < k ∨ k + (m + 1) < j → cur'.getD j 0 = cur.getD j 0) → G = val B64 (seg cur k (m + 1 + 1)) / val B64 ds → val B64 (seg cur' k (m + 1 + 1)) = val B64 (seg cur k (m + 1 + 1)) % val B64 ds →
            (0 ≤ G ∧ G < 18446744073709551616) ∧ Dvs (val B64 xs * 2 ^ t) (val B64 ds) (m + 1 + M) (M + 1) k cur' (qs.set k G)) := fun cur' G a b c d e => hdv.step (n := m + 1) (by omega) hkM HD0.out.2 HD0.out.1 a b c d e
        have hlq := hdv.2.2.1
        have HRQ : Hid (Row 38 .u64 wr w7.heap.size qs) := hrq
        have HBW : Hid (Below w4.heap.size w4 wr) := hbw
        have HKI : Hid (M + 1 - (i + 1) = k) := by unfold Hid; omega
        have hke : k + (m + 1 + 1) ≤ m + 1 + M + 1 := by omega
        clear hdv hpre hrl hrq hbw hrow8 hrowq hbel48 hDw HINI HV7
        go_wp2_with fail
        rw [show k + (m + 1) + 1 - k = m + 1 + 1 by omega]
        refine HDL.mono ?_
        rintro e w9 ⟨G, rfl, cur', hrl', c1, c2, c3, eG, eR, hgr⟩
        have hst := HST.out cur' G c1 c2 c3 eG eR
        have hrq9 := HRQ.out.kept hgr (by simp; omega)
        have hfr := hrq9.frozen k
        have hcl := hrq9.cell k (by omega)
        have HRL : Hid (Row 38 .u64 (w9.setCell ⟨w7.heap.size, k, none⟩ (.int .u64 G)) w4.heap.size cur') := hrl'.kept (grown_set _ _ _ _) (by simp; omega)
        have HRQ9 : Hid (Row 38 .u64 (w9.setCell ⟨w7.heap.size, k, none⟩ (.int .u64 G)) w7.heap.size (qs.set k G)) := hrq9.set k G
        have HB9 : Hid (Below w4.heap.size w4 (w9.setCell ⟨w7.heap.size, k, none⟩ (.int .u64 G))) := (HBW.out.grown hgr HBW.out.size (fun j hj => by injection hj with hj; omega)).setCell (p := ⟨w7.heap.size, k, none⟩) (by show w4.heap.size ≤ w7.heap.size; omega) _
        have HDS : Hid (Dvs _ _ _ _ _ _ _) := hst.2
        clear hst hrq9 hrl' c1 c2 c3 eG eR hgr HST HDL HRQ HBW
        go_wp2
        go_roundw
        case rel => exact ⟨i + 1, cur', _, by omega, by go_num, HRL.out, HRQ9.out, by rw [HKI.out]; exact HDS.out, HB9.out⟩
        case measure => simp [intOf]; omega
      · obtain rfl : i = M + 1 := by omega
        rw [Nat.sub_self] at hdv
        have hdone := hdv.done HDV.out HD0.out.1
        have hlc := hdv.1
        have hlq := hdv.2.2.1
        have hnq := hrq.num hdv.2.2.2.1 (by omega)
        have hnl' := hrl.num hdv.2.1 (by omega)
        rw [hlq] at hnq
        rw [hlc] at hnl'
        have HSH := Shift_down (some ⟨w4.heap.size, 0, none⟩) (m + 1 + M + 1) (m + 1 + M + 1) cur t wr hnl' (by omega)
        rw [hdone.2] at HSH
        have HQV : Hid (val B64 qs = val B64 xs / val B64 ys) := hdone.1
        have HNQ : Hid (NumIn _ _ _ _ _ _ _) := hnq
        have HB : Hid (Below w3.heap.size w3 wr) := HBEL.out.trans (hbw.mono HBEL.out.size)
        clear hdv hdone hrl hrq hnq hnl' hbw hrow8 hrowq hbel48 HINI HV7 hlc hlq h h4 hdn hDv HX0 HD0 HDV
        go_wp2_with fail
        refine (trim_any _ _ _ _ _ HNQ.out.lies HNQ.out.lc HNQ.out.cm HNQ.out.nn).mono ?_
        rintro e w10 ⟨rfl, rfl⟩
        go_wp2_with fail
        refine HSH.mono ?_
        rintro e w11 ⟨v, rfl, ar, lr, cr, rs, rfl, r1, r2, r3, r4, r5⟩
        have HF : Hid (DivOut w3 w11 (.slice (some ⟨w7.heap.size, 0, none⟩) (top qs) (M + 1)) (.slice ar lr cr) (val B64 xs) (val B64 ys) (la + 1)) := by
          have hbb : Below w3.heap.size w3 w11 := HB.out.trans (r5.mono HB.out.size)
          refine ⟨(HNQ.out.old r5).out hbb _ HQV.out _ (by omega), ⟨ar, lr, cr, rs, rfl, r1, r2, r3, by omega, hbb⟩⟩
        clear r1 r2 r3 r4 r5 HB HNQ HQV
        go_wp2
        go_ret3
        exact ⟨_, _, rfl, HF.out⟩
end Go.Proofs.Yticopomchoahnaa
/-
  Contract of the fixed facts: Awake answers true; and of long.
-/
namespace Go.Proofs.Yticopomchoahnaa
open Go.RowKit
set_option linter.unusedVariables false
set_option linter.unusedSimpArgs false

theorem one_number {xs : List Int} (hd : Dg B64 xs) (hc : Canon xs) {ys : List Int} (hd' : Dg B64 ys) (hc' : Canon ys) (h : val B64 xs = val B64 ys) : xs = ys := canon_inj B64_one hd hd' hc hc' h
theorem dg_lit2 (a b : Int) (ha : 0 ≤ a ∧ a < 18446744073709551616) (hb : 0 ≤ b ∧ b < 18446744073709551616) : Dg B64 [a, b] := Dg.cons ha (Dg.cons hb (Dg.nil _))

end Go.Proofs.Yticopomchoahnaa
/-
  Contract of long: whether one of the numbers handed over has more limbs than are gone to.
-/
namespace Go.Proofs.Yticopomchoahnaa
open Go.RowKit
set_option linter.unusedVariables false
set_option linter.unusedSimpArgs false

end Go.Proofs.Yticopomchoahnaa
/-
  What a law is told of a slice of integers that came in, as a number.
-/
namespace Go.Proofs.Yticopomchoahnaa
open Go.RowKit
set_option linter.unusedVariables false
set_option linter.unusedSimpArgs false

/-- A slice of integers that came in: nil, or a row of 'cap' cells. -/
def Came (k : IntKind) (w : World) (a : Option Addr) (len cap : Nat) (zs : List Int) : Prop :=
  (a = none ∧ len = 0 ∧ cap = 0 ∧ zs = []) ∨
  ∃ x, a = some x ∧ len ≤ cap ∧ cap ≤ maxLen ∧ zs.length = cap ∧ (∀ i, i < zs.length → w.cell? (x.add i) = some (.int k (zs.getD i 0))) ∧ ∀ n ∈ zs, (Lit.int k n).wf = true

theorem word_u64 {x : Int} (h : (Lit.int .u64 x).wf = true) : 0 ≤ x ∧ x < 18446744073709551616 := by
  simp [Lit.wf, IntKind.min, IntKind.max, IntKind.signed, IntKind.bits] at h
  exact ⟨by omega, by omega⟩
theorem word_u8 {x : Int} (h : (Lit.int .u8 x).wf = true) : 0 ≤ x ∧ x < 256 := by
  simp [Lit.wf, IntKind.min, IntKind.max, IntKind.signed, IntKind.bits] at h
  exact ⟨by omega, by omega⟩

theorem Came.le {k : IntKind} {w : World} {a : Option Addr} {len cap : Nat} {zs : List Int} (h : Came k w a len cap zs) : len ≤ maxLen := by
  rcases h with ⟨rfl, rfl, rfl, rfl⟩ | ⟨x, rfl, h1, h2, _⟩
  · simp
  · omega
theorem Came.num {k : IntKind} {B : Int} {w : World} {a : Option Addr} {len cap : Nat} {zs : List Int} (hk : ∀ n, (Lit.int k n).wf = true → 0 ≤ n ∧ n < B) (h : Came k w a len cap zs) (hs : len ≤ 1073741824) : NumIn k B w a len cap (zs.take len) := by
  rcases h with ⟨rfl, rfl, rfl, rfl⟩ | ⟨x, rfl, h1, h2, h3, h4, h5⟩
  · exact NumIn.nil
  · refine ⟨⟨by simp; omega, ?_⟩, h1, h2, (fun h => by cases h), fun n hn => hk n (h5 n (List.mem_of_mem_take hn)), hs⟩
    by_cases h0 : len = 0
    · exact .inl h0
    · right
      obtain ⟨b, off, spot⟩ := x
      have hc := h4 0 (by omega)
      have hspot : spot = none := by simpa [Addr.add] using World.cell?_spot hc
      subst hspot
      refine ⟨b, off, rfl, ?_, fun i hi => ?_⟩
      · rw [add_none] at hc
        exact World.block_lt_of_cell? w ⟨b, off + 0, none⟩ hc
      · have := h4 i (by omega)
        rw [add_none] at this
        rw [this]
        simp only [List.getD, List.getElem?_take]
        rw [if_pos hi]
theorem Came.nat {w : World} {a : Option Addr} {len cap : Nat} {zs : List Int} (h : Came .u64 w a len cap zs) (hs : len ≤ 70) : NumIn .u64 B64 w a len cap (zs.take len) := h.num (fun _ => word_u64) (by omega)
theorem Came.bytes {w : World} {a : Option Addr} {len cap : Nat} {zs : List Int} (h : Came .u8 w a len cap zs) (hs : len ≤ 2000) : NumIn .u8 256 w a len cap (zs.take len) := h.num (fun _ => word_u8) (by omega)
theorem Came.old {k : IntKind} {w w' : World} {a : Option Addr} {len cap : Nat} {zs : List Int} (h : Came k w a len cap zs) (hb : Below w.heap.size w w') : Came k w' a len cap zs := by
  rcases h with h | ⟨x, rfl, h1, h2, h3, h4, h5⟩
  · exact .inl h
  · refine .inr ⟨x, rfl, h1, h2, h3, fun i hi => ?_, h5⟩
    have := h4 i hi
    have hlt := World.block_lt_of_cell? w _ this
    rw [hb.cell hlt]; exact this
end Go.Proofs.Yticopomchoahnaa
/-
  append of numbers to a slice of the call's own.
-/
namespace Go.Proofs.Yticopomchoahnaa
open Go.RowKit
set_option linter.unusedVariables false
set_option linter.unusedSimpArgs false

/-- The slice value v is the call's own (its block is from 'base' on) and holds xs. -/
def Own (e : TypeId) (k : IntKind) (w : World) (base : Nat) (v : Value) (xs : List Int) : Prop := w.ownsRow base e 1 v xs.length (xs.map (Value.int k))

theorem Own.nil (e : TypeId) (k : IntKind) (w : World) (base : Nat) : Own e k w base (.slice none 0 0) [] := World.ownsRow_nil w base e 1
theorem Own.num {e : TypeId} {k : IntKind} {B : Int} {w : World} {base : Nat} {v : Value} {xs : List Int} (h : Own e k w base v xs) (hd : Dg B xs) (hs : xs.length ≤ 1073741824) : ∃ ao cap, v = .slice ao xs.length cap ∧ NumIn k B w ao xs.length cap xs := by
  rcases h.2 with ⟨rfl, h0⟩ | ⟨g, cap, cur, rfl, hg, hrow, h1, h2, h3, h4⟩
  · have : xs = [] := List.eq_nil_of_length_eq_zero h0
    subst this
    exact ⟨none, 0, rfl, NumIn.nil⟩
  · refine ⟨_, cap, rfl, ⟨⟨rfl, ?_⟩, h1, h2, (fun h => by cases h), hd, hs⟩⟩
    right
    refine ⟨g, 0, rfl, (Array.getElem?_eq_some_iff.1 hrow).1, fun i hi => ?_⟩
    rw [Nat.zero_add, cell_of_row w g i cur e (0, 0) hrow]
    have : (cur.toList.take (xs.length * 1))[i]? = (xs.map (Value.int k))[i]? := by rw [h4]
    rw [List.getElem?_take, if_pos (by omega)] at this
    rw [← Array.getElem?_toList, this]
    simp [hi]
theorem Own.below {e : TypeId} {k : IntKind} {w w' : World} {base : Nat} {v : Value} {xs : List Int} (h : Own e k w base v xs) (hb : Below w.heap.size w w') : Own e k w' base v xs := by
  refine ⟨h.1, ?_⟩
  rcases h.2 with h0 | ⟨g, cap, cur, rfl, hg, hrow, r⟩
  · exact .inl h0
  · exact .inr ⟨g, cap, cur, rfl, hg, by rw [hb.block g (Array.getElem?_eq_some_iff.1 hrow).1]; exact hrow, r⟩
theorem Own.alloc {e : TypeId} {k : IntKind} {w : World} {base : Nat} {v : Value} {xs : List Int} (h : Own e k w base v xs) (o : Obj) : Own e k (w.alloc o) base v xs := World.ownsRow.alloc h o
/-- A slice literal without elements. -/
theorem own_lit0 (e : TypeId) (k : IntKind) (w : World) (base : Nat) (hb : base ≤ w.heap.size) : Own e k (w.alloc (.cells #[] e)) base (.slice (some ⟨w.heap.size, 0, none⟩) 0 0) [] :=
  World.ownsRow_lit w #[] 0 hb (Nat.zero_le _) (by simp)
theorem Row.own {e : TypeId} {k : IntKind} {w : World} {g base : Nat} {xs : List Int} (h : Row e k w g xs) (hb : base ≤ g) (hs : xs.length ≤ 1073741824) : Own e k w base (.slice (some ⟨g, 0, none⟩) xs.length xs.length) xs := by
  refine ⟨by simp, .inr ⟨g, xs.length, _, rfl, hb, h, Nat.le_refl _, by unfold maxLen; omega, by simp, ?_⟩⟩
  simp only [Nat.mul_one]
  exact List.take_of_length_le (by simp)

/-- append(out, src...): whatever the source. -/
theorem wpList_append_nums {P : Program} {w : World} {ops : Array Oper} {rest : List Oper} {o : Oper} {a : Act} {Q : Exit → Act → World → Prop} (hgd : o.guard = none) (s x : Operand) (t : TypeId)
    (ho : o.op = .call { callee := .builtin .append, args := #[s, x], argTypes := #[t, t] }) (e : TypeId) (k : IntKind) (bytes : Nat) (ht : P.underlying t = some (.slice e))
    (h2 : (P.info? e).map (fun i => (i.zero, i.size, i.bytes)) = some (some (.int k 0), 1, bytes)) (base : Nat) (v : Value) (xs : List Int) (hs : a.eval s = v) (hown : Own e k w base v xs)
    (ao : Option Addr) (m c : Nat) (ys : List Int) (hx : a.eval x = .slice ao m c) (hy : Lies k w ao m ys) (hnn : ao = none → c = 0) (hb1 : xs.length + m ≤ 1073741824) (hb2 : bytes ≤ 8) (w0 : World) (hb : Below base w0 w) (hbase : base ≤ w.heap.size)
    (h : ∀ v' w', Own e k w' base v' (xs ++ ys) → Below base w0 w' → (∀ g, v.ownBlock ≠ some g → g < w.heap.size → w'.heap[g]? = w.heap[g]?) → w.heap.size ≤ w'.heap.size → wpList P ops Q rest (a.put o.dst v') w') : wpList P ops Q (o :: rest) a w := by
  obtain ⟨i, hi, hz0, hz1, hz2⟩ := info_parts h2
  have hl := hy.len
  cases ao with
  | none =>
    obtain rfl := hnn rfl
    have hm0 : m = 0 := by
      rcases hy.2 with h | ⟨b, off, e', _⟩
      · exact h
      · cases e'
    subst hm0
    have hy0 : ys = [] := List.eq_nil_of_length_eq_zero hl
    subst hy0
    refine wpList_append_own_none hgd s x t ho base e i 1 ht hi v _ _ hs hown hx ?_
    exact h v w (by rw [List.append_nil]; exact hown) hb (fun _ _ _ => rfl) (Nat.le_refl _)
  | some ad =>
    have hbt : (xs.length + m) * bytes ≤ 140737488355328 := by
      have := Nat.mul_le_mul hb1 hb2
      omega
    refine wpList_append_own (w := w) hgd s x t ho base e i (.int k 0) 1 bytes ht hi hz0 hz1 hz2 rfl (by decide) v _ _ hs hown ad m c (ys.map (Value.int k)) hx (by simp [hl]) ?_ (ints_oneCell _ _) (by unfold maxLen; omega) hbt hbase ?_
    · intro j u hj
      simp only [List.getElem?_map] at hj
      by_cases hjm : j < ys.length
      · obtain ⟨b, off, e', hlt, hc⟩ := hy.at (by omega)
        injection e' with e'
        subst e'
        have := hc j (by omega)
        rw [List.getElem?_eq_getElem hjm] at hj
        simp only [Option.map_some, Option.some.injEq] at hj
        rw [add_none, this, ← hj]
        simp [List.getD, List.getElem?_eq_getElem hjm]
      · rw [List.getElem?_eq_none (by omega)] at hj
        simp at hj
    · intro v' w' hown' hgr _
      refine h v' w' ?_ (hb.grown hgr hbase ?_) ?_ hgr.size
      · unfold Own
        rw [List.length_append, List.map_append, hl]
        exact hown'
      · intro g hg
        exact (hown.lt g hg).1
      · intro g hg hlt
        exact hgr.block g hlt (fun e => hg e.symm)

theorem blen_bytes (B : Int) (n : Nat) (h0 : 0 ≤ B) (h : B < 256 ^ n) : blen B.toNat ≤ 8 * n := by
  apply blen_le
  have e : ((2 ^ (8 * n) : Nat) : Int) = 256 ^ n := by rw [Int.natCast_pow, Int.pow_mul]; rfl
  rw [← e] at h
  omega
/-- Bytes as a text. -/
theorem conv_bytes (w : World) (src dst e : TypeId) (hs : Try.prog.underlying src = some (.slice e)) (he : Try.prog.underlying e = some (.int .u8)) (hd : Try.prog.underlying dst = some .string) (ao : Option Addr) (len cap : Nat) (xs : List Int) (h : Lies .u8 w ao len xs) :
    (convert src dst (.slice ao len cap)).run Try.prog w = .ok (.string (strOfNums xs)) w := by
  have hl := h.len
  rcases h.2 with h0 | ⟨b, off, rfl, hb, hc⟩
  · subst h0
    have hx : xs = [] := List.eq_nil_of_length_eq_zero hl
    subst hx
    cases ao with
    | none => exact run_convert_bytes_nil w src e hs he 0 cap dst hd
    | some a =>
      rw [run_convert_bytes_string w src dst e _ 0 cap hs he hd, run_bytesToString w a 0 cap [] (by rfl)]
      rfl
  · exact run_convert_bytes_arg w src e hs he b off len cap xs hl hc dst hd

/-- nat.Shift below or at 0. -/
theorem Shift_minus (ao : Option Addr) (la ca : Nat) (xs : List Int) (t : Nat) (arg : Int) (w : World) (h : NumIn .u64 B64 w ao la ca xs) (ha : arg = -(t : Int)) (ht : t ≤ 4096) (hlb : la < 1073741000) :
    Calls Try.prog 128 #[.slice ao la ca, .int .i64 arg] w fun e w' => ∃ v, e = .returned v ∧ NumOut .u64 B64 w w' v (val B64 xs * 2 ^ t) (la + 65) := by
  subst ha
  by_cases h0 : t = 0
  · subst h0
    refine (Shift_down ao la ca xs 0 w h (by decide)).mono ?_
    rintro e w' ⟨v, rfl, a, b, c, d, rfl, e1, e2, e3, e4, e5⟩
    refine ⟨_, rfl, a, b, c, d, rfl, e1, e2, ?_, by omega, e5⟩
    rw [e3]; simp
  · refine (Shift_up ao la ca xs t w h (by omega) ht hlb).mono ?_
    rintro e w' ⟨v, rfl, a, b, c, d, rfl, e1, e2, e3, e4, e5⟩
    exact ⟨_, rfl, a, b, c, d, rfl, e1, e2, e3, by omega, e5⟩
/-- nat.Shift from 0 on. -/
theorem Shift_plus (ao : Option Addr) (la ca : Nat) (xs : List Int) (t : Nat) (arg : Int) (w : World) (h : NumIn .u64 B64 w ao la ca xs) (ha : arg = (t : Int)) (ht : t < 2147483648) :
    Calls Try.prog 128 #[.slice ao la ca, .int .i64 arg] w fun e w' => ∃ v, e = .returned v ∧ NumOut .u64 B64 w w' v (val B64 xs / 2 ^ t) la := by
  subst ha
  exact Shift_down ao la ca xs t w h ht
end Go.Proofs.Yticopomchoahnaa
/-
  Contracts of the document's answer (numbers as digits of 16 bits): trim, Of, Nat, Same.
-/
namespace Go.Proofs.Yticopomchoahnaa
open Go.RowKit
set_option linter.unusedVariables false
set_option linter.unusedSimpArgs false

/-- An operation whose guard is met is walked as one without. -/
theorem wpList_unguard {P : Program} {w : World} {ops : Array Oper} {rest : List Oper} {o : Oper} {a : Act} {Q : Exit → Act → World → Prop} (hw : Region.wanted o (yielded ops a.tmps) = true)
    (h : wpList P ops Q ({ o with guard := none } :: rest) a w) : wpList P ops Q (o :: rest) a w := by
  have hn : Region.wanted { o with guard := none } (yielded ops a.tmps) = true := rfl
  unfold wpList at h ⊢
  rw [if_pos hn] at h
  rw [if_pos hw]
  exact h

/-- append(out, x). -/
theorem wpList_append_one {P : Program} {w : World} {ops : Array Oper} {rest : List Oper} {o : Oper} {a : Act} {Q : Exit → Act → World → Prop} (hgd : o.guard = none) (s x : Operand) (t : TypeId)
    (ho : o.op = .call { callee := .builtin .append, args := #[s, x], argTypes := #[t, t] }) (e : TypeId) (k : IntKind) (bytes : Nat) (ht : P.underlying t = some (.slice e))
    (h2 : (P.info? e).map (fun i => (i.zero, i.size, i.bytes)) = some (some (.int k 0), 1, bytes)) (base : Nat) (v : Value) (xs : List Int) (y : Int) (hs : a.eval s = v) (hown : Own e k w base v xs)
    (hx : a.eval x = .slice (some ⟨w.heap.size, 0, none⟩) 1 1) (hb1 : xs.length < 1073741824) (hb2 : bytes ≤ 8) (w0 : World) (hb : Below base w0 w) (hbase : base ≤ w.heap.size)
    (h : ∀ v' w', Own e k w' base v' (xs ++ [y]) → Below base w0 w' → wpList P ops Q rest (a.put o.dst v') w') : wpList P ops Q (o :: rest) a (w.alloc (.cells #[.int k y] e)) := by
  refine wpList_append_nums hgd s x t ho e k bytes ht h2 base v xs hs (hown.alloc _) (some ⟨w.heap.size, 0, none⟩) 1 1 [y] hx ((row_alloc w e k y).lies 0 1 (by simp)) (fun h => by cases h) (by omega) hb2 w0 (hb.alloc hbase _) (by simp; omega) ?_
  intro v' w' h1 h2 _ _
  exact h v' w' h1 h2

def D16 : Int := 65536
theorem D16_pos : 0 < D16 := by decide
theorem D16_one : 1 < D16 := by decide
theorem D16_4 : D16 ^ 4 = B64 := by decide

set_option maxHeartbeats 1000000 in
/-- the document's trim. -/
theorem rtrim_any (ao : Option Addr) (len cap : Nat) (xs : List Int) (w : World) (h : NumIn .i64 D16 w ao len cap xs) :
    Calls Try.prog 65 #[.slice ao len cap] w fun e w' => e = .returned (.slice ao (top xs) cap) ∧ w' = w := by
  have hl := h.len
  have ht := top_le xs
  have hs := h.sm
  have hm := h.cm
  have hlc := h.lc
  have hn := h.nn
  unfold maxLen at hm
  go_enter Try.func65, Try.ntmps65
  go_wp2
  go_loop [3] (fun v => ∃ k : Nat, k ≤ len ∧ v = .int .i64 k ∧ ∀ j, k ≤ j → j < len → xs.getD j 0 = 0) (fun v => (intOf v).toNat)
  case atStart => exact ⟨len, Nat.le_refl _, rfl, fun j h1 h2 => by omega⟩
  case round =>
    obtain ⟨k, hk, rfl, hz⟩ := hrel
    have fin : top xs = k → ∀ (K : Prop), (top xs = k → K) → K := fun h K f => f h
    by_cases h0 : k = 0
    · subst h0
      have htop : top xs = 0 := top_eq xs 0 (fun j h1 h2 => hz j h1 (by omega)) (.inl rfl)
      have HT : Hid (top xs = 0) := htop
      clear htop hz fin h
      cases ao with
      | none =>
        obtain rfl := hn rfl
        obtain rfl : len = 0 := by omega
        go_wp2
        go_ret
        exact ⟨ret_slice HT.out.symm rfl, rfl⟩
      | some a =>
        go_wp2
        go_ret
        exact ⟨ret_slice HT.out.symm rfl, rfl⟩
    · obtain ⟨b, off, rfl, hb, hc⟩ := h.lies.at (by omega)
      obtain ⟨m, rfl⟩ : ∃ m, k = m + 1 := ⟨k - 1, by omega⟩
      have hcell := hc m (by omega)
      by_cases hz0 : xs.getD m 0 = 0
      · have HZ : Hid (∀ j, m ≤ j → j < len → xs.getD j 0 = 0) := fun j h1 h2 => by
          by_cases e : j = m
          · rw [e]; exact hz0
          · exact hz j (by omega) h2
        rw [hz0] at hcell
        clear hz hc hz0 fin h0 h
        go_wp2
        go_round
        case rel => exact ⟨m, by omega, by go_num, HZ.out⟩
        case measure => simp only [intOf]; omega
      · have htop : top xs = m + 1 := top_eq xs (m + 1) (fun j h1 h2 => hz j h1 (by omega)) (.inr (by simpa using hz0))
        have HT : Hid (top xs = m + 1) := htop
        have hzb : (xs.getD m 0 == 0) = false := by simpa using hz0
        generalize xs.getD m 0 = x at *
        clear htop hz hc hz0 fin h0 h ht
        go_wp2
        go_ret
        exact ⟨ret_slice HT.out.symm rfl, rfl⟩

theorem val_snoc (B : Int) (xs : List Int) (y : Int) : val B (xs ++ [y]) = val B xs + B ^ xs.length * y := by rw [val_append]; simp [val]
theorem pow_D (i : Nat) : D16 ^ (4 * i) = B64 ^ i := by rw [Int.pow_mul, D16_4]
end Go.Proofs.Yticopomchoahnaa
/-
  Contracts of the document's answer: a number of digits as limbs (Nat), two numbers as they stand (Same), and the law's own 'is'.
-/
namespace Go.Proofs.Yticopomchoahnaa
open Go.RowKit
set_option linter.unusedVariables false
set_option linter.unusedSimpArgs false

/-- The number that n digits from place p on say. -/
def hi (ds : List Int) (p : Nat) : Nat → Int
  | 0 => 0
  | n + 1 => ds.getD p 0 + 65536 * hi ds (p + 1) n
theorem hi_range (ds : List Int) (hd : Dg D16 ds) : ∀ (n p : Nat), 0 ≤ hi ds p n ∧ hi ds p n < D16 ^ n
  | 0, p => by simp [hi]
  | n + 1, p => by
    have h := hi_range ds hd n (p + 1)
    have g := hd.getD D16_pos p
    rw [hi, Int.pow_succ]
    unfold D16 at *
    omega
theorem hi_low (ds : List Int) : ∀ (n p : Nat), low D16 ds (p + n) = low D16 ds p + D16 ^ p * hi ds p n
  | 0, p => by simp [hi]
  | n + 1, p => by
    have h := hi_low ds n (p + 1)
    rw [show p + (n + 1) = p + 1 + n by omega, h, hi, low_succ, Int.pow_succ]
    have : D16 = 65536 := rfl
    generalize D16 ^ p = q at *
    rw [this]
    grind
/-- A number that fills its digits has no zeros above. -/
theorem canon_of_ge {B : Int} (hB : 1 < B) {xs : List Int} (hd : Dg B xs) (n : Nat) (hl : xs.length = n + 1) (h : B ^ n ≤ val B xs) : Canon xs := by
  unfold Canon
  have ht := top_le xs
  by_cases e : top xs = xs.length
  · exact e
  · exfalso
    have a := val_lt (by omega) (hd.take (top xs))
    rw [val_take_top] at a
    have c : (xs.take (top xs)).length = top xs := by simp; omega
    rw [c] at a
    have d := pow_mono (B := B) (by omega) (show top xs ≤ n by omega)
    omega
/-- What Nat has gathered: m limbs. -/
def Nats (ds : List Int) (m : Nat) (outs : List Int) : Prop := outs.length = m ∧ Dg B64 outs ∧ val B64 outs = low D16 ds (4 * m)
theorem Nats.step {ds : List Int} {m : Nat} {outs : List Int} (hd : Dg D16 ds) (h : Nats ds m outs) : Nats ds (m + 1) (outs ++ [hi ds (4 * m) 4]) := by
  obtain ⟨h1, h2, h3⟩ := h
  have hr := hi_range ds hd 4 (4 * m)
  rw [D16_4] at hr
  refine ⟨by simp [h1], h2.append (Dg.cons hr (Dg.nil _)), ?_⟩
  rw [val_snoc, h3, h1, show 4 * (m + 1) = 4 * m + 4 by omega, hi_low, pow_D]
theorem Nats.done {ds : List Int} {m : Nat} {outs : List Int} (h : Nats ds m outs) (hd : Dg D16 ds) (hc : Canon ds) (h1 : ds.length ≤ 4 * m) (h2 : 4 * m < ds.length + 4) : val B64 outs = val D16 ds ∧ Canon outs := by
  obtain ⟨e1, e2, e3⟩ := h
  have hv : val B64 outs = val D16 ds := by rw [e3]; exact low_all _ _ _ (by unfold Canon at hc; omega)
  refine ⟨hv, ?_⟩
  cases m with
  | zero =>
    have : outs = [] := List.eq_nil_of_length_eq_zero e1
    rw [this]; exact Canon.nil
  | succ m =>
    refine canon_of_ge B64_one e2 m e1 ?_
    rw [hv, ← pow_D]
    have a := val_ge D16_pos hd (ds.length - 1) (by unfold Canon at hc; omega)
    have b := pow_mono (B := D16) (by decide) (show 4 * m ≤ ds.length - 1 by omega)
    omega

set_option maxHeartbeats 4000000 in
/-- the document's Nat. -/
theorem rNat_any (ao : Option Addr) (la ca : Nat) (ds : List Int) (w : World) (h : NumIn .i64 D16 w ao la ca ds) (hc : Canon ds) (hla : la ≤ 1000000) :
    Calls Try.prog 19 #[.slice ao la ca] w fun e w' => ∃ v, e = .returned v ∧ NumOut .u64 B64 w w' v (val D16 ds) la := by
  have hl := h.len
  go_enter Try.func19, Try.ntmps19
  go_wp2
  go_loopw [3, 4] (fun vo vi wr => ∃ (m : Nat) (outs : List Int), 4 * m < la + 4 ∧ vi = .int .i64 ((4 * m : Nat) : Int) ∧ Own 38 .u64 wr w.heap.size vo outs ∧ Nats ds m outs ∧ Below w.heap.size w wr) (fun _ vi _ => la + 4 - (intOf vi).toNat)
  case atStart => exact ⟨0, [], by omega, rfl, Own.nil _ _ _ _, ⟨rfl, Dg.nil _, by simp [val, low_zero]⟩, Below.refl _ _⟩
  case round =>
    obtain ⟨m, outs, hi0, rfl, hown, hns, hb⟩ := hrel
    by_cases hlt : 4 * m < la
    · have hx := h.lies.old hb
      obtain ⟨b, off, rfl, hblk, hcs⟩ := hx.at (by omega)
      have HC : Hid (∀ i, i < la → wr.cell? ⟨b, off + i, none⟩ = some (.int .i64 (ds.getD i 0))) := hcs
      have HN : Hid (Nats ds m outs) := hns
      have HOWN : Hid (Own 38 .u64 wr w.heap.size u3 outs) := hown
      have HB : Hid (Below w.heap.size w wr) := hb
      have HD : Hid (Dg D16 ds) := h.dg
      clear hns hown hb hcs hx h hc
      go_wp2
      go_loop [5, 6] (fun vx vk => ∃ (kk : Nat), kk ≤ 4 ∧ vk = .int .i64 ((kk : Int) - 1) ∧ vx = .int .u64 (hi ds (4 * m + kk) (4 - kk))) (fun _ vk => (intOf vk + 1).toNat)
      case atStart => exact ⟨4, by omega, rfl, rfl⟩
      case round =>
        obtain ⟨kk, hk, rfl, rfl⟩ := hrel
        by_cases hk0 : kk = 0
        · subst hk0
          have HS : Hid (Nats ds (m + 1) (outs ++ [hi ds (4 * m) 4])) := HN.out.step HD.out
          have hlen := HN.out.1
          have HLB : Hid (outs.length < 1073741824) := by unfold Hid; omega
          have hbs := HB.out.size
          have hbw := HB.out
          have how := HOWN.out
          rw [show 4 * m + 0 = 4 * m from rfl, show 4 - 0 = 4 from rfl]
          generalize hi ds (4 * m) 4 = x at *
          clear HN HB HOWN HC HD hlen
          go_wp2_with (at_builtin; refine wpList_append_one rfl _ _ 29 rfl 38 .u64 8 Try.underlying29 Try.infoU w.heap.size u3 outs x (by rfl) how (by rfl) HLB.out (by decide) w hbw hbs ?_)
          intro v' w' hown' hb'
          clear how hbw hbs
          go_wp2
          go_roundw
          case rel => exact ⟨m + 1, _, by omega, by go_num, hown', HS.out, hb'⟩
          case measure => simp [intOf]; omega
        · obtain ⟨k, rfl⟩ : ∃ k, kk = k + 1 := ⟨kk - 1, by omega⟩
          have hr := hi_range ds HD.out (4 - (k + 1)) (4 * m + (k + 1))
          have hp := pow_mono (B := D16) (by decide) (show 4 - (k + 1) ≤ 3 by omega)
          have e3 : D16 ^ 3 = 281474976710656 := by decide
          rw [e3] at hp
          have hx2 : hi ds (4 * m + (k + 1)) (4 - (k + 1)) < 281474976710656 := by omega
          have hx1 := hr.1
          have hg := HD.out.getD D16_pos (4 * m + k)
          have HE : Hid (hi ds (4 * m + k) (4 - k) = ds.getD (4 * m + k) 0 + 65536 * hi ds (4 * m + (k + 1)) (4 - (k + 1))) := by
            unfold Hid
            rw [show 4 - k = (4 - (k + 1)) + 1 by omega, hi]
            rfl
          clear hr hp e3
          unfold D16 at hg
          by_cases hin : 4 * m + k < la
          · have hcell := HC.out (4 * m + k) hin
            generalize hi ds (4 * m + (k + 1)) (4 - (k + 1)) = x at *
            generalize ds.getD (4 * m + k) 0 = y at *
            have ei : ((4 * m + k : Nat) : Int) = 4 * (m : Int) + (k : Int) := by omega
            clear HN HB HOWN HC HD
            go_wp2
            go_round
            case rel => exact ⟨k, by omega, by go_num, by rw [HE.out]; go_num⟩
            case measure => simp [intOf] <;> omega
          · have hz : ds.getD (4 * m + k) 0 = 0 := by simp [List.getD, List.getElem?_eq_none (show ds.length ≤ 4 * m + k by omega)]
            rw [hz] at HE
            generalize hi ds (4 * m + (k + 1)) (4 - (k + 1)) = x at *
            clear HN HB HOWN HC HD hz hg
            go_wp2
            go_round
            case rel => exact ⟨k, by omega, by go_num, by rw [HE.out]; go_num⟩
            case measure => simp [intOf] <;> omega
    · have hdn := hns.done h.dg hc (by omega) (by omega)
      have hlen := hns.1
      obtain ⟨a2, c2, hv, hnum⟩ := hown.num hns.2.1 (by omega)
      have HF : Hid (NumOut .u64 B64 w wr (.slice a2 outs.length c2) (val D16 ds) la) := ⟨_, _, _, _, rfl, hnum, hdn.2, hdn.1, by omega, hb⟩
      subst hv
      clear hown hns hnum hb hdn hlen hc h
      go_wp2
      go_ret
      exact ⟨_, rfl, HF.out⟩

set_option maxHeartbeats 1000000 in
/-- the document's Same, of two numbers that are the same. -/
theorem Same_yes (ao bo : Option Addr) (n ca cb : Nat) (xs : List Int) (w : World) (h : Lies .u64 w ao n xs) (h' : Lies .u64 w bo n xs) (hn : n ≤ 1073741824) :
    Calls Try.prog 18 #[.slice ao n ca, .slice bo n cb] w fun e w' => e = .returned (.bool true) ∧ Drew w w' := by
  go_enter Try.func18, Try.ntmps18
  go_wp2
  go_loopw [5] (fun vi wr => ∃ (i : Nat), i ≤ n ∧ vi = .int .i64 i ∧ Drew w wr) (fun vi _ => n - (intOf vi).toNat)
  case atStart => exact ⟨0, Nat.zero_le _, rfl, Drew.refl _⟩
  case round =>
    obtain ⟨i, hi, rfl, hdr⟩ := hrel
    by_cases hlt : i < n
    · obtain ⟨b, off, rfl, hb, hc⟩ := h.at (by omega)
      obtain ⟨b2, off2, rfl, hb2, hc2⟩ := h'.at (by omega)
      have hcell := (hdr.cell _).trans (hc i hlt)
      have hcell2 := (hdr.cell _).trans (hc2 i hlt)
      generalize xs.getD i 0 = x at *
      have HDR : Hid (Drew w wr) := hdr
      clear hc hc2 h h' hdr
      go_wp2
      go_quiet (fail)
      go_wp2
      go_roundw
      case rel => exact ⟨i + 1, by omega, by go_num, HDR.out.more _⟩
      case measure => simp [intOf]; omega
    · obtain rfl : i = n := by omega
      clear h h'
      go_wp2
      go_ret
      exact ⟨rfl, hdr⟩

end Go.Proofs.Yticopomchoahnaa
/-
  Contracts of the document's answer: bytes as a number (Read), a number as bytes (Bytes).
-/
namespace Go.Proofs.Yticopomchoahnaa
open Go.RowKit
set_option linter.unusedVariables false
set_option linter.unusedSimpArgs false

theorem pow256_2 (m : Nat) : (256 : Int) ^ (2 * m) = D16 ^ m := by rw [Int.pow_mul]; rfl

/-- Where a slice of the call's own lies: it is read there, and written. -/
theorem Own.spot {e : TypeId} {k : IntKind} {w : World} {base : Nat} {v : Value} {xs : List Int} (h : Own e k w base v xs) (h0 : 0 < xs.length) :
    ∃ g cap, v = .slice (some ⟨g, 0, none⟩) xs.length cap ∧ base ≤ g ∧ g < w.heap.size ∧ xs.length ≤ cap ∧ cap ≤ maxLen ∧ (∀ j, j < xs.length → w.cell? ⟨g, j, none⟩ = some (.int k (xs.getD j 0))) ∧ (∀ j, w.frozen? ⟨g, j, none⟩ = false) ∧
      ∀ j y, j < xs.length → Own e k (w.setCell ⟨g, j, none⟩ (.int k y)) base v (xs.set j y) := by
  rcases h.2 with ⟨rfl, h1⟩ | ⟨g, cap, cur, rfl, hg, hrow, h1, h2, h3, h4⟩
  · omega
  · refine ⟨g, cap, rfl, hg, (Array.getElem?_eq_some_iff.1 hrow).1, h1, h2, fun j hj => ?_, fun j => frozen_of_row w g j cur e hrow, fun j y hj => ⟨by simp, .inr ⟨g, cap, cur.set! j (.int k y), ?_, hg, heap_setCell_same w g j _ e _ hrow, ?_, h2, ?_, ?_⟩⟩⟩
    · rw [cell_of_row w g j cur e (0, 0) hrow]
      have : (cur.toList.take (xs.length * 1))[j]? = (xs.map (Value.int k))[j]? := by rw [h4]
      rw [List.getElem?_take, if_pos (by omega)] at this
      rw [← Array.getElem?_toList, this]
      simp [hj]
    · simp
    · simpa using h1
    · simpa using h3
    · have e1 : (cur.set! j (Value.int k y)).toList = cur.toList.set j (.int k y) := by simp
      rw [e1, List.length_set, List.take_set, h4, List.map_set]

/-- What Read has gathered when i bytes have been gone over, the last first. -/
def RReads (rb : List Int) (i : Nat) (ds : List Int) : Prop :=
  ds.length = (i + 1) / 2 ∧ Dg D16 ds ∧ (i % 2 = 1 → ds.getD (i / 2) 0 < 256) ∧ val D16 ds = low 256 rb i
theorem RReads.even {rb : List Int} {m : Nat} {ds : List Int} (h : RReads rb (2 * m) ds) (hd : 0 ≤ rb.getD (2 * m) 0 ∧ rb.getD (2 * m) 0 < 256) : RReads rb (2 * m + 1) (ds ++ [rb.getD (2 * m) 0]) := by
  obtain ⟨h1, h2, h3, h4⟩ := h
  have hl : ds.length = m := by omega
  refine ⟨by simp [hl]; omega, h2.append (Dg.cons (by unfold D16; omega) (Dg.nil _)), fun _ => ?_, ?_⟩
  · rw [show (2 * m + 1) / 2 = m by omega]
    have : (ds ++ [rb.getD (2 * m) 0]).getD m 0 = rb.getD (2 * m) 0 := by simp [List.getD, List.getElem?_append, hl]
    rw [this]; exact hd.2
  · rw [val_snoc, low_succ, h4, hl, pow256_2]
theorem RReads.odd {rb : List Int} {m : Nat} {ds : List Int} (h : RReads rb (2 * m + 1) ds) (hd : 0 ≤ rb.getD (2 * m + 1) 0 ∧ rb.getD (2 * m + 1) 0 < 256) : RReads rb (2 * m + 1 + 1) (ds.set m (ds.getD m 0 + 256 * rb.getD (2 * m + 1) 0)) := by
  obtain ⟨h1, h2, h3, h4⟩ := h
  have hl : ds.length = m + 1 := by omega
  have h3' := h3 (by omega)
  rw [show (2 * m + 1) / 2 = m by omega] at h3'
  have g := h2.getD D16_pos m
  refine ⟨by simp [hl]; omega, h2.set _ ⟨by omega, by unfold D16; omega⟩, fun e => by omega, ?_⟩
  rw [val_set _ _ _ _ (by omega), low_succ, h4, Int.pow_succ, pow256_2]
  generalize D16 ^ m = p at *
  grind

set_option maxHeartbeats 2000000 in
/-- the document's Read. -/
theorem rRead_any (ao : Option Addr) (n ca : Nat) (bs : List Int) (w : World) (h : NumIn .u8 256 w ao n ca bs) (hn : n ≤ 2000) :
    Calls Try.prog 32 #[.slice ao n ca] w fun e w' => ∃ v, e = .returned v ∧ NumOut .i64 D16 w w' v (val 256 bs.reverse) 1001 := by
  have hl := h.len
  go_enter Try.func32, Try.ntmps32
  go_wp2
  go_loopw [3, 4] (fun vo vi wr => ∃ (i : Nat) (ds : List Int), i ≤ n ∧ vi = .int .i64 i ∧ Own 3 .i64 wr w.heap.size vo ds ∧ RReads bs.reverse i ds ∧ Below w.heap.size w wr) (fun _ vi _ => n - (intOf vi).toNat)
  case atStart => exact ⟨0, [], Nat.zero_le _, rfl, Own.nil _ _ _ _, ⟨rfl, Dg.nil _, fun e => by omega, by simp [val, low_zero]⟩, Below.refl _ _⟩
  case round =>
    obtain ⟨i, ds, hi, rfl, hown, hs, hb⟩ := hrel
    by_cases hlt : i < n
    · have hx := h.lies.old hb
      obtain ⟨b, off, rfl, hblk, hcs⟩ := hx.at (by omega)
      have hcell := hcs (n - 1 - i) (by omega)
      have gx := h.dg.getD (by decide) (n - 1 - i)
      have er := getD_reverse bs i (by omega)
      rw [hl] at er
      have hlen := hs.1
      have hbs := hb.size
      obtain ⟨p, hp⟩ : ∃ p, n - 1 - i = p := ⟨_, rfl⟩
      rw [hp] at hcell gx er
      have hpn : p < n := by omega
      have hpe : n = p + 1 + i := by omega
      clear hp
      rw [← er] at gx hcell
      rcases (show i % 2 = 0 ∨ i % 2 = 1 by omega) with hpar | hpar
      · obtain ⟨m, rfl⟩ : ∃ m, i = 2 * m := ⟨i / 2, by omega⟩
        have HS : Hid (RReads bs.reverse (2 * m + 1) (ds ++ [bs.reverse.getD (2 * m) 0])) := hs.even gx
        have HLB : Hid (ds.length < 1073741824) := by unfold Hid; omega
        generalize bs.reverse.getD (2 * m) 0 = x at *
        obtain ⟨i, hie⟩ : ∃ i, 2 * m = i := ⟨_, rfl⟩
        rw [hie] at hlt hi hpe HS hlen ⊢
        have hev : (i : Int) % 2 = 0 := by omega
        have ek : (n : Int) - 1 - (i : Int) = (p : Int) := by omega
        clear hs hx hcs h hl er hpar hlen hie hpe
        go_wp2_with (at_builtin; refine wpList_append_one rfl _ _ 59 rfl 3 .i64 8 Try.underlying59 Try.infoI w.heap.size u3 ds x (by rfl) hown (by rfl) HLB.out (by decide) w hb hbs ?_)
        intro v' w' hown' hb'
        clear hown hb hbs
        go_wp2
        go_roundw
        case rel => exact ⟨i + 1, _, by omega, by go_num, hown', HS.out, hb'⟩
        case measure => simp [intOf] <;> omega
      · obtain ⟨m, rfl⟩ : ∃ m, i = 2 * m + 1 := ⟨i / 2, by omega⟩
        have HS : Hid (RReads bs.reverse (2 * m + 1 + 1) (ds.set m (ds.getD m 0 + 256 * bs.reverse.getD (2 * m + 1) 0))) := hs.odd gx
        obtain ⟨g, cap, hv, hg1, hg2, hg3, hg4, hcl, hfz, hset⟩ := hown.spot (by omega)
        have hm : m < ds.length := by omega
        have hcg := hcl m hm
        have hfr := hfz m
        have gd := hs.2.1.getD D16_pos m
        have gd0 := gd.1
        have gd1 : ds.getD m 0 < 65536 := gd.2
        have hbne : b < w.heap.size := by
          obtain ⟨b', off', e, hlt', _⟩ := h.lies.at (by omega)
          injection e with e
          injection e with e
          omega
        have hne : b ≠ g := by omega
        have HO : Hid (Own 3 .i64 (wr.setCell ⟨g, m, none⟩ (.int .i64 (ds.getD m 0 + 256 * bs.reverse.getD (2 * m + 1) 0))) w.heap.size (.slice (some ⟨g, 0, none⟩) ds.length cap) (ds.set m (ds.getD m 0 + 256 * bs.reverse.getD (2 * m + 1) 0))) := by have := hset m (ds.getD m 0 + 256 * bs.reverse.getD (2 * m + 1) 0) hm; rw [hv] at this; exact this
        have HB : Hid (Below w.heap.size w wr) := hb
        subst hv
        generalize bs.reverse.getD (2 * m + 1) 0 = x at *
        generalize ds.getD m 0 = y at *
        obtain ⟨i, hie⟩ : ∃ i, 2 * m + 1 = i := ⟨_, rfl⟩
        rw [hie] at hlt hi hpe HS hlen ⊢
        have hev : (i : Int) % 2 = 1 := by omega
        have ehalf : (i : Int) / 2 = (m : Int) := by omega
        have ek : (n : Int) - 1 - (i : Int) = (p : Int) := by omega
        have hmi : (m : Int) < (ds.length : Int) := by omega
        generalize ds.length = L at *
        clear hs hx hcs h hl er hpar hlen hie hpe hset hcl hfz hown hb gd
        go_wp2
        go_region
        all_goals
          go_wp2
          go_roundw
          case rel => exact ⟨i + 1, _, by omega, by go_num, HO.out, HS.out, (HB.out.setCell (by assumption) _).drew⟩
          case measure => simp [intOf] <;> omega
    · obtain rfl : i = n := by omega
      have hlen := hs.1
      obtain ⟨a2, c2, hv, hnum⟩ := hown.num hs.2.1 (by omega)
      have HV : Hid (val D16 ds = val 256 bs.reverse) := by
        unfold Hid
        have e : bs.reverse.length = i := by simp [hl]
        rw [hs.2.2.2, ← e, low_len]
      have HN : Hid (NumIn .i64 D16 wr a2 ds.length c2 ds) := hnum
      have HB : Hid (Below w.heap.size w wr) := hb
      have HL : Hid (ds.length ≤ 1001) := by unfold Hid; omega
      subst hv
      clear hown hs hnum hb h hlen
      go_wp2_with fail
      refine (rtrim_any a2 ds.length c2 ds wr HN.out).mono ?_
      rintro e w4 ⟨rfl, rfl⟩
      go_wp2
      go_ret
      exact ⟨_, rfl, HN.out.out HB.out _ HV.out _ HL.out⟩

theorem byte_even (ds : List Int) (hd : Dg D16 ds) (m : Nat) : ds.getD m 0 % 256 = byteAt (val D16 ds) (2 * m) := by
  unfold byteAt
  rw [digit_at D16_pos ds hd m, pow256_2]
  generalize val D16 ds / D16 ^ m = Y
  unfold D16
  omega
theorem byte_odd (ds : List Int) (hd : Dg D16 ds) (m : Nat) : ds.getD m 0 / 256 % 256 = byteAt (val D16 ds) (2 * m + 1) := by
  unfold byteAt
  have hp : (0 : Int) < D16 ^ m := Int.pow_pos D16_pos
  rw [digit_at D16_pos ds hd m, Int.pow_succ, pow256_2, ← Int.ediv_ediv_of_nonneg (by omega)]
  generalize val D16 ds / D16 ^ m = Y
  unfold D16
  omega

set_option maxHeartbeats 2000000 in
/-- the document's Bytes. -/
theorem rBytes_big (ao : Option Addr) (la ca : Nat) (ds : List Int) (n : Nat) (w : World) (h : NumIn .i64 D16 w ao la ca ds) (hn : n ≤ 1000) (hV : val D16 ds < 256 ^ n) :
    Calls Try.prog 35 #[.slice ao la ca, .int .i64 n] w fun e w' => ∃ v, e = .returned v ∧ BytesOut w w' v n (val D16 ds) := by
  have hl := h.len
  have HV : Hid (0 ≤ val D16 ds ∧ val D16 ds < 256 ^ n) := ⟨val_nonneg D16_pos h.dg, hV⟩
  clear hV
  go_enter Try.func35, Try.ntmps35
  go_wp2_with (at_make; refine wpList_make_row _ rfl _ _ 39 rfl 5 .u8 1 Try.underlying39 Try.infoB _ _ _ _ n rfl rfl rfl rfl (by omega) (by unfold maxLen; omega) ?_)
  intro w3 hrow hbel
  go_wp2
  go_loopw [6] (fun vi wr => ∃ (k : Nat) (cur : List Int), k ≤ n ∧ vi = .int .i64 k ∧ Row 5 .u8 wr w.heap.size cur ∧ Wrts (val D16 ds) n k cur ∧ Below w.heap.size w wr) (fun vi _ => n - (intOf vi).toNat)
  case atStart => exact ⟨0, _, Nat.zero_le _, rfl, hrow, Wrts.zero _ _, hbel⟩
  case round =>
    obtain ⟨k, cur, hk, rfl, hrw, ha, hb⟩ := hrel
    clear hrow hbel
    by_cases hlt : k < n
    · have hx := h.lies.old hb
      have hln := ha.1
      have HS : Hid (Wrts (val D16 ds) n (k + 1) (cur.set (n - 1 - k) (byteAt (val D16 ds) k))) := ha.step hlt
      have HR : Hid (Row 5 .u8 (wr.setCell ⟨w.heap.size, n - 1 - k, none⟩ (.int .u8 (byteAt (val D16 ds) k))) w.heap.size (cur.set (n - 1 - k) (byteAt (val D16 ds) k))) := hrw.set (n - 1 - k) (byteAt (val D16 ds) k)
      have HB : Hid (Below w.heap.size w wr) := hb
      obtain ⟨m, hm⟩ : ∃ m, k / 2 = m := ⟨_, rfl⟩
      have hx0 := h.dg.getD D16_pos m
      have x0 := hx0.1
      have x1 : ds.getD m 0 < 65536 := hx0.2
      have heven : k % 2 = 0 → byteAt (val D16 ds) k = ds.getD m 0 % 256 := fun e => by rw [byte_even ds h.dg m]; congr 1; omega
      have hodd : k % 2 = 1 → byteAt (val D16 ds) k = ds.getD m 0 / 256 % 256 := fun e => by rw [byte_odd ds h.dg m]; congr 1; omega
      have hfr := hrw.frozen (n - 1 - k)
      have hcl := hrw.cell (n - 1 - k) (by omega)
      have ehalf : (k : Int) / 2 = (m : Int) := by omega
      obtain ⟨p, hp⟩ : ∃ p, n - 1 - k = p := ⟨_, rfl⟩
      have ek : (n : Int) - 1 - (k : Int) = (p : Int) := by omega
      have hpn : p < n := by omega
      rw [hp] at hfr hcl HS HR
      generalize cur.getD p 0 = y at *
      have hout : ¬ m < la → ds.getD m 0 = 0 := fun hk => by simp [List.getD, List.getElem?_eq_none (show ds.length ≤ m by omega)]
      have hin : m < la → ∃ b2 off2, ao = some ⟨b2, off2, none⟩ ∧ wr.cell? ⟨b2, off2 + m, none⟩ = some (.int .i64 (ds.getD m 0)) := fun hk => by
        obtain ⟨b2, off2, e, _, hc2⟩ := hx.at (by omega)
        exact ⟨b2, off2, e, hc2 m hk⟩
      clear h hrw ha hln hb hx HV hl hp hx0
      generalize ds.getD m 0 = x at *
      rcases (show k % 2 = 0 ∨ k % 2 = 1 by omega) with hpar | hpar
      · have hb8 := heven hpar
        rw [hb8] at HS HR
        have hev : (k : Int) % 2 = 0 := by omega
        clear heven hodd hb8 hpar hm
        by_cases hma : m < la
        · obtain ⟨b2, off2, rfl, hc2⟩ := hin hma
          clear hin hout
          go_wp2
          go_roundw
          case rel => exact ⟨k + 1, _, by omega, by go_num, HR.out, HS.out, HB.out.setCell (Nat.le_refl _) _⟩
          case measure => simp [intOf] <;> omega
        · obtain rfl := hout hma
          clear hin hout
          rw [show (0 : Int) % 256 = 0 from rfl] at HR HS
          go_wp2
          go_roundw
          case rel => exact ⟨k + 1, _, by omega, by go_num, HR.out, HS.out, HB.out.setCell (Nat.le_refl _) _⟩
          case measure => simp [intOf] <;> omega
      · have hb8 := hodd hpar
        rw [hb8] at HS HR
        have hev : (k : Int) % 2 = 1 := by omega
        clear heven hodd hb8 hpar hm
        by_cases hma : m < la
        · obtain ⟨b2, off2, rfl, hc2⟩ := hin hma
          clear hin hout
          go_wp2
          go_roundw
          case rel => exact ⟨k + 1, _, by omega, by go_num, HR.out, HS.out, HB.out.setCell (Nat.le_refl _) _⟩
          case measure => simp [intOf] <;> omega
        · obtain rfl := hout hma
          clear hin hout
          rw [show (0 : Int) / 256 % 256 = 0 from rfl] at HR HS
          go_wp2
          go_roundw
          case rel => exact ⟨k + 1, _, by omega, by go_num, HR.out, HS.out, HB.out.setCell (Nat.le_refl _) _⟩
          case measure => simp [intOf] <;> omega
    · obtain rfl : k = n := by omega
      have HF : Hid (BytesOut w wr (.slice (some ⟨w.heap.size, 0, none⟩) k k) k (val D16 ds)) := ⟨_, cur, rfl, hrw, ha.1, ha.2.1, ha.done HV.out.1 HV.out.2, hb⟩
      clear hrw ha hb h HV
      go_wp2
      go_ret
      exact ⟨_, rfl, HF.out⟩
theorem rBytes_any (ao : Option Addr) (la ca : Nat) (ds : List Int) (n : Nat) (w : World) (h : NumIn .i64 D16 w ao la ca ds) (hn : n ≤ 512) (hV : val D16 ds < 256 ^ n) :
    Calls Try.prog 35 #[.slice ao la ca, .int .i64 n] w fun e w' => ∃ v, e = .returned v ∧ BytesOut w w' v n (val D16 ds) := rBytes_big ao la ca ds n w h (by omega) hV
end Go.Proofs.Yticopomchoahnaa
/-
  Contracts of the document's answer: how many bits (Len), how one number stands to another (Cmp).
-/
namespace Go.Proofs.Yticopomchoahnaa
open Go.RowKit
set_option linter.unusedVariables false
set_option linter.unusedSimpArgs false

theorem blen_split (L e m : Nat) (hL : L < 2 ^ m) (he : e ≠ 0) : blen (L + 2 ^ m * e) = m + blen e := by
  have b1 := blen_lt e
  have b2 := blen_ge e he
  have b3 := blen_pos e he
  have hp := Nat.two_pow_pos m
  obtain ⟨c, hc⟩ : ∃ c, blen e = c + 1 := ⟨blen e - 1, by omega⟩
  rw [hc] at b1 b2
  simp only [Nat.add_sub_cancel] at b2
  have := blen_eq (L + 2 ^ m * e) (m + c) (by
    rw [Nat.pow_add]
    have := Nat.mul_le_mul_left (2 ^ m) b2
    omega) (by
    rw [show m + c + 1 = m + (c + 1) by omega, Nat.pow_add]
    have := Nat.mul_le_mul_left (2 ^ m) (show e + 1 ≤ 2 ^ (c + 1) by omega)
    rw [Nat.mul_add] at this
    omega)
  omega
theorem blen_half (n : Nat) (h : 0 < n) : blen n = 1 + blen (n / 2) := by
  by_cases h1 : n = 1
  · subst h1; decide
  · have := blen_shift n 1 (by omega)
    simpa using this
theorem rlen_eq (ds : List Int) (hd : Dg D16 ds) (hc : Canon ds) (m : Nat) (hm : ds.length = m + 1) : 16 * m + blen (ds.getD m 0).toNat = blen (val D16 ds).toNat := by
  have ht : top ds = m + 1 := by unfold Canon at hc; omega
  have hh := top_hit ds (by omega)
  have hg := hd.getD D16_pos m
  rw [ht] at hh
  simp only [Nat.add_sub_cancel] at hh
  have hv : val D16 ds = low D16 ds m + D16 ^ m * ds.getD m 0 := by rw [← low_succ, ← hm, low_len]
  have l0 : 0 ≤ low D16 ds m := val_nonneg D16_pos (hd.take m)
  have l1 : low D16 ds m < D16 ^ m := by
    have a := val_lt D16_pos (hd.take m)
    have b : (ds.take m).length ≤ m := by simp; omega
    have c := pow_mono (B := D16) (by decide) b
    unfold low; omega
  generalize ds.getD m 0 = d at *
  generalize low D16 ds m = L at *
  obtain ⟨e, rfl⟩ := Int.eq_ofNat_of_zero_le hg.1
  obtain ⟨L, rfl⟩ := Int.eq_ofNat_of_zero_le l0
  have hB : D16 ^ m = ((2 ^ (16 * m) : Nat) : Int) := by rw [Int.natCast_pow, Int.pow_mul]; rfl
  rw [hB] at hv l1
  rw [hv, ← Int.natCast_mul, ← Int.natCast_add, Int.toNat_natCast, Int.toNat_natCast, blen_split L e (16 * m) (by omega) (by intro h0; rw [h0] at hh; exact hh rfl)]

set_option maxHeartbeats 1000000 in
/-- the document's Len. -/
theorem rLen_any (ao : Option Addr) (la ca : Nat) (ds : List Int) (w : World) (h : NumIn .i64 D16 w ao la ca ds) (hc : Canon ds) (hla : la ≤ 1000000) :
    Calls Try.prog 34 #[.slice ao la ca] w fun e w' => e = .returned (.int .i64 (blen (val D16 ds).toNat)) ∧ w' = w := by
  have hl := h.len
  by_cases h0 : la = 0
  · subst h0
    have hx : ds = [] := List.eq_nil_of_length_eq_zero hl
    subst hx
    clear h hc
    go_enter Try.func34, Try.ntmps34
    go_wp2
    go_ret
    exact ⟨ret_int (by simp [val, blen]), rfl⟩
  · obtain ⟨m, rfl⟩ : ∃ m, la = m + 1 := ⟨la - 1, by omega⟩
    obtain ⟨b, off, rfl, hb, hcs⟩ := h.lies.at (by omega)
    have hcell := hcs m (by omega)
    have HE : Hid (16 * m + blen (ds.getD m 0).toNat = blen (val D16 ds).toNat) := rlen_eq ds h.dg hc m hl
    have hg := h.dg.getD D16_pos m
    generalize ds.getD m 0 = d at *
    obtain ⟨d, rfl⟩ := Int.eq_ofNat_of_zero_le hg.1
    rw [Int.toNat_natCast] at HE
    have hd2 : d < 65536 := by unfold D16 at hg; omega
    have hbl := blen_le d 16 hd2
    clear hcs h hc hg h0 hl
    go_enter Try.func34, Try.ntmps34
    go_wp2
    go_loop [3, 4] (fun vn vx => ∃ (j x : Nat), j + blen x = blen d ∧ x ≤ d ∧ vn = .int .i64 ((16 * m + j : Nat) : Int) ∧ vx = .int .i64 (x : Int)) (fun _ vx => (intOf vx).toNat)
    case atStart => exact ⟨0, d, by omega, Nat.le_refl _, by go_num, rfl⟩
    case round =>
      obtain ⟨j, x, hj, hx, rfl, rfl⟩ := hrel
      by_cases h0 : x = 0
      · subst h0
        have HF : Hid (16 * m + j = blen (val D16 ds).toNat) := by unfold Hid; rw [← HE.out, ← hj, blen_zero]; omega
        clear HE hj
        rw [show ((0 : Nat) : Int) = 0 from rfl]
        go_wp2
        go_ret
        exact ⟨ret_int (by rw [← HF.out]; omega), rfl⟩
      · have HS : Hid ((j + 1) + blen (x / 2) = blen d) := by unfold Hid; rw [← hj, blen_half x (by omega)]; omega
        have hj2 : j ≤ 16 := by omega
        clear HE hj
        go_wp2
        go_round
        case rel => exact ⟨j + 1, x / 2, HS.out, by omega, by go_num, by go_num⟩
        case measure => simp [intOf] <;> omega

set_option maxHeartbeats 2000000 in
/-- the document's Cmp. -/
theorem rCmp_any (ao bo : Option Addr) (la ca lb cb : Nat) (xs ys : List Int) (w : World) (h : NumIn .i64 D16 w ao la ca xs) (h' : NumIn .i64 D16 w bo lb cb ys) (hx : Canon xs) (hy : Canon ys) (hla : la ≤ 1000000) (hlb : lb ≤ 1000000) :
    Calls Try.prog 102 #[.slice ao la ca, .slice bo lb cb] w fun e w' => e = .returned (.int .i64 (cmpI (val D16 xs) (val D16 ys))) ∧ Drew w w' := by
  have hl := h.len
  have hl' := h'.len
  unfold Canon at hx hy
  rcases Nat.lt_trichotomy la lb with hlt | heq | hlt
  · have HF : Hid (cmpI (val D16 xs) (val D16 ys) = -1) := cmpI_lt (top_lt_val D16_one h.dg h'.dg (by omega))
    have hne : ((la : Int) != (lb : Int)) = true := by simp; omega
    clear h h' hx hy
    go_enter Try.func102, Try.ntmps102
    go_wp2
    go_ret
    exact ⟨ret_int HF.out.symm, Drew.refl _⟩
  · subst heq
    clear hx hy
    go_enter Try.func102, Try.ntmps102
    go_wp2
    go_loopw [5] (fun vi wr => ∃ (k : Nat), k ≤ la ∧ vi = .int .i64 ((k : Int) - 1) ∧ (∀ j, k ≤ j → j < la → xs.getD j 0 = ys.getD j 0) ∧ Drew w wr) (fun vi _ => (intOf vi + 1).toNat)
    case atStart => exact ⟨la, Nat.le_refl _, by go_num, fun j h1 h2 => by omega, Drew.refl _⟩
    case round =>
      obtain ⟨k, hk, rfl, heq, hdr⟩ := hrel
      by_cases h0 : k = 0
      · subst h0
        have HF : Hid (cmpI (val D16 xs) (val D16 ys) = 0) := by
          refine cmpI_eq ?_
          congr 1
          apply List.ext_getElem
          · omega
          · intro i h1 h2
            have := heq i (by omega) (by omega)
            simp only [List.getD] at this
            rw [List.getElem?_eq_getElem h1, List.getElem?_eq_getElem h2] at this
            simpa using this
        clear heq h h'
        go_wp2
        go_ret
        exact ⟨ret_int HF.out.symm, hdr⟩
      · obtain ⟨p, rfl⟩ : ∃ p, k = p + 1 := ⟨k - 1, by omega⟩
        obtain ⟨b, off, rfl, hb, hc⟩ := h.lies.at (by omega)
        obtain ⟨b2, off2, rfl, hb2, hc2⟩ := h'.lies.at (by omega)
        have hcell := (hdr.cell _).trans (hc p (by omega))
        have hcell2 := (hdr.cell _).trans (hc2 p (by omega))
        have HL : Hid (xs.getD p 0 < ys.getD p 0 → val D16 xs < val D16 ys) := cmp_at D16 D16_one xs ys h.dg h'.dg la hl hl' p (by omega) (fun j h1 h2 => heq j (by omega) h2)
        have HG : Hid (ys.getD p 0 < xs.getD p 0 → val D16 ys < val D16 xs) := cmp_at D16 D16_one ys xs h'.dg h.dg la hl' hl p (by omega) (fun j h1 h2 => (heq j (by omega) h2).symm)
        have HE : Hid (xs.getD p 0 = ys.getD p 0 → ∀ j, p ≤ j → j < la → xs.getD j 0 = ys.getD j 0) := fun h0 j h1 h2 => by
          by_cases hj : j = p
          · rw [hj]; exact h0
          · exact heq j (by omega) h2
        have HDR : Hid (Drew w wr) := hdr
        generalize xs.getD p 0 = x at *
        generalize ys.getD p 0 = y at *
        clear hc hc2 heq h h' hdr
        rcases Int.lt_trichotomy x y with hxy | hxy | hxy
        · have HF : Hid (cmpI (val D16 xs) (val D16 ys) = -1) := cmpI_lt (HL.out hxy)
          clear HL HG HE
          go_wp2
          go_quiet (fail)
          go_wp2
          go_ret
          exact ⟨ret_int HF.out.symm, HDR.out.more _⟩
        · have HF : Hid (∀ j, p ≤ j → j < la → xs.getD j 0 = ys.getD j 0) := HE.out hxy
          subst hxy
          clear HL HG HE
          go_wp2
          go_quiet (fail)
          go_wp2
          go_quiet (fail)
          go_wp2
          go_roundw
          case rel => exact ⟨p, by omega, by go_num, HF.out, HDR.out.more _⟩
          case measure => simp [intOf] <;> omega
        · have HF : Hid (cmpI (val D16 xs) (val D16 ys) = 1) := cmpI_gt (HG.out hxy)
          clear HL HG HE
          go_wp2
          go_quiet (fail)
          go_wp2
          go_quiet (fail)
          go_wp2
          go_ret
          exact ⟨ret_int HF.out.symm, (HDR.out.more _).more _⟩
  · have HF : Hid (cmpI (val D16 xs) (val D16 ys) = 1) := cmpI_gt (top_lt_val D16_one h'.dg h.dg (by omega))
    have hne : ((la : Int) != (lb : Int)) = true := by simp; omega
    clear h h' hx hy
    go_enter Try.func102, Try.ntmps102
    go_wp2
    go_ret
    exact ⟨ret_int HF.out.symm, Drew.refl _⟩
end Go.Proofs.Yticopomchoahnaa
/-
  Contracts of the document's answer: the product (Mul).
-/
namespace Go.Proofs.Yticopomchoahnaa
open Go.RowKit
set_option linter.unusedVariables false
set_option linter.unusedSimpArgs false

theorem Row.drewN {e : TypeId} {k : IntKind} {w : World} {g : Nat} {xs : List Int} (h : Row e k w g xs) (n : Nat) : Row e k (w.drewN n) g xs := h

/-- What Mul has gathered: i digits' rows whole, k products of the next; what is carried. -/
def RMuls (xs ys : List Int) (n i k : Nat) (cur : List Int) (c : Int) : Prop :=
  cur.length = n ∧ Dg D16 cur ∧ 0 ≤ c ∧ c < 65536 ∧ val D16 cur + D16 ^ (i + k) * c = low D16 xs i * val D16 ys + D16 ^ i * (xs.getD i 0 * low D16 ys k)
theorem RMuls.zero (xs ys : List Int) (n : Nat) : RMuls xs ys n 0 0 (List.replicate n 0) 0 :=
  ⟨by simp, Dg.zeros D16_pos _, by decide, by decide, by rw [val_replicate, low_zero, low_zero]; simp⟩
theorem RMuls.top {xs ys : List Int} {n i k : Nat} {cur : List Int} {c : Int} (h : RMuls xs ys n i k cur c) (hx : Dg D16 xs) (hy : Dg D16 ys) (hi : i < xs.length) (hc : 0 < c) : k ≤ ys.length := by
  obtain ⟨h1, h2, h3, h4, h5⟩ := h
  by_cases hk : k ≤ ys.length
  · exact hk
  · exfalso
    have hv := val_nonneg D16_pos h2
    have hlow : low D16 ys k = val D16 ys := low_all _ _ _ (by have := top_le ys; omega)
    rw [hlow] at h5
    have hY := val_lt D16_pos hy
    have hY0 := val_nonneg D16_pos hy
    have e1 : low D16 xs i * val D16 ys + D16 ^ i * (xs.getD i 0 * val D16 ys) = low D16 xs (i + 1) * val D16 ys := by rw [low_succ]; grind
    rw [e1] at h5
    have hX : low D16 xs (i + 1) < D16 ^ (i + 1) := by
      have a := val_lt D16_pos (hx.take (i + 1))
      have b : (xs.take (i + 1)).length = i + 1 := by simp; omega
      rw [b] at a; exact a
    have hX0 : 0 ≤ low D16 xs (i + 1) := val_nonneg D16_pos (hx.take _)
    have hp1 : 0 < D16 ^ (i + 1) := Int.pow_pos D16_pos
    have hp2 : 0 < D16 ^ ys.length := Int.pow_pos D16_pos
    have m1 : low D16 xs (i + 1) * val D16 ys ≤ low D16 xs (i + 1) * D16 ^ ys.length := Int.mul_le_mul_of_nonneg_left (by omega) hX0
    have m2 : (low D16 xs (i + 1) + 1) * D16 ^ ys.length ≤ D16 ^ (i + 1) * D16 ^ ys.length := Int.mul_le_mul_of_nonneg_right (by omega) (by omega)
    rw [Int.add_mul, ← Int.pow_add] at m2
    have m3 := pow_mono (B := D16) (by decide) (show i + 1 + ys.length ≤ i + k by omega)
    have m4 : D16 ^ (i + k) * 1 ≤ D16 ^ (i + k) * c := Int.mul_le_mul_of_nonneg_left (by omega) (by have : 0 < D16 ^ (i + k) := Int.pow_pos D16_pos; omega)
    omega
theorem prod16 (x y : Int) (hx : 0 ≤ x ∧ x < 65536) (hy : 0 ≤ y ∧ y < 65536) : 0 ≤ x * y ∧ x * y ≤ 4294836225 := by
  have a := Int.mul_nonneg hx.1 hy.1
  have b : x * y ≤ 65535 * 65535 := Int.mul_le_mul (by omega) (by omega) hy.1 (by decide)
  omega
theorem RMuls.step {xs ys : List Int} {n i k : Nat} {cur : List Int} {c : Int} (h : RMuls xs ys n i k cur c) (hx : Dg D16 xs) (hy : Dg D16 ys) (hn : i + k < n) :
    RMuls xs ys n i (k + 1) (cur.set (i + k) ((cur.getD (i + k) 0 + c + xs.getD i 0 * ys.getD k 0) % 65536)) ((cur.getD (i + k) 0 + c + xs.getD i 0 * ys.getD k 0) / 65536) := by
  obtain ⟨h1, h2, h3, h4, h5⟩ := h
  have gx := hx.getD D16_pos i
  have gy := hy.getD D16_pos k
  have gc := h2.getD D16_pos (i + k)
  have hD : D16 = 65536 := rfl
  have hp := prod16 (xs.getD i 0) (ys.getD k 0) (by rw [hD] at gx; exact gx) (by rw [hD] at gy; exact gy)
  rw [hD] at gc
  refine ⟨by simp [h1], h2.set _ (by rw [hD]; omega), by omega, by omega, ?_⟩
  rw [val_set _ _ _ _ (by omega), low_succ, show i + (k + 1) = (i + k) + 1 by omega, Int.pow_succ]
  have e : cur.getD (i + k) 0 + c + xs.getD i 0 * ys.getD k 0 = (cur.getD (i + k) 0 + c + xs.getD i 0 * ys.getD k 0) % 65536 + 65536 * ((cur.getD (i + k) 0 + c + xs.getD i 0 * ys.getD k 0) / 65536) := by omega
  generalize (cur.getD (i + k) 0 + c + xs.getD i 0 * ys.getD k 0) % 65536 = r at *
  generalize (cur.getD (i + k) 0 + c + xs.getD i 0 * ys.getD k 0) / 65536 = q at *
  generalize cur.getD (i + k) 0 = z at *
  generalize xs.getD i 0 = x at *
  generalize ys.getD k 0 = y at *
  generalize val D16 cur = V at *
  generalize low D16 ys k = L at *
  generalize low D16 xs i = X at *
  generalize val D16 ys = Y at *
  have e2 : D16 ^ (i + k) = D16 ^ i * D16 ^ k := Int.pow_add _ _ _
  rw [e2] at h5 ⊢
  generalize D16 ^ i = p at *
  generalize D16 ^ k = s at *
  rw [hD]
  have e3 : r = z + c + x * y - 65536 * q := by omega
  rw [e3]
  grind
theorem RMuls.next {xs ys : List Int} {n i k : Nat} {cur : List Int} (h : RMuls xs ys n i k cur 0) (hk : ys.length ≤ k) : RMuls xs ys n (i + 1) 0 cur 0 := by
  obtain ⟨h1, h2, h3, h4, h5⟩ := h
  refine ⟨h1, h2, h3, h4, ?_⟩
  have hlow : low D16 ys k = val D16 ys := low_all _ _ _ (by have := top_le ys; omega)
  rw [hlow] at h5
  rw [low_succ, low_zero]
  grind
theorem RMuls.done {xs ys : List Int} {n k : Nat} {cur : List Int} (h : RMuls xs ys n xs.length 0 cur 0) : val D16 cur = val D16 xs * val D16 ys := by
  have := h.2.2.2.2
  rw [low_zero, low_len] at this
  simpa using this

set_option maxHeartbeats 4000000 in
/-- the document's Mul. -/
theorem rMul_any (ao bo : Option Addr) (la ca lb cb : Nat) (xs ys : List Int) (w : World) (h : NumIn .i64 D16 w ao la ca xs) (h' : NumIn .i64 D16 w bo lb cb ys) (hla : la ≤ 1000000) (hlb : lb ≤ 1000000) :
    Calls Try.prog 67 #[.slice ao la ca, .slice bo lb cb] w fun e w' => ∃ v, e = .returned v ∧ NumOut .i64 D16 w w' v (val D16 xs * val D16 ys) (la + lb + 1) := by
  have hl := h.len
  have hl' := h'.len
  go_enter Try.func67, Try.ntmps67
  go_wp2_with (at_make; refine wpList_make_row _ rfl _ _ 59 rfl 3 .i64 8 Try.underlying59 Try.infoI _ _ _ _ (la + lb + 1) rfl rfl (by omega) (by omega) (by omega) (by unfold maxLen; omega) ?_)
  intro w3 hrow hbel
  go_wp2
  go_loopw [6] (fun vi wr => ∃ (i : Nat) (cur : List Int), i ≤ la ∧ vi = .int .i64 i ∧ Row 3 .i64 wr w.heap.size cur ∧ RMuls xs ys (la + lb + 1) i 0 cur 0 ∧ Below w.heap.size w wr) (fun vi _ => la - (intOf vi).toNat)
  case atStart => exact ⟨0, _, Nat.zero_le _, rfl, hrow, RMuls.zero _ _ _, hbel⟩
  case round =>
    obtain ⟨i, cur0, hi, rfl, hrw0, hm0, hb0⟩ := hrel
    clear hrow hbel
    by_cases hlt : i < la
    · have HR0 : Hid (Row 3 .i64 wr w.heap.size cur0) := hrw0
      have HM0 : Hid (RMuls xs ys (la + lb + 1) i 0 cur0 0) := hm0
      have HB0 : Hid (Below w.heap.size w wr) := hb0
      clear hrw0 hm0 hb0
      go_wp2
      go_loopw [7, 8] (fun vc vk wr => ∃ (k : Nat) (c : Int) (cur : List Int), vk = .int .i64 k ∧ vc = .int .i64 c ∧ Row 3 .i64 wr w.heap.size cur ∧ RMuls xs ys (la + lb + 1) i k cur c ∧ Below w.heap.size w wr) (fun _ vk _ => lb + 1 - (intOf vk).toNat)
      case atStart => exact ⟨0, 0, cur0, rfl, rfl, HR0.out, HM0.out, HB0.out⟩
      case round =>
        obtain ⟨k, c, cur, rfl, rfl, hrw, hm, hb⟩ := hrel
        clear HR0 HM0 HB0
        have hc0 := hm.2.2.1
        have hc1 := hm.2.2.2.1
        by_cases hgo : k < lb ∨ 0 < c
        · have hk : k ≤ lb := by
            rcases hgo with hgo | hgo
            · omega
            · have := hm.top h.dg h'.dg (by omega) hgo; omega
          have hlen := hm.1
          have hx := h.lies.old hb
          obtain ⟨b, off, rfl, hblk, hcs⟩ := hx.at (by omega)
          have hcx := hcs i hlt
          have hfr := hrw.frozen (i + k)
          have hcl := hrw.cell (i + k) (by omega)
          have gx := h.dg.getD D16_pos i
          have gy := h'.dg.getD D16_pos k
          have gz := hm.2.1.getD D16_pos (i + k)
          have HS : Hid (RMuls xs ys (la + lb + 1) i (k + 1) (cur.set (i + k) ((cur.getD (i + k) 0 + c + xs.getD i 0 * ys.getD k 0) % 65536)) ((cur.getD (i + k) 0 + c + xs.getD i 0 * ys.getD k 0) / 65536)) := hm.step h.dg h'.dg (by omega)
          have HB : Hid (Below w.heap.size w wr) := hb
          have HR : Hid (Row 3 .i64 wr w.heap.size cur) := hrw
          have hp := prod16 (xs.getD i 0) (ys.getD k 0) gx gy
          by_cases hkl : k < lb
          · have hy := h'.lies.old hb
            obtain ⟨b2, off2, rfl, hblk2, hcs2⟩ := hy.at (by omega)
            have hcy := hcs2 k hkl
            have hp1 := hp.1
            have hp2 := hp.2
            have gz1 := gz.1
            have gz2 : cur.getD (i + k) 0 < 65536 := gz.2
            generalize cur.getD (i + k) 0 = z at *
            have HX : Hid (xs.getD i 0 * ys.getD k 0 = xs.getD i 0 * ys.getD k 0) := rfl
            generalize xs.getD i 0 = x at *
            generalize ys.getD k 0 = y at *
            have hmul : IntKind.i64.wrap (x * y) = x * y := IntWalk.i64_in _ (by omega)
            clear hrw hm hb hx hcs hy hcs2 h h' hgo gx gy gz hp HX
            go_wp2
            go_quiet (fail)
            go_wp2
            go_roundw
            case rel => exact ⟨k + 1, _, _, by go_num, rfl, (HR.out.drewN _).set _ _, HS.out, (HB.out.trans (Drew.below ⟨_, rfl⟩ _)).setCell (Nat.le_refl _) _⟩
            case measure => simp [intOf] <;> omega
          · have hz : ys.getD k 0 = 0 := by simp [List.getD, List.getElem?_eq_none (show ys.length ≤ k by omega)]
            rw [hz] at HS
            simp only [Int.mul_zero, Int.add_zero] at HS
            have gz1 := gz.1
            have gz2 : cur.getD (i + k) 0 < 65536 := gz.2
            generalize cur.getD (i + k) 0 = z at *
            have hcp : 0 < c := by omega
            clear hrw hm hb hx hcs h h' hgo gx gy gz hp hcx
            go_wp2
            go_roundw
            case rel => exact ⟨k + 1, _, _, by go_num, rfl, HR.out.set _ _, HS.out, HB.out.setCell (Nat.le_refl _) _⟩
            case measure => simp [intOf] <;> omega
        · obtain rfl : c = 0 := by omega
          have hkl : lb ≤ k := by omega
          have HS : Hid (RMuls xs ys (la + lb + 1) (i + 1) 0 cur 0) := hm.next (by omega)
          clear hm h h' hgo hc0 hc1
          go_wp2
          go_roundw
          case rel => exact ⟨i + 1, cur, by omega, by go_num, hrw, HS.out, hb⟩
          case measure => simp [intOf] <;> omega
    · obtain rfl : i = la := by omega
      have hlen := hm0.1
      have HV : Hid (val D16 cur0 = val D16 xs * val D16 ys) := by rw [← hl] at hm0; exact hm0.done (k := 0)
      have HR : Hid (NumIn .i64 D16 wr (some ⟨w.heap.size, 0, none⟩) (i + lb + 1) (i + lb + 1) cur0) := by have := hrw0.num hm0.2.1 (by omega); rw [hlen] at this; exact this
      have HB : Hid (Below w.heap.size w wr) := hb0
      clear hm0 hb0 hrw0 hlen h h'
      go_wp2_with fail
      refine (rtrim_any _ _ _ _ _ HR.out).mono ?_
      rintro e w4 ⟨rfl, rfl⟩
      go_wp2
      go_ret
      exact ⟨_, rfl, HR.out.out HB.out _ HV.out _ (by omega)⟩
end Go.Proofs.Yticopomchoahnaa
/-
  Contracts of the document's answer: the sum (Add), the difference (Sub).
-/
namespace Go.Proofs.Yticopomchoahnaa
open Go.RowKit
set_option linter.unusedVariables false
set_option linter.unusedSimpArgs false

/-- An answer as in NumOut, whose cells are new. -/
def NumNew (k : IntKind) (B : Int) (w w' : World) (v : Value) (n : Int) (L : Nat) : Prop :=
  ∃ ao len cap xs, v = .slice ao len cap ∧ NumIn k B w' ao len cap xs ∧ Canon xs ∧ val B xs = n ∧ len ≤ L ∧ Below w.heap.size w w' ∧ ∀ b off s, ao = some ⟨b, off, s⟩ → w.heap.size ≤ b
theorem NumNew.out {k : IntKind} {B : Int} {w w' : World} {v : Value} {n : Int} {L : Nat} (h : NumNew k B w w' v n L) : NumOut k B w w' v n L := by
  obtain ⟨a, b, c, d, e1, e2, e3, e4, e5, e6, _⟩ := h
  exact ⟨a, b, c, d, e1, e2, e3, e4, e5, e6⟩
theorem Own.fresh {e : TypeId} {k : IntKind} {w : World} {base : Nat} {ao : Option Addr} {len cap : Nat} {xs : List Int} (h : Own e k w base (.slice ao len cap) xs) : ∀ b off s, ao = some ⟨b, off, s⟩ → base ≤ b := by
  intro b off s ha
  rcases h.2 with ⟨h1, _⟩ | ⟨g, cap', cur, h1, hg, _⟩
  · injection h1 with h1
    rw [h1] at ha; cases ha
  · injection h1 with h1
    rw [h1] at ha
    injection ha with ha
    injection ha with ha
    omega
theorem NumIn.fresh {k : IntKind} {B : Int} {w w' : World} {ao : Option Addr} {len cap : Nat} {xs : List Int} (h : NumIn k B w' ao len cap xs) (hb : Below w.heap.size w w') (n : Int) (hv : val B xs = n) (L : Nat) (hL : len ≤ L) (hf : ∀ b off s, ao = some ⟨b, off, s⟩ → w.heap.size ≤ b) :
    NumNew k B w w' (.slice ao (top xs) cap) n L := by
  have hl := h.len
  have ht := top_le xs
  exact ⟨ao, top xs, cap, xs.take (top xs), rfl, h.take _ (by omega), canon_take_top xs, by rw [val_take_top, hv], by omega, hb, hf⟩

/-- What Sub has gathered: i digits, and what is borrowed. -/
def RSubs (xs ys : List Int) (i : Nat) (ds : List Int) (c : Int) : Prop :=
  ds.length = i ∧ Dg D16 ds ∧ 0 ≤ c ∧ c ≤ 1 ∧ val D16 ds = low D16 xs i - low D16 ys i + D16 ^ i * c
theorem RSubs.step {xs ys : List Int} {i : Nat} {ds : List Int} {c : Int} (h : RSubs xs ys i ds c) {d c' : Int} (hd : 0 ≤ d ∧ d < D16) (hc : 0 ≤ c' ∧ c' ≤ 1) (he : d = xs.getD i 0 - c - ys.getD i 0 + 65536 * c') : RSubs xs ys (i + 1) (ds ++ [d]) c' := by
  obtain ⟨h1, h2, h3, h4, h5⟩ := h
  refine ⟨by simp [h1], h2.append (Dg.cons hd (Dg.nil _)), hc.1, hc.2, ?_⟩
  rw [val_snoc, low_succ, low_succ, h1, Int.pow_succ, h5, he]
  have hD : D16 = 65536 := rfl
  generalize D16 ^ i = p at *
  rw [hD]
  grind
theorem RSubs.done {xs ys : List Int} {ds : List Int} {c : Int} (h : RSubs xs ys xs.length ds c) (hy : ys.length ≤ xs.length) (hle : val D16 ys ≤ val D16 xs) : val D16 ds = val D16 xs - val D16 ys := by
  obtain ⟨h1, h2, h3, h4, h5⟩ := h
  rw [low_len, low_all D16 ys xs.length (by have := top_le ys; omega)] at h5
  have hc : c = 0 := by
    have a := val_lt D16_pos h2
    rw [h1] at a
    rcases (show c = 0 ∨ c = 1 by omega) with e | e
    · exact e
    · rw [e] at h5
      omega
  rw [hc] at h5
  simpa using h5

set_option maxHeartbeats 1000000 in
/-- the document's Sub, of a number that isn't less. -/
theorem rSub_new (ao bo : Option Addr) (la ca lb cb : Nat) (xs ys : List Int) (w : World) (h : NumIn .i64 D16 w ao la ca xs) (h' : NumIn .i64 D16 w bo lb cb ys) (hx : Canon xs) (hy : Canon ys) (hle : val D16 ys ≤ val D16 xs) (hla : la ≤ 1000000) (hlb : lb ≤ 1000000) :
    Calls Try.prog 103 #[.slice ao la ca, .slice bo lb cb] w fun e w' => ∃ v, e = .returned v ∧ NumNew .i64 D16 w w' v (val D16 xs - val D16 ys) la := by
  have hl := h.len
  have hl' := h'.len
  have hyx : lb ≤ la := by
    have := top_mono D16_one h'.dg h.dg hle
    unfold Canon at hx hy
    omega
  clear hx hy
  go_enter Try.func103, Try.ntmps103
  go_wp2
  go_loopw [5, 6, 7] (fun vo vc vi wr => ∃ (i : Nat) (c : Int) (ds : List Int), i ≤ la ∧ vi = .int .i64 i ∧ vc = .int .i64 c ∧ Own 3 .i64 wr w.heap.size vo ds ∧ RSubs xs ys i ds c ∧ Below w.heap.size w wr) (fun _ _ vi _ => la - (intOf vi).toNat)
  case atStart => exact ⟨0, 0, [], Nat.zero_le _, rfl, rfl, Own.nil _ _ _ _, ⟨rfl, Dg.nil _, by decide, by decide, by simp [val, low_zero]⟩, Below.refl _ _⟩
  case round =>
    obtain ⟨i, c, ds, hi, rfl, rfl, hown, hs, hb⟩ := hrel
    by_cases hlt : i < la
    · have hx := h.lies.old hb
      obtain ⟨b, off, rfl, hblk, hcs⟩ := hx.at (by omega)
      have hcx := hcs i hlt
      have hlen := hs.1
      have hc0 := hs.2.2.1
      have hc1 := hs.2.2.2.1
      have gx := h.dg.getD D16_pos i
      have gy := h'.dg.getD D16_pos i
      have HS : Hid (∀ d c', (0 ≤ d ∧ d < D16) → (0 ≤ c' ∧ c' ≤ 1) → d = xs.getD i 0 - c - ys.getD i 0 + 65536 * c' → RSubs xs ys (i + 1) (ds ++ [d]) c') := fun d c' h1 h2 h3 => hs.step h1 h2 h3
      have HLB : Hid (ds.length < 1073741824) := by unfold Hid; omega
      have hbs := hb.size
      have x0 := gx.1
      have x1 : xs.getD i 0 < 65536 := gx.2
      have y0 := gy.1
      have y1 : ys.getD i 0 < 65536 := gy.2
      have hin : i < lb → ∃ b2 off2, bo = some ⟨b2, off2, none⟩ ∧ wr.cell? ⟨b2, off2 + i, none⟩ = some (.int .i64 (ys.getD i 0)) := fun hk => by
        obtain ⟨b2, off2, e, _, hc2⟩ := (h'.lies.old hb).at (by omega)
        exact ⟨b2, off2, e, hc2 i hk⟩
      have hout : ¬ i < lb → ys.getD i 0 = 0 := fun hk => by simp [List.getD, List.getElem?_eq_none (show ys.length ≤ i by omega)]
      generalize xs.getD i 0 = x at *
      generalize ys.getD i 0 = y at *
      clear hs hx hcs h h' hle hl hl' gx gy hlen
      by_cases hk : i < lb
      · obtain ⟨b2, off2, rfl, hcy⟩ := hin hk
        clear hin hout
        by_cases hneg : x - c - y < 0
        · have HF := HS.out (x - c - y + 65536) 1 (by unfold D16; omega) (by omega) (by omega)
          replace HS : Hid (RSubs xs ys (i + 1) (ds ++ [x - c - y + 65536]) 1) := HF
          clear HF
          go_wp2_with (at_builtin; refine wpList_append_one rfl _ _ 59 rfl 3 .i64 8 Try.underlying59 Try.infoI w.heap.size u5 ds (x - c - y + 65536) (by rfl) hown (by rfl) HLB.out (by decide) w hb hbs ?_)
          intro v' w' hown' hb'
          clear hown hb hbs
          go_wp2
          go_roundw
          case rel => exact ⟨i + 1, _, _, by omega, by go_num, rfl, hown', HS.out, hb'⟩
          case measure => simp [intOf] <;> omega
        · have HF := HS.out (x - c - y) 0 (by unfold D16; omega) (by omega) (by omega)
          replace HS : Hid (RSubs xs ys (i + 1) (ds ++ [x - c - y]) 0) := HF
          clear HF
          go_wp2_with (at_builtin; refine wpList_append_one rfl _ _ 59 rfl 3 .i64 8 Try.underlying59 Try.infoI w.heap.size u5 ds (x - c - y) (by rfl) hown (by rfl) HLB.out (by decide) w hb hbs ?_)
          intro v' w' hown' hb'
          clear hown hb hbs
          go_wp2
          go_roundw
          case rel => exact ⟨i + 1, _, _, by omega, by go_num, rfl, hown', HS.out, hb'⟩
          case measure => simp [intOf] <;> omega
      · have hz := hout hk
        subst hz
        clear hin hout y0 y1
        by_cases hneg : x - c < 0
        · have HF := HS.out (x - c + 65536) 1 (by unfold D16; omega) (by omega) (by omega)
          replace HS : Hid (RSubs xs ys (i + 1) (ds ++ [x - c + 65536]) 1) := HF
          clear HF
          go_wp2_with (at_builtin; refine wpList_append_one rfl _ _ 59 rfl 3 .i64 8 Try.underlying59 Try.infoI w.heap.size u5 ds (x - c + 65536) (by rfl) hown (by rfl) HLB.out (by decide) w hb hbs ?_)
          intro v' w' hown' hb'
          clear hown hb hbs
          go_wp2
          go_roundw
          case rel => exact ⟨i + 1, _, _, by omega, by go_num, rfl, hown', HS.out, hb'⟩
          case measure => simp [intOf] <;> omega
        · have HF := HS.out (x - c) 0 (by unfold D16; omega) (by omega) (by omega)
          replace HS : Hid (RSubs xs ys (i + 1) (ds ++ [x - c]) 0) := HF
          clear HF
          go_wp2_with (at_builtin; refine wpList_append_one rfl _ _ 59 rfl 3 .i64 8 Try.underlying59 Try.infoI w.heap.size u5 ds (x - c) (by rfl) hown (by rfl) HLB.out (by decide) w hb hbs ?_)
          intro v' w' hown' hb'
          clear hown hb hbs
          go_wp2
          go_roundw
          case rel => exact ⟨i + 1, _, _, by omega, by go_num, rfl, hown', HS.out, hb'⟩
          case measure => simp [intOf] <;> omega
    · obtain rfl : i = la := by omega
      have hlen := hs.1
      obtain ⟨a2, c2, hv, hnum⟩ := hown.num hs.2.1 (by omega)
      have HV : Hid (val D16 ds = val D16 xs - val D16 ys) := by rw [← hl] at hs; exact hs.done (by omega) hle
      have HN : Hid (NumIn .i64 D16 wr a2 ds.length c2 ds) := hnum
      have HB : Hid (Below w.heap.size w wr) := hb
      have HL : Hid (ds.length = i) := hlen
      subst hv
      have HFR : Hid (∀ b off s, a2 = some ⟨b, off, s⟩ → w.heap.size ≤ b) := hown.fresh
      clear hown hs hnum hb h h' hle hlen
      go_wp2_with fail
      refine (rtrim_any a2 ds.length c2 ds wr HN.out).mono ?_
      rintro e w4 ⟨rfl, rfl⟩
      go_wp2
      go_ret
      exact ⟨_, rfl, HN.out.fresh HB.out _ HV.out _ (by have := HL.out; omega) HFR.out⟩
/-- the document's Sub. -/
theorem rSub_any (ao bo : Option Addr) (la ca lb cb : Nat) (xs ys : List Int) (w : World) (h : NumIn .i64 D16 w ao la ca xs) (h' : NumIn .i64 D16 w bo lb cb ys) (hx : Canon xs) (hy : Canon ys) (hle : val D16 ys ≤ val D16 xs) (hla : la ≤ 1000000) (hlb : lb ≤ 1000000) :
    Calls Try.prog 103 #[.slice ao la ca, .slice bo lb cb] w fun e w' => ∃ v, e = .returned v ∧ NumOut .i64 D16 w w' v (val D16 xs - val D16 ys) la := by
  refine (rSub_new ao bo la ca lb cb xs ys w h h' hx hy hle hla hlb).mono ?_
  rintro e w' ⟨v, rfl, hv⟩
  exact ⟨v, rfl, hv.out⟩

end Go.Proofs.Yticopomchoahnaa
/-
  Contracts of the document's answer: a small number (Small), the quotient and what is left (Div).
-/
namespace Go.Proofs.Yticopomchoahnaa
open Go.RowKit
set_option linter.unusedVariables false
set_option linter.unusedSimpArgs false

/-- What Small has gathered, and what is left. -/
def Smls (n : Int) (ds : List Int) (x : Int) : Prop :=
  Dg D16 ds ∧ 0 ≤ x ∧ val D16 ds + D16 ^ ds.length * x = n ∧ ∀ j, ds.length = j + 1 → D16 ^ j ≤ n
theorem Smls.step {n : Int} {ds : List Int} {x : Int} (h : Smls n ds x) (hx : 0 < x) : Smls n (ds ++ [x % 65536]) (x / 65536) := by
  obtain ⟨h1, h2, h3, h4⟩ := h
  have hD : D16 = 65536 := rfl
  refine ⟨h1.append (Dg.cons (by rw [hD]; omega) (Dg.nil _)), by omega, ?_, fun j hj => ?_⟩
  · rw [val_snoc, List.length_append, List.length_cons, List.length_nil, Int.pow_succ, ← h3]
    have e : x = x % 65536 + 65536 * (x / 65536) := by omega
    generalize x % 65536 = r at *
    generalize x / 65536 = q at *
    rw [e]
    generalize D16 ^ ds.length = p at *
    rw [hD]
    grind
  · simp at hj
    rw [← hj, ← h3]
    have v0 := val_nonneg D16_pos h1
    have : D16 ^ ds.length * 1 ≤ D16 ^ ds.length * x := Int.mul_le_mul_of_nonneg_left (by omega) (by have : 0 < D16 ^ ds.length := Int.pow_pos D16_pos; omega)
    omega
theorem Smls.few {n : Int} {ds : List Int} {x : Int} (h : Smls n ds x) (hn : n < 9223372036854775808) : ds.length ≤ 4 := by
  cases hl : ds.length with
  | zero => omega
  | succ j =>
    have a := h.2.2.2 j hl
    by_cases hj : j < 4
    · omega
    · have b := pow_mono (B := D16) (by decide) (show 4 ≤ j by omega)
      rw [D16_4] at b
      unfold B64 at b
      omega
theorem Smls.done {n : Int} {ds : List Int} (h : Smls n ds 0) : val D16 ds = n ∧ Canon ds := by
  obtain ⟨h1, h2, h3, h4⟩ := h
  have hv : val D16 ds = n := by simpa using h3
  refine ⟨hv, ?_⟩
  cases hl : ds.length with
  | zero => rw [List.eq_nil_of_length_eq_zero hl]; exact Canon.nil
  | succ j => exact canon_of_ge D16_one h1 j hl (by rw [hv]; exact h4 j hl)

set_option maxHeartbeats 1000000 in
/-- the document's Small. -/
theorem rSmall_any (n : Int) (w : World) (h0 : 0 ≤ n) (h1 : n < 9223372036854775808) :
    Calls Try.prog 23 #[.int .i64 n] w fun e w' => ∃ v, e = .returned v ∧ NumOut .i64 D16 w w' v n 4 := by
  go_enter Try.func23, Try.ntmps23
  go_wp2
  go_loopw [0, 3] (fun vx vo wr => ∃ (x : Int) (ds : List Int), vx = .int .i64 x ∧ x ≤ n ∧ Own 3 .i64 wr w.heap.size vo ds ∧ Smls n ds x ∧ Below w.heap.size w wr) (fun vx _ _ => (intOf vx).toNat)
  case atStart => exact ⟨n, [], rfl, Int.le_refl _, Own.nil _ _ _ _, ⟨Dg.nil _, h0, by simp [val], fun j h => by simp at h⟩, Below.refl _ _⟩
  case round =>
    obtain ⟨x, ds, rfl, hxn, hown, hs, hb⟩ := hrel
    have hx0 := hs.2.1
    have hfew := hs.few h1
    by_cases hx : 0 < x
    · have HS : Hid (Smls n (ds ++ [x % 65536]) (x / 65536)) := hs.step hx
      have HLB : Hid (ds.length < 1073741824) := by unfold Hid; omega
      have hbs := hb.size
      clear hs hfew
      go_wp2_with (at_builtin; refine wpList_append_one rfl _ _ 59 rfl 3 .i64 8 Try.underlying59 Try.infoI w.heap.size u3 ds (x % 65536) (by rfl) hown (by rfl) HLB.out (by decide) w hb hbs ?_)
      intro v' w' hown' hb'
      clear hown hb hbs
      go_wp2
      go_roundw
      case rel => exact ⟨x / 65536, _, rfl, by omega, hown', HS.out, hb'⟩
      case measure => simp [intOf] <;> omega
    · obtain rfl : x = 0 := by omega
      obtain ⟨a2, c2, hv, hnum⟩ := hown.num hs.1 (by omega)
      have HF : Hid (NumOut .i64 D16 w wr (.slice a2 ds.length c2) n 4) := ⟨_, _, _, _, rfl, hnum, hs.done.2, hs.done.1, hfew, hb⟩
      subst hv
      clear hown hs hnum hb hfew
      go_wp2
      go_ret
      exact ⟨_, rfl, HF.out⟩

theorem low_le {B : Int} (hB : 0 < B) (xs : List Int) (hd : Dg B xs) (i : Nat) : low B xs i ≤ val B xs := by
  have h := val_append B (xs.take i) (xs.drop i)
  rw [List.take_append_drop] at h
  have a := val_nonneg hB (hd.drop i)
  have hp : 0 < B ^ (xs.take i).length := Int.pow_pos hB
  have b := Int.mul_nonneg (Int.le_of_lt hp) a
  unfold low
  omega
/-- As often as the first digit surely allows. -/
theorem times_ok (rs ys : List Int) (hr : Dg D16 rs) (hy : Dg D16 ys) (m : Nat) (hm : ys.length = m + 1) (s : Int) (hs0 : 0 ≤ s) (hs : s * (ys.getD m 0 + 1) ≤ rs.getD m 0 + 65536 * rs.getD (m + 1) 0) : s * val D16 ys ≤ val D16 rs := by
  have hD : D16 = 65536 := rfl
  have hp : 0 < D16 ^ m := Int.pow_pos D16_pos
  have e1 : val D16 ys = low D16 ys m + D16 ^ m * ys.getD m 0 := by rw [← low_succ, ← hm, low_len]
  have l1 : low D16 ys m < D16 ^ m := by
    have a := val_lt D16_pos (hy.take m)
    have b : (ys.take m).length = m := by simp; omega
    rw [b] at a; exact a
  have e2 : low D16 rs (m + 1 + 1) = low D16 rs m + D16 ^ m * (rs.getD m 0 + 65536 * rs.getD (m + 1) 0) := by
    rw [low_succ, low_succ, Int.pow_succ]
    generalize D16 ^ m = p at *
    rw [hD]
    grind
  have l2 := low_le D16_pos rs hr (m + 1 + 1)
  have l3 : 0 ≤ low D16 rs m := val_nonneg D16_pos (hr.take m)
  have m1 : s * val D16 ys ≤ s * (D16 ^ m * (ys.getD m 0 + 1)) := by
    refine Int.mul_le_mul_of_nonneg_left ?_ hs0
    rw [e1, Int.mul_add]
    omega
  have m2 : D16 ^ m * (s * (ys.getD m 0 + 1)) ≤ D16 ^ m * (rs.getD m 0 + 65536 * rs.getD (m + 1) 0) := Int.mul_le_mul_of_nonneg_left hs (by omega)
  have e3 : s * (D16 ^ m * (ys.getD m 0 + 1)) = D16 ^ m * (s * (ys.getD m 0 + 1)) := by grind
  omega
theorem set_zero (q : List Int) (i : Nat) (h : q.getD i 0 = 0) : q.set i 0 = q := by
  apply List.ext_getElem
  · simp
  · intro j h1 h2
    rw [List.getElem_set]
    split
    · rename_i e
      subst e
      simp only [List.getD] at h
      rw [List.getElem?_eq_getElem (by simpa using h1)] at h
      simpa using h.symm
    · rfl
/-- What Div has, digits from kk on gone over. -/
def RDivs (xs ys : List Int) (kk : Nat) (q : List Int) (R : Int) : Prop :=
  q.length = xs.length ∧ Dg D16 q ∧ (∀ j, j < kk → q.getD j 0 = 0) ∧ 0 ≤ R ∧ R < val D16 ys ∧ val D16 (xs.drop kk) = val D16 (q.drop kk) * val D16 ys + R
/-- Within the round of digit i. -/
def RDivIn (xs ys : List Int) (i : Nat) (T : Int) (q0 q : List Int) (t R : Int) : Prop :=
  q = q0.set i t ∧ 0 ≤ t ∧ t < 65536 ∧ 0 ≤ R ∧ t * val D16 ys + R = T
theorem rdrop_cons (xs : List Int) (i : Nat) (h : i < xs.length) : xs.drop i = xs.getD i 0 :: xs.drop (i + 1) := by
  rw [List.drop_eq_getElem_cons h]
  simp [List.getD, List.getElem?_eq_getElem h]
theorem RDivs.enter {xs ys : List Int} {i : Nat} {q : List Int} {R : Int} (h : RDivs xs ys (i + 1) q R) (hx : Dg D16 xs) : RDivIn xs ys i (xs.getD i 0 + D16 * R) q q 0 (xs.getD i 0 + D16 * R) := by
  obtain ⟨h1, h2, h3, h4, h5, h6⟩ := h
  have g := hx.getD D16_pos i
  refine ⟨(set_zero q i (h3 i (by omega))).symm, by omega, by omega, ?_, by omega⟩
  have : 0 ≤ D16 * R := Int.mul_nonneg (by decide) h4
  omega
theorem RDivs.top {xs ys : List Int} {i : Nat} {q : List Int} {R : Int} (h : RDivs xs ys (i + 1) q R) (hx : Dg D16 xs) : xs.getD i 0 + D16 * R < D16 * val D16 ys := by
  obtain ⟨h1, h2, h3, h4, h5, h6⟩ := h
  have g := hx.getD D16_pos i
  have : D16 * (R + 1) ≤ D16 * val D16 ys := Int.mul_le_mul_of_nonneg_left (by omega) (by decide)
  rw [Int.mul_add] at this
  omega
theorem RDivIn.step {xs ys : List Int} {i : Nat} {T : Int} {q0 q : List Int} {t R s : Int} (h : RDivIn xs ys i T q0 q t R) (hT : T < D16 * val D16 ys) (hY : 0 < val D16 ys) (hs : 1 ≤ s) (hsR : s * val D16 ys ≤ R) : RDivIn xs ys i T q0 (q.set i (t + s)) (t + s) (R - s * val D16 ys) := by
  obtain ⟨h1, h2, h3, h4, h5⟩ := h
  refine ⟨by rw [h1]; simp, by omega, ?_, by omega, by rw [Int.add_mul]; omega⟩
  by_cases e : t + s < 65536
  · exact e
  · exfalso
    have : D16 * val D16 ys ≤ (t + s) * val D16 ys := Int.mul_le_mul_of_nonneg_right (by unfold D16; omega) (by omega)
    rw [Int.add_mul] at this
    omega
theorem RDivIn.leave {xs ys : List Int} {i : Nat} {T : Int} {q0 q : List Int} {t R R0 : Int} (h : RDivIn xs ys i T q0 q t R) (hd : RDivs xs ys (i + 1) q0 R0) (hi : i < xs.length) (hT : T = xs.getD i 0 + D16 * R0) (hR : R < val D16 ys) : RDivs xs ys i q R := by
  obtain ⟨h1, h2, h3, h4, h5⟩ := h
  obtain ⟨d1, d2, d3, d4, d5, d6⟩ := hd
  subst h1
  refine ⟨by simp [d1], d2.set _ ⟨h2, by unfold D16; omega⟩, fun j hj => ?_, h4, hR, ?_⟩
  · rw [getD_set _ _ _ _ (by omega), if_neg (by omega)]
    exact d3 j (by omega)
  · rw [rdrop_cons xs i hi, rdrop_cons (q0.set i t) i (by simp; omega), val_cons, val_cons, getD_set _ _ _ _ (by omega), if_pos rfl, d6]
    have e : (q0.set i t).drop (i + 1) = q0.drop (i + 1) := by rw [List.drop_set_of_lt (by omega)]
    rw [e]
    rw [hT] at h5
    grind
theorem RDivs.done {xs ys : List Int} {q : List Int} {R : Int} (h : RDivs xs ys 0 q R) : val D16 q = val D16 xs / val D16 ys ∧ R = val D16 xs % val D16 ys := by
  obtain ⟨h1, h2, h3, h4, h5, h6⟩ := h
  simp only [List.drop_zero] at h6
  rw [h6]
  constructor
  · rw [Int.add_comm, Int.add_mul_ediv_right _ _ (by omega), Int.ediv_eq_zero_of_lt h4 h5]; omega
  · rw [Int.add_comm, Int.add_mul_emod_self_right, Int.emod_eq_of_lt h4 h5]
/-- The number that a cell holds. -/
def cellNat (w : World) (a : Addr) : Nat := (intOf ((w.cell? a).getD undef)).toNat
theorem cellNat_row {e : TypeId} {w : World} {g : Nat} {xs : List Int} (h : Row e .i64 w g xs) (j : Nat) (hj : j < xs.length) : cellNat w ⟨g, j, none⟩ = (xs.getD j 0).toNat := by
  unfold cellNat
  rw [h.cell j hj]
  rfl
theorem NumIn.kept {k : IntKind} {B : Int} {w w' : World} {ao : Option Addr} {len cap : Nat} {xs : List Int} (h : NumIn k B w ao len cap xs) {row : Option Nat} (hg : w.grownBy w' row) (hne : ∀ b off s, ao = some ⟨b, off, s⟩ → some b ≠ row) : NumIn k B w' ao len cap xs :=
  ⟨h.lies.kept hg hne, h.lc, h.cm, h.nn, h.dg, h.sm⟩
/-- What is left, as it lies: apart from the quotient's row. -/
def Rem (w : World) (g : Nat) (v : Value) (R : Int) (L : Nat) : Prop :=
  ∃ ao len cap rs, v = .slice ao len cap ∧ NumIn .i64 D16 w ao len cap rs ∧ Canon rs ∧ val D16 rs = R ∧ len ≤ L ∧ ∀ b off s, ao = some ⟨b, off, s⟩ → g < b
theorem Rem.old {w w' : World} {g : Nat} {v : Value} {R : Int} {L : Nat} (h : Rem w g v R L) (hb : Below w.heap.size w w') : Rem w' g v R L := by
  obtain ⟨ao, len, cap, rs, e1, e2, e3, e4, e5, e6⟩ := h
  exact ⟨ao, len, cap, rs, e1, e2.old hb, e3, e4, e5, e6⟩
theorem Rem.len {w : World} {g : Nat} {v : Value} {R : Int} {L : Nat} {ys : List Int} (h : Rem w g v R L) (hy : Dg D16 ys) (hR : R < val D16 ys) : Rem w g v R ys.length := by
  obtain ⟨ao, len, cap, rs, e1, e2, e3, e4, e5, e6⟩ := h
  refine ⟨ao, len, cap, rs, e1, e2, e3, e4, ?_, e6⟩
  have := top_mono D16_one e2.dg hy (by omega)
  have := top_le ys
  have := e2.len
  unfold Canon at e3
  omega
end Go.Proofs.Yticopomchoahnaa
