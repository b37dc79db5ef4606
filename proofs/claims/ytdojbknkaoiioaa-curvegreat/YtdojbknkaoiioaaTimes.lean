/-
  Contracts of nat.addTimes and nat.subTimes: a so often added to, or taken away from, limbs in their place.
-/
import Derived.Test.YtdojbknkaoiioaaMul
namespace Go.Proofs.Ytdojbknkaoiioaa
open Go.RowKit
set_option linter.unusedVariables false
set_option linter.unusedSimpArgs false

/-- The base of limbs. -/
def B64 : Int := 18446744073709551616
theorem B64_pos : 0 < B64 := by decide
theorem B64_one : 1 < B64 := by decide

/-- Limbs from o on, so many. -/
def seg (xs : List Int) (o i : Nat) : List Int := (xs.drop o).take i
theorem seg_succ (xs : List Int) (o i : Nat) (h : o + i < xs.length) : seg xs o (i + 1) = seg xs o i ++ [xs.getD (o + i) 0] := by
  unfold seg
  rw [List.take_succ_eq_append_getElem (by simp; omega)]
  congr 2
  simp [List.getD, List.getElem?_eq_getElem h]
theorem seg_len (xs : List Int) (o i : Nat) (h : o + i ≤ xs.length) : (seg xs o i).length = i := by unfold seg; simp; omega
theorem seg_set (xs : List Int) (o i : Nat) (y : Int) : seg (xs.set (o + i) y) o i = seg xs o i := by
  unfold seg
  apply List.ext_getElem?
  intro j
  simp only [List.getElem?_take, List.getElem?_drop]
  by_cases hj : j < i
  · simp only [hj, if_true]
    rw [List.getElem?_set_ne (by omega)]
  · simp [hj]
theorem getD_set (xs : List Int) (j k : Nat) (y : Int) (h : k < xs.length) : (xs.set k y).getD j 0 = if j = k then y else xs.getD j 0 := by
  simp only [List.getD, List.getElem?_set]
  by_cases hj : k = j
  · subst hj; simp [h]
  · simp [hj, Ne.symm hj]
theorem take_succ_getD (xs : List Int) (i : Nat) (h : i < xs.length) : xs.take (i + 1) = xs.take i ++ [xs.getD i 0] := by
  rw [List.take_succ_eq_append_getElem h]
  congr 2
  simp [List.getD, List.getElem?_eq_getElem h]

/-- What stands in the row when i limbs have been gone over: s is 1 for sums, -1 for differences; c is carried, or borrowed. -/
def Runs (s : Int) (xs ys : List Int) (o i : Nat) (t : Int) (cur : List Int) (c : Int) : Prop :=
  cur.length = xs.length ∧ (∀ j, j < o ∨ o + i ≤ j → cur.getD j 0 = xs.getD j 0) ∧ Dg B64 cur ∧ 0 ≤ c ∧ c < B64 ∧
    val B64 (seg cur o i) + s * (B64 ^ i * c) = val B64 (seg xs o i) + s * (t * val B64 (ys.take i))

theorem Runs.zero {s : Int} {xs ys : List Int} {o : Nat} {t : Int} (hd : Dg B64 xs) : Runs s xs ys o 0 t xs 0 :=
  ⟨rfl, fun _ _ => rfl, hd, by decide, by decide, by simp [seg, val]⟩

theorem Runs.step {s : Int} {xs ys : List Int} {o i : Nat} {t : Int} {cur : List Int} {c : Int} (h : Runs s xs ys o i t cur c) (ho : o + i < xs.length) (hy : i < ys.length) {next c' : Int}
    (hn : 0 ≤ next ∧ next < B64) (hc : 0 ≤ c' ∧ c' < B64) (he : next + s * (B64 * c') = cur.getD (o + i) 0 + s * (ys.getD i 0 * t + c)) : Runs s xs ys o (i + 1) t (cur.set (o + i) next) c' := by
  obtain ⟨h1, h2, h3, h4, h5, h6⟩ := h
  refine ⟨by simp [h1], fun j hj => ?_, h3.set _ hn, hc.1, hc.2, ?_⟩
  · rw [getD_set _ _ _ _ (by omega), if_neg (by omega)]
    exact h2 j (by omega)
  · have e1 : seg (cur.set (o + i) next) o (i + 1) = seg cur o i ++ [next] := by
      rw [seg_succ _ _ _ (by simp; omega), seg_set, getD_set _ _ _ _ (by omega), if_pos rfl]
    rw [e1, seg_succ xs o i ho, take_succ_getD ys i hy]
    simp only [val_append, seg_len cur o i (by omega), seg_len xs o i (by omega), val]
    have e2 : (ys.take i).length = i := by simp; omega
    rw [e2, Int.pow_succ]
    have e3 := h2 (o + i) (by omega)
    rw [e3] at he
    generalize val B64 (seg cur o i) = A at *
    generalize val B64 (seg xs o i) = X at *
    generalize val B64 (ys.take i) = Y at *
    generalize B64 ^ i = p at *
    generalize ys.getD i 0 = y at *
    generalize xs.getD (o + i) 0 = x at *
    generalize B64 = b at *
    grind

theorem add_round (x y t c hi lo ne ov : Int) (hx : 0 ≤ x ∧ x < B64) (hy : 0 ≤ y ∧ y < B64) (ht : 0 ≤ t ∧ t < B64) (hc : 0 ≤ c ∧ c < B64)
    (e1 : hi = (y * t + c) / 18446744073709551616) (e2 : lo = (y * t + c) % 18446744073709551616) (e3 : ne = (x + lo) % 18446744073709551616) (e4 : ov = (x + lo) / 18446744073709551616) :
    (0 ≤ ne ∧ ne < B64) ∧ (0 ≤ hi + ov ∧ hi + ov < B64) ∧ ne + 1 * (B64 * (hi + ov)) = x + 1 * (y * t + c) := by
  unfold B64 at *
  have hp := prod_lt y t c hy.1 hy.2 ht.1 ht.2 hc.2
  have hp0 : 0 ≤ y * t := Int.mul_nonneg hy.1 ht.1
  generalize y * t = P at *
  omega
theorem sub_round (x y t c hi lo ne ov : Int) (hx : 0 ≤ x ∧ x < B64) (hy : 0 ≤ y ∧ y < B64) (ht : 0 ≤ t ∧ t < B64) (hc : 0 ≤ c ∧ c < B64)
    (e1 : hi = (y * t + c) / 18446744073709551616) (e2 : lo = (y * t + c) % 18446744073709551616) (e3 : ne = (x - lo) % 18446744073709551616) (e4 : ov = bor x lo) :
    (0 ≤ ne ∧ ne < B64) ∧ (0 ≤ hi + ov ∧ hi + ov < B64) ∧ ne + -1 * (B64 * (hi + ov)) = x + -1 * (y * t + c) := by
  unfold B64 bor at *
  have hp := prod_lt y t c hy.1 hy.2 ht.1 ht.2 hc.2
  have hp0 : 0 ≤ y * t := Int.mul_nonneg hy.1 ht.1
  generalize y * t = P at *
  split at e4 <;> omega

set_option maxHeartbeats 1000000 in
/-- nat.addTimes. -/
theorem addTimes_any (e : TypeId) (g o ls cs : Nat) (ao : Option Addr) (la ca : Nat) (xs ys : List Int) (t : Int) (w : World) (hr : Row e .u64 w g xs) (ha : Lies .u64 w ao la ys)
    (hne : 0 < la → ∀ b off s, ao = some ⟨b, off, s⟩ → b ≠ g) (h1 : la ≤ ls) (h2 : o + ls ≤ xs.length) (h3 : ls ≤ maxLen) (hx : Dg B64 xs) (hy : Dg B64 ys) (ht0 : 0 ≤ t) (ht : t < 18446744073709551616) :
    Calls Try.prog 62 #[.slice (some ⟨g, o, none⟩) ls cs, .slice ao la ca, .int .u64 t] w fun e' w' => ∃ cur c, e' = .returned (.int .u64 c) ∧ Row e .u64 w' g cur ∧ Runs 1 xs ys o la t cur c ∧ w.grownBy w' (some g) := by
  have hl := ha.len
  unfold maxLen at h3
  go_enter Try.func62, Try.ntmps62
  go_wp2
  go_loopw [7, 15] (fun c i wr => ∃ (k : Nat) (cur : List Int) (cc : Int), k ≤ la ∧ i = .int .i64 k ∧ c = .int .u64 cc ∧ Row e .u64 wr g cur ∧ Runs 1 xs ys o k t cur cc ∧ w.grownBy wr (some g)) (fun _ i _ => la - (intOf i).toNat)
  case atStart => exact ⟨0, xs, 0, Nat.zero_le _, rfl, rfl, hr, Runs.zero hx, World.grownBy.refl _ _⟩
  case round =>
    obtain ⟨k, cur, cc, hk, rfl, rfl, hrow, hrun, hgr⟩ := hrel
    by_cases hlt : k < la
    · obtain ⟨b, off, rfl, hb, hc⟩ := ha.at (by omega)
      have hcell := (hgr.cell (hc k hlt) (by have := hne (by omega) b off none rfl; simp; omega))
      have hcl := hrow.cell (o + k) (by have := hrun.1; omega)
      have hfr := hrow.frozen (o + k)
      have hyk := hy.getD B64_pos k
      have hxk := hrun.2.2.1.getD B64_pos (o + k)
      have hcc := hrun.2.2.2.1
      have hcc' := hrun.2.2.2.2.1
      have hst := fun next c' => hrun.step (next := next) (c' := c') (by omega) (by omega)
      generalize hY : ys.getD k 0 = y at *
      generalize hX : cur.getD (o + k) 0 = x at *
      clear hY hX
      obtain ⟨hi, lo, HM, e1, e2⟩ : ∃ hi lo, (∀ w, Calls Try.prog 82 #[.int .u64 y, .int .u64 t, .int .u64 cc] w fun e w' => e = .returned (.tuple #[.int .u64 hi, .int .u64 lo]) ∧ w' = w) ∧ hi = (y * t + cc) / 18446744073709551616 ∧ lo = (y * t + cc) % 18446744073709551616 :=
        ⟨_, _, mulAdd_any y t cc hyk.1 hyk.2 ht0 ht hcc hcc', rfl, rfl⟩
      have hlo : 0 ≤ lo ∧ lo < 18446744073709551616 := by omega
      obtain ⟨ne, ov, HC, e3, e4⟩ : ∃ ne ov, (∀ w, (callFunc 60 #[.int .u64 x, .int .u64 lo, .int .u64 0]).run Try.prog w = .ok (.value (.tuple #[.int .u64 ne, .int .u64 ov])) w) ∧ ne = (x + lo) % 18446744073709551616 ∧ ov = (x + lo) / 18446744073709551616 :=
        ⟨_, _, add64_0 x lo hxk.1 hlo.1, rfl, rfl⟩
      have HA := add_round x y t cc hi lo ne ov hxk hyk ⟨ht0, ht⟩ ⟨hcc, hcc'⟩ e1 e2 e3 e4
      have HS : Hid _ := hst ne (hi + ov) HA.1 HA.2.1 HA.2.2
      have hw : 0 ≤ hi + ov ∧ hi + ov < 18446744073709551616 := HA.2.1
      have hgr' : Hid _ := hgr
      have hrow' : Hid _ := hrow.set (o + k) ne
      clear hst HA e1 e2 e3 e4 hrun hyk hxk hlo hgr hrow hc hcc hcc' ht0 ht ha hne
      go_wp2_with (first | (go_at_call 82; refine (HM _).mono ?_; rintro e w' ⟨rfl, rfl⟩) | simp only [HC])
      go_roundw
      case rel => exact ⟨k + 1, _, _, by omega, by go_num, rfl, hrow'.out, HS.out, grown_trans hgr'.out (grown_set _ _ _ _)⟩
      case measure => simp [intOf]; omega
    · obtain rfl : k = la := by omega
      go_wp2
      go_ret
      exact ⟨cur, cc, rfl, hrow, hrun, hgr⟩

set_option maxHeartbeats 1000000 in
/-- nat.subTimes. -/
theorem subTimes_any (e : TypeId) (g o ls cs : Nat) (ao : Option Addr) (la ca : Nat) (xs ys : List Int) (t : Int) (w : World) (hr : Row e .u64 w g xs) (ha : Lies .u64 w ao la ys)
    (hne : 0 < la → ∀ b off s, ao = some ⟨b, off, s⟩ → b ≠ g) (h1 : la ≤ ls) (h2 : o + ls ≤ xs.length) (h3 : ls ≤ maxLen) (hx : Dg B64 xs) (hy : Dg B64 ys) (ht0 : 0 ≤ t) (ht : t < 18446744073709551616) :
    Calls Try.prog 99 #[.slice (some ⟨g, o, none⟩) ls cs, .slice ao la ca, .int .u64 t] w fun e' w' => ∃ cur c, e' = .returned (.int .u64 c) ∧ Row e .u64 w' g cur ∧ Runs (-1) xs ys o la t cur c ∧ w.grownBy w' (some g) := by
  have hl := ha.len
  unfold maxLen at h3
  go_enter Try.func99, Try.ntmps99
  go_wp2
  go_loopw [7, 15] (fun c i wr => ∃ (k : Nat) (cur : List Int) (cc : Int), k ≤ la ∧ i = .int .i64 k ∧ c = .int .u64 cc ∧ Row e .u64 wr g cur ∧ Runs (-1) xs ys o k t cur cc ∧ w.grownBy wr (some g)) (fun _ i _ => la - (intOf i).toNat)
  case atStart => exact ⟨0, xs, 0, Nat.zero_le _, rfl, rfl, hr, Runs.zero hx, World.grownBy.refl _ _⟩
  case round =>
    obtain ⟨k, cur, cc, hk, rfl, rfl, hrow, hrun, hgr⟩ := hrel
    by_cases hlt : k < la
    · obtain ⟨b, off, rfl, hb, hc⟩ := ha.at (by omega)
      have hcell := (hgr.cell (hc k hlt) (by have := hne (by omega) b off none rfl; simp; omega))
      have hcl := hrow.cell (o + k) (by have := hrun.1; omega)
      have hfr := hrow.frozen (o + k)
      have hyk := hy.getD B64_pos k
      have hxk := hrun.2.2.1.getD B64_pos (o + k)
      have hcc := hrun.2.2.2.1
      have hcc' := hrun.2.2.2.2.1
      have hst := fun next c' => hrun.step (next := next) (c' := c') (by omega) (by omega)
      generalize hY : ys.getD k 0 = y at *
      generalize hX : cur.getD (o + k) 0 = x at *
      clear hY hX
      obtain ⟨hi, lo, HM, e1, e2⟩ : ∃ hi lo, (∀ w, Calls Try.prog 82 #[.int .u64 y, .int .u64 t, .int .u64 cc] w fun e w' => e = .returned (.tuple #[.int .u64 hi, .int .u64 lo]) ∧ w' = w) ∧ hi = (y * t + cc) / 18446744073709551616 ∧ lo = (y * t + cc) % 18446744073709551616 :=
        ⟨_, _, mulAdd_any y t cc hyk.1 hyk.2 ht0 ht hcc hcc', rfl, rfl⟩
      have hlo : 0 ≤ lo ∧ lo < 18446744073709551616 := by omega
      obtain ⟨ne, ov, HC, e3, e4⟩ : ∃ ne ov, (∀ w, (callFunc 63 #[.int .u64 x, .int .u64 lo, .int .u64 0]).run Try.prog w = .ok (.value (.tuple #[.int .u64 ne, .int .u64 ov])) w) ∧ ne = (x - lo) % 18446744073709551616 ∧ ov = bor x lo :=
        ⟨_, _, sub64_0 x lo hxk.1 hlo.1 hlo.2, rfl, rfl⟩
      have HA := sub_round x y t cc hi lo ne ov hxk hyk ⟨ht0, ht⟩ ⟨hcc, hcc'⟩ e1 e2 e3 e4
      have HS : Hid _ := hst ne (hi + ov) HA.1 HA.2.1 HA.2.2
      have hw : 0 ≤ hi + ov ∧ hi + ov < 18446744073709551616 := HA.2.1
      have hgr' : Hid _ := hgr
      have hrow' : Hid _ := hrow.set (o + k) ne
      clear hst HA e1 e2 e3 e4 hrun hyk hxk hlo hgr hrow hc hcc hcc' ht0 ht ha hne
      go_wp2_with (first | (go_at_call 82; refine (HM _).mono ?_; rintro e w' ⟨rfl, rfl⟩) | simp only [HC])
      go_roundw
      case rel => exact ⟨k + 1, _, _, by omega, by go_num, rfl, hrow'.out, HS.out, grown_trans hgr'.out (grown_set _ _ _ _)⟩
      case measure => simp [intOf]; omega
    · obtain rfl : k = la := by omega
      go_wp2
      go_ret
      exact ⟨cur, cc, rfl, hrow, hrun, hgr⟩

end Go.Proofs.Ytdojbknkaoiioaa
