import Derived.Test.YtnckmcmobkpdcaaDoorK04
/-
  The calendar of the law DerDays: what is written of a day and a second, and that reading it gives them back.
-/
namespace Go.Proofs.YtnckmcmobkpdcaaDoor
open Go.Shelf Go.RowKit
set_option linter.unusedVariables false
set_option linter.unusedSimpArgs false

/-- Two digits of a number. -/
def twoB (n : Nat) : Bs := [UInt8.ofNat (48 + n / 10 % 10), UInt8.ofNat (48 + n % 10)]
theorem digit_nat (k : Nat) (h : k < 10) : (UInt8.ofNat (48 + k)).toNat = 48 + k := by
  rw [UInt8.toNat_ofNat']
  exact Nat.mod_eq_of_lt (by omega)
theorem numGo_two (a n : Nat) (h : n < 100) (xs : Bs) : numGo a (twoB n ++ xs) = numGo (100 * a + n) xs := by
  have h1 := digit_nat (n / 10 % 10) (by omega)
  have h2 := digit_nat (n % 10) (by omega)
  show numGo a (UInt8.ofNat (48 + n / 10 % 10) :: UInt8.ofNat (48 + n % 10) :: xs) = _
  rw [numGo_cons, h1, if_neg (by omega), numGo_cons, h2, if_neg (by omega)]
  congr 1
  omega
theorem numGo_two0 (a n : Nat) (h : n < 100) : numGo a (twoB n) = some (100 * a + n) := by
  have := numGo_two a n h []
  rw [List.append_nil] at this
  exact this
/-- What is written behind the century. -/
def restB (m d h mi s : Nat) : Bs := twoB m ++ (twoB d ++ (twoB h ++ (twoB mi ++ (twoB s ++ [90]))))
theorem restB_len (m d h mi s : Nat) : (restB m d h mi s).length = 11 := rfl
theorem twosD_rest (m d h mi s : Nat) (hm : m < 100) (hd : d < 100) (hh : h < 100) (hmi : mi < 100) (hs : s < 100) : twosD (restB m d h mi s) 5 = some [m, d, h, mi, s] := by
  have e0 : twoD (restB m d h mi s) 0 = some m := (numGo_two0 0 m hm).trans (by rw [Nat.mul_zero, Nat.zero_add])
  have e1 : twoD (restB m d h mi s) 1 = some d := (numGo_two0 0 d hd).trans (by rw [Nat.mul_zero, Nat.zero_add])
  have e2 : twoD (restB m d h mi s) 2 = some h := (numGo_two0 0 h hh).trans (by rw [Nat.mul_zero, Nat.zero_add])
  have e3 : twoD (restB m d h mi s) 3 = some mi := (numGo_two0 0 mi hmi).trans (by rw [Nat.mul_zero, Nat.zero_add])
  have e4 : twoD (restB m d h mi s) 4 = some s := (numGo_two0 0 s hs).trans (by rw [Nat.mul_zero, Nat.zero_add])
  simp only [twosD, e0, e1, e2, e3, e4, List.nil_append, List.cons_append]
theorem momD_rest (y m d h mi s : Nat) (hm : m < 100) (hd : d < 100) (hh : h < 100) (hmi : mi < 100) (hs : s < 100) (he : existB y m d h mi s = true) : momD y (restB m d h mi s) = some (secsD y m d h mi s) := by
  unfold momD
  rw [twosD_rest m d h mi s hm hd hh hmi hs]
  have e : ((restB m d h mi s).getD 10 0).toNat = 90 := rfl
  simp only [e, he, and_self, if_true]
theorem timeD_utc (y m d h mi s : Nat) (h1 : 1970 ≤ y) (h2 : y < 2050) (hm : m < 100) (hd : d < 100) (hh : h < 100) (hmi : mi < 100) (hs : s < 100) (he : existB y m d h mi s = true) :
    timeD 23 (twoB (y % 100) ++ restB m d h mi s) = some (secsD y m d h mi s) := by
  have e0 : numGo 0 ((twoB (y % 100) ++ restB m d h mi s).take 2) = some (y % 100) := (numGo_two0 0 (y % 100) (by omega)).trans (by rw [Nat.mul_zero, Nat.zero_add])
  have e1 : centD (y % 100) = y := by
    unfold centD
    split <;> omega
  have e2 : yearD 23 (twoB (y % 100) ++ restB m d h mi s) = some (y, restB m d h mi s) := by
    unfold yearD
    rw [if_pos ⟨rfl, rfl⟩, e0]
    simp only [e1, if_pos h1]
    rfl
  unfold timeD
  rw [e2]
  exact momD_rest y m d h mi s hm hd hh hmi hs he
theorem timeD_long (y m d h mi s : Nat) (h1 : 2050 ≤ y) (h2 : y < 10000) (hm : m < 100) (hd : d < 100) (hh : h < 100) (hmi : mi < 100) (hs : s < 100) (he : existB y m d h mi s = true) :
    timeD 24 (twoB (y / 100) ++ (twoB (y % 100) ++ restB m d h mi s)) = some (secsD y m d h mi s) := by
  have e0 : numGo 0 ((twoB (y / 100) ++ (twoB (y % 100) ++ restB m d h mi s)).take 4) = some y := by
    show numGo 0 (twoB (y / 100) ++ twoB (y % 100)) = some y
    rw [numGo_two 0 (y / 100) (by omega), numGo_two0 _ _ (by omega)]
    congr 1
    omega
  have e2 : yearD 24 (twoB (y / 100) ++ (twoB (y % 100) ++ restB m d h mi s)) = some (y, restB m d h mi s) := by
    unfold yearD
    rw [if_neg (fun k => absurd k.1 (by decide)), if_pos ⟨rfl, rfl⟩, e0]
    simp only [if_pos h1]
    rfl
  unfold timeD
  rw [e2]
  exact momD_rest y m d h mi s hm hd hh hmi hs he
/-- A year's days. -/
def yrD (y : Nat) : Nat := if leapD y = true then 366 else 365
/-- The days ahead of a year, counted from 1970. -/
def dayD (y : Nat) : Nat := 365 * (y - 1970) + lyD y - 477
theorem leapD_iff (y : Nat) : leapD y = true ↔ (y % 4 = 0 ∧ y % 100 ≠ 0) ∨ y % 400 = 0 := by
  simp only [leapD, Bool.or_eq_true, Bool.and_eq_true, beq_iff_eq, bne_iff_ne, ne_eq]
theorem lyD_ge (y : Nat) (h : 1970 ≤ y) : 477 ≤ lyD y := by
  unfold lyD
  omega
theorem lyD_step (y : Nat) (h : 1970 ≤ y) : lyD (y + 1) = lyD y + (if leapD y = true then 1 else 0) := by
  unfold lyD
  by_cases hl : leapD y = true
  · have := (leapD_iff y).1 hl
    rw [if_pos hl]
    omega
  · have : ¬ ((y % 4 = 0 ∧ y % 100 ≠ 0) ∨ y % 400 = 0) := fun k => hl ((leapD_iff y).2 k)
    rw [if_neg hl]
    omega
theorem dayD_0 : dayD 1970 = 0 := by decide +kernel
theorem dayD_step (y : Nat) (h : 1970 ≤ y) : dayD (y + 1) = dayD y + yrD y := by
  have h1 := lyD_ge y h
  have h2 := lyD_step y h
  unfold dayD yrD
  rw [h2]
  by_cases hl : leapD y = true
  · rw [if_pos hl, if_pos hl]
    omega
  · rw [if_neg hl, if_neg hl]
    omega
theorem dayD_ge (y : Nat) (h : 1970 ≤ y) : 365 * (y - 1970) ≤ dayD y := by
  have h1 := lyD_ge y h
  unfold dayD
  omega
theorem monsD_12 (y : Nat) : monsD y 12 = yrD y := by
  unfold yrD
  by_cases hl : leapD y = true
  · simp only [monsD, monD, hl, mdL]
    decide +kernel
  · simp only [monsD, monD, hl, mdL]
    decide +kernel
theorem secs_all (N D s y m : Nat) (hd : dayD y + monsD y (m - 1) + D = N) (hs : s < 86400) : secsD y m (D + 1) (s / 3600) (s / 60 % 60) (s % 60) = N * 86400 + s := by
  have e : secsD y m (D + 1) (s / 3600) (s / 60 % 60) (s % 60) = (((dayD y + monsD y (m - 1) + (D + 1 - 1)) * 24 + s / 3600) * 60 + s / 60 % 60) * 60 + s % 60 := rfl
  rw [e, Nat.add_sub_cancel, hd]
  omega
end Go.Proofs.YtnckmcmobkpdcaaDoor
