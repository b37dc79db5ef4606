import Derived.Test.YtiblpcfkecalcaaDoorK14
import Derived.Test.YtiblpcfkecalcaaDoorK05
/-
  Contracts of the document's answer: how many bits (Len), how one number stands to another (Cmp).
-/
namespace Go.Proofs.YtiblpcfkecalcaaDoor
open Go.RowKit
set_option linter.unusedVariables false
set_option linter.unusedSimpArgs false

theorem blen_split (L e m : Nat) (hL : L < 2 ^ m) (he : e ≠ 0) : blen (L + 2 ^ m * e) = m + blen e := by
  have b1 := blen_lt e
  have b2 := blen_ge e he
  have b3 := blen_pos e he
  have hp := Nat.two_pow_pos m
  obtain ⟨c, hc⟩ : ∃ c, blen e = c + 1 := ⟨blen e - 1, by omega⟩
  rw [hc] at b1 b2
  simp only [Nat.add_sub_cancel] at b2
  have := blen_eq (L + 2 ^ m * e) (m + c) (by
    rw [Nat.pow_add]
    have := Nat.mul_le_mul_left (2 ^ m) b2
    omega) (by
    rw [show m + c + 1 = m + (c + 1) by omega, Nat.pow_add]
    have := Nat.mul_le_mul_left (2 ^ m) (show e + 1 ≤ 2 ^ (c + 1) by omega)
    rw [Nat.mul_add] at this
    omega)
  omega
theorem blen_half (n : Nat) (h : 0 < n) : blen n = 1 + blen (n / 2) := by
  by_cases h1 : n = 1
  · subst h1; decide
  · have := blen_shift n 1 (by omega)
    simpa using this
theorem rlen_eq (ds : List Int) (hd : Dg D16 ds) (hc : Canon ds) (m : Nat) (hm : ds.length = m + 1) : 16 * m + blen (ds.getD m 0).toNat = blen (val D16 ds).toNat := by
  have ht : top ds = m + 1 := by unfold Canon at hc; omega
  have hh := top_hit ds (by omega)
  have hg := hd.getD D16_pos m
  rw [ht] at hh
  simp only [Nat.add_sub_cancel] at hh
  have hv : val D16 ds = low D16 ds m + D16 ^ m * ds.getD m 0 := by rw [← low_succ, ← hm, low_len]
  have l0 : 0 ≤ low D16 ds m := val_nonneg D16_pos (hd.take m)
  have l1 : low D16 ds m < D16 ^ m := by
    have a := val_lt D16_pos (hd.take m)
    have b : (ds.take m).length ≤ m := by simp; omega
    have c := pow_mono (B := D16) (by decide) b
    unfold low; omega
  generalize ds.getD m 0 = d at *
  generalize low D16 ds m = L at *
  obtain ⟨e, rfl⟩ := Int.eq_ofNat_of_zero_le hg.1
  obtain ⟨L, rfl⟩ := Int.eq_ofNat_of_zero_le l0
  have hB : D16 ^ m = ((2 ^ (16 * m) : Nat) : Int) := by rw [Int.natCast_pow, Int.pow_mul]; rfl
  rw [hB] at hv l1
  rw [hv, ← Int.natCast_mul, ← Int.natCast_add, Int.toNat_natCast, Int.toNat_natCast, blen_split L e (16 * m) (by omega) (by intro h0; rw [h0] at hh; exact hh rfl)]

set_option maxHeartbeats 1000000 in
/-- the document's Len. -/
theorem rLen_any (ao : Option Addr) (la ca : Nat) (ds : List Int) (w : World) (h : NumIn .i64 D16 w ao la ca ds) (hc : Canon ds) (hla : la ≤ 1000000) :
    Calls Tryd.prog 22 #[.slice ao la ca] w fun e w' => e = .returned (.int .i64 (blen (val D16 ds).toNat)) ∧ w' = w := by
  have hl := h.len
  by_cases h0 : la = 0
  · subst h0
    have hx : ds = [] := List.eq_nil_of_length_eq_zero hl
    subst hx
    clear h hc
    go_enter Tryd.func22, Tryd.ntmps22
    go_wp2
    go_ret
    exact ⟨ret_int (by simp [val, blen]), rfl⟩
  · obtain ⟨m, rfl⟩ : ∃ m, la = m + 1 := ⟨la - 1, by omega⟩
    obtain ⟨b, off, rfl, hb, hcs⟩ := h.lies.at (by omega)
    have hcell := hcs m (by omega)
    have HE : Hid (16 * m + blen (ds.getD m 0).toNat = blen (val D16 ds).toNat) := rlen_eq ds h.dg hc m hl
    have hg := h.dg.getD D16_pos m
    generalize ds.getD m 0 = d at *
    obtain ⟨d, rfl⟩ := Int.eq_ofNat_of_zero_le hg.1
    rw [Int.toNat_natCast] at HE
    have hd2 : d < 65536 := by unfold D16 at hg; omega
    have hbl := blen_le d 16 hd2
    clear hcs h hc hg h0 hl
    go_enter Tryd.func22, Tryd.ntmps22
    go_wp2
    go_loop [3, 4] (fun vn vx => ∃ (j x : Nat), j + blen x = blen d ∧ x ≤ d ∧ vn = .int .i64 ((16 * m + j : Nat) : Int) ∧ vx = .int .i64 (x : Int)) (fun _ vx => (intOf vx).toNat)
    case atStart => exact ⟨0, d, by omega, Nat.le_refl _, by go_num, rfl⟩
    case round =>
      obtain ⟨j, x, hj, hx, rfl, rfl⟩ := hrel
      by_cases h0 : x = 0
      · subst h0
        have HF : Hid (16 * m + j = blen (val D16 ds).toNat) := by unfold Hid; rw [← HE.out, ← hj, blen_zero]; omega
        clear HE hj
        rw [show ((0 : Nat) : Int) = 0 from rfl]
        go_wp2
        go_ret
        exact ⟨ret_int (by rw [← HF.out]; omega), rfl⟩
      · have HS : Hid ((j + 1) + blen (x / 2) = blen d) := by unfold Hid; rw [← hj, blen_half x (by omega)]; omega
        have hj2 : j ≤ 16 := by omega
        clear HE hj
        go_wp2
        go_round
        case rel => exact ⟨j + 1, x / 2, HS.out, by omega, by go_num, by go_num⟩
        case measure => simp [intOf] <;> omega

end Go.Proofs.YtiblpcfkecalcaaDoor
/-
  The document's Len beside its Bytes.
-/
namespace Go.Proofs.YtiblpcfkecalcaaDoor
end Go.Proofs.YtiblpcfkecalcaaDoor
