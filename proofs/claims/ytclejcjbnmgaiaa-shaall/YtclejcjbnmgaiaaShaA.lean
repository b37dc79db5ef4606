/-
  Contracts of the document's small numbers by which its table is found: add, mul, shifted, cmp.
-/
import Derived.Test.YtclejcjbnmgaiaaRefM
namespace Go.Proofs.Ytclejcjbnmgaiaa
open Go.RowKit
set_option linter.unusedVariables false
set_option linter.unusedSimpArgs false

/-- A number of digits in memory, whatever its zeros. -/
def Nb (w w' : World) (v : Value) (n : Int) (L : Nat) : Prop :=
  ∃ ao len cap xs, v = .slice ao len cap ∧ NumIn .i64 D16 w' ao len cap xs ∧ val D16 xs = n ∧ len ≤ L ∧ Below w.heap.size w w'

theorem dg_room (xs : List Int) (hd : Dg D16 xs) (bit : Nat) (h : val D16 xs % 2 ^ (bit + 1) = 0) : xs.getD (bit / 16) 0 + 2 ^ (bit % 16) < 65536 := by
  rw [digit_at D16_pos xs hd (bit / 16)]
  obtain ⟨m, hm⟩ : ∃ m, val D16 xs = 2 ^ (bit + 1) * m := ⟨val D16 xs / 2 ^ (bit + 1), by have := Int.emod_add_mul_ediv (val D16 xs) (2 ^ (bit + 1)); omega⟩
  have e : (2 : Int) ^ (bit + 1) = D16 ^ (bit / 16) * 2 ^ (bit % 16 + 1) := by
    rw [show D16 = 2 ^ 16 from rfl, ← Int.pow_mul, ← Int.pow_add, show 16 * (bit / 16) + (bit % 16 + 1) = bit + 1 by omega]
  have hp : (0 : Int) < D16 ^ (bit / 16) := Int.pow_pos D16_pos
  rw [hm, e, Int.mul_assoc, Int.mul_ediv_cancel_left _ (by omega)]
  have hr : bit % 16 < 16 := Nat.mod_lt _ (by decide)
  generalize bit % 16 = r at *
  have hD : D16 = 65536 := rfl
  rw [hD]
  have : r = 0 ∨ r = 1 ∨ r = 2 ∨ r = 3 ∨ r = 4 ∨ r = 5 ∨ r = 6 ∨ r = 7 ∨ r = 8 ∨ r = 9 ∨ r = 10 ∨ r = 11 ∨ r = 12 ∨ r = 13 ∨ r = 14 ∨ r = 15 := by omega
  rcases this with rfl | rfl | rfl | rfl | rfl | rfl | rfl | rfl | rfl | rfl | rfl | rfl | rfl | rfl | rfl | rfl <;> simp <;> omega

theorem pow_bit (bit : Nat) : (2 : Int) ^ bit = D16 ^ (bit / 16) * 2 ^ (bit % 16) := by
  rw [show D16 = 2 ^ 16 from rfl, ← Int.pow_mul, ← Int.pow_add, Nat.div_add_mod]
theorem pow2_16 (r : Nat) (h : r < 16) : (0 : Int) < 2 ^ r ∧ (2 : Int) ^ r ≤ 32768 := by
  have : r = 0 ∨ r = 1 ∨ r = 2 ∨ r = 3 ∨ r = 4 ∨ r = 5 ∨ r = 6 ∨ r = 7 ∨ r = 8 ∨ r = 9 ∨ r = 10 ∨ r = 11 ∨ r = 12 ∨ r = 13 ∨ r = 14 ∨ r = 15 := by omega
  rcases this with rfl | rfl | rfl | rfl | rfl | rfl | rfl | rfl | rfl | rfl | rfl | rfl | rfl | rfl | rfl | rfl <;> decide

theorem Dg_splice {B : Int} (hB : 0 < B) (ys : List Int) (hd : Dg B ys) (n m : Nat) : Dg B (ys.take n ++ List.replicate m 0) :=
  (hd.take n).append (Dg.zeros hB m)
theorem val_splice (B : Int) (ys : List Int) (n m : Nat) (h : ys.length = n) : val B (ys.take n ++ List.replicate m 0) = val B ys := by
  rw [List.take_of_length_le (by omega), val_append, val_replicate]; simp

set_option maxHeartbeats 1000000 in
/-- the document's add: a bit more. -/
theorem sAdd_any (ao : Option Addr) (la ca : Nat) (xs : List Int) (bit : Nat) (w : World) (h : NumIn .i64 D16 w ao la ca xs) (hbit : bit ≤ 40) (hla : la ≤ 3) (hm : val D16 xs % 2 ^ (bit + 1) = 0) :
    Calls Try.prog 27 #[.slice ao la ca, .int .i64 bit] w fun e w' => ∃ v, e = .returned v ∧ Nb w w' v (val D16 xs + 2 ^ bit) 3 := by
  have hroom := dg_room xs h.dg bit hm
  have hpb := pow_bit bit
  have hl := h.len
  obtain ⟨q, hq⟩ : ∃ q, bit / 16 = q := ⟨_, rfl⟩
  obtain ⟨r, hr⟩ : ∃ r, bit % 16 = r := ⟨_, rfl⟩
  have hqI : (bit : Int) / 16 = (q : Int) := by omega
  have hrI : (bit : Int) % 16 = (r : Int) := by omega
  have hr16 : r < 16 := by omega
  have hq3 : q < 3 := by omega
  rw [hq, hr] at hroom hpb
  obtain ⟨n, hn⟩ : ∃ n, max la (q + 1) = n := ⟨_, rfl⟩
  have hnI : max (la : Int) ((q : Int) + 1) = (n : Int) := by omega
  have hn3 : n ≤ 3 := by omega
  have hqn : q < n := by omega
  have hln : la ≤ n := by omega
  have hp2 := pow2_16 r hr16
  have HL : Hid (Lies .i64 w ao la xs) := h.lies
  have HD : Hid (Dg D16 xs) := h.dg
  have HV : Hid (xs.getD q 0 + 2 ^ r < 65536 ∧ (2 : Int) ^ bit = D16 ^ q * 2 ^ r ∧ xs.length = la) := ⟨hroom, hpb, hl⟩
  clear h hroom hpb hl hq hr hm hn
  go_enter Try.func27, Try.ntmps27
  go_wp2_with (at_make; refine wpList_make_row _ rfl _ _ 51 rfl 3 .i64 8 Try.underlying51 Try.infoI _ _ _ _ n rfl rfl rfl rfl (by omega) (by unfold maxLen; omega) ?_)
  intro w1 hrow hbel
  have hl1 := HL.out.old hbel
  go_wp2_with (refine wpList_copy_row rfl _ _ 51 51 rfl 3 Try.underlying51 .i64 8 Try.infoI w.heap.size ao _ _ _ _ rfl rfl _ xs hrow hl1 (by simp) la (by omega) w.heap.size w hbel (Nat.le_refl _) ?_)
  intro w2 hrow2 hbel2
  have hd2 : Dg D16 (xs.take la ++ List.replicate (n - la) 0) := Dg_splice D16_pos xs HD.out la (n - la)
  have hv2 : val D16 (xs.take la ++ List.replicate (n - la) 0) = val D16 xs := val_splice D16 xs la (n - la) HV.out.2.2
  have hlen2 : (xs.take la ++ List.replicate (n - la) (0 : Int)).length = n := by have := HV.out.2.2; simp; omega
  have hx2 : (xs.take la ++ List.replicate (n - la) (0 : Int)).getD q 0 = xs.getD q 0 := by
    rw [digit_at D16_pos _ hd2, digit_at D16_pos xs HD.out, hv2]
  generalize xs.take la ++ List.replicate (n - la) (0 : Int) = cur at *
  have hc := hrow2.cell q (by omega)
  have hf := hrow2.frozen q
  rw [hx2] at hc
  have gx := HD.out.getD D16_pos q
  have x0 := gx.1
  have x1 := HV.out.1
  have HRW : Hid (Row 3 .i64 w2 w.heap.size cur ∧ Dg D16 cur ∧ val D16 cur = val D16 xs ∧ cur.length = n ∧ cur.getD q 0 = xs.getD q 0 ∧ Below w.heap.size w w2) := ⟨hrow2, hd2, hv2, hlen2, hx2, hbel2⟩
  generalize hxg : xs.getD q 0 = x at *
  have HXG : Hid (xs.getD q 0 = x) := hxg
  clear hrow hl1 hrow2 hbel hbel2 hd2 hv2 hlen2 hx2 gx HL HD hxg
  have hsh : IntKind.i64.wrap (2 ^ r) = 2 ^ r := IntWalk.i64_in _ (by omega)
  have hsum : IntKind.i64.wrap (x + 2 ^ r) = x + 2 ^ r := IntWalk.i64_in _ (by omega)
  go_wp2
  go_region
  all_goals
    go_wp2
    go_ret
    have hrs := (HRW.out.1.drewN 1).set q (x + 2 ^ r)
    have hlen : (cur.set q (x + 2 ^ r)).length = n := by rw [List.length_set]; exact HRW.out.2.2.2.1
    refine ⟨_, rfl, some ⟨w.heap.size, 0, none⟩, n, n, cur.set q (x + 2 ^ r), rfl, ?_, ?_, by omega, ?_⟩
    · have := hrs.num (B := D16) (HRW.out.2.1.set q ⟨by omega, by have := x1; unfold D16; omega⟩) (by omega)
      rw [hlen] at this
      exact this
    · rw [val_set _ _ _ _ (by have := HRW.out.2.2.2.1; omega), HRW.out.2.2.1, HRW.out.2.2.2.2.1, HV.out.2.1]
      grind
    · exact (HRW.out.2.2.2.2.2.trans (Drew.below ⟨1, rfl⟩ _)).setCell (p := ⟨w.heap.size, q, none⟩) (Nat.le_refl _) _

set_option maxHeartbeats 1000000 in
/-- the document's shifted. -/
theorem sShifted_any (p : Int) (by16 : Nat) (w : World) (hp0 : 0 ≤ p) (hp1 : p < 65536) (hb : by16 ≤ 8) :
    Calls Try.prog 30 #[.int .i64 p, .int .i64 (16 * by16 : Nat)] w fun e w' => ∃ v, e = .returned v ∧ Nb w w' v (p * D16 ^ by16) 9 := by
  have hqI : ((16 * by16 : Nat) : Int) / 16 = (by16 : Int) := by omega
  obtain ⟨n, hn⟩ : ∃ n, by16 + 1 = n := ⟨_, rfl⟩
  have hnI : (by16 : Int) + 1 = (n : Int) := by omega
  have hn9 : n ≤ 9 := by omega
  have hbn : by16 < n := by omega
  have hbs : 16 * by16 < 1000 := by omega
  obtain ⟨m, hm⟩ : ∃ m, 16 * by16 = m := ⟨_, rfl⟩
  rw [hm] at hqI hbs ⊢
  clear hn hm
  go_enter Try.func30, Try.ntmps30
  go_wp2_with (at_make; refine wpList_make_row _ rfl _ _ 51 rfl 3 .i64 8 Try.underlying51 Try.infoI _ _ _ _ n rfl rfl rfl rfl (by omega) (by unfold maxLen; omega) ?_)
  intro w1 hrow hbel
  have hc := hrow.cell by16 (by simp; omega)
  have hf := hrow.frozen by16
  have HRW : Hid (Row 3 .i64 w1 w.heap.size (List.replicate n 0) ∧ Below w.heap.size w w1) := ⟨hrow, hbel⟩
  clear hrow hbel
  go_wp2
  go_ret
  have hrs := HRW.out.1.set by16 p
  have hlen : ((List.replicate n (0 : Int)).set by16 p).length = n := by simp
  refine ⟨_, rfl, some ⟨w.heap.size, 0, none⟩, n, n, (List.replicate n 0).set by16 p, rfl, ?_, ?_, hn9, HRW.out.2.setCell (p := ⟨w.heap.size, by16, none⟩) (Nat.le_refl _) _⟩
  · have := hrs.num (B := D16) ((Dg.zeros D16_pos n).set by16 ⟨hp0, hp1⟩) (by omega)
    rw [hlen] at this
    exact this
  · rw [val_set _ _ _ _ (by simp; omega), val_replicate]
    have : (List.replicate n (0 : Int)).getD by16 0 = 0 := by simp [List.getD, List.getElem?_replicate]; split <;> rfl
    rw [this]
    grind

/-- With zeros above. -/
def pad (xs : List Int) (n : Nat) : List Int := xs ++ List.replicate (n - xs.length) 0
theorem pad_len (xs : List Int) (n : Nat) (h : xs.length ≤ n) : (pad xs n).length = n := by simp [pad]; omega
theorem pad_val (B : Int) (xs : List Int) (n : Nat) : val B (pad xs n) = val B xs := by unfold pad; rw [val_append, val_replicate]; simp
theorem pad_dg {B : Int} (hB : 0 < B) {xs : List Int} (h : Dg B xs) (n : Nat) : Dg B (pad xs n) := h.append (Dg.zeros hB _)
theorem pad_get (xs : List Int) (n j : Nat) : (pad xs n).getD j 0 = xs.getD j 0 := by
  unfold pad
  by_cases h : j < xs.length
  · simp [List.getD, List.getElem?_append_left h]
  · simp only [List.getD]
    rw [List.getElem?_append_right (by omega), List.getElem?_replicate, List.getElem?_eq_none (show xs.length ≤ j by omega)]
    split <;> rfl
theorem cmp_pad (xs ys : List Int) (hx : Dg D16 xs) (hy : Dg D16 ys) (p : Nat) (heq : ∀ j, p < j → xs.getD j 0 = ys.getD j 0) (hlt : xs.getD p 0 < ys.getD p 0) : val D16 xs < val D16 ys := by
  obtain ⟨n, hn⟩ : ∃ n, n = max (max xs.length ys.length) (p + 1) := ⟨_, rfl⟩
  have := cmp_at D16 D16_one (pad xs n) (pad ys n) (pad_dg D16_pos hx n) (pad_dg D16_pos hy n) n (pad_len xs n (by omega)) (pad_len ys n (by omega)) p (by omega) (fun j h1 _ => by rw [pad_get, pad_get]; exact heq j h1) (by rw [pad_get, pad_get]; exact hlt)
  rwa [pad_val, pad_val] at this
theorem eq_pad (xs ys : List Int) (h : ∀ j, xs.getD j 0 = ys.getD j 0) : val D16 xs = val D16 ys := by
  obtain ⟨n, hn⟩ : ∃ n, n = max xs.length ys.length := ⟨_, rfl⟩
  have e : pad xs n = pad ys n := by
    apply List.ext_getElem
    · rw [pad_len xs n (by omega), pad_len ys n (by omega)]
    · intro j h1 h2
      have := h j
      rw [← pad_get xs n, ← pad_get ys n] at this
      simpa [List.getD, h1, h2] using this
  rw [← pad_val D16 xs n, e, pad_val]
theorem getD_over (xs : List Int) (j : Nat) (h : xs.length ≤ j) : xs.getD j 0 = 0 := by simp [List.getD, List.getElem?_eq_none h]

set_option maxHeartbeats 2000000 in
/-- the document's cmp. -/
theorem sCmp_any (ao bo : Option Addr) (la ca lb cb : Nat) (xs ys : List Int) (w : World) (h : NumIn .i64 D16 w ao la ca xs) (h' : NumIn .i64 D16 w bo lb cb ys) (hla : la ≤ 1000) (hlb : lb ≤ 1000) :
    Calls Try.prog 29 #[.slice ao la ca, .slice bo lb cb] w fun e w' => e = .returned (.int .i64 (cmpI (val D16 xs) (val D16 ys))) ∧ w' = w := by
  obtain ⟨n, hn⟩ : ∃ n, max la lb = n := ⟨_, rfl⟩
  have hnI : max (la : Int) (lb : Int) = (n : Int) := by omega
  have hn1 : n ≤ 1000 := by omega
  have hl := h.len
  have hl' := h'.len
  have HX : Hid (NumIn .i64 D16 w ao la ca xs) := h
  have HY : Hid (NumIn .i64 D16 w bo lb cb ys) := h'
  have HN : Hid (max la lb = n ∧ xs.length = la ∧ ys.length = lb) := ⟨hn, hl, hl'⟩
  clear h h' hn hl hl'
  go_enter Try.func29, Try.ntmps29
  go_wp2
  go_loop [5] (fun vi => ∃ i : Int, vi = .int .i64 i ∧ -1 ≤ i ∧ i < n ∧ ∀ j : Nat, i < j → xs.getD j 0 = ys.getD j 0) (fun vi => (intOf vi + 1).toNat)
  case atStart =>
    refine ⟨(n : Int) - 1, rfl, by omega, by omega, fun j hj => ?_⟩
    have := HN.out
    rw [getD_over xs j (by omega), getD_over ys j (by omega)]
  case round =>
    obtain ⟨i, rfl, hi0, hi1, heq⟩ := hrel
    by_cases hneg : i < 0
    · obtain rfl : i = -1 := by omega
      have HF : Hid (cmpI (val D16 xs) (val D16 ys) = 0) := cmpI_eq (eq_pad xs ys (fun j => heq j (by omega)))
      clear heq
      go_wp2
      go_ret
      exact ⟨ret_int HF.out.symm, rfl⟩
    · obtain ⟨p, rfl⟩ := Int.eq_ofNat_of_zero_le (show 0 ≤ i by omega)
      have HL : Hid (xs.getD p 0 < ys.getD p 0 → val D16 xs < val D16 ys) := cmp_pad xs ys HX.out.dg HY.out.dg p (fun j hj => heq j (by omega))
      have HG : Hid (ys.getD p 0 < xs.getD p 0 → val D16 ys < val D16 xs) := cmp_pad ys xs HY.out.dg HX.out.dg p (fun j hj => (heq j (by omega)).symm)
      have HE : Hid (xs.getD p 0 = ys.getD p 0 → ∀ j : Nat, (p : Int) - 1 < j → xs.getD j 0 = ys.getD j 0) := fun h0 j hj => by
        by_cases e : j = p
        · rw [e]; exact h0
        · exact heq j (by omega)
      have hcx : p < la → ∃ b off, ao = some ⟨b, off, none⟩ ∧ w.cell? ⟨b, off + p, none⟩ = some (.int .i64 (xs.getD p 0)) := fun hp => by
        obtain ⟨b, off, e, _, hc⟩ := HX.out.lies.at (by omega)
        exact ⟨b, off, e, hc p hp⟩
      have hcy : p < lb → ∃ b off, bo = some ⟨b, off, none⟩ ∧ w.cell? ⟨b, off + p, none⟩ = some (.int .i64 (ys.getD p 0)) := fun hp => by
        obtain ⟨b, off, e, _, hc⟩ := HY.out.lies.at (by omega)
        exact ⟨b, off, e, hc p hp⟩
      have hzx : ¬ p < la → xs.getD p 0 = 0 := fun hp => getD_over xs p (by have := HN.out; omega)
      have hzy : ¬ p < lb → ys.getD p 0 = 0 := fun hp => getD_over ys p (by have := HN.out; omega)
      clear heq hneg hi0
      generalize xs.getD p 0 = x at *
      generalize ys.getD p 0 = y at *
      rcases Int.lt_trichotomy x y with hxy | hxy | hxy
      · have HFIN : Hid (cmpI (val D16 xs) (val D16 ys) = -1) := cmpI_lt (HL.out hxy)
        have hne : (x != y) = true := by simp; omega
        clear HL HG HE
        by_cases h1 : p < la
        · obtain ⟨b, off, rfl, hc1⟩ := hcx h1
          by_cases h2 : p < lb
          · obtain ⟨b2, off2, rfl, hc2⟩ := hcy h2
            clear hcx hcy hzx hzy
            go_wp2
            go_ret
            exact ⟨ret_int HFIN.out.symm, rfl⟩
          · obtain rfl := hzy h2
            clear hcx hcy hzx hzy
            go_wp2
            go_ret
            exact ⟨ret_int HFIN.out.symm, rfl⟩
        · obtain rfl := hzx h1
          by_cases h2 : p < lb
          · obtain ⟨b2, off2, rfl, hc2⟩ := hcy h2
            clear hcx hcy hzx hzy
            go_wp2
            go_ret
            exact ⟨ret_int HFIN.out.symm, rfl⟩
          · obtain rfl := hzy h2
            omega
      · have HFIN : Hid (∀ j : Nat, (p : Int) - 1 < j → xs.getD j 0 = ys.getD j 0) := HE.out hxy
        clear HL HG HE
        subst hxy
        by_cases h1 : p < la
        · obtain ⟨b, off, rfl, hc1⟩ := hcx h1
          by_cases h2 : p < lb
          · obtain ⟨b2, off2, rfl, hc2⟩ := hcy h2
            clear hcx hcy hzx hzy
            go_wp2
            go_round
            case rel => exact ⟨(p : Int) - 1, by go_num, by omega, by omega, HFIN.out⟩
            case measure => simp [intOf] <;> omega
          · obtain rfl := hzy h2
            clear hcx hcy hzx hzy
            go_wp2
            go_round
            case rel => exact ⟨(p : Int) - 1, by go_num, by omega, by omega, HFIN.out⟩
            case measure => simp [intOf] <;> omega
        · obtain rfl := hzx h1
          by_cases h2 : p < lb
          · obtain ⟨b2, off2, rfl, hc2⟩ := hcy h2
            clear hcx hcy hzx hzy
            go_wp2
            go_round
            case rel => exact ⟨(p : Int) - 1, by go_num, by omega, by omega, HFIN.out⟩
            case measure => simp [intOf] <;> omega
          · clear hcx hcy hzx hzy
            go_wp2
            go_round
            case rel => exact ⟨(p : Int) - 1, by go_num, by omega, by omega, HFIN.out⟩
            case measure => simp [intOf] <;> omega
      · have HFIN : Hid (cmpI (val D16 xs) (val D16 ys) = 1) := cmpI_gt (HG.out hxy)
        have hne : (x != y) = true := by simp; omega
        clear HL HG HE
        by_cases h1 : p < la
        · obtain ⟨b, off, rfl, hc1⟩ := hcx h1
          by_cases h2 : p < lb
          · obtain ⟨b2, off2, rfl, hc2⟩ := hcy h2
            clear hcx hcy hzx hzy
            go_wp2
            go_ret
            exact ⟨ret_int HFIN.out.symm, rfl⟩
          · obtain rfl := hzy h2
            clear hcx hcy hzx hzy
            go_wp2
            go_ret
            exact ⟨ret_int HFIN.out.symm, rfl⟩
        · obtain rfl := hzx h1
          by_cases h2 : p < lb
          · obtain ⟨b2, off2, rfl, hc2⟩ := hcy h2
            clear hcx hcy hzx hzy
            go_wp2
            go_ret
            exact ⟨ret_int HFIN.out.symm, rfl⟩
          · obtain rfl := hzy h2
            omega
end Go.Proofs.Ytclejcjbnmgaiaa
