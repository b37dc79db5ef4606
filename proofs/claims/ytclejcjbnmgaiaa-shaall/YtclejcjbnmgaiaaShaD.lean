/-
  Contract of the document's root.
-/
import Derived.Test.YtclejcjbnmgaiaaShaC
namespace Go.Proofs.Ytclejcjbnmgaiaa
open Go.RowKit
set_option linter.unusedVariables false
set_option linter.unusedSimpArgs false

/-- The root, found bit by bit, i bits of 41. -/
def rtAt (p : Int) (t : Nat) : Nat → Int
  | 0 => 0
  | i + 1 => if (rtAt p t i + 2 ^ (40 - i)) ^ t ≤ p * D16 ^ (2 * t) then rtAt p t i + 2 ^ (40 - i) else rtAt p t i
theorem rtAt_mult (p : Int) (t : Nat) : ∀ i, i ≤ 41 → rtAt p t i % 2 ^ (41 - i) = 0
  | 0, _ => by simp [rtAt]
  | i + 1, h => by
    have ih := rtAt_mult p t i (by omega)
    have e : (2 : Int) ^ (41 - i) = 2 ^ (41 - (i + 1)) * 2 := by rw [← Int.pow_succ]; congr 1; omega
    have e2 : (2 : Int) ^ (40 - i) = 2 ^ (41 - (i + 1)) := by congr 1; omega
    rw [e] at ih
    have hp : (0 : Int) < 2 ^ (41 - (i + 1)) := Int.pow_pos (by decide)
    have ih2 : rtAt p t i % 2 ^ (41 - (i + 1)) = 0 := by
      have := Int.emod_emod_of_dvd (rtAt p t i) (Int.dvd_mul_right (2 ^ (41 - (i + 1))) 2)
      rw [ih] at this
      simpa using this.symm
    rw [rtAt]
    split
    · rw [e2, Int.add_emod, ih2]; simp
    · exact ih2
theorem K_ref : (plI 312).map (fun p => rtAt p 3 41 % 4294967296) = KS := by decide +kernel
theorem H_ref : (plI 20).map (fun p => rtAt p 2 41 % 4294967296) = HS := by decide +kernel

/-- The number at a slice, whatever base world. -/
def NbI (w wr : World) (v : Value) (n : Int) (L : Nat) : Prop := Nb w wr v n L
theorem Nb.more {w w1 w2 : World} {v : Value} {n : Int} {L : Nat} (h : Nb w w1 v n L) (hb : Below w1.heap.size w1 w2) : Nb w w2 v n L := by
  obtain ⟨ao, len, cap, xs, rfl, h1, h2, h3, h4⟩ := h
  exact ⟨ao, len, cap, xs, rfl, h1.old hb, h2, h3, h4.trans (hb.mono h4.size)⟩
theorem Nb.base {w w1 w2 : World} {v : Value} {n : Int} {L : Nat} (h : Nb w1 w2 v n L) (hb : Below w.heap.size w w1) : Nb w w2 v n L := by
  obtain ⟨ao, len, cap, xs, rfl, h1, h2, h3, h4⟩ := h
  exact ⟨ao, len, cap, xs, rfl, h1, h2, h3, hb.trans (h4.mono hb.size)⟩
theorem Nb.below {w w1 : World} {v : Value} {n : Int} {L : Nat} (h : Nb w w1 v n L) : Below w.heap.size w w1 := by
  obtain ⟨ao, len, cap, xs, rfl, h1, h2, h3, h4⟩ := h
  exact h4
theorem Nb.wide {w w1 : World} {v : Value} {n : Int} {L L' : Nat} (h : Nb w w1 v n L) (hL : L ≤ L') : Nb w w1 v n L' := by
  obtain ⟨ao, len, cap, xs, rfl, h1, h2, h3, h4⟩ := h
  exact ⟨ao, len, cap, xs, rfl, h1, h2, by omega, h4⟩
/-- mul of numbers in memory. -/
theorem sMul_nb {w wr : World} {v u : Value} {n m : Int} {L M : Nat} (h : Nb w wr v n L) (h' : Nb w wr u m M) (hL : L ≤ 1000) (hM : M ≤ 1000) :
    Calls Try.prog 28 #[v, u] wr fun e w' => ∃ x, e = .returned x ∧ Nb w w' x (n * m) (L + M) ∧ Below wr.heap.size wr w' := by
  obtain ⟨ao, la, ca, xs, rfl, h1, rfl, h3, h4⟩ := h
  obtain ⟨bo, lb, cb, ys, rfl, g1, rfl, g3, g4⟩ := h'
  refine (sMul_any ao bo la ca lb cb xs ys wr h1 g1 (by omega) (by omega)).mono ?_
  rintro e w' ⟨x, rfl, hx⟩
  exact ⟨x, rfl, (hx.base h4).wide (by omega), hx.below⟩
theorem sAdd_nb {w wr : World} {v : Value} {n : Int} (bit : Nat) (h : Nb w wr v n 3) (hbit : bit ≤ 40) (hm : n % 2 ^ (bit + 1) = 0) :
    Calls Try.prog 27 #[v, .int .i64 bit] wr fun e w' => ∃ x, e = .returned x ∧ Nb w w' x (n + 2 ^ bit) 3 ∧ Below wr.heap.size wr w' := by
  obtain ⟨ao, la, ca, xs, rfl, h1, rfl, h3, h4⟩ := h
  refine (sAdd_any ao la ca xs bit wr h1 hbit h3 hm).mono ?_
  rintro e w' ⟨x, rfl, hx⟩
  exact ⟨x, rfl, hx.base h4, hx.below⟩
theorem sCmp_nb {w wr : World} {v u : Value} {n m : Int} {L M : Nat} (h : Nb w wr v n L) (h' : Nb w wr u m M) (hL : L ≤ 1000) (hM : M ≤ 1000) :
    Calls Try.prog 29 #[v, u] wr fun e w' => e = .returned (.int .i64 (cmpI n m)) ∧ w' = wr := by
  obtain ⟨ao, la, ca, xs, rfl, h1, rfl, h3, h4⟩ := h
  obtain ⟨bo, lb, cb, ys, rfl, g1, rfl, g3, g4⟩ := h'
  exact sCmp_any ao bo la ca lb cb xs ys wr h1 g1 (by omega) (by omega)

/-- The two lowest digits, put together. -/
theorem low_two (xs : List Int) (hd : Dg D16 xs) : xs.getD 1 0 * 65536 + xs.getD 0 0 = val D16 xs % 4294967296 := by
  match xs, hd with
  | [], _ => simp [val]
  | [x], hd => have := hd x (by simp); have hD : D16 = 65536 := rfl; rw [hD] at this; simp [val]; omega
  | x :: y :: l, hd =>
    have hx := hd x (by simp)
    have hy := hd y (by simp)
    have hD : D16 = 65536 := rfl
    rw [hD] at hx hy
    simp only [val, hD, List.getD, List.getElem?_cons_succ, List.getElem?_cons_zero, Option.getD_some]
    omega

theorem cmpI_le (a b : Int) : cmpI a b ≤ 0 ↔ a ≤ b := by
  unfold cmpI
  split
  · omega
  · split <;> omega

set_option maxHeartbeats 4000000 in
/-- the document's root. -/
theorem sRoot_any (p : Int) (t : Nat) (w : World) (hp0 : 0 ≤ p) (hp1 : p < 65536) (ht1 : 1 ≤ t) (ht : t ≤ 3) :
    Calls Try.prog 23 #[.int .i64 p, .int .i64 t] w fun e w' => e = .returned (.int .u32 (rtAt p t 41 % 4294967296)) ∧ Below w.heap.size w w' := by
  go_enter Try.func23, Try.ntmps23
  go_wp2
  go_loopw [5, 6] (fun vx vb wr => ∃ (i : Nat), i ≤ 41 ∧ vb = .int .i64 (40 - (i : Int)) ∧ Nb w wr vx (rtAt p t i) 3) (fun _ vb _ => (intOf vb + 1).toNat)
  case atStart => exact ⟨0, by omega, rfl, some ⟨w.heap.size, 0, none⟩, 0, 0, [], rfl, ⟨Lies.empty _ _ _, Nat.le_refl _, by simp [maxLen], (fun h => by cases h), Dg.nil _, by omega⟩, rfl, by omega, below_alloc w _⟩
  case round =>
    obtain ⟨i, hi, rfl, hx⟩ := hrel
    by_cases hlt : i < 41
    · obtain ⟨bit, hbit⟩ : ∃ bit, 40 - i = bit := ⟨_, rfl⟩
      have hbI : (40 : Int) - (i : Int) = (bit : Int) := by omega
      have hb40 : bit ≤ 40 := by omega
      have hmul := rtAt_mult p t i hi
      rw [show 41 - i = bit + 1 by omega] at hmul
      have HNX : Hid (rtAt p t (i + 1) = if (rtAt p t i + 2 ^ bit) ^ t ≤ p * D16 ^ (2 * t) then rtAt p t i + 2 ^ bit else rtAt p t i) := by unfold Hid; rw [← hbit]; rfl
      have HA := sAdd_nb bit hx hb40 hmul
      have HX : Hid (Nb w wr u5 (rtAt p t i) 3) := hx
      generalize rtAt p t i = X at *
      clear hmul hx hbit
      rw [hbI]
      go_wp2_with fail
      refine HA.mono ?_
      rintro e w1 ⟨vy, rfl, hy, hb1⟩
      have HY : Hid (Nb w w1 vy (X + 2 ^ bit) 3 ∧ Nb w w1 u5 X 3) := ⟨hy, HX.out.more hb1⟩
      clear HA HX hy hb1
      go_wp2
      go_loopw [8, 9] (fun vz vi wr => ∃ (j : Nat), 1 ≤ j ∧ j ≤ t ∧ vi = .int .i64 j ∧ Nb w wr vz ((X + 2 ^ bit) ^ j) (3 * j) ∧ Nb w wr vy (X + 2 ^ bit) 3 ∧ Nb w wr u5 X 3) (fun _ vi _ => t - (intOf vi).toNat)
      case atStart => exact ⟨1, by omega, ht1, rfl, by rw [Int.pow_one]; exact HY.out.1, HY.out⟩
      case round =>
        obtain ⟨j, hj1, hjt, rfl, hz, hy, hx⟩ := hrel
        clear HY
        by_cases hjl : j < t
        · have HM := sMul_nb hz hy (by omega) (by omega)
          have HK : Hid (Nb w wr vy (X + 2 ^ bit) 3 ∧ Nb w wr u5 X 3) := ⟨hy, hx⟩
          have HE : Hid ((X + 2 ^ bit) ^ j * (X + 2 ^ bit) = (X + 2 ^ bit) ^ (j + 1)) := (Int.pow_succ _ _).symm
          rw [HE.out] at HM
          clear hz hy hx
          go_wp2_with (go_at_call 28; refine HM.mono ?_; rintro e w2 ⟨v2, rfl, hv2, hb2⟩)
          go_roundw
          case rel => exact ⟨j + 1, by omega, by omega, by go_num, hv2.wide (by omega), HK.out.1.more hb2, HK.out.2.more hb2⟩
          case measure => simp [intOf] <;> omega
        · obtain rfl : j = t := by omega
          have HSH := sShifted_any p (2 * j) wr hp0 hp1 (by omega)
          obtain ⟨m, hm⟩ : ∃ m, 16 * (2 * j) = m := ⟨_, rfl⟩
          rw [hm] at HSH
          have hmI : 32 * (j : Int) = (m : Int) := by omega
          have HZ : Hid (Nb w wr u8 ((X + 2 ^ bit) ^ j) (3 * j) ∧ Nb w wr vy (X + 2 ^ bit) 3 ∧ Nb w wr u5 X 3) := ⟨hz, hy, hx⟩
          clear hz hy hx hm
          go_wp2_with fail
          refine HSH.mono ?_
          rintro e w2 ⟨vs, rfl, hs⟩
          have hb2 := hs.below
          have HC := sCmp_nb (HZ.out.1.more hb2) (hs.base HZ.out.1.below) (by omega) (by omega)
          have HW2 : Hid (Nb w w2 vy (X + 2 ^ bit) 3 ∧ Nb w w2 u5 X 3) := ⟨HZ.out.2.1.more hb2, HZ.out.2.2.more hb2⟩
          clear HSH HZ hs hb2
          by_cases hle : (X + 2 ^ bit) ^ j ≤ p * D16 ^ (2 * j)
          · rw [if_pos hle] at HNX
            have hcc := (cmpI_le ((X + 2 ^ bit) ^ j) (p * D16 ^ (2 * j))).2 hle
            generalize cmpI ((X + 2 ^ bit) ^ j) (p * D16 ^ (2 * j)) = cc at *
            clear hle
            go_wp2_with (go_at_call 29; refine HC.mono ?_; rintro e w3 ⟨rfl, rfl⟩)
            go_roundw
            case rel => exact ⟨i + 1, by omega, int_eq' (by omega), by rw [HNX.out]; exact HW2.out.1⟩
            case measure => simp [intOf] <;> omega
          · rw [if_neg hle] at HNX
            have hcc : ¬ cmpI ((X + 2 ^ bit) ^ j) (p * D16 ^ (2 * j)) ≤ 0 := fun h => hle ((cmpI_le _ _).1 h)
            generalize cmpI ((X + 2 ^ bit) ^ j) (p * D16 ^ (2 * j)) = cc at *
            clear hle
            go_wp2_with (go_at_call 29; refine HC.mono ?_; rintro e w3 ⟨rfl, rfl⟩)
            go_roundw
            case rel => exact ⟨i + 1, by omega, int_eq' (by omega), by rw [HNX.out]; exact HW2.out.2⟩
            case measure => simp [intOf] <;> omega
    · have hge : ¬ ((0 : Int) ≤ 40 - (i : Int)) := by omega
      have HI : Hid (i = 41) := by unfold Hid; omega
      obtain ⟨ao, len, cap, xs, rfl, hnum, hv, hl3, hb⟩ := hx
      have hlen := hnum.len
      have HF : Hid (rtAt p t 41 % 4294967296 = xs.getD 1 0 * 65536 + xs.getD 0 0 ∧ NumIn .i64 D16 wr ao len cap xs ∧ Below w.heap.size w wr) := ⟨by rw [low_two xs hnum.dg, hv, HI.out], hnum, hb⟩
      have g0 := hnum.dg.getD D16_pos 0
      have g1 := hnum.dg.getD D16_pos 1
      have hD : D16 = 65536 := rfl
      rw [hD] at g0 g1
      clear hv hnum hb hD
      go_wp2
      go_loop [10, 11] (fun vo vi => ∃ (j : Nat), j ≤ 2 ∧ vi = .int .i64 (1 - (j : Int)) ∧ vo = .int .u32 (if j = 0 then 0 else if j = 1 then xs.getD 1 0 else xs.getD 1 0 * 65536 + xs.getD 0 0)) (fun _ vi => (intOf vi + 1).toNat)
      case atStart => exact ⟨0, by omega, rfl, rfl⟩
      case round =>
        obtain ⟨j, hj, rfl, rfl⟩ := hrel
        have : j = 0 ∨ j = 1 ∨ j = 2 := by omega
        rcases this with rfl | rfl | rfl
        · simp only [if_true]
          by_cases h1 : 1 < len
          · obtain ⟨b, off, rfl, _, hcs⟩ := HF.out.2.1.lies.at (by omega)
            have hc := hcs 1 h1
            have h1I : (1 : Int) < (len : Int) := by omega
            generalize xs.getD 1 0 = x1 at *
            clear hcs
            go_wp2
            exact ⟨⟨1, by omega, rfl, rfl⟩, by simp [intOf]⟩
          · have h0 := getD_over xs 1 (by omega)
            have h1I : ¬ (1 : Int) < (len : Int) := by omega
            generalize xs.getD 1 0 = x1 at *
            subst h0
            go_wp2
            exact ⟨⟨1, by omega, rfl, rfl⟩, by simp [intOf]⟩
        · simp only [Nat.one_ne_zero, if_false, if_true]
          by_cases h1 : 0 < len
          · obtain ⟨b, off, rfl, _, hcs⟩ := HF.out.2.1.lies.at (by omega)
            have hc := hcs 0 h1
            rw [Nat.add_zero] at hc
            have h1I : (0 : Int) < (len : Int) := by omega
            have hw1 : (xs.getD 1 0 * 65536 + xs.getD 0 0) % 4294967296 = xs.getD 1 0 * 65536 + xs.getD 0 0 := by omega
            have HW1 : Hid ((xs.getD 1 0 * 65536 + xs.getD 0 0) % 4294967296 = xs.getD 1 0 * 65536 + xs.getD 0 0) := hw1
            generalize xs.getD 1 0 = x1 at *
            generalize xs.getD 0 0 = x0 at *
            clear hcs hw1
            go_wp2
            exact ⟨⟨2, by omega, rfl, int_eq' (by simp)⟩, by simp [intOf]⟩
          · have h0 := getD_over xs 0 (by omega)
            have h1I : ¬ (0 : Int) < (len : Int) := by omega
            generalize xs.getD 1 0 = x1 at *
            generalize xs.getD 0 0 = x0 at *
            subst h0
            go_wp2
            exact ⟨⟨2, by omega, rfl, int_eq' (by simp)⟩, by simp [intOf]⟩
        · have HE : Hid ((if (2 : Nat) = 0 then (0 : Int) else if (2 : Nat) = 1 then xs.getD 1 0 else xs.getD 1 0 * 65536 + xs.getD 0 0) = rtAt p t 41 % 4294967296) := by unfold Hid; rw [HF.out.1]; rfl
          rw [HE.out]
          obtain ⟨R, hR⟩ : ∃ R, rtAt p t 41 % 4294967296 = R := ⟨_, rfl⟩
          rw [hR]
          have HRR : Hid (rtAt p t 41 % 4294967296 = R) := hR
          clear hR HE
          go_wp2
          go_ret
          exact ⟨by rw [HRR.out]; rfl, HF.out.2.2⟩
end Go.Proofs.Ytclejcjbnmgaiaa
