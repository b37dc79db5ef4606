import Derived.Test.YticopomchoahnaaK20
import Derived.Test.YticopomchoahnaaK09
import Derived.Deep.LoopGhost
import Derived.Laws.CopyRow
import Derived.Deep.RegionHeld3
import Derived.BigRegion
import Derived.RangeFuncRecord
/-
  Contract of the document's root.
-/
namespace Go.Proofs.Yticopomchoahnaa
open Go.RowKit
set_option linter.unusedVariables false
set_option linter.unusedSimpArgs false

/-- The root, found bit by bit, i bits of 41. -/
def rtAt (p : Int) (t : Nat) : Nat → Int
  | 0 => 0
  | i + 1 => if (rtAt p t i + 2 ^ (40 - i)) ^ t ≤ p * D16 ^ (2 * t) then rtAt p t i + 2 ^ (40 - i) else rtAt p t i
theorem rtAt_mult (p : Int) (t : Nat) : ∀ i, i ≤ 41 → rtAt p t i % 2 ^ (41 - i) = 0
  | 0, _ => by simp [rtAt]
  | i + 1, h => by
    have ih := rtAt_mult p t i (by omega)
    have e : (2 : Int) ^ (41 - i) = 2 ^ (41 - (i + 1)) * 2 := by rw [← Int.pow_succ]; congr 1; omega
    have e2 : (2 : Int) ^ (40 - i) = 2 ^ (41 - (i + 1)) := by congr 1; omega
    rw [e] at ih
    have hp : (0 : Int) < 2 ^ (41 - (i + 1)) := Int.pow_pos (by decide)
    have ih2 : rtAt p t i % 2 ^ (41 - (i + 1)) = 0 := by
      have := Int.emod_emod_of_dvd (rtAt p t i) (Int.dvd_mul_right (2 ^ (41 - (i + 1))) 2)
      rw [ih] at this
      simpa using this.symm
    rw [rtAt]
    split
    · rw [e2, Int.add_emod, ih2]; simp
    · exact ih2
theorem K_ref : (plI 312).map (fun p => rtAt p 3 41 % 4294967296) = KS := by decide +kernel
theorem H_ref : (plI 20).map (fun p => rtAt p 2 41 % 4294967296) = HS := by decide +kernel

/-- The number at a slice, whatever base world. -/
def NbI (w wr : World) (v : Value) (n : Int) (L : Nat) : Prop := NbS w wr v n L
theorem NbS.more {w w1 w2 : World} {v : Value} {n : Int} {L : Nat} (h : NbS w w1 v n L) (hb : Below w1.heap.size w1 w2) : NbS w w2 v n L := by
  obtain ⟨ao, len, cap, xs, rfl, h1, h2, h3, h4⟩ := h
  exact ⟨ao, len, cap, xs, rfl, h1.old hb, h2, h3, h4.trans (hb.mono h4.size)⟩
theorem NbS.base {w w1 w2 : World} {v : Value} {n : Int} {L : Nat} (h : NbS w1 w2 v n L) (hb : Below w.heap.size w w1) : NbS w w2 v n L := by
  obtain ⟨ao, len, cap, xs, rfl, h1, h2, h3, h4⟩ := h
  exact ⟨ao, len, cap, xs, rfl, h1, h2, h3, hb.trans (h4.mono hb.size)⟩
theorem NbS.below {w w1 : World} {v : Value} {n : Int} {L : Nat} (h : NbS w w1 v n L) : Below w.heap.size w w1 := by
  obtain ⟨ao, len, cap, xs, rfl, h1, h2, h3, h4⟩ := h
  exact h4
theorem NbS.wide {w w1 : World} {v : Value} {n : Int} {L L' : Nat} (h : NbS w w1 v n L) (hL : L ≤ L') : NbS w w1 v n L' := by
  obtain ⟨ao, len, cap, xs, rfl, h1, h2, h3, h4⟩ := h
  exact ⟨ao, len, cap, xs, rfl, h1, h2, by omega, h4⟩
/-- mul of numbers in memory. -/
theorem sMul_nb {w wr : World} {v u : Value} {n m : Int} {L M : Nat} (h : NbS w wr v n L) (h' : NbS w wr u m M) (hL : L ≤ 1000) (hM : M ≤ 1000) :
    Calls Try.prog 99 #[v, u] wr fun e w' => ∃ x, e = .returned x ∧ NbS w w' x (n * m) (L + M) ∧ Below wr.heap.size wr w' := by
  obtain ⟨ao, la, ca, xs, rfl, h1, rfl, h3, h4⟩ := h
  obtain ⟨bo, lb, cb, ys, rfl, g1, rfl, g3, g4⟩ := h'
  refine (sMul_any ao bo la ca lb cb xs ys wr h1 g1 (by omega) (by omega)).mono ?_
  rintro e w' ⟨x, rfl, hx⟩
  exact ⟨x, rfl, (hx.base h4).wide (by omega), hx.below⟩
theorem sAdd_nb {w wr : World} {v : Value} {n : Int} (bit : Nat) (h : NbS w wr v n 3) (hbit : bit ≤ 40) (hm : n % 2 ^ (bit + 1) = 0) :
    Calls Try.prog 98 #[v, .int .i64 bit] wr fun e w' => ∃ x, e = .returned x ∧ NbS w w' x (n + 2 ^ bit) 3 ∧ Below wr.heap.size wr w' := by
  obtain ⟨ao, la, ca, xs, rfl, h1, rfl, h3, h4⟩ := h
  refine (sAdd_any ao la ca xs bit wr h1 hbit h3 hm).mono ?_
  rintro e w' ⟨x, rfl, hx⟩
  exact ⟨x, rfl, hx.base h4, hx.below⟩
theorem sCmp_nb {w wr : World} {v u : Value} {n m : Int} {L M : Nat} (h : NbS w wr v n L) (h' : NbS w wr u m M) (hL : L ≤ 1000) (hM : M ≤ 1000) :
    Calls Try.prog 100 #[v, u] wr fun e w' => e = .returned (.int .i64 (cmpI n m)) ∧ w' = wr := by
  obtain ⟨ao, la, ca, xs, rfl, h1, rfl, h3, h4⟩ := h
  obtain ⟨bo, lb, cb, ys, rfl, g1, rfl, g3, g4⟩ := h'
  exact sCmp_any ao bo la ca lb cb xs ys wr h1 g1 (by omega) (by omega)

/-- The two lowest digits, put together. -/
theorem low_two (xs : List Int) (hd : Dg D16 xs) : xs.getD 1 0 * 65536 + xs.getD 0 0 = val D16 xs % 4294967296 := by
  match xs, hd with
  | [], _ => simp [val]
  | [x], hd => have := hd x (by simp); have hD : D16 = 65536 := rfl; rw [hD] at this; simp [val]; omega
  | x :: y :: l, hd =>
    have hx := hd x (by simp)
    have hy := hd y (by simp)
    have hD : D16 = 65536 := rfl
    rw [hD] at hx hy
    simp only [val, hD, List.getD, List.getElem?_cons_succ, List.getElem?_cons_zero, Option.getD_some]
    omega

theorem cmpI_le (a b : Int) : cmpI a b ≤ 0 ↔ a ≤ b := by
  unfold cmpI
  split
  · omega
  · split <;> omega

set_option maxHeartbeats 4000000 in
/-- the document's root. -/
theorem sRoot_any (p : Int) (t : Nat) (w : World) (hp0 : 0 ≤ p) (hp1 : p < 65536) (ht1 : 1 ≤ t) (ht : t ≤ 3) :
    Calls Try.prog 81 #[.int .i64 p, .int .i64 t] w fun e w' => e = .returned (.int .u32 (rtAt p t 41 % 4294967296)) ∧ Below w.heap.size w w' := by
  go_enter Try.func81, Try.ntmps81
  go_wp2
  go_loopw [5, 6] (fun vx vb wr => ∃ (i : Nat), i ≤ 41 ∧ vb = .int .i64 (40 - (i : Int)) ∧ NbS w wr vx (rtAt p t i) 3) (fun _ vb _ => (intOf vb + 1).toNat)
  case atStart => exact ⟨0, by omega, rfl, some ⟨w.heap.size, 0, none⟩, 0, 0, [], rfl, ⟨Lies.empty _ _ _, Nat.le_refl _, by simp [maxLen], (fun h => by cases h), Dg.nil _, by omega⟩, rfl, by omega, below_alloc w _⟩
  case round =>
    obtain ⟨i, hi, rfl, hx⟩ := hrel
    by_cases hlt : i < 41
    · obtain ⟨bit, hbit⟩ : ∃ bit, 40 - i = bit := ⟨_, rfl⟩
      have hbI : (40 : Int) - (i : Int) = (bit : Int) := by omega
      have hb40 : bit ≤ 40 := by omega
      have hmul := rtAt_mult p t i hi
      rw [show 41 - i = bit + 1 by omega] at hmul
      have HNX : Hid (rtAt p t (i + 1) = if (rtAt p t i + 2 ^ bit) ^ t ≤ p * D16 ^ (2 * t) then rtAt p t i + 2 ^ bit else rtAt p t i) := by unfold Hid; rw [← hbit]; rfl
      have HA := sAdd_nb bit hx hb40 hmul
      have HX : Hid (NbS w wr u5 (rtAt p t i) 3) := hx
      generalize rtAt p t i = X at *
      clear hmul hx hbit
      rw [hbI]
      go_wp2_with fail
      refine HA.mono ?_
      rintro e w1 ⟨vy, rfl, hy, hb1⟩
      have HY : Hid (NbS w w1 vy (X + 2 ^ bit) 3 ∧ NbS w w1 u5 X 3) := ⟨hy, HX.out.more hb1⟩
      clear HA HX hy hb1
      go_wp2
      go_loopw [8, 9] (fun vz vi wr => ∃ (j : Nat), 1 ≤ j ∧ j ≤ t ∧ vi = .int .i64 j ∧ NbS w wr vz ((X + 2 ^ bit) ^ j) (3 * j) ∧ NbS w wr vy (X + 2 ^ bit) 3 ∧ NbS w wr u5 X 3) (fun _ vi _ => t - (intOf vi).toNat)
      case atStart => exact ⟨1, by omega, ht1, rfl, by rw [Int.pow_one]; exact HY.out.1, HY.out⟩
      case round =>
        obtain ⟨j, hj1, hjt, rfl, hz, hy, hx⟩ := hrel
        clear HY
        by_cases hjl : j < t
        · have HM := sMul_nb hz hy (by omega) (by omega)
          have HK : Hid (NbS w wr vy (X + 2 ^ bit) 3 ∧ NbS w wr u5 X 3) := ⟨hy, hx⟩
          have HE : Hid ((X + 2 ^ bit) ^ j * (X + 2 ^ bit) = (X + 2 ^ bit) ^ (j + 1)) := (Int.pow_succ _ _).symm
          rw [HE.out] at HM
          clear hz hy hx
          go_wp2_with (go_at_call 99; refine HM.mono ?_; rintro e w2 ⟨v2, rfl, hv2, hb2⟩)
          go_roundw
          case rel => exact ⟨j + 1, by omega, by omega, by go_num, hv2.wide (by omega), HK.out.1.more hb2, HK.out.2.more hb2⟩
          case measure => simp [intOf] <;> omega
        · obtain rfl : j = t := by omega
          have HSH := sShifted_any p (2 * j) wr hp0 hp1 (by omega)
          obtain ⟨m, hm⟩ : ∃ m, 16 * (2 * j) = m := ⟨_, rfl⟩
          rw [hm] at HSH
          have hmI : 32 * (j : Int) = (m : Int) := by omega
          have HZ : Hid (NbS w wr u8 ((X + 2 ^ bit) ^ j) (3 * j) ∧ NbS w wr vy (X + 2 ^ bit) 3 ∧ NbS w wr u5 X 3) := ⟨hz, hy, hx⟩
          clear hz hy hx hm
          go_wp2_with fail
          refine HSH.mono ?_
          rintro e w2 ⟨vs, rfl, hs⟩
          have hb2 := hs.below
          have HC := sCmp_nb (HZ.out.1.more hb2) (hs.base HZ.out.1.below) (by omega) (by omega)
          have HW2 : Hid (NbS w w2 vy (X + 2 ^ bit) 3 ∧ NbS w w2 u5 X 3) := ⟨HZ.out.2.1.more hb2, HZ.out.2.2.more hb2⟩
          clear HSH HZ hs hb2
          by_cases hle : (X + 2 ^ bit) ^ j ≤ p * D16 ^ (2 * j)
          · rw [if_pos hle] at HNX
            have hcc := (cmpI_le ((X + 2 ^ bit) ^ j) (p * D16 ^ (2 * j))).2 hle
            generalize cmpI ((X + 2 ^ bit) ^ j) (p * D16 ^ (2 * j)) = cc at *
            clear hle
            go_wp2_with (go_at_call 100; refine HC.mono ?_; rintro e w3 ⟨rfl, rfl⟩)
            go_roundw
            case rel => exact ⟨i + 1, by omega, int_eq' (by omega), by rw [HNX.out]; exact HW2.out.1⟩
            case measure => simp [intOf] <;> omega
          · rw [if_neg hle] at HNX
            have hcc : ¬ cmpI ((X + 2 ^ bit) ^ j) (p * D16 ^ (2 * j)) ≤ 0 := fun h => hle ((cmpI_le _ _).1 h)
            generalize cmpI ((X + 2 ^ bit) ^ j) (p * D16 ^ (2 * j)) = cc at *
            clear hle
            go_wp2_with (go_at_call 100; refine HC.mono ?_; rintro e w3 ⟨rfl, rfl⟩)
            go_roundw
            case rel => exact ⟨i + 1, by omega, int_eq' (by omega), by rw [HNX.out]; exact HW2.out.2⟩
            case measure => simp [intOf] <;> omega
    · have hge : ¬ ((0 : Int) ≤ 40 - (i : Int)) := by omega
      have HI : Hid (i = 41) := by unfold Hid; omega
      obtain ⟨ao, len, cap, xs, rfl, hnum, hv, hl3, hb⟩ := hx
      have hlen := hnum.len
      have HF : Hid (rtAt p t 41 % 4294967296 = xs.getD 1 0 * 65536 + xs.getD 0 0 ∧ NumIn .i64 D16 wr ao len cap xs ∧ Below w.heap.size w wr) := ⟨by rw [low_two xs hnum.dg, hv, HI.out], hnum, hb⟩
      have g0 := hnum.dg.getD D16_pos 0
      have g1 := hnum.dg.getD D16_pos 1
      have hD : D16 = 65536 := rfl
      rw [hD] at g0 g1
      clear hv hnum hb hD
      go_wp2
      go_loop [10, 11] (fun vo vi => ∃ (j : Nat), j ≤ 2 ∧ vi = .int .i64 (1 - (j : Int)) ∧ vo = .int .u32 (if j = 0 then 0 else if j = 1 then xs.getD 1 0 else xs.getD 1 0 * 65536 + xs.getD 0 0)) (fun _ vi => (intOf vi + 1).toNat)
      case atStart => exact ⟨0, by omega, rfl, rfl⟩
      case round =>
        obtain ⟨j, hj, rfl, rfl⟩ := hrel
        have : j = 0 ∨ j = 1 ∨ j = 2 := by omega
        rcases this with rfl | rfl | rfl
        · simp only [if_true]
          by_cases h1 : 1 < len
          · obtain ⟨b, off, rfl, _, hcs⟩ := HF.out.2.1.lies.at (by omega)
            have hc := hcs 1 h1
            have h1I : (1 : Int) < (len : Int) := by omega
            generalize xs.getD 1 0 = x1 at *
            clear hcs
            go_wp2
            exact ⟨⟨1, by omega, rfl, rfl⟩, by simp [intOf]⟩
          · have h0 := getD_over xs 1 (by omega)
            have h1I : ¬ (1 : Int) < (len : Int) := by omega
            generalize xs.getD 1 0 = x1 at *
            subst h0
            go_wp2
            exact ⟨⟨1, by omega, rfl, rfl⟩, by simp [intOf]⟩
        · simp only [Nat.one_ne_zero, if_false, if_true]
          by_cases h1 : 0 < len
          · obtain ⟨b, off, rfl, _, hcs⟩ := HF.out.2.1.lies.at (by omega)
            have hc := hcs 0 h1
            rw [Nat.add_zero] at hc
            have h1I : (0 : Int) < (len : Int) := by omega
            have hw1 : (xs.getD 1 0 * 65536 + xs.getD 0 0) % 4294967296 = xs.getD 1 0 * 65536 + xs.getD 0 0 := by omega
            have HW1 : Hid ((xs.getD 1 0 * 65536 + xs.getD 0 0) % 4294967296 = xs.getD 1 0 * 65536 + xs.getD 0 0) := hw1
            generalize xs.getD 1 0 = x1 at *
            generalize xs.getD 0 0 = x0 at *
            clear hcs hw1
            go_wp2
            exact ⟨⟨2, by omega, rfl, int_eq' (by simp)⟩, by simp [intOf]⟩
          · have h0 := getD_over xs 0 (by omega)
            have h1I : ¬ (0 : Int) < (len : Int) := by omega
            generalize xs.getD 1 0 = x1 at *
            generalize xs.getD 0 0 = x0 at *
            subst h0
            go_wp2
            exact ⟨⟨2, by omega, rfl, int_eq' (by simp)⟩, by simp [intOf]⟩
        · have HE : Hid ((if (2 : Nat) = 0 then (0 : Int) else if (2 : Nat) = 1 then xs.getD 1 0 else xs.getD 1 0 * 65536 + xs.getD 0 0) = rtAt p t 41 % 4294967296) := by unfold Hid; rw [HF.out.1]; rfl
          rw [HE.out]
          obtain ⟨R, hR⟩ : ∃ R, rtAt p t 41 % 4294967296 = R := ⟨_, rfl⟩
          rw [hR]
          have HRR : Hid (rtAt p t 41 % 4294967296 = R) := hR
          clear hR HE
          go_wp2
          go_ret
          exact ⟨by rw [HRR.out]; rfl, HF.out.2.2⟩
end Go.Proofs.Yticopomchoahnaa
/-
  Contracts of the document's primes and Words.
-/
namespace Go.Proofs.Yticopomchoahnaa
open Go.RowKit
set_option linter.unusedVariables false
set_option linter.unusedSimpArgs false

theorem Try.infoI' : (Try.prog.info? 3).map (fun i => (i.zero, i.size, i.bytes)) = some (some (.int .i64 0), 1, 8) := by kernel_rfl
set_option maxHeartbeats 2000000 in
/-- the document's primes. -/
theorem rprimes_any (c N : Nat) (w : World) (hc : c ≤ 64) (hN1 : (pl N).length = c) (hN2 : ∀ n, 2 ≤ n → n < N → (pl n).length < c) (hN3 : 2 ≤ N) (hN4 : N ≤ 1000) :
    Calls Try.prog 80 #[.int .i64 c] w fun e w' => ∃ ao cap, e = .returned (.slice ao c cap) ∧ Lies .i64 w' ao c (plI N) ∧ Below w.heap.size w w' ∧ c ≤ cap := by
  have HN1 : Hid ((pl N).length = c) := hN1
  have HN2 : Hid (∀ n, 2 ≤ n → n < N → (pl n).length < c) := hN2
  clear hN1 hN2
  go_enter Try.func80, Try.ntmps80
  go_wp2
  go_loopw [3, 4] (fun vf vn wr => ∃ (n : Nat), 2 ≤ n ∧ n ≤ N ∧ vn = .int .i64 n ∧ Own 3 .i64 wr w.heap.size vf (plI n) ∧ Below w.heap.size w wr) (fun _ vn _ => N - (intOf vn).toNat)
  case atStart => exact ⟨2, by omega, by omega, rfl, Own.nil _ _ _ _, Below.refl _ _⟩
  case round =>
    obtain ⟨n, h2n, hnN, rfl, hown, hb⟩ := hrel
    have hlen : (pl n).length ≤ 64 := by
      by_cases h : n < N
      · have := HN2.out n h2n h; omega
      · have := HN1.out; rw [show n = N by omega]; omega
    obtain ⟨ao, cap, rfl, hnum⟩ := hown.num (B := 18446744073709551616) (fun x hx => by
      obtain ⟨y, hy, rfl⟩ := List.mem_map.1 hx
      have := pl_small n y hy
      omega) (by rw [plI_length]; omega)
    have HL : Hid (Lies .i64 wr ao (plI n).length (plI n)) := hnum.lies
    have hcp := hnum.lc
    obtain ⟨L, hL⟩ : ∃ L, (plI n).length = L := ⟨_, rfl⟩
    rw [hL] at hown HL hcp ⊢
    rw [plI_length] at hL
    have HLL : Hid ((pl n).length = L) := hL
    rw [hL] at hlen
    have HO : Hid (Own 3 .i64 wr w.heap.size (.slice ao L cap) (plI n) ∧ Below w.heap.size w wr) := ⟨hown, hb⟩
    clear hown hb hL hnum
    by_cases hlt : n < N
    · have hLc : L < c := by have := HN2.out n h2n hlt; have := HLL.out; omega
      have hltI : ((L : Int) < (c : Int)) := by omega
      go_wp2
      go_loop [5, 6] (fun vs vk => ∃ (j : Nat) (s : Bool), j ≤ L ∧ vk = .int .i64 j ∧ vs = .bool s ∧ (s = true ↔ ∀ i, i < j → n % (pl n).getD i 0 ≠ 0)) (fun _ vk => L - (intOf vk).toNat)
      case atStart => exact ⟨0, true, by omega, rfl, rfl, by simp⟩
      case round =>
        obtain ⟨j, s, hj, rfl, rfl, hs⟩ := hrel
        have HS : Hid (s = true ↔ ∀ i, i < j → n % (pl n).getD i 0 ≠ 0) := hs
        clear hs
        by_cases hjl : j < L
        · have hjI : ((j : Int) < (L : Int)) := by omega
          obtain ⟨b, off, rfl, hblk, hcs⟩ := HL.out.at (by omega)
          have hcl := hcs j (by omega)
          rw [plI_get n j (by have := HLL.out; omega)] at hcl
          have hpb := pl_get n j (by have := HLL.out; omega)
          obtain ⟨q, hq⟩ : ∃ q, (pl n).getD j 0 = q := ⟨_, rfl⟩
          rw [hq] at hcl hpb
          have HQ : Hid ((pl n).getD j 0 = q) := hq
          have hq0 : ¬ ((q : Int) = 0) := by omega
          clear hcs hq
          have HNEXT : Hid (∀ s2 : Bool, (s2 = true ↔ s = true ∧ n % q ≠ 0) → (s2 = true ↔ ∀ i, i < j + 1 → n % (pl n).getD i 0 ≠ 0)) := fun s2 h2 => by
            rw [h2, HS.out]
            constructor
            · rintro ⟨h3, h4⟩ i hi
              by_cases e : i = j
              · rw [e, HQ.out]; exact h4
              · exact h3 i (by omega)
            · intro h3
              exact ⟨fun i hi => h3 i (by omega), by have := h3 j (by omega); rw [HQ.out] at this; exact this⟩
          cases s with
          | false =>
            go_wp2
            go_round
            case rel => exact ⟨j + 1, false, by omega, by go_num, rfl, HNEXT.out false (by simp)⟩
            case measure => simp [intOf] <;> omega
          | true =>
            by_cases hz : n % q = 0
            · have HZ : Hid (n % q = 0) := hz
              have hzI : ((n : Int) % (q : Int)) = 0 := by omega
              clear hz
              go_wp2
              go_round
              case rel => exact ⟨j + 1, false, by omega, by go_num, rfl, HNEXT.out false (by simp [HZ.out])⟩
              case measure => simp [intOf] <;> omega
            · have HZ : Hid (n % q ≠ 0) := hz
              have hzI : ¬ ((n : Int) % (q : Int)) = 0 := by omega
              clear hz
              go_wp2
              go_round
              case rel => exact ⟨j + 1, true, by omega, by go_num, by rw [show ((n : Int) % (q : Int) != 0) = true from by simpa using hzI], HNEXT.out true (by simp [HZ.out])⟩
              case measure => simp [intOf] <;> omega
        · have hjI : ¬ ((j : Int) < (L : Int)) := by omega
          cases s with
          | true =>
            have HY : Hid (plI (n + 1) = plI n ++ [(n : Int)] ∧ (plI n).length < 1073741824) := by
              refine ⟨?_, by rw [plI_length]; have := HLL.out; omega⟩
              unfold plI
              rw [pl_yes n h2n (fun i hi => HS.out.1 rfl i (by have := HLL.out; omega))]
              simp
            go_wp2_with (at_builtin; refine wpList_append_one rfl _ _ 52 rfl 3 .i64 8 Try.underlying52 Try.infoI' w.heap.size (.slice ao L cap) (plI n) (n : Int) (by rfl) HO.out.1 (by rfl) HY.out.2 (by decide) w HO.out.2 HO.out.2.size ?_; intro v' w' hown' hb')
            go_roundw
            case rel => exact ⟨n + 1, by omega, by omega, by go_num, by rw [HY.out.1]; exact hown', hb'⟩
            case measure => simp [intOf] <;> omega
          | false =>
            have HY : Hid (plI (n + 1) = plI n) := by
              unfold Hid plI
              by_cases h : ∃ i, i < (pl n).length ∧ n % (pl n).getD i 0 = 0
              · obtain ⟨i, hi, h0⟩ := h
                rw [pl_no n i hi h0]
              · exfalso
                have := HS.out.2 (fun i hi h0 => h ⟨i, by have := HLL.out; omega, h0⟩)
                cases this
            go_wp2
            go_roundw
            case rel => exact ⟨n + 1, by omega, by omega, by go_num, by rw [HY.out]; exact HO.out.1, HO.out.2⟩
            case measure => simp [intOf] <;> omega
    · have hLc : L = c := by have := HN1.out; have := HLL.out; rw [show n = N by omega] at this; omega
      have HNN : Hid (n = N) := by unfold Hid; omega
      clear HN1 HN2
      have hltI : ¬ ((L : Int) < (c : Int)) := by omega
      go_wp2
      go_ret
      have e := HNN.out
      subst e
      subst hLc
      exact ⟨ao, cap, rfl, HL.out, HO.out.2, hcp⟩

def g2 (p : Int) : Int := rtAt p 2 41 % 4294967296
def g3 (p : Int) : Int := rtAt p 3 41 % 4294967296
theorem K_ref' : ((plI 312).take 64).map g3 = KS := by decide +kernel
theorem H_ref' : ((plI 312).take 8).map g2 = HS := by decide +kernel
theorem take_map_succ (l : List Int) (g : Int → Int) (i : Nat) (h : i < l.length) : (l.take (i + 1)).map g = (l.take i).map g ++ [g (l.getD i 0)] := by
  rw [List.take_succ_eq_append_getElem h, List.map_append]
  have : l.getD i 0 = l[i] := by simp [List.getD, h]
  rw [this]
  rfl

set_option maxRecDepth 100000 in
set_option maxHeartbeats 2000000 in
/-- the document's Words. -/
theorem Words_any (w : World) : Calls Try.prog 63 #[] w fun e w' => ∃ gh ch gk ck, e = .returned (.tuple #[.slice (some ⟨gh, 0, none⟩) 8 ch, .slice (some ⟨gk, 0, none⟩) 64 ck]) ∧ OwnAt 137 .u32 w' gh ch HS ∧ OwnAt 137 .u32 w' gk ck KS ∧ gh ≠ gk ∧ w.heap.size ≤ gh ∧ w.heap.size ≤ gk ∧ Below w.heap.size w w' := by
  have HP := rprimes_any 64 312 w (by omega) pl312 (fun n _ h => by have := pl_mono (show n ≤ 311 by omega); rw [pl311] at this; omega) (by omega) (by omega)
  have HT : Hid (((plI 312).take 64).map g3 = KS ∧ ((plI 312).take 8).map g2 = HS ∧ (plI 312).length = 64 ∧ ∀ j, 0 ≤ (plI 312).getD j 0 ∧ (plI 312).getD j 0 < 65536) := by
    refine ⟨K_ref', H_ref', by rw [plI_length]; exact pl312, fun j => ?_⟩
    by_cases h : j < (pl 312).length
    · rw [plI_get _ _ h]; have := pl_get 312 j h; omega
    · rw [getD_over _ _ (by rw [plI_length]; omega)]; omega
  generalize plI 312 = l at *
  go_enter Try.func63, Try.ntmps63
  go_wp2_with fail
  refine HP.mono ?_
  rintro e w1 ⟨ao, cap, rfl, hlies, hb1, hcap⟩
  obtain ⟨b, off, rfl, hblk, _⟩ := hlies.at (by omega)
  have HL : Hid (Lies .i64 w1 (some ⟨b, off, none⟩) 64 l ∧ Below w.heap.size w w1 ∧ b < w1.heap.size) := ⟨hlies, hb1, hblk⟩
  clear hlies hb1 HP
  go_wp2
  go_loopw [3, 5] (fun vh vi wr => ∃ (i : Nat), i ≤ 8 ∧ vi = .int .i64 i ∧ Own 137 .u32 wr w1.heap.size vh ((l.take i).map g2) ∧ Below w1.heap.size w1 wr) (fun _ vi _ => 8 - (intOf vi).toNat)
  case atStart => exact ⟨0, by omega, rfl, Own.nil _ _ _ _, Below.refl _ _⟩
  case round =>
    obtain ⟨i, hi, rfl, hown, hb⟩ := hrel
    by_cases hlt : i < 8
    · have hc : wr.cell? ⟨b, off + i, none⟩ = some (.int .i64 (l.getD i 0)) := by
        obtain ⟨b', off', e, _, hcs⟩ := (HL.out.1.old hb).at (by omega)
        cases e
        exact hcs i (by omega)
      have HR := fun w => sRoot_any (l.getD i 0) 2 w (HT.out.2.2.2 i).1 (HT.out.2.2.2 i).2 (by omega) (by omega)
      have HE : Hid ((l.take (i + 1)).map g2 = (l.take i).map g2 ++ [rtAt (l.getD i 0) 2 41 % 4294967296] ∧ ((l.take i).map g2).length < 1073741824) := ⟨take_map_succ l g2 i (by have := HT.out; omega), by simp; omega⟩
      have HO : Hid (Own 137 .u32 wr w1.heap.size u3 ((l.take i).map g2) ∧ Below w1.heap.size w1 wr) := ⟨hown, hb⟩
      generalize rtAt (l.getD i 0) 2 41 % 4294967296 = y at *
      generalize l.getD i 0 = p at *
      generalize (l.take i).map g2 = xs at *
      clear hown hb
      go_wp2_with fail
      refine (HR _).mono ?_
      rintro e w2 ⟨rfl, hb2⟩
      have HO2 : Hid (Own 137 .u32 w2 w1.heap.size u3 xs ∧ Below w1.heap.size w1 w2) := ⟨HO.out.1.below hb2, HO.out.2.trans (hb2.mono HO.out.2.size)⟩
      clear HO hb2 hc HR
      go_wp2_with (at_builtin; refine wpList_append_one rfl _ _ 134 rfl 137 .u32 4 Try.underlying134 Try.infoW w1.heap.size u3 xs y (by rfl) HO2.out.1 (by rfl) HE.out.2 (by decide) w1 HO2.out.2 HO2.out.2.size ?_; intro v' w' hown' hb')
      go_roundw
      case rel => exact ⟨i + 1, by omega, by go_num, by rw [HE.out.1]; exact hown', hb'⟩
      case measure => simp [intOf] <;> omega
    · have hown8 : Own 137 .u32 wr w1.heap.size u3 HS := by
        have := hown
        rw [show i = 8 by omega, HT.out.2.1] at this
        exact this
      obtain ⟨gh, ch, rfl, hat, hgh⟩ := hown8.at (by decide)
      have HW2 : Hid (OwnAt 137 .u32 wr gh ch HS ∧ w1.heap.size ≤ gh ∧ Below w1.heap.size w1 wr) := ⟨hat, hgh, hb⟩
      clear hown hown8 hat hgh hb
      generalize hw2 : wr = w2 at *
      clear hw2
      have hlenH : HS.length = 8 := rfl
      rw [hlenH]
      go_wp2
      go_loopw [4, 6] (fun vh vi wr => ∃ (i : Nat), i ≤ 64 ∧ vi = .int .i64 i ∧ Own 137 .u32 wr w2.heap.size vh ((l.take i).map g3) ∧ Below w2.heap.size w2 wr) (fun _ vi _ => 64 - (intOf vi).toNat)
      case atStart => exact ⟨0, by omega, rfl, Own.nil _ _ _ _, Below.refl _ _⟩
      case round =>
        obtain ⟨i, hi, rfl, hown, hb⟩ := hrel
        by_cases hlt : i < 64
        · have hc : wr.cell? ⟨b, off + i, none⟩ = some (.int .i64 (l.getD i 0)) := by
            obtain ⟨b', off', e, _, hcs⟩ := ((HL.out.1.old HW2.out.2.2).old hb).at (by omega)
            cases e
            exact hcs i (by omega)
          have HR := fun w => sRoot_any (l.getD i 0) 3 w (HT.out.2.2.2 i).1 (HT.out.2.2.2 i).2 (by omega) (by omega)
          have HE : Hid ((l.take (i + 1)).map g3 = (l.take i).map g3 ++ [rtAt (l.getD i 0) 3 41 % 4294967296] ∧ ((l.take i).map g3).length < 1073741824) := ⟨take_map_succ l g3 i (by have := HT.out; omega), by simp; omega⟩
          have HO : Hid (Own 137 .u32 wr w2.heap.size u4 ((l.take i).map g3) ∧ Below w2.heap.size w2 wr) := ⟨hown, hb⟩
          generalize rtAt (l.getD i 0) 3 41 % 4294967296 = y at *
          generalize l.getD i 0 = p at *
          generalize (l.take i).map g3 = xs at *
          clear hown hb
          go_wp2_with fail
          refine (HR _).mono ?_
          rintro e w3 ⟨rfl, hb3⟩
          have HO2 : Hid (Own 137 .u32 w3 w2.heap.size u4 xs ∧ Below w2.heap.size w2 w3) := ⟨HO.out.1.below hb3, HO.out.2.trans (hb3.mono HO.out.2.size)⟩
          clear HO hb3 hc HR
          go_wp2_with (at_builtin; refine wpList_append_one rfl _ _ 134 rfl 137 .u32 4 Try.underlying134 Try.infoW w2.heap.size u4 xs y (by rfl) HO2.out.1 (by rfl) HE.out.2 (by decide) w2 HO2.out.2 HO2.out.2.size ?_; intro v' w' hown' hb')
          go_roundw
          case rel => exact ⟨i + 1, by omega, by go_num, by rw [HE.out.1]; exact hown', hb'⟩
          case measure => simp [intOf] <;> omega
        · have hown8 : Own 137 .u32 wr w2.heap.size u4 KS := by
            have := hown
            rw [show i = 64 by omega, HT.out.1] at this
            exact this
          obtain ⟨gk, ck, rfl, hat, hgk⟩ := hown8.at (by decide)
          have hlenK : KS.length = 64 := rfl
          rw [hlenK]
          have HF : Hid (OwnAt 137 .u32 wr gh ch HS ∧ OwnAt 137 .u32 wr gk ck KS ∧ gh ≠ gk ∧ w.heap.size ≤ gh ∧ w.heap.size ≤ gk ∧ Below w.heap.size w wr) := by
            obtain ⟨a1, a2, a3⟩ := HW2.out
            have hlt2 := a1.lt
            have hs1 := HL.out.2.1.size
            have hs2 := a3.size
            exact ⟨a1.below hb hlt2, hat, by omega, by omega, by omega, HL.out.2.1.trans ((a3.mono hs1).trans (hb.mono (by omega)))⟩
          clear hown hown8 hat hb HW2
          go_wp2
          go_ret2
          exact ⟨gh, ch, gk, ck, rfl, HF.out⟩
end Go.Proofs.Yticopomchoahnaa
/-
  Contracts of sha.ending and sha.spread.
-/
namespace Go.Proofs.Yticopomchoahnaa
open Go.RowKit
set_option linter.unusedVariables false
set_option linter.unusedSimpArgs false

theorem getD_set_same' (l : List Int) (i : Nat) (x : Int) (h : i < l.length) : (l.set i x).getD i 0 = x := by simp [List.getD, h]
theorem getD_set_other' (l : List Int) (i j : Nat) (x : Int) (h : i ≠ j) : (l.set i x).getD j 0 = l.getD j 0 := by simp [List.getD, List.getElem?_set_ne h]
theorem ext_getD' (l m : List Int) (h : l.length = m.length) (hj : ∀ j, j < l.length → l.getD j 0 = m.getD j 0) : l = m := by
  apply List.ext_getElem h
  intro j h1 h2
  have := hj j h1
  simpa [List.getD, h1, h2] using this

theorem pad8_length (n : Nat) : (pad8 n).length = 8 := by simp [pad8]
theorem pad8_get (n j : Nat) (h : j < 8) : (pad8 n).getD j 0 = (8 * n : Int) / 2 ^ (56 - 8 * j) % 256 := by simp [pad8, List.getD, h]
theorem ending_length (n : Nat) : (ending n).length = gapN n + 9 := by simp [ending, pad8_length]
theorem ending_zero (n : Nat) : (ending n).getD 0 0 = 128 := rfl
theorem ending_mid (n j : Nat) (h0 : 0 < j) (h : j < gapN n + 1) : (ending n).getD j 0 = 0 := by
  obtain ⟨i, rfl⟩ : ∃ i, j = i + 1 := ⟨j - 1, by omega⟩
  unfold ending
  simp only [List.getD, List.getElem?_cons_succ]
  rw [List.getElem?_append_left (by simp; omega)]
  simp [List.getElem?_replicate, show i < gapN n by omega]
theorem ending_last (n j : Nat) (h0 : gapN n + 1 ≤ j) (h : j < gapN n + 9) : (ending n).getD j 0 = (8 * n : Int) / 2 ^ (8 * (gapN n + 8 - j)) % 256 := by
  obtain ⟨i, rfl⟩ : ∃ i, j = i + 1 := ⟨j - 1, by omega⟩
  have e : (ending n).getD (i + 1) 0 = (pad8 n).getD (i - gapN n) 0 := by
    unfold ending
    simp only [List.getD, List.getElem?_cons_succ]
    rw [List.getElem?_append_right (by simp; omega)]
    simp
  rw [e, pad8_get _ _ (by omega), show 56 - 8 * (i - gapN n) = 8 * (gapN n + 8 - (i + 1)) by omega]

/-- What is hashed behind, i bytes of the length in their places. -/
def EndP (n i : Nat) (cur : List Int) : Prop :=
  cur.length = gapN n + 9 ∧ cur.getD 0 0 = 128 ∧ (∀ j, 0 < j → j < gapN n + 9 - i → cur.getD j 0 = 0) ∧ ∀ j, gapN n + 9 - i ≤ j → j < gapN n + 9 → cur.getD j 0 = (8 * n : Int) / 2 ^ (8 * (gapN n + 8 - j)) % 256
theorem EndP.zero (n : Nat) : EndP n 0 ((List.replicate (gapN n + 9) 0).set 0 128) := by
  refine ⟨by simp, getD_set_same' _ _ _ (by simp), fun j h1 h2 => ?_, fun j h1 h2 => by omega⟩
  rw [getD_set_other' _ _ _ _ (by omega)]
  simp [List.getD, List.getElem?_replicate]; split <;> rfl
theorem EndP.step {n i : Nat} {cur : List Int} (h : EndP n i cur) (hi : i < 8) : EndP n (i + 1) (cur.set (gapN n + 8 - i) ((8 * n : Int) / 2 ^ (8 * i) % 256)) := by
  obtain ⟨h1, h2, h3, h4⟩ := h
  refine ⟨by simpa using h1, ?_, fun j a b => ?_, fun j a b => ?_⟩
  · rw [getD_set_other' _ _ _ _ (by omega)]; exact h2
  · rw [getD_set_other' _ _ _ _ (by omega)]; exact h3 j a (by omega)
  · by_cases e : j = gapN n + 8 - i
    · subst e
      rw [getD_set_same' _ _ _ (by omega), show gapN n + 8 - (gapN n + 8 - i) = i by omega]
    · rw [getD_set_other' _ _ _ _ (by omega)]; exact h4 j (by omega) b
theorem EndP.done {n : Nat} {cur : List Int} (h : EndP n 8 cur) : cur = ending n := by
  obtain ⟨h1, h2, h3, h4⟩ := h
  refine ext_getD' _ _ (by rw [h1, ending_length]) fun j hj => ?_
  rw [h1] at hj
  by_cases e0 : j = 0
  · subst e0; rw [h2]; rfl
  · by_cases e1 : j < gapN n + 1
    · rw [h3 j (by omega) (by omega), ending_mid n j (by omega) e1]
    · rw [h4 j (by omega) hj, ending_last n j (by omega) hj]

theorem spreadS_length (l : List Int) : (spreadS l).length = 32 := by simp [spreadS]
theorem spreadS_get (l : List Int) (j : Nat) (h : j < 32) : (spreadS l).getD j 0 = l.getD (j / 4) 0 / 2 ^ (24 - 8 * (j % 4)) % 256 := by simp [spreadS, List.getD, h]
/-- The first i bytes. -/
def SprP (l : List Int) (i : Nat) (cur : List Int) : Prop := cur.length = 32 ∧ ∀ j, j < i → cur.getD j 0 = (spreadS l).getD j 0
theorem SprP.step {l cur : List Int} {i : Nat} (h : SprP l i cur) (hi : i < 32) : SprP l (i + 1) (cur.set i ((spreadS l).getD i 0)) := by
  refine ⟨by simpa using h.1, fun j hj => ?_⟩
  by_cases e : j = i
  · subst e; exact getD_set_same' _ _ _ (by rw [h.1]; exact hi)
  · rw [getD_set_other' _ _ _ _ (by omega)]; exact h.2 j (by omega)
theorem SprP.done {l cur : List Int} (h : SprP l 32 cur) : cur = spreadS l :=
  ext_getD' _ _ (by rw [h.1, spreadS_length]) fun j hj => h.2 j (by rw [h.1] at hj; exact hj)

theorem Row.setOther2 {e : TypeId} {k : IntKind} {w : World} {g : Nat} {xs : List Int} (h : Row e k w g xs) {p : Addr} (hp : g ≠ p.block) (v : Value) : Row e k (w.setCell p v) g xs := by
  unfold Row
  rw [heap_setCell_other w p g v hp]
  exact h

end Go.Proofs.Yticopomchoahnaa
/-
  A hash in memory: its cells, what is read and written of them.
-/
namespace Go.Proofs.Yticopomchoahnaa
open Go.RowKit
set_option linter.unusedVariables false
set_option linter.unusedSimpArgs false

/-- ButS for block g the world w' is as w was. -/
structure ButS (g : Nat) (w w' : World) : Prop where
  os : w'.os = w.os
  tape : w'.tape = w.tape
  output : w'.output = w.output
  size : w.heap.size ≤ w'.heap.size
  block : ∀ k, k < w.heap.size → k ≠ g → w'.heap[k]? = w.heap[k]?
theorem ButS.refl (g : Nat) (w : World) : ButS g w w := ⟨rfl, rfl, rfl, Nat.le_refl _, fun _ _ _ => rfl⟩
theorem ButS.trans {g : Nat} {a b c : World} (h : ButS g a b) (k : ButS g b c) : ButS g a c :=
  ⟨k.os.trans h.os, k.tape.trans h.tape, k.output.trans h.output, Nat.le_trans h.size k.size, fun i hi hg => (k.block i (Nat.lt_of_lt_of_le hi h.size) hg).trans (h.block i hi hg)⟩
theorem ButS.ofBelow {g : Nat} {w w' : World} (h : Below w.heap.size w w') : ButS g w w' := ⟨h.os, h.tape, h.output, h.size, fun k hk _ => h.block k hk⟩
theorem ButS.below {g B : Nat} {w w' : World} (h : ButS g w w') (hB : B ≤ g) (hw : B ≤ w.heap.size) : Below B w w' := ⟨h.os, h.tape, h.output, h.size, fun k hk => h.block k (by omega) (by omega)⟩
theorem ButS.setRow (g : Nat) (w : World) (cs : Array Value) : ButS g w (w.setRow g cs) := ⟨rfl, rfl, rfl, by simp, fun k _ hk => setRow_other w g k cs hk⟩
theorem ButS.setCell (g : Nat) (w : World) (j : Nat) (v : Value) : ButS g w (w.setCell ⟨g, j, none⟩ v) := ⟨rfl, rfl, rfl, by simp [World.setCell], fun k _ hk => heap_setCell_other w ⟨g, j, none⟩ k v hk⟩
theorem ButS.drewN (g : Nat) (w : World) (n : Nat) : ButS g w (w.drewN n) := ButS.ofBelow (Drew.below ⟨n, rfl⟩ _)
theorem ButS.row {g : Nat} {w w' : World} (h : ButS g w w') {e : TypeId} {k : IntKind} {j : Nat} {xs : List Int} (hr : Row e k w j xs) (hj : j ≠ g) : Row e k w' j xs := by
  unfold Row
  rw [h.block j hr.lt hj]
  exact hr
theorem ButS.lies {g : Nat} {w w' : World} (h : ButS g w w') {k : IntKind} {ao : Option Addr} {len : Nat} {xs : List Int} (hl : Lies k w ao len xs) (hj : ∀ b off s, ao = some ⟨b, off, s⟩ → b ≠ g) : Lies k w' ao len xs := by
  refine ⟨hl.1, ?_⟩
  rcases hl.2 with h0 | ⟨b, off, e, hlt, hc⟩
  · exact .inl h0
  · refine .inr ⟨b, off, e, Nat.lt_of_lt_of_le hlt h.size, fun i hi => ?_⟩
    rw [← hc i hi]
    exact World.cell?_of_block (w := w) (h.block b hlt (hj b off none e))

/-- The cells of a hash. -/
def HC (n : Int) (ws rs : List Int) : List Value := Value.int .u64 n :: (ws.map (Value.int .u32) ++ rs.map (Value.int .u8))
theorem HC_length (n : Int) (ws rs : List Int) : (HC n ws rs).length = 1 + ws.length + rs.length := by simp [HC]; omega
theorem HC_word (n : Int) (ws rs : List Int) (j : Nat) (h : j < ws.length) : (HC n ws rs)[1 + j]? = some (.int .u32 (ws.getD j 0)) := by
  rw [Nat.add_comm]
  simp only [HC, List.getElem?_cons_succ]
  rw [List.getElem?_append_left (by simpa using h)]
  simp [List.getD, h]
theorem HC_rest (n : Int) (ws rs : List Int) (j : Nat) (h : j < rs.length) : (HC n ws rs)[1 + ws.length + j]? = some (.int .u8 (rs.getD j 0)) := by
  rw [show 1 + ws.length + j = (ws.length + j) + 1 by omega]
  simp only [HC, List.getElem?_cons_succ]
  rw [List.getElem?_append_right (by simp)]
  simp [List.getD, h]
theorem HC_words (n : Int) (ws rs vs : List Int) (h : vs.length = ws.length) : (HC n ws rs).take (1 + 0) ++ vs.map (Value.int .u32) ++ (HC n ws rs).drop (1 + 0 + (vs.map (Value.int .u32)).length) = HC n vs rs := by
  have e : 1 + 0 + (vs.map (Value.int .u32)).length = ws.length + 1 := by simp; omega
  rw [e]
  simp only [HC, Nat.add_zero, List.take_succ_cons, List.take_zero, List.drop_succ_cons]
  rw [List.drop_append_of_le_length (by simp), List.drop_eq_nil_of_le (by simp)]
  simp
theorem HC_over (n : Int) (ws rs cs : List Int) (o : Nat) (h : o + cs.length ≤ rs.length) : (HC n ws rs).take (1 + ws.length + o) ++ cs.map (Value.int .u8) ++ (HC n ws rs).drop (1 + ws.length + o + (cs.map (Value.int .u8)).length) = HC n ws (rs.take o ++ cs ++ rs.drop (o + cs.length)) := by
  rw [show 1 + ws.length + o = (ws.length + o) + 1 by omega]
  have e : ws.length + o + 1 + (cs.map (Value.int .u8)).length = (ws.length + (o + cs.length)) + 1 := by simp; omega
  rw [e]
  simp only [HC, List.take_succ_cons, List.drop_succ_cons, List.cons_append]
  congr 1
  have h1 : (ws.map (Value.int .u32)).length = ws.length := by simp
  rw [← h1, List.take_length_add_append, List.drop_length_add_append]
  simp

end Go.Proofs.Yticopomchoahnaa
/-
  Contract of sha.schedule.
-/
namespace Go.Proofs.Yticopomchoahnaa
open Go.RowKit
set_option linter.unusedVariables false
set_option linter.unusedSimpArgs false

theorem getD_set_same (l : List Int) (i : Nat) (x : Int) (h : i < l.length) : (l.set i x).getD i 0 = x := by simp [List.getD, h]
theorem getD_set_other (l : List Int) (i j : Nat) (x : Int) (h : i ≠ j) : (l.set i x).getD j 0 = l.getD j 0 := by simp [List.getD, List.getElem?_set_ne h]
theorem getD_take (l : List Int) (n j : Nat) (h : j < n) : (l.take n).getD j 0 = l.getD j 0 := by simp [List.getD, List.getElem?_take, h]
theorem ext_getD (l m : List Int) (h : l.length = m.length) (hj : ∀ j, j < l.length → l.getD j 0 = m.getD j 0) : l = m := by
  apply List.ext_getElem h
  intro j h1 h2
  have := hj j h1
  simpa [List.getD, h1, h2] using this

theorem pw_bounds (b : List Int) (hd : Dg 256 b) (i : Nat) : ∀ k, 0 ≤ pw b i k ∧ pw b i k < 256 ^ k
  | 0 => by simp [pw]
  | k + 1 => by
    have h1 := pw_bounds b hd i k
    have h2 := hd.getD (by decide) (4 * i + k)
    rw [pw, Int.pow_succ]
    omega

/-- The first words of a block, i of them whole, the next one's first k bytes. -/
def SchA (b : List Int) (i k : Nat) (cur : List Int) : Prop :=
  cur.length = 64 ∧ (∀ j, j < i → cur.getD j 0 = pw b j 4) ∧ cur.getD i 0 = pw b i k ∧ ∀ j, i < j → cur.getD j 0 = 0
theorem SchA.zero (b : List Int) : SchA b 0 0 (List.replicate 64 0) := ⟨by simp, fun j h => by omega, getD_zeros _ _, fun j _ => getD_zeros _ _⟩
theorem SchA.step {b cur : List Int} {i k : Nat} (h : SchA b i k cur) (hi : i < 16) : SchA b i (k + 1) (cur.set i (cur.getD i 0 * 256 + b.getD (4 * i + k) 0)) := by
  obtain ⟨h1, h2, h3, h4⟩ := h
  refine ⟨by simpa using h1, fun j hj => ?_, ?_, fun j hj => ?_⟩
  · rw [getD_set_other _ _ _ _ (by omega)]; exact h2 j hj
  · rw [getD_set_same _ _ _ (by omega), h3]; rfl
  · rw [getD_set_other _ _ _ _ (by omega)]; exact h4 j hj
theorem SchA.next {b cur : List Int} {i : Nat} (h : SchA b i 4 cur) : SchA b (i + 1) 0 cur := by
  obtain ⟨h1, h2, h3, h4⟩ := h
  refine ⟨h1, fun j hj => ?_, ?_, fun j hj => h4 j (by omega)⟩
  · by_cases e : j = i
    · rw [e]; exact h3
    · exact h2 j (by omega)
  · rw [h4 (i + 1) (by omega)]; rfl

theorem words16_length (b : List Int) : (words16 b).length = 16 := by simp [words16]
theorem words16_get (b : List Int) (j : Nat) (h : j < 16) : (words16 b).getD j 0 = pw b j 4 := by simp [words16, List.getD, h]
theorem schedGo_length : ∀ (n : Nat) (l : List Int), (schedGo n l).length = l.length + n
  | 0, l => by simp [schedGo]
  | n + 1, l => by rw [schedGo, schedGo_length n]; simp; omega
theorem schedGo_succ : ∀ (n : Nat) (l : List Int), schedGo (n + 1) l = schedGo n l ++ [wNext (schedGo n l) (l.length + n)]
  | 0, l => by simp [schedGo]
  | n + 1, l => by
    rw [schedGo, schedGo_succ n]
    have : (l ++ [wNext l l.length]).length + n = l.length + (n + 1) := by simp; omega
    rw [this]
    rfl
theorem wNext_take (l : List Int) (i : Nat) (h : 16 ≤ i) : wNext (l.take i) i = wNext l i := by
  unfold wNext
  rw [getD_take _ _ _ (by omega), getD_take _ _ _ (by omega), getD_take _ _ _ (by omega), getD_take _ _ _ (by omega)]

/-- The words of a block, i of them. -/
def SchB (b : List Int) (i : Nat) (cur : List Int) : Prop := cur.length = 64 ∧ cur.take i = schedGo (i - 16) (words16 b)
theorem SchA.done {b cur : List Int} (h : SchA b 16 0 cur) : SchB b 16 cur := by
  refine ⟨h.1, ?_⟩
  apply ext_getD
  · rw [schedGo_length, words16_length]; have := h.1; simp; omega
  · intro j hj
    have hj' : j < 16 := by have := h.1; simp at hj; omega
    rw [getD_take _ _ _ hj', h.2.1 j hj']
    exact (words16_get b j hj').symm
theorem take_succ_set (l : List Int) (i : Nat) (x : Int) (h : i < l.length) : (l.set i x).take (i + 1) = l.take i ++ [x] := by
  rw [List.take_succ_eq_append_getElem (by simpa using h)]
  simp [List.take_set_of_le]
theorem SchB.step {b cur : List Int} {i : Nat} (h : SchB b i cur) (h1 : 16 ≤ i) (h2 : i < 64) : SchB b (i + 1) (cur.set i (wNext cur i)) := by
  obtain ⟨hl, ht⟩ := h
  refine ⟨by simpa using hl, ?_⟩
  rw [take_succ_set _ _ _ (by omega), ht, show i + 1 - 16 = (i - 16) + 1 by omega, schedGo_succ, words16_length, show 16 + (i - 16) = i by omega, ← ht, wNext_take _ _ h1]
theorem SchB.done {b cur : List Int} (h : SchB b 64 cur) : cur = sched b := by
  obtain ⟨hl, ht⟩ := h
  rw [List.take_of_length_le (by omega)] at ht
  exact ht

theorem Row.setOther {e : TypeId} {k : IntKind} {w : World} {g : Nat} {xs : List Int} (h : Row e k w g xs) {p : Addr} (hp : g ≠ p.block) (v : Value) : Row e k (w.setCell p v) g xs := by
  unfold Row
  rw [heap_setCell_other w p g v hp]
  exact h
/-- A byte put behind a word. -/
theorem or_byte (a d : Int) (ha : 0 ≤ a) (ha' : a < 16777216) (hd : 0 ≤ d) (hd' : d < 256) : bits .or .u32 (a * 256) d = a * 256 + d := by
  obtain ⟨x, rfl⟩ := Int.eq_ofNat_of_zero_le ha
  obtain ⟨y, rfl⟩ := Int.eq_ofNat_of_zero_le hd
  show IntKind.u32.wrap ((BitVec.ofInt 32 ((x : Int) * 256) ||| BitVec.ofInt 32 (y : Int)).toNat : Int) = _
  rw [BitVec.toNat_or, show ((x : Int) * 256) = ((x * 256 : Nat) : Int) by omega, ofInt_u32 (x * 256) (by omega), ofInt_u32 y (by omega)]
  have : x * 256 ||| y = x * 256 + y := by
    have := Nat.two_pow_add_eq_or_of_lt (i := 8) (b := y) (by omega) x
    rw [Nat.mul_comm]; exact this.symm
  rw [this, IntKind.wrap_u32]
  omega

end Go.Proofs.Yticopomchoahnaa
/-
  Contract of sha.mix.
-/
namespace Go.Proofs.Yticopomchoahnaa
open Go.RowKit
set_option linter.unusedVariables false
set_option linter.unusedSimpArgs false

theorem sched_length (b : List Int) : (sched b).length = 64 := by unfold sched; rw [schedGo_length, words16_length]

theorem int_eq {k : IntKind} {x y : Int} (h : x = y) : Value.int k x = Value.int k y := by rw [h]
/-- What a round makes, in the walk's spelling. -/
theorem rnd_a (a b c d e f g h k w : Int) : ((h + bits .xor .u32 (bits .xor .u32 (rot e 6) (rot e 11)) (rot e 25) + bits .xor .u32 (bits .and .u32 e f) (bits .and .u32 (bits .xor .u32 (if IntKind.u32.signed = true then -1 else IntKind.u32.max) e) g) + k + w) % 4294967296 + (bits .xor .u32 (bits .xor .u32 (rot a 2) (rot a 13)) (rot a 22) + bits .xor .u32 (bits .xor .u32 (bits .and .u32 a b) (bits .and .u32 a c)) (bits .and .u32 b c)) % 4294967296) % 4294967296 = (rnd ⟨a, b, c, d, e, f, g, h⟩ k w).a := by
  have e0 : (if IntKind.u32.signed = true then -1 else IntKind.u32.max) = (4294967295 : Int) := rfl
  rw [e0]
  simp only [rnd, t1, t2, big0, big1, chI, majI, M32]
  omega
theorem rnd_e (a b c d e f g h k w : Int) : (d + (h + bits .xor .u32 (bits .xor .u32 (rot e 6) (rot e 11)) (rot e 25) + bits .xor .u32 (bits .and .u32 e f) (bits .and .u32 (bits .xor .u32 (if IntKind.u32.signed = true then -1 else IntKind.u32.max) e) g) + k + w) % 4294967296) % 4294967296 = (rnd ⟨a, b, c, d, e, f, g, h⟩ k w).e := by
  have e0 : (if IntKind.u32.signed = true then -1 else IntKind.u32.max) = (4294967295 : Int) := rfl
  rw [e0]
  simp only [rnd, t1, t2, big0, big1, chI, majI, M32]
  omega

end Go.Proofs.Yticopomchoahnaa
/-
  Blocks of bytes put in: plain mathematics.
-/
namespace Go.Proofs.Yticopomchoahnaa
open Go.RowKit
set_option linter.unusedVariables false
set_option linter.unusedSimpArgs false

theorem hb_append (xs ys : List Int) : ∀ n, 64 * n ≤ xs.length → hb (xs ++ ys) n = hb xs n
  | 0, _ => rfl
  | n + 1, h => by
    rw [hb, hb, hb_append xs ys n (by omega)]
    congr 1
    rw [List.drop_append_of_le_length (by omega), List.take_append_of_le_length (by simp; omega)]
theorem hb_length (xs : List Int) : ∀ n, (hb xs n).length = 8
  | 0 => rfl
  | n + 1 => rfl
theorem hb_succ (xs : List Int) (n : Nat) : hb xs (n + 1) = mixS KS (hb xs n) ((xs.drop (64 * n)).take 64) := rfl

/-- What a hash holds of all the bytes. -/
structure Holds (all ws rs : List Int) : Prop where
  words : 64 ≤ all.length → ws = hb all (all.length / 64)
  rest : rs.take (all.length % 64) = all.drop (64 * (all.length / 64))
  bytes : Dg 256 rs
  good : Dg 256 all
  len : all.length ≤ 1000000000000000

/-- The bytes held, with those that fill the block. -/
theorem full_block {all ws rs bs : List Int} (h : Holds all ws rs) (hr : rs.length = 64) (r : Nat) (hrr : all.length % 64 = r) (m : Nat) (hm : r + m = 64) (hb : m ≤ bs.length) (h0 : 0 < r) :
    rs.take r ++ bs.take m ++ rs.drop (r + m) = ((all ++ bs).drop (64 * (all.length / 64))).take 64 := by
  have h1 := h.rest
  rw [hrr] at h1
  rw [h1, hm, List.drop_eq_nil_of_le (show rs.length ≤ 64 by omega), List.append_nil, List.drop_append_of_le_length (by omega)]
  have hl : (all.drop (64 * (all.length / 64))).length = r := by simp; omega
  rw [List.take_append, List.take_of_length_le (show (all.drop (64 * (all.length / 64))).length ≤ 64 by omega), hl, show 64 - r = m by omega]

theorem drop_after {all bs : List Int} (r : Nat) (hrr : all.length % 64 = r) (m : Nat) (hm : r + m = 64) : (all ++ bs).drop (64 * (all.length / 64 + 1)) = bs.drop m := by
  have e : 64 * (all.length / 64 + 1) = all.length + m := by omega
  rw [e, List.drop_length_add_append]
theorem drop_none {all bs : List Int} (hrr : all.length % 64 = 0) : (all ++ bs).drop (64 * (all.length / 64)) = bs := by
  have e : 64 * (all.length / 64) = all.length + 0 := by omega
  rw [e, List.drop_length_add_append, List.drop_zero]
/-- All blocks are through. -/
theorem holds_done {T ws rs1 : List Int} (D ln : Nat) (hw : ws = hb T D) (hl : (T.drop (64 * D)).length = ln) (hln : ln < 64) (hD : 64 * D ≤ T.length) (hd : Dg 256 T) (hr : Dg 256 rs1) (hT : T.length ≤ 1000000000000000) :
    Holds T ws (rs1.take 0 ++ (T.drop (64 * D)).take ln ++ rs1.drop (0 + ln)) := by
  have e1 : T.length / 64 = D := by simp at hl; omega
  have e2 : T.length % 64 = ln := by simp at hl; omega
  refine ⟨fun _ => by rw [e1]; exact hw, ?_, ?_, hd, hT⟩
  · rw [e1, e2, List.take_zero, List.nil_append, List.take_append_of_le_length (by simp at hl ⊢; omega), List.take_take, Nat.min_self, List.take_of_length_le (by omega)]
  · exact (((hr.take 0).append ((hd.drop _).take _)).append (hr.drop _))
/-- Few bytes more. -/
theorem holds_few {all ws rs bs : List Int} (h : Holds all ws rs) (hr : rs.length = 64) (r : Nat) (hrr : all.length % 64 = r) (hb : r + bs.length < 64) (hd : Dg 256 bs) (hT : all.length + bs.length ≤ 1000000000000000) :
    Holds (all ++ bs) ws (rs.take r ++ bs.take bs.length ++ rs.drop (r + bs.length)) := by
  have e1 : (all ++ bs).length / 64 = all.length / 64 := by simp; omega
  have e2 : (all ++ bs).length % 64 = r + bs.length := by simp; omega
  refine ⟨fun hh => ?_, ?_, ?_, h.good.append hd, by simpa using hT⟩
  · rw [e1, hb_append _ _ _ (by omega)]; exact h.words (by simp at hh; omega)
  · have h1 := h.rest
    rw [hrr] at h1
    rw [e1, e2, List.take_append_of_le_length (by simp; omega), List.take_of_length_le (by simp; omega), h1, List.drop_append_of_le_length (by omega), List.take_of_length_le (Nat.le_refl _)]
  · exact (((h.bytes.take _).append (hd.take _)).append (h.bytes.drop _))
end Go.Proofs.Yticopomchoahnaa
/-
  Slices of a hash's bytes.
-/
namespace Go.Proofs.Yticopomchoahnaa
open Go.RowKit
/-- A function without results. -/
theorem results_none {P : Program} {fn : Func} (h : fn.results = #[]) (tmps : Array Value) (w : World) : (results fn tmps).run P w = .ok (.tuple #[]) w := by
  simp [results, h]
/-- An array's load and store, kept whole from the walk. -/
def HLD (t : TypeId) (p : Value) : Sem Value := Instr.loadAt t p
def HST (t : TypeId) (p v : Value) : Sem Unit := Instr.storeAt t p v
theorem keep_l32 (p : Value) : Instr.loadAt 86 p = HLD 86 p := rfl
theorem keep_s32 (p v : Value) : Instr.storeAt 86 p v = HST 86 p v := rfl
end Go.Proofs.Yticopomchoahnaa
/-
  Contract of (*sha.Hash).putBlocks.
-/
namespace Go.Proofs.Yticopomchoahnaa
open Go.RowKit
set_option linter.unusedVariables false
set_option linter.unusedSimpArgs false


theorem Try.sizeB : (Try.prog.info? 5).map (·.size) = some 1 := by kernel_rfl

theorem Row.range {e : TypeId} {k : IntKind} {w : World} {g : Nat} {xs : List Int} (h : Row e k w g xs) : w.rangeAt g 0 (xs.map (Value.int k)) := fun j v hv => by
  have hj : j < xs.length := by have := (List.getElem?_eq_some_iff.1 hv).1; rw [List.length_map] at this; exact this
  rw [Nat.zero_add, h.cell j hj, ← hv]
  simp [List.getD, hj]
/-- b[m:]. -/
theorem lies_cut (b off len cap m : Nat) (bs : List Int) (hlc : len ≤ cap) (hm : m ≤ len) : ∃ A : Addr, (if cap = m then some (⟨b, off, none⟩ : Addr) else some ⟨b, off + m, none⟩) = some A ∧ Hid (∀ wx, Lies .u8 wx (some ⟨b, off, none⟩) len bs → Lies .u8 wx (some A) (len - m) (bs.drop m) ∧ A.block = b ∧ A.spot = none) := by
  by_cases h : cap = m
  · refine ⟨⟨b, off, none⟩, by rw [if_pos h], fun wx hl => ⟨⟨by rw [List.length_drop, hl.1], .inl (by omega)⟩, rfl, rfl⟩⟩
  · refine ⟨⟨b, off + m, none⟩, by rw [if_neg h], fun wx hl => ⟨⟨by rw [List.length_drop, hl.1], ?_⟩, rfl, rfl⟩⟩
    by_cases h0 : len - m = 0
    · exact .inl h0
    · obtain ⟨b', off', e, hlt, hc⟩ := hl.at (by omega)
      cases e
      refine .inr ⟨b, off + m, rfl, hlt, fun i hi => ?_⟩
      rw [Nat.add_assoc, hc (m + i) (by omega)]
      simp [List.getD, List.getElem?_drop]

end Go.Proofs.Yticopomchoahnaa
/-
  Contracts of sha.New, Put, Sum, Of; nil ones.
-/
namespace Go.Proofs.Yticopomchoahnaa
open Go.RowKit
set_option linter.unusedVariables false
set_option linter.unusedSimpArgs false
attribute [local go_sem ↓] keep_s32
end Go.Proofs.Yticopomchoahnaa
/-
  Contracts of sha.New, Sum, Of.
-/
namespace Go.Proofs.Yticopomchoahnaa
open Go.RowKit
set_option linter.unusedVariables false
set_option linter.unusedSimpArgs false

theorem holds_nil (ws rs : List Int) (hr : Dg 256 rs) : Holds [] ws rs := ⟨fun h => by simp at h, rfl, hr, Dg.nil _, by simp⟩
def zeroC : List Value := HC 0 (List.replicate 8 0) (List.replicate 64 0)
theorem Try.builtB : Try.prog.built 86 [] = some (((List.replicate 32 (0 : Int)).map (Value.int .u8)).toArray) := by kernel_rfl
theorem gap_len (n : Nat) : (n + (gapN n + 9)) % 64 = 0 ∧ 64 ≤ n + (gapN n + 9) := by unfold gapN; omega

theorem lies_row {e : TypeId} {w : World} {g : Nat} {xs : List Int} {n : Nat} (h : Row e .u8 w g xs) (hn : xs.length = n) : Lies .u8 w (some ⟨g, 0, none⟩) n xs := by
  have := h.lies 0 xs.length (by omega)
  rw [hn] at this
  simpa [hn, List.take_of_length_le (show xs.length ≤ n by omega)] using this

end Go.Proofs.Yticopomchoahnaa
/-
  Arrays compared; contract of Awake (layer 3).
-/
namespace Go.Proofs.Yticopomchoahnaa
open Go.RowKit
set_option linter.unusedVariables false
set_option linter.unusedSimpArgs false

theorem Try.und24 : Try.prog.underlying 86 = some (.array 32 5) := Try.underlying86
theorem eq_loop (d : Nat) (xs : List Int) (w : World) : ∀ (l : List Nat), (∀ i ∈ l, i < xs.length) →
    (forIn l ((none, ()) : Option Bool × Unit) fun i r => do
      if !(← Op.equalIn (d + 1) 5 (← part 5 ((xs.map (Value.int .u8)).toArray) (i * 1)) (← part 5 ((xs.map (Value.int .u8)).toArray) (i * 1))) then (pure (ForInStep.done (some false, ())) : Sem (ForInStep (Option Bool × Unit))) else pure (ForInStep.yield (none, ()))).run Try.prog w = .ok (none, ()) w
  | [], _ => by simp
  | i :: l, h => by
    have hi := h i (by simp)
    have ih := eq_loop d xs w l (fun j hj => h j (by simp [hj]))
    have hp : (part 5 ((xs.map (Value.int .u8)).toArray) (i * 1)).run Try.prog w = .ok (.int .u8 xs[i]) w := by
      simp [part, Try.isAgg5, hi]
    simp only [List.forIn_cons, Sem.run_bind, hp, Result.andThen_ok, run_equalIn_int w d 5 .u8 .u8 _ _ Try.underlying5, beq_self_eq_true, Bool.not_true, Bool.false_eq_true, if_false, Sem.run_pure]
    exact ih
theorem eq_arr' (d : Nat) (xs : List Int) (hl : xs.length = 32) (w : World) : (Op.equalIn (d + 1 + 1) 86 (ag .u8 xs) (ag .u8 xs)).run Try.prog w = .ok true w := by
  have h := eq_loop d xs w (List.range' 0 32) (fun i hi => by rw [hl]; simpa using hi)
  unfold ag
  rw [Op.equalIn]
  simp only [Sem.run_bind, run_underlying Try.und24, Result.andThen_ok, Try.sizeOf5]
  rw [Std.Legacy.Range.forIn_eq_forIn_range']
  have e : (List.range' ([:32] : Std.Legacy.Range).start ([:32] : Std.Legacy.Range).size ([:32] : Std.Legacy.Range).step) = List.range' 0 32 := rfl
  rw [e, h]
  rfl
/-- Two arrays that are the same, compared. -/
theorem wpList_eql_ag {w : World} {ops : Array Oper} {rest : List Oper} {o : Oper} {a : Act} {Q : Exit → Act → World → Prop} (hgd : o.guard = none) (x y : Operand) (ty : TypeId) (hop : o.op = Op.binOp .eql 86 x y ty) (xs : List Int) (hl : xs.length = 32) (hx : a.eval x = ag .u8 xs) (hy : a.eval y = ag .u8 xs)
    (h : wpList Try.prog ops Q rest (a.put o.dst (.bool true)) w) : wpList Try.prog ops Q (o :: rest) a w := by
  refine wpList_plain hgd fun K hK => ?_
  have h1 := run_eqGuard_agg (P := Try.prog) w .eql 86 x y ((xs.map (Value.int .u8)).toArray) ((xs.map (Value.int .u8)).toArray) Try.eqGuardType86
  have h2 := run_eql_struct (P := Try.prog) w 86 ((xs.map (Value.int .u8)).toArray) ((xs.map (Value.int .u8)).toArray)
  have h3 := eq_arr' 9998 xs hl w
  unfold ag at h3 hx hy
  rw [h3] at h2
  unfold Oper.wp execOp
  simp only [hop, hx, hy, Sem.run_bind, h1, Result.andThen_ok, h2, Sem.run_pure]
  exact hK _ _ h

theorem Try.arrayLen32 : Try.prog.arrayLen 86 = 32 := by kernel_rfl
theorem Try.elem32 : Try.prog.elem 86 = 5 := by kernel_rfl
theorem Try.und32 : Try.prog.underlying 86 = some (.array (Try.prog.arrayLen 86) (Try.prog.elem 86)) := by rw [Try.arrayLen32, Try.elem32]; exact Try.underlying86
theorem slice_8 (g : Nat) (w : World) : (Instr.sliceAt 86 (.pointer (some ⟨g, 0, none⟩)) none (some (.int .i64 8)) none).run Try.prog w = .ok (.slice (some ⟨g, 0, none⟩) 8 32) w := by
  rw [run_sliceAt_array_h (t := 86) _ _ Try.und32 _ _ (by decide) (by rw [Try.arrayLen32]; decide), Try.arrayLen32, Try.elem32, Try.sizeOf5]
  simp [Result.andThen_ok, slicedAt, Addr.add]
theorem conv8 (g : Nat) (w : World) (xs : List Int) (h : Row 86 .u8 w g xs) (hl : 8 ≤ xs.length) : (convert 39 9 (.slice (some ⟨g, 0, none⟩) 8 32)).run Try.prog w = .ok (.string (strOfNums (xs.take 8))) w := by
  refine conv_bytes w 39 9 5 Try.underlying39 Try.underlying5 Try.underlying9 _ 8 32 _ ?_
  have := h.lies 0 8 (by omega)
  simpa using this

theorem shaS_length (l : List Int) : (shaS l).length = 32 := by unfold shaS; exact spreadS_length _

/-- Bytes of a constant text. -/
theorem conv_same (cs : Array Value) (n : Nat) (hn : cs.size = n) (w : World) : (convert 39 39 (.slice (some ⟨w.heap.size, 0, none⟩) n n)).run Try.prog (w.alloc (.cells cs 5)) = .ok (.slice (some ⟨w.heap.size, 0, none⟩) n n) (w.alloc (.cells cs 5 (n, n + 1))) := by
  have hsh : (w.alloc (.cells cs 5)).shape? w.heap.size = some (5, n) := by
    unfold World.shape?
    rw [heap_alloc_new w]
    simp [hn]
  have hfr : (w.alloc (.cells cs 5)).freeze ⟨w.heap.size, n, none⟩ 1 = w.alloc (.cells cs 5 (n, n + 1)) := by
    simp only [World.freeze, World.alloc]
    simp only [Nat.one_ne_zero, if_false]
    congr 1
    apply Array.ext_getElem?
    intro i
    rw [Array.getElem?_modify]
    by_cases h : w.heap.size = i
    · subst h
      simp
    · have h' : ¬ i = w.heap.size := fun e => h e.symm
      simp [h, h', Array.getElem?_push]
  simp [convert, run_underlying Try.underlying39, run_underlying Try.underlying5, markStringish, hsh, hfr]
theorem lies_frozen (e : TypeId) (xs : List Int) (n : Nat) (hn : xs.length = n) (fr : Nat × Nat) (w : World) : Lies .u8 (w.alloc (.cells ((xs.map (Value.int .u8)).toArray) e fr)) (some ⟨w.heap.size, 0, none⟩) n xs := by
  refine ⟨hn, .inr ⟨w.heap.size, 0, rfl, by simp, fun i hi => ?_⟩⟩
  rw [cell_of_row _ w.heap.size _ _ e fr (heap_alloc_new w _)]
  simp [List.getD, show i < xs.length by omega]
theorem strA : strOfNums [0xe3, 0xb0, 0xc4, 0x42, 0x98, 0xfc, 0x1c, 0x14] = ⟨#[227, 176, 196, 66, 152, 252, 28, 20]⟩ := rfl
theorem strB : strOfNums [0xba, 0x78, 0x16, 0xbf, 0x8f, 0x01, 0xcf, 0xea] = ⟨#[186, 120, 22, 191, 143, 1, 207, 234]⟩ := rfl

end Go.Proofs.Yticopomchoahnaa
/-
  Contract of the document's Sum.
-/
namespace Go.Proofs.Yticopomchoahnaa
open Go.RowKit
set_option linter.unusedVariables false
set_option linter.unusedSimpArgs false
attribute [local go_sem ↓] keep_l32 keep_s32

theorem Try.infoB' : (Try.prog.info? 5).map (fun i => (i.zero, i.size, i.bytes)) = some (some (.int .u8 0), 1, 1) := by kernel_rfl
theorem pad8_succ (n j : Nat) (h : j < 8) : (pad8 n).take (j + 1) = (pad8 n).take j ++ [(8 * n : Int) / 2 ^ (8 * (7 - j)) % 256] := by
  rw [List.take_succ_eq_append_getElem (by rw [pad8_length]; exact h)]
  have e := pad8_get n j h
  have e2 : (pad8 n).getD j 0 = (pad8 n)[j]'(by rw [pad8_length]; exact h) := by simp [List.getD, pad8_length, h]
  rw [← e2, e, show 56 - 8 * j = 8 * (7 - j) by omega]

/-- The words of a block, i of them. -/
def WP (b : List Int) (i : Nat) (cur : List Int) : Prop := (i ≤ 16 → SchA b i 0 cur) ∧ (16 ≤ i → SchB b i cur)
theorem WP.zero (b : List Int) : WP b 0 (List.replicate 64 0) := ⟨fun _ => SchA.zero b, fun h => by omega⟩
theorem WP.low {b cur : List Int} {i : Nat} (h : SchA b i 4 cur) (hi : i < 16) : WP b (i + 1) cur := ⟨fun _ => h.next, fun h16 => by
  have := h.next
  rw [show i + 1 = 16 by omega] at this ⊢
  exact this.done⟩
theorem WP.high {b cur : List Int} {i : Nat} (h : WP b i cur) (h1 : 16 ≤ i) (h2 : i < 64) : WP b (i + 1) (cur.set i (wNext cur i)) := ⟨fun h16 => by omega, fun _ => (h.2 h1).step h1 h2⟩
theorem WP.length {b cur : List Int} {i : Nat} (h : WP b i cur) : cur.length = 64 := by
  by_cases h1 : i ≤ 16
  · exact (h.1 h1).1
  · exact (h.2 (by omega)).1
theorem Row.drew {e : TypeId} {k : IntKind} {w : World} {g : Nat} {xs : List Int} (h : Row e k w g xs) : Row e k w.drew g xs := h
/-- The eight words, as a list. -/
def lst (s : S8) : List Int := [s.a, s.b, s.c, s.d, s.e, s.f, s.g, s.h]
theorem lst_s8 (l : List Int) (h : l.length = 8) : lst (s8 l) = l := by
  match l, h with
  | [a, b, c, d, e, f, g, i], _ => rfl
theorem addS_get (hs : List Int) (s : S8) (i : Nat) (h : i < 8) : (addS hs s).getD i 0 = (hs.getD i 0 + (lst s).getD i 0) % 4294967296 := by
  have : i = 0 ∨ i = 1 ∨ i = 2 ∨ i = 3 ∨ i = 4 ∨ i = 5 ∨ i = 6 ∨ i = 7 := by omega
  rcases this with rfl | rfl | rfl | rfl | rfl | rfl | rfl | rfl <;> rfl
/-- The words with their old values added, i of them. -/
def AddP (hs : List Int) (s : S8) (i : Nat) (cur : List Int) : Prop := cur.length = 8 ∧ (∀ j, j < i → cur.getD j 0 = (addS hs s).getD j 0) ∧ ∀ j, i ≤ j → cur.getD j 0 = hs.getD j 0
theorem AddP.zero {hs : List Int} (s : S8) (h : hs.length = 8) : AddP hs s 0 hs := ⟨h, fun j hj => by omega, fun j _ => rfl⟩
theorem AddP.step {hs cur : List Int} {s : S8} {i : Nat} (h : AddP hs s i cur) (hi : i < 8) : AddP hs s (i + 1) (cur.set i ((cur.getD i 0 + (lst s).getD i 0) % 4294967296)) := by
  refine ⟨by simpa using h.1, fun j hj => ?_, fun j hj => ?_⟩
  · by_cases e : j = i
    · subst e
      rw [getD_set_same _ _ _ (by rw [h.1]; exact hi), h.2.2 j (Nat.le_refl _), addS_get hs s j hi]
    · rw [getD_set_other _ _ _ _ (fun e' => e e'.symm)]; exact h.2.1 j (by omega)
  · rw [getD_set_other _ _ _ _ (by omega)]; exact h.2.2 j (by omega)
theorem AddP.done {hs cur : List Int} {s : S8} (h : AddP hs s 8 cur) : cur = addS hs s :=
  ext_getD _ _ (by rw [h.1]; rfl) fun j hj => h.2.1 j (by rw [h.1] at hj; exact hj)
theorem cell_alloc {w : World} {a : Addr} {v : Value} (o : Obj) (h : w.cell? a = some v) : (w.alloc o).cell? a = some v := by
  rw [World.cell?_alloc_lt _ _ _ (World.block_lt_of_cell? w _ h)]; exact h
/-- A slice of the call's own, opened. -/
theorem Own.open {e : TypeId} {k : IntKind} {w : World} {base : Nat} {v : Value} {xs : List Int} (h : Own e k w base v xs) : ∃ ao cap, v = .slice ao xs.length cap ∧ xs.length ≤ cap ∧ cap ≤ maxLen := by
  rcases h.2 with ⟨rfl, h0⟩ | ⟨g, cap, cur, rfl, hg, hrow, h1, h2, h3, h4⟩
  · exact ⟨none, 0, by rw [h0], by omega, by simp [maxLen]⟩
  · exact ⟨_, cap, rfl, h1, h2⟩

theorem ownAt_alloc (e : TypeId) (k : IntKind) (w : World) (cs : Array Value) (xs : List Int) (n : Nat) (h : cs.toList = xs.map (Value.int k)) (hn : xs.length = n) (hl : n ≤ maxLen) : OwnAt e k (w.alloc (.cells cs e)) w.heap.size n xs := by
  subst hn
  refine ⟨⟨cs, World.alloc_heap_new w _, ?_, ?_⟩, Nat.le_refl _, hl⟩
  · rw [h, List.take_of_length_le (by simp)]
  · rw [← Array.length_toList, h, List.length_map]

/-- The loops of a code, the outer ones first. -/
def loopsOf : Code → List Code
  | .seq a b => loopsOf a ++ loopsOf b
  | .cond _ a b => loopsOf a ++ loopsOf b
  | .block _ c => loopsOf c
  | .loop c => c :: loopsOf c
  | .scope c => loopsOf c
  | .rangeFunc _ _ a b => loopsOf a ++ loopsOf b
  | _ => []
theorem inBlock_exit (id : Nat) (Q : Exit → Act → World → Prop) (a : Act) (w : World) : Exit.inBlock id Q (.exit id) a w = Q .normal a w := if_pos rfl
end Go.Proofs.Yticopomchoahnaa
