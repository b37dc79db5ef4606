/-
  Contract of nat.Mul.
-/
import Derived.Test.YtdojbknkaoiioaaSub
namespace Go.Proofs.Ytdojbknkaoiioaa
open Go.RowKit
set_option linter.unusedVariables false
set_option linter.unusedSimpArgs false
attribute [local go_sem ↓] Go.wp_at_zero Go.wp_at_succ

theorem low_congr (B : Int) (xs ys : List Int) : ∀ (i : Nat), (∀ j, j < i → xs.getD j 0 = ys.getD j 0) → low B xs i = low B ys i
  | 0, _ => by simp [low_zero]
  | i + 1, h => by rw [low_succ, low_succ, low_congr B xs ys i (fun j hj => h j (by omega)), h i (by omega)]
theorem low_add (B : Int) (xs : List Int) (o : Nat) : ∀ (i : Nat), o + i ≤ xs.length → low B xs (o + i) = low B xs o + B ^ o * val B (seg xs o i)
  | 0, _ => by simp [seg, val]
  | i + 1, h => by
    rw [show o + (i + 1) = (o + i) + 1 by omega, low_succ, low_add B xs o i (by omega), seg_succ xs o i (by omega), val_append, seg_len xs o i (by omega)]
    simp only [val, Int.mul_zero, Int.add_zero, Int.pow_add]
    grind

/-- What stands in the row when i limbs of x have been gone over. -/
def Muls (xs ys : List Int) (i : Nat) (cur : List Int) : Prop :=
  cur.length = xs.length + ys.length ∧ Dg B64 cur ∧ (∀ j, i + ys.length ≤ j → cur.getD j 0 = 0) ∧ low B64 cur (i + ys.length) = low B64 xs i * val B64 ys
theorem getD_zeros (n j : Nat) : (List.replicate n (0 : Int)).getD j 0 = 0 := by
  simp [List.getD, List.getElem?_replicate]; split <;> rfl
theorem low_zeros (B : Int) (n i : Nat) : low B (List.replicate n 0) i = 0 := by
  unfold low
  exact val_zeros B _ (fun j => by
    simp only [List.getD, List.getElem?_take]
    split
    · exact getD_zeros n j
    · rfl)
theorem Muls.zero (xs ys : List Int) : Muls xs ys 0 (List.replicate (xs.length + ys.length) 0) :=
  ⟨by simp, Dg.zeros B64_pos _, fun j _ => getD_zeros _ j, by rw [low_zeros, low_zero, Int.zero_mul]⟩
theorem Muls.step {xs ys : List Int} {i : Nat} {cur cur' : List Int} {c : Int} (h : Muls xs ys i cur) (hi : i < xs.length) (hr : Runs 1 cur ys i ys.length (xs.getD i 0) cur' c) : Muls xs ys (i + 1) (cur'.set (i + ys.length) c) := by
  obtain ⟨h1, h2, h3, h4⟩ := h
  obtain ⟨r1, r2, r3, r4, r5, r6⟩ := hr
  refine ⟨by simp [r1, h1], r3.set _ ⟨r4, r5⟩, fun j hj => ?_, ?_⟩
  · rw [getD_set _ _ _ _ (by omega), if_neg (by omega), r2 j (by omega)]
    exact h3 j (by omega)
  · rw [show i + 1 + ys.length = (i + ys.length) + 1 by omega, low_set_succ _ _ _ _ (by omega), low_add _ _ _ _ (by omega)]
    rw [low_congr B64 cur' cur i (fun j hj => r2 j (by omega))]
    rw [low_add _ _ _ _ (by omega)] at h4
    rw [low_succ, Int.pow_add]
    rw [List.take_of_length_le (Nat.le_refl _)] at r6
    generalize val B64 (seg cur' i ys.length) = A at *
    generalize val B64 (seg cur i ys.length) = C at *
    generalize low B64 cur i = L at *
    generalize low B64 xs i = X at *
    generalize B64 ^ i = p at *
    generalize B64 ^ ys.length = q at *
    generalize val B64 ys = Y at *
    generalize xs.getD i 0 = t at *
    have e : L + p * A + p * q * c = L + p * (A + 1 * (q * c)) := by grind
    rw [e, r6]
    grind
theorem Muls.done {xs ys : List Int} {cur : List Int} (h : Muls xs ys xs.length cur) : val B64 cur = val B64 xs * val B64 ys := by
  rw [← low_len, h.1, h.2.2.2, low_len]

set_option maxHeartbeats 2000000 in
/-- nat.Mul. -/
theorem Mul_any (ao bo : Option Addr) (la ca lb cb : Nat) (xs0 ys0 : List Int) (w : World) (h0 : NumIn .u64 B64 w ao la ca xs0) (h0' : NumIn .u64 B64 w bo lb cb ys0) (hsum : la + lb < 1073741824) :
    Calls Try.prog 25 #[.slice ao la ca, .slice bo lb cb] w fun e w' => ∃ v, e = .returned v ∧ NumOut .u64 B64 w w' v (val B64 xs0 * val B64 ys0) (la + lb) := by
  have hl := h0.len
  have hl' := h0'.len
  have ht := top_le xs0
  have ht' := top_le ys0
  have h := h0.take (top xs0) (by omega)
  have h' := h0'.take (top ys0) (by omega)
  have HX := trim_any ao la ca xs0 w h0.lies h0.lc h0.cm h0.nn
  have HY := trim_any bo lb cb ys0 w h0'.lies h0'.lc h0'.cm h0'.nn
  rw [← val_take_top B64 xs0, ← val_take_top B64 ys0]
  have lx := h.len
  have ly := h'.len
  generalize xs0.take (top xs0) = xs at *
  generalize ys0.take (top ys0) = ys at *
  generalize top xs0 = n at *
  generalize top ys0 = m at *
  have hnm : n + m < 1073741824 := by omega
  have hnl : n ≤ la := by omega
  have hml : m ≤ lb := by omega
  clear h0 h0' ht ht' hl hl'
  go_enter Try.func25, Try.ntmps25
  go_wp2_with fail
  refine HX.mono ?_
  rintro e w1 ⟨rfl, rfl⟩
  go_wp2_with fail
  refine HY.mono ?_
  rintro e w2 ⟨rfl, rfl⟩
  go_wp2_with (at_make; refine wpList_make_row _ rfl _ _ 27 rfl 34 .u64 8 Try.underlying27 Try.infoU _ _ _ _ (n + m) rfl rfl (by omega) (by omega) (by omega) (by unfold maxLen; omega) ?_)
  intro w3 hrow hbel
  have hrow0 : Row 34 .u64 w3 w2.heap.size (List.replicate (xs.length + ys.length) 0) := by rw [lx, ly]; exact hrow
  go_wp2
  go_loopw [21] (fun i wr => ∃ (k : Nat) (cur : List Int), k ≤ n ∧ i = .int .i64 k ∧ Row 34 .u64 wr w2.heap.size cur ∧ Muls xs ys k cur ∧ Below w2.heap.size w2 wr) (fun i _ => n - (intOf i).toNat)
  case atStart => exact ⟨0, _, Nat.zero_le _, rfl, hrow0, Muls.zero xs ys, hbel⟩
  case round =>
    obtain ⟨k, cur, hk, rfl, hr, ha, hb⟩ := hrel
    by_cases hlt : k < n
    · have hx := h.lies.old hb
      have hy := h'.lies.old hb
      have hyne : 0 < m → ∀ b off s, bo = some ⟨b, off, s⟩ → b ≠ w2.heap.size := by
        intro h0 b off s hbo
        obtain ⟨b', off', e, hlt', _⟩ := h'.lies.at h0
        rw [e] at hbo
        injection hbo with hbo
        injection hbo with hbo
        omega
      have gx := h.dg.getD B64_pos k
      obtain ⟨b, off, rfl, hblk, hc⟩ := hx.at (by omega)
      have hcell := hc k (by omega)
      have hlen := ha.1
      have hst := fun cur' c => ha.step (cur' := cur') (c := c) (by omega)
      generalize xs.getD k 0 = x at *
      have i0 : (0 : Int) ≤ (k : Int) := by omega
      have i1 : (k : Int) < (n : Int) := by omega
      have i2 : (k : Int) ≤ (n + m : Nat) := by omega
      have i3 : (k : Int) < (n + m : Nat) := by omega
      have i4 : (k : Int) + m < (n + m : Nat) := by omega
      have hbne : some b ≠ some w2.heap.size := by
        obtain ⟨b', off', e, hlt', _⟩ := h.lies.at (by omega)
        injection e with e
        injection e with e
        simp; omega
      have HSTEP : Hid (∀ cur' c, Runs 1 cur ys k ys.length x cur' c → Muls xs ys (k + 1) (cur'.set (k + ys.length) c)) := hst
      unfold B64 at gx
      have HA := addTimes_any 34 w2.heap.size k (n + m - k) (n + m - k) bo m cb cur ys x wr.drew hr hy hyne (by omega) (by omega) (by unfold maxLen; omega) ha.2.1 h'.dg gx.1 gx.2
      have HCUR : Hid (cur.length = n + m) := by unfold Hid; omega
      have HB : Hid (Below w2.heap.size w2 wr) := hb
      clear hst ha hr hrow hbel h h' hx hy hc hrow0 HX HY hyne hb gx hlen
      go_wp2
      go_region_with (first | (go_at_call 62; refine HA.mono ?_; rintro e w4 ⟨cur', c, rfl, hrow', hrun', hgr'⟩; have hcell4 := hgr'.cell (a := ⟨b, off + k, none⟩) hcell hbne; have hfr4 := hrow'.frozen (k + m); have hcl4 := hrow'.cell (k + m) (by have := hrun'.1; have := HCUR.out; omega)))
      all_goals
        have HR : Hid (Row 34 .u64 (w4.setCell ⟨w2.heap.size, k + m, none⟩ (.int .u64 c)) w2.heap.size (cur'.set (k + m) c)) := hrow'.set (k + m) c
        have HM : Hid (Muls xs ys (k + 1) (cur'.set (k + m) c)) := by have := HSTEP.out cur' c (by rw [ly]; exact hrun'); rw [ly] at this; exact this
        have HBB : Hid (Below w2.heap.size w2 (w4.setCell ⟨w2.heap.size, k + m, none⟩ (.int .u64 c))) := (HB.out.drew.grown hgr' HB.out.size (fun j hj => by injection hj with hj; omega)).setCell (p := ⟨w2.heap.size, k + m, none⟩) (Nat.le_refl _) _
        clear hrow' hrun' hgr' HSTEP HA HB HCUR
        go_wp2
        go_roundw
        case rel => exact ⟨k + 1, _, by omega, by go_num, HR.out, HM.out, HBB.out⟩
        case measure => simp [intOf]; omega
    · obtain rfl : k = n := by omega
      have hlen := ha.1
      have hv : val B64 cur = val B64 xs * val B64 ys := by rw [← lx] at ha; exact ha.done
      have hr' := hr.num ha.2.1 (by omega)
      have HV : Hid _ := hv
      have HR : Hid (NumIn _ _ _ _ _ _ _) := hr'
      have HB : Hid (Below w2.heap.size w2 wr) := hb
      rw [hlen, lx, ly] at HR
      clear hv hr' ha hb hr hrow hbel hrow0 hlen h h' HX HY
      go_wp2_with fail
      refine (trim_any _ _ _ _ _ HR.out.lies HR.out.lc HR.out.cm HR.out.nn).mono ?_
      rintro e w4 ⟨rfl, rfl⟩
      go_wp2
      go_ret
      exact ⟨_, rfl, HR.out.out HB.out _ HV.out _ (by omega)⟩
end Go.Proofs.Ytdojbknkaoiioaa
