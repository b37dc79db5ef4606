import Derived.Test.YtnacgkkklmlhaaaK00
import Derived.Laws.BytesArg
import Derived.Laws.AppendOwnNone
/-
  Contracts of nat.Read and Bytes.
-/
namespace Go.Proofs.Ytnacgkkklmlhaaa
open Go.RowKit
set_option linter.unusedVariables false
set_option linter.unusedSimpArgs false
attribute [local go_sem ↓] Go.wp_at_zero Go.wp_at_succ

theorem val_set (B : Int) : ∀ (xs : List Int) (j : Nat) (y : Int), j < xs.length → val B (xs.set j y) = val B xs + B ^ j * (y - xs.getD j 0)
  | [], j, y, h => by simp at h
  | x :: xs, 0, y, _ => by simp [val]; omega
  | x :: xs, j + 1, y, h => by
    simp only [List.set_cons_succ, val, val_set B xs j y (by simpa using h), List.getD_cons_succ, Int.pow_succ]
    grind
theorem getD_reverse (xs : List Int) (k : Nat) (h : k < xs.length) : xs.reverse.getD k 0 = xs.getD (xs.length - 1 - k) 0 := by
  simp only [List.getD]
  rw [List.getElem?_reverse h]
theorem pow256 (k : Nat) : (256 : Int) ^ k = B64 ^ (k / 8) * 256 ^ (k % 8) := by
  have e : B64 = 256 ^ 8 := rfl
  rw [e, ← Int.pow_mul, ← Int.pow_add]
  congr 1
  omega
theorem pow2_8 (r : Nat) : (2 : Int) ^ (8 * r) = 256 ^ r := by
  rw [Int.pow_mul]; rfl
theorem pow256_le (r : Nat) (h : r < 8) : (256 : Int) ^ r * 256 ≤ 18446744073709551616 := by
  have := pow_mono (B := 256) (by decide) (show r + 1 ≤ 8 by omega)
  rw [Int.pow_succ] at this
  exact this

/-- What stands in the row when k bytes have been gone over. -/
def Reads (rb : List Int) (n k : Nat) (cur : List Int) : Prop :=
  cur.length = n ∧ Dg B64 cur ∧ (∀ j, k / 8 < j → cur.getD j 0 = 0) ∧ cur.getD (k / 8) 0 < 256 ^ (k % 8) ∧ val B64 cur = low 256 rb k
theorem Reads.zero (rb : List Int) (n : Nat) : Reads rb n 0 (List.replicate n 0) :=
  ⟨by simp, Dg.zeros B64_pos _, fun j _ => getD_zeros _ j, by rw [getD_zeros]; decide, by rw [val_replicate, low_zero]⟩
theorem Reads.step {rb : List Int} {n k : Nat} {cur : List Int} (h : Reads rb n k cur) (hn : k / 8 < n) (hd : 0 ≤ rb.getD k 0 ∧ rb.getD k 0 < 256) :
    Reads rb n (k + 1) (cur.set (k / 8) (bits .or .u64 (cur.getD (k / 8) 0) (IntKind.u64.wrap (rb.getD k 0 * 2 ^ (8 * (k % 8)))))) := by
  obtain ⟨h1, h2, h3, h4, h5⟩ := h
  have hp : (0 : Int) < 256 ^ (k % 8) := Int.pow_pos (by decide)
  have hle := pow256_le (k % 8) (by omega)
  have hy := h2.getD B64_pos (k / 8)
  obtain ⟨m, hm⟩ := Int.eq_ofNat_of_zero_le hd.1
  have hmul : rb.getD k 0 * 256 ^ (k % 8) + 256 ^ (k % 8) ≤ 18446744073709551616 := by
    have : (rb.getD k 0 + 1) * 256 ^ (k % 8) ≤ 256 * 256 ^ (k % 8) := Int.mul_le_mul_of_nonneg_right (by omega) (by omega)
    rw [Int.add_mul, Int.one_mul] at this
    omega
  have hnn : 0 ≤ rb.getD k 0 * 256 ^ (k % 8) := Int.mul_nonneg hd.1 (by omega)
  rw [IntKind.wrap_u64, pow2_8, Int.emod_eq_of_lt hnn (by omega)]
  rw [or_sum' (cur.getD (k / 8) 0) _ m (8 * (k % 8)) (by rw [pow2_8, hm]) ⟨hy.1, by rw [pow2_8]; exact h4⟩ (by rw [pow2_8]; exact hmul)]
  refine ⟨by simp [h1], h2.set _ ⟨by omega, by unfold B64; omega⟩, fun j hj => ?_, ?_, ?_⟩
  · rw [getD_set _ _ _ _ (by omega), if_neg (by omega)]
    exact h3 j (by omega)
  · rw [getD_set _ _ _ _ (by omega)]
    by_cases h7 : k % 8 = 7
    · rw [if_neg (by omega), h3 _ (by omega), show (k + 1) % 8 = 0 by omega]; decide
    · rw [if_pos (by omega), show (k + 1) % 8 = k % 8 + 1 by omega, Int.pow_succ]
      have : (rb.getD k 0 + 1) * 256 ^ (k % 8) ≤ 256 * 256 ^ (k % 8) := Int.mul_le_mul_of_nonneg_right (by omega) (by omega)
      rw [Int.add_mul, Int.one_mul] at this
      omega
  · rw [val_set _ _ _ _ (by omega), low_succ, pow256 k, h5]
    generalize rb.getD k 0 = d at *
    generalize cur.getD (k / 8) 0 = c at *
    generalize B64 ^ (k / 8) = p at *
    generalize (256 : Int) ^ (k % 8) = q at *
    grind

set_option maxHeartbeats 2000000 in
/-- nat.Read: at most 512 bytes. -/
theorem Read_yes (ao : Option Addr) (n ca : Nat) (bs : List Int) (w : World) (h : NumIn .u8 256 w ao n ca bs) (hn : n ≤ 512) :
    Calls Try.prog 22 #[.slice ao n ca] w fun e w' => ∃ v, e = .returned (.tuple #[v, .int .i64 0]) ∧ NumOut .u64 B64 w w' v (val 256 bs.reverse) 64 := by
  have hl := h.len
  go_enter Try.func22, Try.ntmps22
  go_wp2_with (at_make; refine wpList_make_row _ rfl _ _ 23 rfl 36 .u64 8 Try.underlying23 Try.infoU _ _ _ _ ((n + 7) / 8) rfl rfl (by omega) (by omega) (by omega) (by unfold maxLen; omega) ?_)
  intro w3 hrow hbel
  go_wp2
  go_loopw [18] (fun i wr => ∃ (k : Nat) (cur : List Int), k ≤ n ∧ i = .int .i64 k ∧ Row 36 .u64 wr w.heap.size cur ∧ Reads bs.reverse ((n + 7) / 8) k cur ∧ Below w.heap.size w wr) (fun i _ => n - (intOf i).toNat)
  case atStart => exact ⟨0, _, Nat.zero_le _, rfl, hrow, Reads.zero _ _, hbel⟩
  case round =>
    obtain ⟨k, cur, hk, rfl, hrw, ha, hb⟩ := hrel
    by_cases hlt : k < n
    · have hx := h.lies.old hb
      obtain ⟨b, off, rfl, hblk, hc⟩ := hx.at (by omega)
      have hlen := ha.1
      have hcell := hc (n - 1 - k) (by omega)
      have hfr := hrw.frozen (k / 8)
      have hcl := hrw.cell (k / 8) (by omega)
      have gx := h.dg.getD (by decide) (n - 1 - k)
      have er := getD_reverse bs k (by omega)
      rw [hl] at er
      have HS : Hid (Reads _ _ _ _) := ha.step (by omega) (by rw [er]; exact gx)
      rw [er] at HS
      have HR : Hid (Row _ _ _ _ _) := hrw.set (k / 8) (bits .or .u64 (cur.getD (k / 8) 0) (IntKind.u64.wrap (bs.getD (n - 1 - k) 0 * 2 ^ (8 * (k % 8)))))
      have HB : Hid (Below w.heap.size w wr) := hb
      generalize bs.getD (n - 1 - k) 0 = x at *
      generalize cur.getD (k / 8) 0 = y at *
      clear hrw hrow hbel hb hx hc h ha hlen er
      go_wp2
      go_region
      all_goals
        go_wp2
        go_roundw
        case rel => exact ⟨k + 1, _, by omega, by go_num, HR.out, HS.out, (HB.out.setCell (Nat.le_refl _) _).drew⟩
        case measure => simp [intOf]; omega
    · obtain rfl : k = n := by omega
      have hlen := ha.1
      have HV : Hid (val B64 cur = val 256 bs.reverse) := by
        unfold Hid
        rw [ha.2.2.2.2]
        have e : bs.reverse.length = k := by simp [hl]
        rw [← e, low_len]
      have HR : Hid (NumIn _ _ _ _ _ _ _) := hrw.num ha.2.1 (by omega)
      have HB : Hid (Below w.heap.size w wr) := hb
      rw [hlen] at HR
      clear ha hb hrw hrow hbel hlen h
      go_wp2_with fail
      refine (trim_any _ _ _ _ _ HR.out.lies HR.out.lc HR.out.cm HR.out.nn).mono ?_
      rintro e w4 ⟨rfl, rfl⟩
      go_wp2
      go_ret2
      exact ⟨_, rfl, HR.out.out HB.out _ HV.out _ (by omega)⟩

set_option maxHeartbeats 400000 in
/-- nat.Read: more bytes. -/
theorem Read_no (ao : Option Addr) (n ca : Nat) (w : World) (hn : 512 < n) (hm : n ≤ maxLen) :
    Calls Try.prog 22 #[.slice ao n ca] w fun e w' => e = .returned (.tuple #[.slice none 0 0, .int .i64 3]) ∧ w' = w := by
  go_enter Try.func22, Try.ntmps22
  go_wp2
  go_ret2
  exact ⟨rfl, rfl⟩

/-! ### Bits and bytes of a number's value -/
theorem digit_at {B : Int} (hB : 0 < B) (xs : List Int) (hd : Dg B xs) (j : Nat) : xs.getD j 0 = val B xs / B ^ j % B := by
  rw [← val_drop hB xs hd j]
  have e : xs.getD j 0 = (xs.drop j).getD 0 0 := by rw [getD_drop]; rfl
  rw [e]
  have hdd := hd.drop j
  cases h : xs.drop j with
  | nil => simp [val]
  | cons d ds =>
    rw [h] at hdd
    simp only [val, List.getD_cons_zero, Int.add_mul_emod_self_left]
    exact (Int.emod_eq_of_lt hdd.head.1 hdd.head.2).symm
/-- The byte of that place. -/
def byteAt (V : Int) (p : Nat) : Int := V / 256 ^ p % 256
theorem byte_of_limb (xs : List Int) (hd : Dg B64 xs) (p : Nat) : xs.getD (p / 8) 0 / 256 ^ (p % 8) % 256 = byteAt (val B64 xs) p := by
  unfold byteAt
  rw [digit_at B64_pos xs hd (p / 8), pow256 p]
  have hp : (0 : Int) < B64 ^ (p / 8) := Int.pow_pos B64_pos
  have hq : (0 : Int) < 256 ^ (p % 8) := Int.pow_pos (by decide)
  rw [← Int.ediv_ediv_of_nonneg (by omega)]
  generalize val B64 xs / B64 ^ (p / 8) = Y
  have e : B64 = 256 ^ (p % 8) * (256 * 256 ^ (7 - p % 8)) := by
    rw [Int.mul_comm 256, ← Int.pow_succ, ← Int.pow_add, show p % 8 + (7 - p % 8 + 1) = 8 by omega]; rfl
  rw [e]
  generalize (256 : Int) ^ (p % 8) = q at *
  generalize (256 : Int) ^ (7 - p % 8) = s at *
  rw [Int.emod_def Y, show Y - q * (256 * s) * (Y / (q * (256 * s))) = Y + q * (-(256 * s * (Y / (q * (256 * s))))) by grind]
  rw [Int.add_mul_ediv_left _ _ (by omega)]
  rw [show Y / q + -(256 * s * (Y / (q * (256 * s)))) = Y / q + 256 * (-(s * (Y / (q * (256 * s))))) by grind, Int.add_mul_emod_self_left]
theorem low_bytes (V : Int) (rb : List Int) : ∀ (k : Nat), (∀ p, p < k → rb.getD p 0 = byteAt V p) → low 256 rb k = V % 256 ^ k
  | 0, _ => by simp [low_zero, Int.emod_one]
  | k + 1, h => by
    have hp : (0 : Int) < 256 ^ k := Int.pow_pos (by decide)
    rw [low_succ, low_bytes V rb k (fun p hp => h p (by omega)), h k (by omega)]
    unfold byteAt
    rw [Int.pow_succ]
    have e1 := Int.mul_ediv_add_emod V (256 ^ k)
    have e2 := Int.mul_ediv_add_emod (V / 256 ^ k) 256
    have a1 := Int.emod_nonneg V (show (256 : Int) ^ k ≠ 0 by omega)
    have a2 := Int.emod_lt_of_pos V hp
    have b1 := Int.emod_nonneg (V / 256 ^ k) (show (256 : Int) ≠ 0 by decide)
    have b2 := Int.emod_lt_of_pos (V / 256 ^ k) (show (0 : Int) < 256 by decide)
    have e3 : V = V % 256 ^ k + 256 ^ k * (V / 256 ^ k % 256) + 256 ^ k * 256 * (V / 256 ^ k / 256) := by
      conv => lhs; rw [← e1, ← e2]
      grind
    conv => rhs; rw [e3]
    rw [Int.add_mul_emod_self_left]
    refine (Int.emod_eq_of_lt ?_ ?_).symm
    · have := Int.mul_nonneg (show (0 : Int) ≤ 256 ^ k by omega) b1
      omega
    · have : 256 ^ k * (V / 256 ^ k % 256) ≤ 256 ^ k * 255 := Int.mul_le_mul_of_nonneg_left (by omega) (by omega)
      omega
theorem lenOf_eq (xs : List Int) (hd : Dg B64 xs) : lenOf xs = blen (val B64 xs).toNat := by
  unfold lenOf
  by_cases h : top xs = 0
  · rw [if_pos h, ← val_take_top, h]
    simp [val, blen]
  · rw [if_neg h]
    obtain ⟨m, hm⟩ : ∃ m, top xs = m + 1 := ⟨top xs - 1, by omega⟩
    have ht := top_hit xs (by omega)
    have hg := hd.getD B64_pos (top xs - 1)
    rw [hm] at ht hg ⊢
    simp only [Nat.add_sub_cancel] at ht hg ⊢
    have hv : val B64 xs = low B64 xs m + B64 ^ m * xs.getD m 0 := by rw [← low_succ, ← hm, low_all _ _ _ (Nat.le_refl _)]
    have l0 : 0 ≤ low B64 xs m := val_nonneg B64_pos (hd.take m)
    have l1 : low B64 xs m < B64 ^ m := by
      have a := val_lt B64_pos (hd.take m)
      have b : (xs.take m).length ≤ m := by simp; omega
      have c := pow_mono (B := B64) (by decide) b
      unfold low; omega
    generalize xs.getD m 0 = d at *
    generalize low B64 xs m = L at *
    obtain ⟨e, he⟩ := Int.eq_ofNat_of_zero_le hg.1
    subst he
    have hne : e ≠ 0 := by intro h0; rw [h0] at ht; exact ht rfl
    have b1 := blen_lt e
    have b2 := blen_ge e hne
    have b3 := blen_pos e hne
    have hB : B64 ^ m = ((2 ^ (64 * m) : Nat) : Int) := by
      rw [Int.natCast_pow, Int.pow_mul]; rfl
    rw [hB] at hv l1
    obtain ⟨L, rfl⟩ := Int.eq_ofNat_of_zero_le l0
    have hn : (val B64 xs).toNat = L + 2 ^ (64 * m) * e := by
      rw [hv, ← Int.natCast_mul, ← Int.natCast_add, Int.toNat_natCast]
    have hL : L < 2 ^ (64 * m) := by omega
    have hp := Nat.two_pow_pos (64 * m)
    obtain ⟨c, hc⟩ : ∃ c, blen e = c + 1 := ⟨blen e - 1, by omega⟩
    rw [hc] at b1 b2
    simp only [Nat.add_sub_cancel] at b2
    have := blen_eq (val B64 xs).toNat (64 * m + c) (by
      rw [hn, Nat.pow_add]
      have := Nat.mul_le_mul_left (2 ^ (64 * m)) b2
      omega) (by
      rw [hn, show 64 * m + c + 1 = 64 * m + (c + 1) by omega, Nat.pow_add]
      have := Nat.mul_le_mul_left (2 ^ (64 * m)) (show e + 1 ≤ 2 ^ (c + 1) by omega)
      rw [Nat.mul_add] at this
      omega)
    rw [Int.toNat_natCast, hc, this]
    omega
theorem lt_of_blen (V : Int) (h0 : 0 ≤ V) (n : Nat) (h : blen V.toNat ≤ 8 * n) : V < 256 ^ n := by
  have a := blen_lt V.toNat
  have b : 2 ^ blen V.toNat ≤ 2 ^ (8 * n) := Nat.pow_le_pow_right (by decide) h
  have e : ((2 ^ (8 * n) : Nat) : Int) = 256 ^ n := by rw [Int.natCast_pow, Int.pow_mul]; rfl
  rw [← e]
  omega


/-- What stands in the row when k bytes have been written, the least last. -/
def Wrts (V : Int) (n k : Nat) (cur : List Int) : Prop :=
  cur.length = n ∧ Dg 256 cur ∧ ∀ p, p < k → cur.getD (n - 1 - p) 0 = byteAt V p
theorem byteAt_range (V : Int) (p : Nat) : 0 ≤ byteAt V p ∧ byteAt V p < 256 := by unfold byteAt; omega
theorem Wrts.zero (V : Int) (n : Nat) : Wrts V n 0 (List.replicate n 0) :=
  ⟨by simp, Dg.zeros (by decide) _, fun p h => by omega⟩
theorem Wrts.step {V : Int} {n k : Nat} {cur : List Int} (h : Wrts V n k cur) (hk : k < n) : Wrts V n (k + 1) (cur.set (n - 1 - k) (byteAt V k)) := by
  obtain ⟨h1, h2, h3⟩ := h
  refine ⟨by simp [h1], h2.set _ (byteAt_range V k), fun p hp => ?_⟩
  rw [getD_set _ _ _ _ (by omega)]
  by_cases e : p = k
  · rw [e, if_pos rfl]
  · rw [if_neg (by omega)]; exact h3 p (by omega)
theorem Wrts.done {V : Int} {n : Nat} {cur : List Int} (h : Wrts V n n cur) (h0 : 0 ≤ V) (hv : V < 256 ^ n) : val 256 cur.reverse = V := by
  obtain ⟨h1, h2, h3⟩ := h
  have e : cur.reverse.length = n := by simp [h1]
  rw [← low_len, e, low_bytes V cur.reverse n (fun p hp => by rw [getD_reverse _ _ (by omega), h1]; exact h3 p hp)]
  exact Int.emod_eq_of_lt h0 hv

/-- An answer of bytes. -/
def BytesOut (w w' : World) (v : Value) (n : Nat) (V : Int) : Prop :=
  ∃ g bs, v = .slice (some ⟨g, 0, none⟩) n n ∧ Row 5 .u8 w' g bs ∧ bs.length = n ∧ Dg 256 bs ∧ val 256 bs.reverse = V ∧ Below w.heap.size w w'

end Go.Proofs.Ytnacgkkklmlhaaa
/-
  Contract of math/bits.Div64 where the divisor's greatest bit is set, and of nat.guessLimb there.
-/
namespace Go.Proofs.Ytnacgkkklmlhaaa
open Go.RowKit
set_option linter.unusedVariables false
set_option linter.unusedSimpArgs false

/-- A quotient's half, guessed: q y1 + r = H, and q is not below how often y1 2^32 + y0 is in H 2^32 + u. -/
def Gs (H u y1 y0 q r : Int) : Prop := q * y1 + r = H ∧ (H * 4294967296 + u) / (y1 * 4294967296 + y0) ≤ q ∧ 0 ≤ r ∧ 0 ≤ q ∧ q ≤ 4294967297
/-- .. and found. -/
def Fd (H u y1 y0 q : Int) : Prop := q = (H * 4294967296 + u) / (y1 * 4294967296 + y0)

/-- What is known of the halves. -/
structure Hv (H u y1 y0 : Int) : Prop where
  h0 : 0 ≤ H
  h1 : H < y1 * 4294967296 + y0
  u0 : 0 ≤ u
  u1 : u < 4294967296
  a0 : 2147483648 ≤ y1
  a1 : y1 < 4294967296
  b0 : 0 ≤ y0
  b1 : y0 < 4294967296
theorem Hv.qlt {H u y1 y0 : Int} (h : Hv H u y1 y0) : (H * 4294967296 + u) / (y1 * 4294967296 + y0) < 4294967296 := by
  obtain ⟨h0, h1, u0, u1, a0, a1, b0, b1⟩ := h
  apply Int.ediv_lt_of_lt_mul (by omega)
  have : (H + 1) * 4294967296 ≤ (y1 * 4294967296 + y0) * 4294967296 := by omega
  generalize y1 * 4294967296 + y0 = Y at *
  omega
theorem Hv.qge {H u y1 y0 : Int} (h : Hv H u y1 y0) : 0 ≤ (H * 4294967296 + u) / (y1 * 4294967296 + y0) := by
  obtain ⟨h0, h1, u0, u1, a0, a1, b0, b1⟩ := h
  exact Int.ediv_nonneg (by omega) (by omega)
theorem Hv.start {H u y1 y0 : Int} (h : Hv H u y1 y0) : Gs H u y1 y0 (H / y1) (H % y1) ∧ H % y1 < 4294967296 := by
  obtain ⟨h0, h1, u0, u1, a0, a1, b0, b1⟩ := h
  have e := Int.mul_ediv_add_emod H y1
  have r0 := Int.emod_nonneg H (show y1 ≠ 0 by omega)
  have r1 := Int.emod_lt_of_pos H (show 0 < y1 by omega)
  have q0 : 0 ≤ H / y1 := Int.ediv_nonneg h0 (by omega)
  have qle : H / y1 ≤ 4294967297 := by
    have : H / y1 < 4294967298 := by
      apply Int.ediv_lt_of_lt_mul (by omega)
      omega
    omega
  refine ⟨⟨by rw [Int.mul_comm]; exact e, ?_, r0, q0, qle⟩, by omega⟩
  have : (H * 4294967296 + u) / (y1 * 4294967296 + y0) < H / y1 + 1 := by
    apply Int.ediv_lt_of_lt_mul (by omega)
    generalize H / y1 = q at *
    generalize H % y1 = r at *
    have e2 : (q + 1) * (y1 * 4294967296 + y0) = (y1 * q) * 4294967296 + y1 * 4294967296 + q * y0 + y0 := by grind
    have e3 : 0 ≤ q * y0 := Int.mul_nonneg q0 b0
    rw [e2, ← e]
    generalize y1 * q = P at *
    generalize q * y0 = R at *
    omega
  omega
/-- One round: the guess was too great. -/
theorem Gs.step {H u y1 y0 q r : Int} (hv : Hv H u y1 y0) (h : Gs H u y1 y0 q r) (hr : r < 4294967296) (hc : 4294967296 ≤ q ∨ 4294967296 * r + u < q * y0) :
    Gs H u y1 y0 (q - 1) (r + y1) ∧ 1 ≤ q ∧ q - 1 ≤ 4294967296 := by
  have hq := hv.qlt
  have hqg := hv.qge
  obtain ⟨h0, h1, u0, u1, a0, a1, b0, b1⟩ := hv
  obtain ⟨g1, g2, g3, g4, g5⟩ := h
  have key : (H * 4294967296 + u) / (y1 * 4294967296 + y0) ≤ q - 1 := by
    rcases hc with hc | hc
    · omega
    · have : (H * 4294967296 + u) / (y1 * 4294967296 + y0) < q := by
        apply Int.ediv_lt_of_lt_mul (by omega)
        have e2 : q * (y1 * 4294967296 + y0) = (q * y1) * 4294967296 + q * y0 := by grind
        rw [e2, ← g1]
        generalize q * y1 = P at *
        generalize q * y0 = R at *
        omega
      omega
  refine ⟨⟨?_, key, by omega, by omega, by omega⟩, by omega, by omega⟩
  rw [← g1]; grind
/-- The guess is right. -/
theorem Gs.found {H u y1 y0 q r : Int} (hv : Hv H u y1 y0) (h : Gs H u y1 y0 q r) (hc : q * y0 ≤ 4294967296 * r + u) : Fd H u y1 y0 q := by
  obtain ⟨h0, h1, u0, u1, a0, a1, b0, b1⟩ := hv
  obtain ⟨g1, g2, g3, g4, g5⟩ := h
  unfold Fd
  have : q ≤ (H * 4294967296 + u) / (y1 * 4294967296 + y0) := by
    apply (Int.le_ediv_iff_mul_le (by omega)).2
    have e2 : q * (y1 * 4294967296 + y0) = (q * y1) * 4294967296 + q * y0 := by grind
    rw [e2, ← g1]
    generalize q * y1 = P at *
    generalize q * y0 = R at *
    omega
  omega
/-- .. as what is left is a half too great. -/
theorem Gs.over {H u y1 y0 q r : Int} (hv : Hv H u y1 y0) (h : Gs H u y1 y0 q r) (hq : q ≤ 4294967296) (hr : 4294967296 ≤ r) : Fd H u y1 y0 q := by
  refine h.found hv ?_
  obtain ⟨h0, h1, u0, u1, a0, a1, b0, b1⟩ := hv
  obtain ⟨g1, g2, g3, g4, g5⟩ := h
  have : q * y0 ≤ 4294967296 * 4294967295 := Int.mul_le_mul hq (by omega) b0 (by omega)
  omega
theorem Fd.lt {H u y1 y0 q : Int} (hv : Hv H u y1 y0) (h : Fd H u y1 y0 q) : 0 ≤ q ∧ q < 4294967296 := by
  unfold Fd at h
  have := hv.qlt
  have := hv.qge
  omega
/-- What is left, modulo 2^64, is what is left. -/
theorem Fd.rest {H u y1 y0 q : Int} (hv : Hv H u y1 y0) (h : Fd H u y1 y0 q) : (H * 4294967296 + u - q * (y1 * 4294967296 + y0)) % 18446744073709551616 = (H * 4294967296 + u) % (y1 * 4294967296 + y0) := by
  unfold Fd at h
  obtain ⟨h0, h1, u0, u1, a0, a1, b0, b1⟩ := hv
  have e : H * 4294967296 + u - q * (y1 * 4294967296 + y0) = (H * 4294967296 + u) % (y1 * 4294967296 + y0) := by
    rw [Int.emod_def, h, Int.mul_comm (y1 * 4294967296 + y0)]
  rw [e]
  have r0 := Int.emod_nonneg (H * 4294967296 + u) (show y1 * 4294967296 + y0 ≠ 0 by omega)
  have r1 := Int.emod_lt_of_pos (H * 4294967296 + u) (show 0 < y1 * 4294967296 + y0 by omega)
  exact Int.emod_eq_of_lt r0 (by omega)
/-- Both halves. -/
theorem two_halves (hi u1 u0 Y q1 q0 : Int) (hY : 0 < Y) (h1 : q1 = (hi * 4294967296 + u1) / Y) (h0 : q0 = ((hi * 4294967296 + u1) % Y * 4294967296 + u0) / Y) :
    q1 * 4294967296 + q0 = (hi * 18446744073709551616 + (u1 * 4294967296 + u0)) / Y := by
  have e := Int.mul_ediv_add_emod (hi * 4294967296 + u1) Y
  rw [← h1] at e
  generalize (hi * 4294967296 + u1) % Y = R at *
  have e2 : hi * 18446744073709551616 + (u1 * 4294967296 + u0) = (R * 4294967296 + u0) + Y * (q1 * 4294967296) := by
    have : hi * 18446744073709551616 + (u1 * 4294967296 + u0) = (hi * 4294967296 + u1) * 4294967296 + u0 := by omega
    rw [this, ← e]
    grind
  rw [e2, Int.add_mul_ediv_left _ _ (by omega), ← h0]
  omega

theorem wrap_prod (q b : Int) (h0 : 0 ≤ q) (h1 : q < 4294967296) (b0 : 0 ≤ b) (b1 : b < 4294967296) : IntKind.u64.wrap (q * b) = q * b := by
  rw [IntKind.wrap_u64]
  have a : 0 ≤ q * b := Int.mul_nonneg h0 b0
  have c : q * b ≤ 4294967295 * 4294967295 := Int.mul_le_mul (by omega) (by omega) b0 (by omega)
  exact Int.emod_eq_of_lt a (by omega)
theorem wrap_quot (R a : Int) (h0 : 0 ≤ R / a) (h1 : R / a ≤ 4294967297) : IntKind.u64.wrap (R / a) = R / a := by
  rw [IntKind.wrap_u64]
  exact Int.emod_eq_of_lt h0 (by omega)
theorem wrap_back (R a : Int) {u b : Int} (h0 : 0 ≤ R) (hv : Hv R u a b) : IntKind.u64.wrap (R / a * a) = R - R % a := by
  have e := Int.mul_ediv_add_emod R a
  have r0 := Int.emod_nonneg R (show a ≠ 0 by have := hv.a0; omega)
  have x := hv.h1
  have y := hv.a1
  have z := hv.b1
  rw [IntKind.wrap_u64, Int.mul_comm, show a * (R / a) = R - R % a by omega]
  have q0 : 0 ≤ a * (R / a) := Int.mul_nonneg (by have := hv.a0; omega) (Int.ediv_nonneg h0 (by have := hv.a0; omega))
  exact Int.emod_eq_of_lt (by omega) (by omega)
theorem back_nonneg (R a : Int) (h0 : 0 ≤ R) (ha : 0 < a) : 0 ≤ R - R % a := by
  have e := Int.mul_ediv_add_emod R a
  have : 0 ≤ a * (R / a) := Int.mul_nonneg (by omega) (Int.ediv_nonneg h0 (by omega))
  omega
theorem wrap_chain (hi u1 q y : Int) : IntKind.u64.wrap (IntKind.u64.wrap (IntKind.u64.wrap (hi * 4294967296) + u1) - IntKind.u64.wrap (q * y)) = (hi * 4294967296 + u1 - q * y) % 18446744073709551616 := by
  simp only [IntKind.wrap_u64]
  generalize q * y = Z
  omega

set_option maxHeartbeats 8000000 in
set_option maxRecDepth 100000 in
/-- math/bits.Div64, the divisor's greatest bit set, the high limb not 0. -/
theorem div64_hi (hi lo y : Int) (w : World) (h0 : 1 ≤ hi) (h1 : hi < y) (l0 : 0 ≤ lo) (l1 : lo < 18446744073709551616) (y0 : 9223372036854775808 ≤ y) (y1 : y < 18446744073709551616) :
    Calls Try.prog 92 #[.int .u64 hi, .int .u64 lo, .int .u64 y] w fun e w' => ∃ r, e = .returned (.tuple #[.int .u64 ((hi * 18446744073709551616 + lo) / y), .int .u64 r]) ∧ w' = w := by
  have HL := lead_any y w (by omega) y1
  have e64 : 64 - blen y.toNat = 0 := by rw [blen_eq y.toNat 63 (by omega) (by omega)]
  rw [e64] at HL
  clear e64
  obtain ⟨a, ea⟩ : ∃ a, y / 4294967296 = a := ⟨_, rfl⟩
  obtain ⟨b, eb⟩ : ∃ b, bits .and .u64 y 4294967295 = b := ⟨_, rfl⟩
  obtain ⟨u1, eu1⟩ : ∃ u1, lo / 4294967296 = u1 := ⟨_, rfl⟩
  obtain ⟨u0, eu0⟩ : ∃ u0, bits .and .u64 lo 4294967295 = u0 := ⟨_, rfl⟩
  have mask : ∀ z : Int, 0 ≤ z → z < 18446744073709551616 → bits .and .u64 z 4294967295 = z % 4294967296 := fun z z0 z1 => by
    obtain ⟨z, rfl⟩ := Int.eq_ofNat_of_zero_le z0
    rw [low_half z (by omega)]; omega
  have hbm : b = y % 4294967296 := by rw [← eb]; exact mask y (by omega) y1
  have hum : u0 = lo % 4294967296 := by rw [← eu0]; exact mask lo l0 l1
  have eo : bits .or .u64 hi (lo / 18446744073709551616) = hi := by
    rw [Int.ediv_eq_zero_of_lt l0 l1]
    obtain ⟨z, rfl⟩ := Int.eq_ofNat_of_zero_le (show 0 ≤ hi by omega)
    have := bits_or_u64_nat z 0 (by omega) (by omega)
    simpa using this
  have a0 : 2147483648 ≤ a := by omega
  have a1 : a < 4294967296 := by omega
  have b0 : 0 ≤ b := by omega
  have b1 : b < 4294967296 := by omega
  have u10 : 0 ≤ u1 := by omega
  have u11 : u1 < 4294967296 := by omega
  have u00 : 0 ≤ u0 := by omega
  have u01 : u0 < 4294967296 := by omega
  have hY : a * 4294967296 + b = y := by omega
  have elo : lo = u1 * 4294967296 + u0 := by omega
  have hv : Hv hi u1 a b := ⟨by omega, by omega, u10, u11, a0, a1, b0, b1⟩
  have HV : Hid (Hv hi u1 a b) := hv
  have hs := hv.start
  obtain ⟨qq, eqq⟩ : ∃ q2, hi / a = q2 := ⟨_, rfl⟩
  obtain ⟨PP, ePP⟩ : ∃ P2, IntKind.u64.wrap (qq * a) = P2 := ⟨_, rfl⟩
  have hqqe : qq = hi / a := eqq.symm
  have hPPe : PP = hi - hi % a := by rw [← ePP, hqqe]; exact wrap_back hi a (by omega) hv
  obtain ⟨rr, err⟩ : ∃ r2, hi - PP = r2 := ⟨_, rfl⟩
  have hrre : rr = hi % a := by omega
  have hst0 : Gs hi u1 a b qq rr ∧ rr < 4294967296 := by rw [hqqe, hrre]; exact hs
  have HST0 : Hid _ := hst0
  have hrr0 := hst0.1.2.2.1
  have hrr1 := hst0.2
  have hPP0 : 0 ≤ PP ∧ PP ≤ hi := by have := back_nonneg hi a (by omega) (by omega); omega
  have HY : Hid _ := hY
  have HLO : Hid _ := elo
  clear hst0 hv hs hqqe hPPe hrre mask hbm hum hY elo
  go_enter Try.func92, Try.ntmps92
  go_wp2_with (go_at_call 81; refine HL.mono ?_; rintro e w' ⟨rfl, rfl⟩)
  go_loop [15, 16] (fun vq vr => ∃ q r : Int, vq = .int .u64 q ∧ vr = .int .u64 r ∧ Gs hi u1 a b q r ∧ r < 4294967296) (fun vq _ => (intOf vq).toNat)
  case atStart => exact ⟨_, _, rfl, rfl, by rw [eqq]; exact HST0.out.1, HST0.out.2⟩
  case round =>
    obtain ⟨q, r, rfl, rfl, hg, hr⟩ := hrel
    have hr0 := hg.2.2.1
    have hq0 := hg.2.2.2.1
    have hqm := hg.2.2.2.2
    obtain ⟨M, hM⟩ : ∃ M, IntKind.u64.wrap (q * b) = M := ⟨_, rfl⟩
    by_cases hA : 4294967296 ≤ q
    · have hst := hg.step HV.out hr (.inl hA)
      obtain ⟨q', e1⟩ : ∃ q', q - 1 = q' := ⟨_, rfl⟩
      obtain ⟨r', e2⟩ : ∃ r', r + a = r' := ⟨_, rfl⟩
      rw [e1, e2] at hst
      have HG : Hid (Gs _ _ _ _ _ _) := hst.1
      have hq1 : 1 ≤ q := hst.2.1
      have hq2 : q' ≤ 4294967296 := hst.2.2
      have HD : Hid (q'.toNat < q.toNat) := by unfold Hid; omega
      by_cases hC : 4294967296 ≤ r'
      · have hF : Fd hi u1 a b q' := HG.out.over HV.out hq2 hC
        clear hst hg HG HD 
        have hY := HY.out
        have elo := HLO.out
        have hq1b := hF.lt HV.out
        obtain ⟨W1, w1⟩ : ∃ W1, IntKind.u64.wrap (hi * 4294967296) = W1 := ⟨_, rfl⟩
        obtain ⟨W2, w2⟩ : ∃ W2, IntKind.u64.wrap (W1 + u1) = W2 := ⟨_, rfl⟩
        obtain ⟨W3, w3⟩ : ∃ W3, IntKind.u64.wrap (q' * y) = W3 := ⟨_, rfl⟩
        obtain ⟨R, w4⟩ : ∃ R, IntKind.u64.wrap (W2 - W3) = R := ⟨_, rfl⟩
        have eR : R = (hi * 4294967296 + u1) % y := by rw [← w4, ← w3, ← w2, ← w1, wrap_chain]; have := hF.rest HV.out; rw [hY] at this; exact this
        have hv2 : Hv R u0 a b := by
          have x0 := Int.emod_nonneg (hi * 4294967296 + u1) (show y ≠ 0 by omega)
          have x1 := Int.emod_lt_of_pos (hi * 4294967296 + u1) (show 0 < y by omega)
          exact ⟨by omega, by omega, u00, u01, a0, a1, b0, b1⟩
        have hR0 := hv2.h0
        have HFIN : Hid (∀ p, Fd R u0 a b p → q' * 4294967296 + p = (hi * 18446744073709551616 + lo) / y) := fun p hp => by
          unfold Fd at hp hF
          rw [hY] at hp hF
          rw [elo]
          exact two_halves hi u1 u0 y q' p (by omega) hF (by rw [← eR]; exact hp)
        have hs2 := hv2.start
        obtain ⟨q2, eq2⟩ : ∃ q2, R / a = q2 := ⟨_, rfl⟩
        obtain ⟨P2, eP2⟩ : ∃ P2, IntKind.u64.wrap (q2 * a) = P2 := ⟨_, rfl⟩
        have hq2e : q2 = R / a := eq2.symm
        have hP2e : P2 = R - R % a := by rw [← eP2, hq2e]; exact wrap_back R a hR0 hv2 
        obtain ⟨r2, er2⟩ : ∃ r2, R - P2 = r2 := ⟨_, rfl⟩
        have hr2e : r2 = R % a := by omega
        have hst2 : Gs R u0 a b q2 r2 ∧ r2 < 4294967296 := by rw [hq2e, hr2e]; exact hs2
        have hr20 := hst2.1.2.2.1
        have hr21 := hst2.2
        have hP20 : 0 ≤ P2 ∧ P2 ≤ R := by have := back_nonneg R a hR0 (by omega); omega
        have hRb : R < 18446744073709551616 := by have := hv2.h1; omega
        have HST : Hid _ := hst2
        have HV1 : Hid _ := HV
        clear HV
        have HV : Hid (Hv R u0 a b) := hv2
        clear hs2 hv2 eR hq2e hP2e hr2e hst2 hF HV1 hY elo
        go_wp2
        go_loop [18, 16] (fun vq vr => ∃ q r : Int, vq = .int .u64 q ∧ vr = .int .u64 r ∧ Gs R u0 a b q r ∧ r < 4294967296) (fun vq _ => (intOf vq).toNat)
        case atStart => exact ⟨_, _, rfl, rfl, HST.out.1, HST.out.2⟩
        case round =>
          obtain ⟨q, r, rfl, rfl, hg, hr⟩ := hrel
          have hr0 := hg.2.2.1
          have hq0 := hg.2.2.2.1
          have hqm := hg.2.2.2.2
          obtain ⟨M, hM⟩ : ∃ M, IntKind.u64.wrap (q * b) = M := ⟨_, rfl⟩
          by_cases hA : 4294967296 ≤ q
          · have hst := hg.step HV.out hr (.inl hA)
            obtain ⟨q', e1⟩ : ∃ q', q - 1 = q' := ⟨_, rfl⟩
            obtain ⟨r', e2⟩ : ∃ r', r + a = r' := ⟨_, rfl⟩
            rw [e1, e2] at hst
            have HG : Hid (Gs _ _ _ _ _ _) := hst.1
            have hq1 : 1 ≤ q := hst.2.1
            have hq2 : q' ≤ 4294967296 := hst.2.2
            have HD : Hid (q'.toNat < q.toNat) := by unfold Hid; omega
            by_cases hC : 4294967296 ≤ r'
            · have hF : Fd R u0 a b q' := HG.out.over HV.out hq2 hC
              clear hst hg HG HD 
              have HQ := HFIN.out q' hF
              have hpb := hF.lt HV.out
              clear hF
              have HQH : Hid _ := HQ
              clear HQ
              go_wp2
              go_ret2
              exact ⟨⟨_, ret_two HQH.out rfl⟩, rfl⟩
            · have hC' : r' < 4294967296 := by omega
              clear hst hg 
              go_wp2
              go_round
              case rel => exact ⟨q', r', rfl, rfl, HG.out, hC'⟩
              case measure => simp only [intOf]; exact HD.out
          · have hlt : q < 4294967296 := by omega
            have eM : M = q * b := by rw [← hM]; exact wrap_prod q b hq0 hlt b0 b1
            by_cases hB : 4294967296 * r + u0 < M
            · have hst := hg.step HV.out hr (.inr (by rw [← eM]; exact hB))
              obtain ⟨q', e1⟩ : ∃ q', q - 1 = q' := ⟨_, rfl⟩
              obtain ⟨r', e2⟩ : ∃ r', r + a = r' := ⟨_, rfl⟩
              rw [e1, e2] at hst
              have HG : Hid (Gs _ _ _ _ _ _) := hst.1
              have hq1 : 1 ≤ q := hst.2.1
              have hq2 : q' ≤ 4294967296 := hst.2.2
              have HD : Hid (q'.toNat < q.toNat) := by unfold Hid; omega
              by_cases hC : 4294967296 ≤ r'
              · have hF : Fd R u0 a b q' := HG.out.over HV.out hq2 hC
                clear hst hg HG HD eM
                have HQ := HFIN.out q' hF
                have hpb := hF.lt HV.out
                clear hF
                have HQH : Hid _ := HQ
                clear HQ
                go_wp2
                go_ret2
                exact ⟨⟨_, ret_two HQH.out rfl⟩, rfl⟩
              · have hC' : r' < 4294967296 := by omega
                clear hst hg eM
                go_wp2
                go_round
                case rel => exact ⟨q', r', rfl, rfl, HG.out, hC'⟩
                case measure => simp only [intOf]; exact HD.out
            · have hF : Fd R u0 a b q := hg.found HV.out (by rw [← eM]; omega)
              clear hg eM
              have HQ := HFIN.out q hF
              have hpb := hF.lt HV.out
              clear hF
              have HQH : Hid _ := HQ
              clear HQ
              go_wp2
              go_ret2
              exact ⟨⟨_, ret_two HQH.out rfl⟩, rfl⟩
      · have hC' : r' < 4294967296 := by omega
        clear hst hg 
        go_wp2
        go_round
        case rel => exact ⟨q', r', rfl, rfl, HG.out, hC'⟩
        case measure => simp only [intOf]; exact HD.out
    · have hlt : q < 4294967296 := by omega
      have eM : M = q * b := by rw [← hM]; exact wrap_prod q b hq0 hlt b0 b1
      by_cases hB : 4294967296 * r + u1 < M
      · have hst := hg.step HV.out hr (.inr (by rw [← eM]; exact hB))
        obtain ⟨q', e1⟩ : ∃ q', q - 1 = q' := ⟨_, rfl⟩
        obtain ⟨r', e2⟩ : ∃ r', r + a = r' := ⟨_, rfl⟩
        rw [e1, e2] at hst
        have HG : Hid (Gs _ _ _ _ _ _) := hst.1
        have hq1 : 1 ≤ q := hst.2.1
        have hq2 : q' ≤ 4294967296 := hst.2.2
        have HD : Hid (q'.toNat < q.toNat) := by unfold Hid; omega
        by_cases hC : 4294967296 ≤ r'
        · have hF : Fd hi u1 a b q' := HG.out.over HV.out hq2 hC
          clear hst hg HG HD eM
          have hY := HY.out
          have elo := HLO.out
          have hq1b := hF.lt HV.out
          obtain ⟨W1, w1⟩ : ∃ W1, IntKind.u64.wrap (hi * 4294967296) = W1 := ⟨_, rfl⟩
          obtain ⟨W2, w2⟩ : ∃ W2, IntKind.u64.wrap (W1 + u1) = W2 := ⟨_, rfl⟩
          obtain ⟨W3, w3⟩ : ∃ W3, IntKind.u64.wrap (q' * y) = W3 := ⟨_, rfl⟩
          obtain ⟨R, w4⟩ : ∃ R, IntKind.u64.wrap (W2 - W3) = R := ⟨_, rfl⟩
          have eR : R = (hi * 4294967296 + u1) % y := by rw [← w4, ← w3, ← w2, ← w1, wrap_chain]; have := hF.rest HV.out; rw [hY] at this; exact this
          have hv2 : Hv R u0 a b := by
            have x0 := Int.emod_nonneg (hi * 4294967296 + u1) (show y ≠ 0 by omega)
            have x1 := Int.emod_lt_of_pos (hi * 4294967296 + u1) (show 0 < y by omega)
            exact ⟨by omega, by omega, u00, u01, a0, a1, b0, b1⟩
          have hR0 := hv2.h0
          have HFIN : Hid (∀ p, Fd R u0 a b p → q' * 4294967296 + p = (hi * 18446744073709551616 + lo) / y) := fun p hp => by
            unfold Fd at hp hF
            rw [hY] at hp hF
            rw [elo]
            exact two_halves hi u1 u0 y q' p (by omega) hF (by rw [← eR]; exact hp)
          have hs2 := hv2.start
          obtain ⟨q2, eq2⟩ : ∃ q2, R / a = q2 := ⟨_, rfl⟩
          obtain ⟨P2, eP2⟩ : ∃ P2, IntKind.u64.wrap (q2 * a) = P2 := ⟨_, rfl⟩
          have hq2e : q2 = R / a := eq2.symm
          have hP2e : P2 = R - R % a := by rw [← eP2, hq2e]; exact wrap_back R a hR0 hv2 
          obtain ⟨r2, er2⟩ : ∃ r2, R - P2 = r2 := ⟨_, rfl⟩
          have hr2e : r2 = R % a := by omega
          have hst2 : Gs R u0 a b q2 r2 ∧ r2 < 4294967296 := by rw [hq2e, hr2e]; exact hs2
          have hr20 := hst2.1.2.2.1
          have hr21 := hst2.2
          have hP20 : 0 ≤ P2 ∧ P2 ≤ R := by have := back_nonneg R a hR0 (by omega); omega
          have hRb : R < 18446744073709551616 := by have := hv2.h1; omega
          have HST : Hid _ := hst2
          have HV1 : Hid _ := HV
          clear HV
          have HV : Hid (Hv R u0 a b) := hv2
          clear hs2 hv2 eR hq2e hP2e hr2e hst2 hF HV1 hY elo
          go_wp2
          go_loop [18, 16] (fun vq vr => ∃ q r : Int, vq = .int .u64 q ∧ vr = .int .u64 r ∧ Gs R u0 a b q r ∧ r < 4294967296) (fun vq _ => (intOf vq).toNat)
          case atStart => exact ⟨_, _, rfl, rfl, HST.out.1, HST.out.2⟩
          case round =>
            obtain ⟨q, r, rfl, rfl, hg, hr⟩ := hrel
            have hr0 := hg.2.2.1
            have hq0 := hg.2.2.2.1
            have hqm := hg.2.2.2.2
            obtain ⟨M, hM⟩ : ∃ M, IntKind.u64.wrap (q * b) = M := ⟨_, rfl⟩
            by_cases hA : 4294967296 ≤ q
            · have hst := hg.step HV.out hr (.inl hA)
              obtain ⟨q', e1⟩ : ∃ q', q - 1 = q' := ⟨_, rfl⟩
              obtain ⟨r', e2⟩ : ∃ r', r + a = r' := ⟨_, rfl⟩
              rw [e1, e2] at hst
              have HG : Hid (Gs _ _ _ _ _ _) := hst.1
              have hq1 : 1 ≤ q := hst.2.1
              have hq2 : q' ≤ 4294967296 := hst.2.2
              have HD : Hid (q'.toNat < q.toNat) := by unfold Hid; omega
              by_cases hC : 4294967296 ≤ r'
              · have hF : Fd R u0 a b q' := HG.out.over HV.out hq2 hC
                clear hst hg HG HD 
                have HQ := HFIN.out q' hF
                have hpb := hF.lt HV.out
                clear hF
                have HQH : Hid _ := HQ
                clear HQ
                go_wp2
                go_ret2
                exact ⟨⟨_, ret_two HQH.out rfl⟩, rfl⟩
              · have hC' : r' < 4294967296 := by omega
                clear hst hg 
                go_wp2
                go_round
                case rel => exact ⟨q', r', rfl, rfl, HG.out, hC'⟩
                case measure => simp only [intOf]; exact HD.out
            · have hlt : q < 4294967296 := by omega
              have eM : M = q * b := by rw [← hM]; exact wrap_prod q b hq0 hlt b0 b1
              by_cases hB : 4294967296 * r + u0 < M
              · have hst := hg.step HV.out hr (.inr (by rw [← eM]; exact hB))
                obtain ⟨q', e1⟩ : ∃ q', q - 1 = q' := ⟨_, rfl⟩
                obtain ⟨r', e2⟩ : ∃ r', r + a = r' := ⟨_, rfl⟩
                rw [e1, e2] at hst
                have HG : Hid (Gs _ _ _ _ _ _) := hst.1
                have hq1 : 1 ≤ q := hst.2.1
                have hq2 : q' ≤ 4294967296 := hst.2.2
                have HD : Hid (q'.toNat < q.toNat) := by unfold Hid; omega
                by_cases hC : 4294967296 ≤ r'
                · have hF : Fd R u0 a b q' := HG.out.over HV.out hq2 hC
                  clear hst hg HG HD eM
                  have HQ := HFIN.out q' hF
                  have hpb := hF.lt HV.out
                  clear hF
                  have HQH : Hid _ := HQ
                  clear HQ
                  go_wp2
                  go_ret2
                  exact ⟨⟨_, ret_two HQH.out rfl⟩, rfl⟩
                · have hC' : r' < 4294967296 := by omega
                  clear hst hg eM
                  go_wp2
                  go_round
                  case rel => exact ⟨q', r', rfl, rfl, HG.out, hC'⟩
                  case measure => simp only [intOf]; exact HD.out
              · have hF : Fd R u0 a b q := hg.found HV.out (by rw [← eM]; omega)
                clear hg eM
                have HQ := HFIN.out q hF
                have hpb := hF.lt HV.out
                clear hF
                have HQH : Hid _ := HQ
                clear HQ
                go_wp2
                go_ret2
                exact ⟨⟨_, ret_two HQH.out rfl⟩, rfl⟩
        · have hC' : r' < 4294967296 := by omega
          clear hst hg eM
          go_wp2
          go_round
          case rel => exact ⟨q', r', rfl, rfl, HG.out, hC'⟩
          case measure => simp only [intOf]; exact HD.out
      · have hF : Fd hi u1 a b q := hg.found HV.out (by rw [← eM]; omega)
        clear hg eM
        have hY := HY.out
        have elo := HLO.out
        have hq1b := hF.lt HV.out
        obtain ⟨W1, w1⟩ : ∃ W1, IntKind.u64.wrap (hi * 4294967296) = W1 := ⟨_, rfl⟩
        obtain ⟨W2, w2⟩ : ∃ W2, IntKind.u64.wrap (W1 + u1) = W2 := ⟨_, rfl⟩
        obtain ⟨W3, w3⟩ : ∃ W3, IntKind.u64.wrap (q * y) = W3 := ⟨_, rfl⟩
        obtain ⟨R, w4⟩ : ∃ R, IntKind.u64.wrap (W2 - W3) = R := ⟨_, rfl⟩
        have eR : R = (hi * 4294967296 + u1) % y := by rw [← w4, ← w3, ← w2, ← w1, wrap_chain]; have := hF.rest HV.out; rw [hY] at this; exact this
        have hv2 : Hv R u0 a b := by
          have x0 := Int.emod_nonneg (hi * 4294967296 + u1) (show y ≠ 0 by omega)
          have x1 := Int.emod_lt_of_pos (hi * 4294967296 + u1) (show 0 < y by omega)
          exact ⟨by omega, by omega, u00, u01, a0, a1, b0, b1⟩
        have hR0 := hv2.h0
        have HFIN : Hid (∀ p, Fd R u0 a b p → q * 4294967296 + p = (hi * 18446744073709551616 + lo) / y) := fun p hp => by
          unfold Fd at hp hF
          rw [hY] at hp hF
          rw [elo]
          exact two_halves hi u1 u0 y q p (by omega) hF (by rw [← eR]; exact hp)
        have hs2 := hv2.start
        obtain ⟨q2, eq2⟩ : ∃ q2, R / a = q2 := ⟨_, rfl⟩
        obtain ⟨P2, eP2⟩ : ∃ P2, IntKind.u64.wrap (q2 * a) = P2 := ⟨_, rfl⟩
        have hq2e : q2 = R / a := eq2.symm
        have hP2e : P2 = R - R % a := by rw [← eP2, hq2e]; exact wrap_back R a hR0 hv2 
        obtain ⟨r2, er2⟩ : ∃ r2, R - P2 = r2 := ⟨_, rfl⟩
        have hr2e : r2 = R % a := by omega
        have hst2 : Gs R u0 a b q2 r2 ∧ r2 < 4294967296 := by rw [hq2e, hr2e]; exact hs2
        have hr20 := hst2.1.2.2.1
        have hr21 := hst2.2
        have hP20 : 0 ≤ P2 ∧ P2 ≤ R := by have := back_nonneg R a hR0 (by omega); omega
        have hRb : R < 18446744073709551616 := by have := hv2.h1; omega
        have HST : Hid _ := hst2
        have HV1 : Hid _ := HV
        clear HV
        have HV : Hid (Hv R u0 a b) := hv2
        clear hs2 hv2 eR hq2e hP2e hr2e hst2 hF HV1 hY elo
        go_wp2
        go_loop [18, 16] (fun vq vr => ∃ q r : Int, vq = .int .u64 q ∧ vr = .int .u64 r ∧ Gs R u0 a b q r ∧ r < 4294967296) (fun vq _ => (intOf vq).toNat)
        case atStart => exact ⟨_, _, rfl, rfl, HST.out.1, HST.out.2⟩
        case round =>
          obtain ⟨q, r, rfl, rfl, hg, hr⟩ := hrel
          have hr0 := hg.2.2.1
          have hq0 := hg.2.2.2.1
          have hqm := hg.2.2.2.2
          obtain ⟨M, hM⟩ : ∃ M, IntKind.u64.wrap (q * b) = M := ⟨_, rfl⟩
          by_cases hA : 4294967296 ≤ q
          · have hst := hg.step HV.out hr (.inl hA)
            obtain ⟨q', e1⟩ : ∃ q', q - 1 = q' := ⟨_, rfl⟩
            obtain ⟨r', e2⟩ : ∃ r', r + a = r' := ⟨_, rfl⟩
            rw [e1, e2] at hst
            have HG : Hid (Gs _ _ _ _ _ _) := hst.1
            have hq1 : 1 ≤ q := hst.2.1
            have hq2 : q' ≤ 4294967296 := hst.2.2
            have HD : Hid (q'.toNat < q.toNat) := by unfold Hid; omega
            by_cases hC : 4294967296 ≤ r'
            · have hF : Fd R u0 a b q' := HG.out.over HV.out hq2 hC
              clear hst hg HG HD 
              have HQ := HFIN.out q' hF
              have hpb := hF.lt HV.out
              clear hF
              have HQH : Hid _ := HQ
              clear HQ
              go_wp2
              go_ret2
              exact ⟨⟨_, ret_two HQH.out rfl⟩, rfl⟩
            · have hC' : r' < 4294967296 := by omega
              clear hst hg 
              go_wp2
              go_round
              case rel => exact ⟨q', r', rfl, rfl, HG.out, hC'⟩
              case measure => simp only [intOf]; exact HD.out
          · have hlt : q < 4294967296 := by omega
            have eM : M = q * b := by rw [← hM]; exact wrap_prod q b hq0 hlt b0 b1
            by_cases hB : 4294967296 * r + u0 < M
            · have hst := hg.step HV.out hr (.inr (by rw [← eM]; exact hB))
              obtain ⟨q', e1⟩ : ∃ q', q - 1 = q' := ⟨_, rfl⟩
              obtain ⟨r', e2⟩ : ∃ r', r + a = r' := ⟨_, rfl⟩
              rw [e1, e2] at hst
              have HG : Hid (Gs _ _ _ _ _ _) := hst.1
              have hq1 : 1 ≤ q := hst.2.1
              have hq2 : q' ≤ 4294967296 := hst.2.2
              have HD : Hid (q'.toNat < q.toNat) := by unfold Hid; omega
              by_cases hC : 4294967296 ≤ r'
              · have hF : Fd R u0 a b q' := HG.out.over HV.out hq2 hC
                clear hst hg HG HD eM
                have HQ := HFIN.out q' hF
                have hpb := hF.lt HV.out
                clear hF
                have HQH : Hid _ := HQ
                clear HQ
                go_wp2
                go_ret2
                exact ⟨⟨_, ret_two HQH.out rfl⟩, rfl⟩
              · have hC' : r' < 4294967296 := by omega
                clear hst hg eM
                go_wp2
                go_round
                case rel => exact ⟨q', r', rfl, rfl, HG.out, hC'⟩
                case measure => simp only [intOf]; exact HD.out
            · have hF : Fd R u0 a b q := hg.found HV.out (by rw [← eM]; omega)
              clear hg eM
              have HQ := HFIN.out q hF
              have hpb := hF.lt HV.out
              clear hF
              have HQH : Hid _ := HQ
              clear HQ
              go_wp2
              go_ret2
              exact ⟨⟨_, ret_two HQH.out rfl⟩, rfl⟩
end Go.Proofs.Ytnacgkkklmlhaaa
/-
  Contract of nat.guessLimb.
-/
namespace Go.Proofs.Ytnacgkkklmlhaaa
open Go.RowKit
set_option linter.unusedVariables false
set_option linter.unusedSimpArgs false

set_option maxHeartbeats 1000000 in
theorem div64_any (hi lo y : Int) (w : World) (h0 : 0 ≤ hi) (h1 : hi < y) (l0 : 0 ≤ lo) (l1 : lo < 18446744073709551616) (y0 : 9223372036854775808 ≤ y) (y1 : y < 18446744073709551616) :
    Calls Try.prog 92 #[.int .u64 hi, .int .u64 lo, .int .u64 y] w fun e w' => ∃ r, e = .returned (.tuple #[.int .u64 ((hi * 18446744073709551616 + lo) / y), .int .u64 r]) ∧ Drew w w' := by
  by_cases h : hi = 0
  · subst h
    rw [Int.zero_mul, Int.zero_add]
    have e1 : (y == 0) = false := by simp; omega
    go_enter Try.func92, Try.ntmps92
    go_wp2
    go_quiet (fail)
    go_wp2
    go_ret2
    exact ⟨_, rfl, ⟨nq, rfl⟩⟩
  · refine (div64_hi hi lo y w (by omega) h1 l0 l1 y0 y1).mono ?_
    rintro e w' ⟨r, rfl, rfl⟩
    exact ⟨r, rfl, Drew.refl _⟩

/-- A guess. -/
def gss (hi lo y : Int) : Int := if y ≤ hi then 18446744073709551615 else (hi * 18446744073709551616 + lo) / y

set_option maxHeartbeats 1000000 in
/-- nat.guessLimb. -/
theorem guessLimb_any (hi lo y : Int) (w : World) (h0 : 0 ≤ hi) (l0 : 0 ≤ lo) (l1 : lo < 18446744073709551616) (y0 : 9223372036854775808 ≤ y) (y1 : y < 18446744073709551616) :
    Calls Try.prog 88 #[.int .u64 hi, .int .u64 lo, .int .u64 y] w fun e w' => e = .returned (.int .u64 (gss hi lo y)) ∧ Drew w w' := by
  by_cases h : y ≤ hi
  · have HG : Hid (gss hi lo y = 18446744073709551615) := by unfold Hid gss; rw [if_pos h]
    go_enter Try.func88, Try.ntmps88
    go_wp2
    go_ret
    exact ⟨ret_int HG.out.symm, Drew.refl _⟩
  · have HG : Hid (gss hi lo y = (hi * 18446744073709551616 + lo) / y) := by unfold Hid gss; rw [if_neg h]
    have h' : hi < y := by omega
    have HD := div64_any hi lo y w h0 h' l0 l1 y0 y1
    generalize (hi * 18446744073709551616 + lo) / y = g at *
    clear h
    go_enter Try.func88, Try.ntmps88
    go_wp2_with (go_at_call 92; refine HD.mono ?_; rintro e w' ⟨r, rfl, hd⟩)
    go_ret
    exact ⟨ret_int HG.out.symm, by assumption⟩
end Go.Proofs.Ytnacgkkklmlhaaa
/-
  Contract of nat.divLimb: how often the divisor is in what is left, and what is left of it then, in its place.
-/
namespace Go.Proofs.Ytnacgkkklmlhaaa
open Go.RowKit
set_option linter.unusedVariables false
set_option linter.unusedSimpArgs false
attribute [local go_sem ↓] Go.wp_at_zero Go.wp_at_succ

/-- The guess by the greatest limbs is not too small, and at most 2 too great. -/
theorem guess_bounds (P ll ld xn x v L D : Int) (hP : 0 < P) (hl : 0 ≤ ll ∧ ll < P) (hd : 0 ≤ ld ∧ ld < P) (hx : 0 ≤ x ∧ x < 18446744073709551616) (hxn : 0 ≤ xn) (hv : 9223372036854775808 ≤ v ∧ v < 18446744073709551616)
    (eL : L = ll + P * (xn * 18446744073709551616 + x)) (eD : D = ld + P * v) (hlt : L < 18446744073709551616 * D) :
    L / D ≤ gss xn x v ∧ gss xn x v ≤ L / D + 2 ∧ 0 ≤ gss xn x v ∧ gss xn x v < 18446744073709551616 := by
  have hPv : 0 < P * v := Int.mul_pos hP (by omega)
  have hD : 0 < D := by omega
  have hS : 0 ≤ xn * 18446744073709551616 + x := by omega
  have hL0 : 0 ≤ L := by
    have := Int.mul_nonneg (show 0 ≤ P by omega) hS
    omega
  have hq : L / D < 18446744073709551616 := Int.ediv_lt_of_lt_mul hD hlt
  have hq0 : 0 ≤ L / D := Int.ediv_nonneg hL0 (by omega)
  have hG : 0 ≤ gss xn x v ∧ gss xn x v ≤ 18446744073709551615 ∧ gss xn x v * v ≤ xn * 18446744073709551616 + x := by
    unfold gss
    split
    · rename_i h
      exact ⟨by omega, by omega, by omega⟩
    · rename_i h
      refine ⟨Int.ediv_nonneg hS (by omega), ?_, Int.ediv_mul_le _ (by omega)⟩
      have : (xn * 18446744073709551616 + x) / v < 18446744073709551616 := Int.ediv_lt_of_lt_mul (by omega) (by omega)
      omega
  refine ⟨?_, ?_, hG.1, by omega⟩
  · unfold gss
    split
    · omega
    · apply (Int.le_ediv_iff_mul_le (by omega)).2
      have h1 : L / D * D ≤ L := Int.ediv_mul_le L (by omega)
      have h2 : L / D * (P * v) ≤ L / D * D := Int.mul_le_mul_of_nonneg_left (by omega) hq0
      have h3 : P * (L / D * v) < P * (xn * 18446744073709551616 + x + 1) := by
        have : P * (L / D * v) = L / D * (P * v) := by grind
        rw [this, Int.mul_add]; omega
      have := Int.lt_of_mul_lt_mul_left h3 (by omega)
      omega
  · generalize gss xn x v = G at *
    have h1 : G * ld ≤ 18446744073709551615 * P := Int.mul_le_mul hG.2.1 (by omega) hd.1 (by omega)
    have h2 : P * (G * v) ≤ P * (xn * 18446744073709551616 + x) := Int.mul_le_mul_of_nonneg_left hG.2.2 (by omega)
    have h3 : P * 18446744073709551616 ≤ P * (2 * v) := Int.mul_le_mul_of_nonneg_left (by omega) (by omega)
    have h4 : G * D = G * ld + P * (G * v) := by rw [eD]; grind
    have h5 : P * (2 * v) = 2 * (P * v) := by grind
    have h6 : (G - 2) * D ≤ L := by
      rw [Int.sub_mul, h4]
      omega
    have := (Int.le_ediv_iff_mul_le hD).2 h6
    omega

/-- What stands in the row: G divisors have been taken away; t is the limb above, were it not cut. -/
def Dls (xs : List Int) (L D : Int) (o n : Nat) (cur : List Int) (G t : Int) : Prop :=
  cur.length = xs.length ∧ (∀ j, j < o ∨ o + n < j → cur.getD j 0 = xs.getD j 0) ∧ Dg B64 cur ∧ cur.getD (o + n) 0 = t % 18446744073709551616 ∧
    val B64 (seg cur o n) + B64 ^ n * t = L - G * D ∧ L / D ≤ G ∧ G ≤ L / D + 2
theorem Dls.range {xs : List Int} {L D : Int} {o n : Nat} {cur : List Int} {G t : Int} (h : Dls xs L D o n cur G t) (hD0 : 0 < D) (hD : D < B64 ^ n) (hL : 0 ≤ L) (ho : o + n < xs.length) : -2 ≤ t ∧ t ≤ 0 := by
  obtain ⟨h1, h2, h3, h4, h5, h6, h7⟩ := h
  have hs : Dg B64 (seg cur o n) := (h3.drop o).take n
  have v0 := val_nonneg B64_pos hs
  have v1 := val_lt B64_pos hs
  rw [seg_len cur o n (by omega)] at v1
  have e := Int.mul_ediv_add_emod L D
  have r0 := Int.emod_nonneg L (show D ≠ 0 by omega)
  have r1 := Int.emod_lt_of_pos L hD0
  have m1 : D * (L / D) ≤ D * G := Int.mul_le_mul_of_nonneg_left h6 (by omega)
  have m2 : D * G ≤ D * (L / D + 2) := Int.mul_le_mul_of_nonneg_left h7 (by omega)
  rw [Int.mul_add] at m2
  rw [Int.mul_comm G D] at h5
  have hp : 0 < B64 ^ n := Int.pow_pos B64_pos
  generalize B64 ^ n = p at *
  generalize val B64 (seg cur o n) = V at *
  generalize D * (L / D) = Q at *
  generalize D * G = W at *
  constructor
  · have : p * (-3) < p * t := by omega
    have := Int.lt_of_mul_lt_mul_left this (by omega)
    omega
  · have : p * t < p * 1 := by omega
    have := Int.lt_of_mul_lt_mul_left this (by omega)
    omega
/-- No limb above: done. -/
theorem Dls.done {xs : List Int} {L D : Int} {o n : Nat} {cur : List Int} {G t : Int} (h : Dls xs L D o n cur G t) (hD0 : 0 < D) (hD : D < B64 ^ n) (hL : 0 ≤ L) (ho : o + n < xs.length) (hz : cur.getD (o + n) 0 = 0) :
    G = L / D ∧ val B64 (seg cur o (n + 1)) = L % D := by
  have ht := h.range hD0 hD hL ho
  obtain ⟨h1, h2, h3, h4, h5, h6, h7⟩ := h
  have t0 : t = 0 := by omega
  have hs : Dg B64 (seg cur o n) := (h3.drop o).take n
  have v0 := val_nonneg B64_pos hs
  rw [t0, Int.mul_zero, Int.add_zero] at h5
  have : G ≤ L / D := (Int.le_ediv_iff_mul_le hD0).2 (by omega)
  have hG : G = L / D := by omega
  refine ⟨hG, ?_⟩
  rw [seg_succ _ _ _ (by omega), val_append, hz]
  simp only [val, Int.mul_zero, Int.add_zero]
  rw [h5, hG, Int.emod_def, Int.mul_comm]
/-- A limb above: the guess was too great. -/
theorem Dls.more {xs : List Int} {L D : Int} {o n : Nat} {cur : List Int} {G t : Int} (h : Dls xs L D o n cur G t) (hD0 : 0 < D) (hD : D < B64 ^ n) (hL : 0 ≤ L) (ho : o + n < xs.length) (hz : cur.getD (o + n) 0 ≠ 0) : L / D < G := by
  obtain ⟨h1, h2, h3, h4, h5, h6, h7⟩ := h
  by_cases hG : G = L / D
  · exfalso
    have hs : Dg B64 (seg cur o n) := (h3.drop o).take n
    have v0 := val_nonneg B64_pos hs
    have v1 := val_lt B64_pos hs
    rw [seg_len cur o n (by omega)] at v1
    have e := Int.mul_ediv_add_emod L D
    have r0 := Int.emod_nonneg L (show D ≠ 0 by omega)
    have r1 := Int.emod_lt_of_pos L hD0
    rw [hG, Int.mul_comm (L / D) D] at h5
    have hp : 0 < B64 ^ n := Int.pow_pos B64_pos
    generalize B64 ^ n = p at *
    generalize val B64 (seg cur o n) = V at *
    generalize D * (L / D) = Q at *
    have a : p * (-1) < p * t := by omega
    have a := Int.lt_of_mul_lt_mul_left a (by omega)
    have b : p * t < p * 1 := by omega
    have b := Int.lt_of_mul_lt_mul_left b (by omega)
    have : t = 0 := by omega
    rw [this] at h4
    exact hz h4
  · omega
/-- Behind subTimes and the limb above. -/
theorem Dls.start {xs ds : List Int} {o n : Nat} {cur : List Int} {G c : Int} (hr : Runs (-1) xs ds o n G cur c) (hn : ds.length = n) (ho : o + n < xs.length) {L D : Int} (eL : L = val B64 (seg xs o (n + 1))) (eD : D = val B64 ds)
    (g1 : L / D ≤ G) (g2 : G ≤ L / D + 2) : Dls xs L D o n (cur.set (o + n) (IntKind.u64.wrap (xs.getD (o + n) 0 - c))) G (xs.getD (o + n) 0 - c) := by
  obtain ⟨r1, r2, r3, r4, r5, r6⟩ := hr
  rw [IntKind.wrap_u64]
  refine ⟨by simp [r1], fun j hj => ?_, r3.set _ ⟨by omega, by unfold B64; omega⟩, ?_, ?_, g1, g2⟩
  · rw [getD_set _ _ _ _ (by omega), if_neg (by omega)]
    exact r2 j (by omega)
  · rw [getD_set _ _ _ _ (by omega), if_pos rfl]
  · rw [seg_set, eL, eD, seg_succ xs o n ho, val_append, seg_len xs o n (by omega)]
    simp only [val, Int.mul_zero, Int.add_zero]
    rw [← hn, List.take_of_length_le (Nat.le_refl _)] at r6
    rw [← hn]
    generalize val B64 (seg cur o ds.length) = A at *
    generalize val B64 (seg xs o ds.length) = X at *
    generalize val B64 ds = Y at *
    generalize B64 ^ ds.length = p at *
    generalize xs.getD (o + ds.length) 0 = x at *
    grind
/-- Behind addTimes and the limb above. -/
theorem Dls.step {xs ds : List Int} {o n : Nat} {cur cur' : List Int} {G t c L D : Int} (h : Dls xs L D o n cur G t) (hr : Runs 1 cur ds o n 1 cur' c) (hn : ds.length = n) (ho : o + n < xs.length) (eD : D = val B64 ds) (hG : L / D < G) :
    Dls xs L D o n (cur'.set (o + n) (IntKind.u64.wrap (cur.getD (o + n) 0 + c))) (G - 1) (t + c) := by
  obtain ⟨h1, h2, h3, h4, h5, h6, h7⟩ := h
  obtain ⟨r1, r2, r3, r4, r5, r6⟩ := hr
  rw [IntKind.wrap_u64]
  refine ⟨by simp [r1, h1], fun j hj => ?_, r3.set _ ⟨by omega, by unfold B64; omega⟩, ?_, ?_, by omega, by omega⟩
  · rw [getD_set _ _ _ _ (by omega), if_neg (by omega), r2 j (by omega)]
    exact h2 j hj
  · rw [getD_set _ _ _ _ (by omega), if_pos rfl, h4]
    omega
  · rw [seg_set]
    rw [← hn, List.take_of_length_le (Nat.le_refl _)] at r6
    rw [← hn] at h5 ⊢
    rw [← eD] at r6
    generalize val B64 (seg cur o ds.length) = A at *
    generalize val B64 (seg cur' o ds.length) = X at *
    generalize B64 ^ ds.length = p at *
    grind

/-- A divisor whose greatest bit is set. -/
structure Dv (w : World) (ao : Option Addr) (n : Nat) (ds : List Int) : Prop where
  lies : Lies .u64 w ao n ds
  dg : Dg B64 ds
  pos : 0 < n
  big : 9223372036854775808 ≤ ds.getD (n - 1) 0
theorem Dv.range {w : World} {ao : Option Addr} {n : Nat} {ds : List Int} (h : Dv w ao n ds) : 0 < val B64 ds ∧ val B64 ds < B64 ^ n := by
  have hl := h.lies.len
  have hp := h.pos
  have hb := h.big
  have ht : top ds = (n - 1) + 1 := by
    rw [show n - 1 + 1 = n by omega]
    exact top_eq ds n (fun j h1 h2 => by omega) (.inr (by omega))
  have a := val_ge B64_pos h.dg (n - 1) ht
  have b := val_lt B64_pos h.dg
  have c : (0 : Int) < B64 ^ (n - 1) := Int.pow_pos B64_pos
  rw [hl] at b
  exact ⟨by omega, b⟩
theorem split_top (xs : List Int) (o n : Nat) (hn : 0 < n) (h : o + n ≤ xs.length) : val B64 (seg xs o n) = val B64 (seg xs o (n - 1)) + B64 ^ (n - 1) * xs.getD (o + (n - 1)) 0 := by
  have e : n = (n - 1) + 1 := by omega
  conv => lhs; rw [e]
  rw [seg_succ _ _ _ (by omega), val_append, seg_len _ _ _ (by omega)]
  simp [val]
theorem pow_pred (n : Nat) (h : 0 < n) : B64 ^ n = B64 ^ (n - 1) * B64 := by
  obtain ⟨m, rfl⟩ : ∃ m, n = m + 1 := ⟨n - 1, by omega⟩
  rw [Nat.add_sub_cancel, Int.pow_succ]
/-- The guess of divLimb. -/
theorem Dv.guess {w : World} {ao : Option Addr} {n : Nat} {ds xs : List Int} (h : Dv w ao n ds) (hx : Dg B64 xs) (o : Nat) (ho : o + n < xs.length) (hlt : val B64 (seg xs o (n + 1)) < 18446744073709551616 * val B64 ds) :
    val B64 (seg xs o (n + 1)) / val B64 ds ≤ gss (xs.getD (o + n) 0) (xs.getD (o + (n - 1)) 0) (ds.getD (n - 1) 0) ∧
    gss (xs.getD (o + n) 0) (xs.getD (o + (n - 1)) 0) (ds.getD (n - 1) 0) ≤ val B64 (seg xs o (n + 1)) / val B64 ds + 2 ∧
    0 ≤ gss (xs.getD (o + n) 0) (xs.getD (o + (n - 1)) 0) (ds.getD (n - 1) 0) ∧ gss (xs.getD (o + n) 0) (xs.getD (o + (n - 1)) 0) (ds.getD (n - 1) 0) < 18446744073709551616 := by
  have hl := h.lies.len
  have hp := h.pos
  have e1 := split_top xs o (n + 1) (by omega) (by omega)
  have e2 := split_top xs o n hp (by omega)
  have e3 := split_top ds 0 n hp (by omega)
  have e4 : seg ds 0 n = ds := by unfold seg; rw [List.drop_zero, List.take_of_length_le (by omega)]
  rw [e4] at e3
  simp only [Nat.add_sub_cancel, Nat.zero_add] at e1 e3
  rw [e2] at e1
  have eB : B64 ^ n = B64 ^ (n - 1) * B64 := pow_pred n hp
  have l0 := val_nonneg B64_pos ((hx.drop o).take (n - 1))
  have l1 := val_lt B64_pos ((hx.drop o).take (n - 1))
  have d0 := val_nonneg B64_pos ((h.dg.drop 0).take (n - 1))
  have d1 := val_lt B64_pos ((h.dg.drop 0).take (n - 1))
  have s1 := seg_len xs o (n - 1) (by omega)
  have s2 := seg_len ds 0 (n - 1) (by omega)
  unfold seg at s1 s2
  rw [s1] at l1
  rw [s2] at d1
  refine guess_bounds (B64 ^ (n - 1)) (val B64 (seg xs o (n - 1))) (val B64 (seg ds 0 (n - 1))) _ _ _ _ _ (Int.pow_pos B64_pos) ⟨l0, l1⟩ ⟨d0, d1⟩ (hx.getD B64_pos _) (hx.getD B64_pos _).1 ⟨h.big, (h.dg.getD B64_pos _).2⟩ ?_ e3 hlt
  rw [e1, eB]
  have e5 : B64 = 18446744073709551616 := rfl
  generalize B64 ^ (n - 1) = p at *
  rw [e5]
  grind

end Go.Proofs.Ytnacgkkklmlhaaa
/-
  Contract of nat.divLimb.
-/
namespace Go.Proofs.Ytnacgkkklmlhaaa
open Go.RowKit
set_option linter.unusedVariables false
set_option linter.unusedSimpArgs false
attribute [local go_sem ↓] Go.wp_at_zero Go.wp_at_succ

/-- What divLimb leaves. -/
def DlOut (e : TypeId) (g o n : Nat) (xs : List Int) (L D : Int) (w w' : World) (G : Int) : Prop :=
  ∃ cur, Row e .u64 w' g cur ∧ cur.length = xs.length ∧ Dg B64 cur ∧ (∀ j, j < o ∨ o + n < j → cur.getD j 0 = xs.getD j 0) ∧ G = L / D ∧ val B64 (seg cur o (n + 1)) = L % D ∧ w.grownBy w' (some g)

set_option maxHeartbeats 4000000 in
/-- nat.divLimb. -/
theorem divLimb_any (e : TypeId) (g o m cl cd : Nat) (ao : Option Addr) (xs ds : List Int) (w : World) (hr : Row e .u64 w g xs) (hx : Dg B64 xs) (hd : Dv w ao (m + 1) ds) (hne : ∀ b off s, ao = some ⟨b, off, s⟩ → b ≠ g)
    (ho : o + (m + 1) < xs.length) (hs : xs.length ≤ 1073741824) (L D : Int) (eL : L = val B64 (seg xs o (m + 1 + 1))) (eD : D = val B64 ds) (hlt : L < 18446744073709551616 * D) :
    Calls Try.prog 83 #[.slice (some ⟨g, o, none⟩) (m + 1 + 1) cl, .slice ao (m + 1) cd] w fun e' w' => ∃ G, e' = .returned (.int .u64 G) ∧ DlOut e g o (m + 1) xs L D w w' G := by
  have hl := hd.lies.len
  obtain ⟨g1, g2, g3, g4⟩ := hd.guess hx o ho (by rw [← eL, ← eD]; exact hlt)
  have hdv := hd.range
  have hL0 : 0 ≤ L := by rw [eL]; exact val_nonneg B64_pos ((hx.drop o).take (m + 1 + 1))
  rw [← eD] at hdv
  rw [← eL, ← eD] at g1 g2
  obtain ⟨b, off, rfl, hblk, hc⟩ := hd.lies.at (by omega)
  have hcd := hc m (by omega)
  have hcx := hr.cell (o + (m + 1)) (by omega)
  have hcx1 := hr.cell (o + m) (by omega)
  have gx := hx.getD B64_pos (o + (m + 1))
  have gx1 := hx.getD B64_pos (o + m)
  have gd := hd.dg.getD B64_pos m
  have hbig := hd.big
  simp only [Nat.add_sub_cancel] at g1 g2 g3 g4 hbig
  have HGS := fun w => guessLimb_any (xs.getD (o + (m + 1)) 0) (xs.getD (o + m) 0) (ds.getD m 0) w gx.1 gx1.1 gx1.2 hbig gd.2
  have HSUB := fun w hw hl' => subTimes_any e g o (m + 1 + 1) cl (some ⟨b, off, none⟩) (m + 1) cd xs ds (gss (xs.getD (o + (m + 1)) 0) (xs.getD (o + m) 0) (ds.getD m 0)) w hw hl' (fun _ => hne) (by omega) (by omega) (by unfold maxLen; omega) hx hd.dg g3 g4
  have HSTART := fun cur c hrn => Dls.start (xs := xs) (ds := ds) (o := o) (n := m + 1) (cur := cur) (c := c) hrn hl ho eL eD g1 g2
  have HADD : Hid (∀ cur w, cur.length = xs.length → Dg B64 cur → Row e .u64 w g cur → Lies .u64 w (some ⟨b, off, none⟩) (m + 1) ds →
      Calls Try.prog 85 #[.slice (some ⟨g, o, none⟩) (m + 1 + 1) cl, .slice (some ⟨b, off, none⟩) (m + 1) cd, .int .u64 1] w fun e' w' => ∃ cur' c, e' = .returned (.int .u64 c) ∧ Row e .u64 w' g cur' ∧ Runs 1 cur ds o (m + 1) 1 cur' c ∧ w.grownBy w' (some g)) :=
    fun cur w hlen hdg hw hl' => addTimes_any e g o (m + 1 + 1) cl (some ⟨b, off, none⟩) (m + 1) cd cur ds 1 w hw hl' (fun _ => hne) (by omega) (by omega) (by unfold maxLen; omega) hdg hd.dg (by decide) (by decide)
  have hbne : some b ≠ some g := by have := hne b off none rfl; simp; omega
  generalize hxn : xs.getD (o + (m + 1)) 0 = xn at *
  generalize xs.getD (o + m) 0 = x1 at *
  generalize ds.getD m 0 = dn at *
  generalize gss xn x1 dn = G at *
  have hmb : m < 1073741824 := by omega
  have HR : Hid (Row e .u64 w g xs) := hr
  have HLD : Hid (Lies .u64 w (some ⟨b, off, none⟩) (m + 1) ds) := hd.lies
  have HDG : Hid (Dg B64 ds) := hd.dg
  have HST : Hid (∀ cur c, Runs (-1) xs ds o (m + 1) G cur c → Dls xs L D o (m + 1) (cur.set (o + (m + 1)) (IntKind.u64.wrap (xn - c))) G (xn - c)) := HSTART
  have HDV : Hid (0 < D ∧ D < B64 ^ (m + 1)) := hdv
  have HL0 : Hid (0 ≤ L) := hL0
  have HED : Hid (D = val B64 ds) := eD
  have HLEN : Hid (ds.length = m + 1) := hl
  have HXN : Hid (xs.getD (o + (m + 1)) 0 = xn) := hxn
  clear hc eL eD hxn hr hx hd hne HSTART gx gx1 gd hbig hlt g1 g2 hdv hL0 hl
  go_enter Try.func83, Try.ntmps83
  go_wp2
  go_quiet ((go_at_call 88; exact Calls.quiet_of (HGS _)))
  obtain ⟨w1, hw1⟩ : ∃ w1, w1 = w.drewN nq := ⟨_, rfl⟩
  rw [← hw1]
  have hcx' : w1.cell? ⟨g, o + (m + 1), none⟩ = some (.int .u64 xn) := by rw [hw1]; exact hcx
  have HR1 : Hid (Row e .u64 w1.drew g xs) := by rw [hw1]; exact HR.out
  have HLD1 : Hid (Lies .u64 w1.drew (some ⟨b, off, none⟩) (m + 1) ds) := by rw [hw1]; exact HLD.out
  have HGR1 : Hid (w.grownBy w1.drew (some g)) := by rw [hw1]; exact ⟨rfl, rfl, rfl, Nat.le_refl _, fun _ _ _ => rfl⟩
  have HSUB1 := HSUB w1.drew HR1.out HLD1.out
  clear hw1 hcx hcx1 hcd HGS HSUB
  go_wp2
  go_region_with (first | (go_at_call 89; refine HSUB1.mono ?_; rintro e2 w4 ⟨cur', c, rfl, hrow', hrun', hgr'⟩; have hcx4 := (hrow'.cell (o + (m + 1)) (by have := hrun'.1; omega)).trans (congrArg (fun z => some (Value.int IntKind.u64 z)) ((hrun'.2.1 (o + (m + 1)) (.inr (Nat.le_refl _))).trans HXN.out)); have hfr4 := hrow'.frozen (o + (m + 1))))
  all_goals
    have HRW : Hid (Row e .u64 (w4.setCell ⟨g, o + (m + 1), none⟩ (.int .u64 (IntKind.u64.wrap (xn - c)))) g (cur'.set (o + (m + 1)) (IntKind.u64.wrap (xn - c)))) := hrow'.set _ _
    have HDL := HST.out cur' c hrun'
    have HGR : Hid (w.grownBy (w4.setCell ⟨g, o + (m + 1), none⟩ (.int .u64 (IntKind.u64.wrap (xn - c)))) (some g)) := grown_trans (grown_trans HGR1.out hgr') (grown_set _ _ _ _)
    have HDLH : Hid (Dls _ _ _ _ _ _ _ _) := HDL
    generalize w4.setCell ⟨g, o + (m + 1), none⟩ (.int .u64 (IntKind.u64.wrap (xn - c))) = w5 at *
    clear hrow' hrun' hgr' hcx4 hfr4 HDL HST HSUB1 HR1 HLD1 HGR1 hcx'
    go_wp2
    go_loopw [6] (fun v wr => ∃ (G t : Int) (cur : List Int), v = .int .u64 G ∧ 0 ≤ G ∧ G < 18446744073709551616 ∧ Row e .u64 wr g cur ∧ Dls xs L D o (m + 1) cur G t ∧ w.grownBy wr (some g)) (fun v _ => (intOf v).toNat)
    case atStart => exact ⟨_, _, _, rfl, g3, g4, HRW.out, HDLH.out, HGR.out⟩
    case round =>
      obtain ⟨G2, t, cur, rfl, gg0, gg1, hrw, hdl, hgw⟩ := hrel
      have hcl := hrw.cell (o + (m + 1)) (by have := hdl.1; omega)
      have hcl' : wr.drew.cell? ⟨g, o + (m + 1), none⟩ = some (.int .u64 (cur.getD (o + (m + 1)) 0)) := hcl
      by_cases hz : cur.getD (o + (m + 1)) 0 = 0
      · have hdn := hdl.done HDV.out.1 HDV.out.2 HL0.out ho hz
        have HF : Hid (DlOut e g o (m + 1) xs L D w wr G2) := ⟨cur, hrw, hdl.1, hdl.2.2.1, hdl.2.1, hdn.1, hdn.2, hgw⟩
        rw [hz] at hcl
        clear hcl' hdn hrw hdl hgw hz
        go_wp2
        go_ret
        exact ⟨_, rfl, HF.out⟩
      · have hmore := hdl.more HDV.out.1 HDV.out.2 HL0.out ho hz
        have hq0 : 0 ≤ L / D := Int.ediv_nonneg HL0.out (by have := HDV.out.1; omega)
        have hG1 : 1 ≤ G2 := by omega
        have hld : Lies .u64 wr.drew (some ⟨b, off, none⟩) (m + 1) ds := by
          have : Lies .u64 wr (some ⟨b, off, none⟩) (m + 1) ds := HLD.out.kept hgw (fun b' off' s hb' => by injection hb' with hb'; injection hb' with hb'; rw [← hb']; exact hbne)
          exact this
        have HA := HADD.out cur wr.drew hdl.1 hdl.2.2.1 hrw hld
        have HSTEP : Hid (∀ cur' c, Runs 1 cur ds o (m + 1) 1 cur' c → Dls xs L D o (m + 1) (cur'.set (o + (m + 1)) (IntKind.u64.wrap (cur.getD (o + (m + 1)) 0 + c))) (G2 - 1) (t + c)) := fun cur' c hrn => hdl.step hrn HLEN.out ho HED.out hmore
        have HLC : Hid (cur.length = xs.length) := hdl.1
        have HGW : Hid (w.grownBy wr.drew (some g)) := ⟨hgw.os, hgw.tape, hgw.output, hgw.size, hgw.block⟩
        have HZ : Hid (∃ z, z = cur.getD (o + (m + 1)) 0) := ⟨_, rfl⟩
        have hzb : (cur.getD (o + (m + 1)) 0 != 0) = true := by simpa using hz
        have HCD : Hid (∀ cur' : List Int, (∀ j, j < o ∨ o + (m + 1) ≤ j → cur'.getD j 0 = cur.getD j 0) → cur'.getD (o + (m + 1)) 0 = cur.getD (o + (m + 1)) 0) := fun cur' h => h _ (.inr (Nat.le_refl _))
        generalize cur.getD (o + (m + 1)) 0 = z at *
        clear hrw hdl hgw hz hmore hq0 hld HZ
        go_wp2
        go_region_with (first | (go_at_call 85; refine HA.mono ?_; rintro e2 w6 ⟨cur2, c2, rfl, hrow2, hrun2, hgr2⟩; have hcx6 := (hrow2.cell (o + (m + 1)) (by have := hrun2.1; have := HLC.out; omega)).trans (congrArg (fun z => some (Value.int IntKind.u64 z)) (HCD.out cur2 hrun2.2.1)); have hfr6 := hrow2.frozen (o + (m + 1))))
        all_goals
          have HRW2 : Hid (Row e .u64 (w6.setCell ⟨g, o + (m + 1), none⟩ (.int .u64 (IntKind.u64.wrap (z + c2)))) g (cur2.set (o + (m + 1)) (IntKind.u64.wrap (z + c2)))) := hrow2.set _ _
          have HD2 : Hid (Dls _ _ _ _ _ _ _ _) := HSTEP.out cur2 c2 hrun2
          have HGR2 : Hid (w.grownBy (w6.setCell ⟨g, o + (m + 1), none⟩ (.int .u64 (IntKind.u64.wrap (z + c2)))) (some g)) := grown_trans (grown_trans HGW.out hgr2) (grown_set _ _ _ _)
          clear hrow2 hrun2 hgr2 hcx6 hfr6 HSTEP HA HCD
          go_wp2
          go_roundw
          case rel => exact ⟨G2 - 1, _, _, rfl, by omega, by omega, HRW2.out, HD2.out, HGR2.out⟩
          case measure => simp [intOf]; omega
end Go.Proofs.Ytnacgkkklmlhaaa
/-
  Contract of nat.Div.
-/
namespace Go.Proofs.Ytnacgkkklmlhaaa
open Go.RowKit
set_option linter.unusedVariables false
set_option linter.unusedSimpArgs false
attribute [local go_sem ↓] Go.wp_at_zero Go.wp_at_succ

/-- nat.Shift by few, multiplied. -/
theorem Shift_neg (ao : Option Addr) (la ca : Nat) (xs : List Int) (t : Nat) (w : World) (h : NumIn .u64 B64 w ao la ca xs) (ht : t < 64) (hlb : la < 1073741000) :
    Calls Try.prog 82 #[.slice ao la ca, .int .i64 (-(t : Int))] w fun e w' => ∃ v, e = .returned v ∧ NumOut .u64 B64 w w' v (val B64 xs * 2 ^ t) (la + 1) := by
  by_cases h0 : t = 0
  · subst h0
    refine (Shift_down ao la ca xs 0 w h (by decide)).mono ?_
    rintro e w' ⟨v, rfl, a, b, c, d, rfl, e1, e2, e3, e4, e5⟩
    refine ⟨_, rfl, a, b, c, d, rfl, e1, e2, ?_, by omega, e5⟩
    rw [e3]; simp
  · refine (Shift_up ao la ca xs t w h (by omega) (by omega) hlb).mono ?_
    rintro e w' ⟨v, rfl, a, b, c, d, rfl, e1, e2, e3, e4, e5⟩
    exact ⟨_, rfl, a, b, c, d, rfl, e1, e2, e3, by omega, e5⟩

/-- How many digits a number without zeros above has. -/
theorem canon_len {xs : List Int} (hd : Dg B64 xs) (hc : Canon xs) (n : Nat) (h1 : B64 ^ n ≤ val B64 xs) (h2 : val B64 xs < B64 ^ (n + 1)) : xs.length = n + 1 := by
  unfold Canon at hc
  have a := val_lt B64_pos hd
  rcases Nat.lt_trichotomy xs.length (n + 1) with h | h | h
  · have := pow_mono (B := B64) (by decide) (show xs.length ≤ n by omega)
    omega
  · exact h
  · have b := val_ge B64_pos hd (xs.length - 1) (by omega)
    have := pow_mono (B := B64) (by decide) (show n + 1 ≤ xs.length - 1 by omega)
    omega

/-- The divisor, shifted. -/
theorem norm_div (ys : List Int) (hd : Dg B64 ys) (n : Nat) (hn : ys.length = n + 1) (hc : Canon ys) :
    ∃ t, t < 64 ∧ 64 - blen (ys.getD n 0).toNat = t ∧ 9223372036854775808 * B64 ^ n ≤ val B64 ys * 2 ^ t ∧ val B64 ys * 2 ^ t < B64 ^ (n + 1) := by
  have hg := hd.getD B64_pos n
  have ht : ys.getD n 0 ≠ 0 := by
    have := top_hit ys (by unfold Canon at hc; omega)
    unfold Canon at hc
    rw [hc, hn] at this
    simpa using this
  have hv := split_top ys 0 (n + 1) (by omega) (by omega)
  have e4 : seg ys 0 (n + 1) = ys := by unfold seg; rw [List.drop_zero, List.take_of_length_le (by omega)]
  rw [e4] at hv
  simp only [Nat.add_sub_cancel, Nat.zero_add] at hv
  have l0 := val_nonneg B64_pos ((hd.drop 0).take n)
  have l1 := val_lt B64_pos ((hd.drop 0).take n)
  have s2 := seg_len ys 0 n (by omega)
  have l0' : 0 ≤ val B64 (seg ys 0 n) := l0
  have l1' : val B64 (seg ys 0 n) < B64 ^ n := by
    have : val B64 (seg ys 0 n) < B64 ^ (seg ys 0 n).length := l1
    rwa [s2] at this
  generalize val B64 (seg ys 0 n) = lo at *
  generalize ys.getD n 0 = d at *
  obtain ⟨e, rfl⟩ := Int.eq_ofNat_of_zero_le hg.1
  have hne : e ≠ 0 := by omega
  have hlt : e < 2 ^ 64 := by have := hg.2; unfold B64 at this; omega
  have b0 := blen_le e 64 hlt
  have b1 := blen_lt e
  have b2 := blen_ge e hne
  have b3 := blen_pos e hne
  rw [Int.toNat_natCast]
  obtain ⟨t, et⟩ : ∃ t, 64 - blen e = t := ⟨_, rfl⟩
  refine ⟨t, by omega, et, ?_, ?_⟩
  · have c1 : 2 ^ 63 ≤ e * 2 ^ t := by
      have : 2 ^ (blen e - 1) * 2 ^ t ≤ e * 2 ^ t := Nat.mul_le_mul_right _ b2
      rw [← Nat.pow_add, show blen e - 1 + t = 63 by omega] at this
      exact this
    have c2 : (9223372036854775808 : Int) ≤ (e : Int) * 2 ^ t := by
      have : ((2 ^ 63 : Nat) : Int) ≤ ((e * 2 ^ t : Nat) : Int) := by omega
      rw [Int.natCast_mul, Int.natCast_pow] at this
      exact this
    have hp : (0 : Int) < B64 ^ n := Int.pow_pos B64_pos
    have c3 := Int.mul_le_mul_of_nonneg_right c2 (show (0 : Int) ≤ B64 ^ n by omega)
    have c4 : 0 ≤ lo * 2 ^ t := Int.mul_nonneg l0' (Int.le_of_lt (Int.pow_pos (by decide)))
    rw [hv, Int.add_mul]
    have : B64 ^ n * (e : Int) * 2 ^ t = (e : Int) * 2 ^ t * B64 ^ n := by grind
    omega
  · have c1 : (e + 1) * 2 ^ t ≤ 2 ^ 64 := by
      have : (e + 1) * 2 ^ t ≤ 2 ^ blen e * 2 ^ t := Nat.mul_le_mul_right _ (by omega)
      rw [← Nat.pow_add, show blen e + t = 64 by omega] at this
      exact this
    have c2 : ((e : Int) + 1) * 2 ^ t ≤ B64 := by
      have : (((e + 1) * 2 ^ t : Nat) : Int) ≤ ((2 ^ 64 : Nat) : Int) := by omega
      rw [Int.natCast_mul, Int.natCast_pow, Int.natCast_add] at this
      exact this
    have hp : (0 : Int) < 2 ^ t := Int.pow_pos (by decide)
    have hp2 : (0 : Int) < B64 ^ n := Int.pow_pos B64_pos
    have c3 : (lo + B64 ^ n * e) * 2 ^ t < (B64 ^ n + B64 ^ n * e) * 2 ^ t := Int.mul_lt_mul_of_pos_right (by omega) hp
    have c4 : (B64 ^ n + B64 ^ n * (e : Int)) * 2 ^ t = B64 ^ n * (((e : Int) + 1) * 2 ^ t) := by grind
    have c5 : B64 ^ n * (((e : Int) + 1) * 2 ^ t) ≤ B64 ^ n * B64 := Int.mul_le_mul_of_nonneg_left c2 (by omega)
    rw [hv, Int.pow_succ]
    omega

/-- What stands in both rows when the places from p on are done. -/
def Dvs (X D : Int) (lx m p : Nat) (cur qs : List Int) : Prop :=
  cur.length = lx + 1 ∧ Dg B64 cur ∧ qs.length = m ∧ Dg B64 qs ∧ val B64 cur < B64 ^ p * D ∧ X = val B64 cur + B64 ^ p * val B64 (qs.drop p) * D
theorem seg_whole (xs : List Int) (k n : Nat) (hk : k + n ≤ xs.length) (hz : ∀ j, k + n ≤ j → xs.getD j 0 = 0) : val B64 xs = low B64 xs k + B64 ^ k * val B64 (seg xs k n) := by
  rw [← low_add _ _ _ _ hk]
  refine (low_all _ _ _ ?_).symm
  by_cases h : top xs ≤ k + n
  · exact h
  · exfalso
    exact top_hit xs (by omega) (hz _ (by omega))
theorem high_zero {xs : List Int} (hd : Dg B64 xs) (n : Nat) (h : val B64 xs < B64 ^ n) (j : Nat) (hj : n ≤ j) : xs.getD j 0 = 0 := by
  apply top_above
  by_cases ht : top xs ≤ n
  · omega
  · exfalso
    obtain ⟨m, hm⟩ : ∃ m, top xs = m + 1 := ⟨top xs - 1, by omega⟩
    have := val_ge B64_pos hd m hm
    have := pow_mono (B := B64) (by decide) (show n ≤ m by omega)
    omega
theorem drop_cons (qs : List Int) (k : Nat) (h : k < qs.length) : qs.drop k = qs.getD k 0 :: qs.drop (k + 1) := by
  rw [List.drop_eq_getElem_cons h]
  simp [List.getD, List.getElem?_eq_getElem h]
theorem Dvs.pre {X D : Int} {lx m k n : Nat} {cur qs : List Int} (h : Dvs X D lx m (k + 1) cur qs) (hn : k + n + 1 ≤ lx + 1) (hD : D < B64 ^ n) (hD0 : 0 < D) :
    val B64 cur = low B64 cur k + B64 ^ k * val B64 (seg cur k (n + 1)) ∧ val B64 (seg cur k (n + 1)) < 18446744073709551616 * D := by
  obtain ⟨h1, h2, h3, h4, h5, h6⟩ := h
  have hp : (0 : Int) < B64 ^ k := Int.pow_pos B64_pos
  have hpp : (0 : Int) < B64 ^ (k + 1) := Int.pow_pos B64_pos
  have hb : val B64 cur < B64 ^ (k + 1 + n) := by
    rw [Int.pow_add]
    have := Int.mul_lt_mul_of_pos_left hD hpp
    omega
  have hz := high_zero h2 (k + 1 + n) hb
  have e := seg_whole cur k (n + 1) (by omega) (fun j hj => hz j (by omega))
  refine ⟨e, ?_⟩
  have l0 : 0 ≤ low B64 cur k := val_nonneg B64_pos (h2.take k)
  have : B64 ^ k * val B64 (seg cur k (n + 1)) < B64 ^ k * (18446744073709551616 * D) := by
    have e2 : B64 ^ (k + 1) * D = B64 ^ k * (18446744073709551616 * D) := by rw [Int.pow_succ]; have : B64 = 18446744073709551616 := rfl; rw [Int.mul_assoc]; conv => lhs; rw [show B64 * D = 18446744073709551616 * D from by rw [this]]
    omega
  exact Int.lt_of_mul_lt_mul_left this (by omega)
theorem Dvs.step {X D : Int} {lx m k n : Nat} {cur cur' qs : List Int} {G : Int} (h : Dvs X D lx m (k + 1) cur qs) (hn : k + n + 1 ≤ lx + 1) (hk : k < m) (hD : D < B64 ^ n) (hD0 : 0 < D)
    (c1 : cur'.length = cur.length) (c2 : Dg B64 cur') (c3 : ∀ j, j < k ∨ k + n < j → cur'.getD j 0 = cur.getD j 0) (eG : G = val B64 (seg cur k (n + 1)) / D) (eR : val B64 (seg cur' k (n + 1)) = val B64 (seg cur k (n + 1)) % D) :
    (0 ≤ G ∧ G < 18446744073709551616) ∧ Dvs X D lx m k cur' (qs.set k G) := by
  obtain ⟨p1, p2⟩ := h.pre hn hD hD0
  obtain ⟨h1, h2, h3, h4, h5, h6⟩ := h
  have hp : (0 : Int) < B64 ^ k := Int.pow_pos B64_pos
  have hb : val B64 cur < B64 ^ (k + 1 + n) := by
    have hpp : (0 : Int) < B64 ^ (k + 1) := Int.pow_pos B64_pos
    rw [Int.pow_add]
    have := Int.mul_lt_mul_of_pos_left hD hpp
    omega
  have hz := high_zero h2 (k + 1 + n) hb
  have s0 : 0 ≤ val B64 (seg cur k (n + 1)) := val_nonneg B64_pos ((h2.drop k).take (n + 1))
  have hG : 0 ≤ G ∧ G < 18446744073709551616 := ⟨by rw [eG]; exact Int.ediv_nonneg s0 (by omega), by rw [eG]; exact Int.ediv_lt_of_lt_mul hD0 p2⟩
  have q1 := seg_whole cur' k (n + 1) (by omega) (fun j hj => by rw [c3 j (by omega)]; exact hz j (by omega))
  rw [low_congr B64 cur' cur k (fun j hj => c3 j (by omega)), eR] at q1
  have l0 : 0 ≤ low B64 cur k := val_nonneg B64_pos (h2.take k)
  have l1 : low B64 cur k < B64 ^ k := by
    have a := val_lt B64_pos (h2.take k)
    have b : (cur.take k).length = k := by simp; omega
    rw [b] at a; exact a
  have r0 := Int.emod_nonneg (val B64 (seg cur k (n + 1))) (show D ≠ 0 by omega)
  have r1 := Int.emod_lt_of_pos (val B64 (seg cur k (n + 1))) hD0
  refine ⟨hG, by omega, c2, by simp [h3], h4.set _ hG, ?_, ?_⟩
  · rw [q1]
    have : B64 ^ k * (val B64 (seg cur k (n + 1)) % D + 1) ≤ B64 ^ k * D := Int.mul_le_mul_of_nonneg_left (by omega) (by omega)
    rw [Int.mul_add] at this
    omega
  · have e1 : (qs.set k G).drop k = G :: qs.drop (k + 1) := by
      rw [drop_cons _ _ (by simp; omega), getD_set _ _ _ _ (by omega), if_pos rfl, List.drop_set_of_lt (by omega)]
    rw [e1, val, h6, p1, q1, Int.pow_succ]
    have e2 := Int.mul_ediv_add_emod (val B64 (seg cur k (n + 1))) D
    rw [← eG] at e2
    generalize val B64 (seg cur k (n + 1)) % D = r at *
    generalize val B64 (qs.drop (k + 1)) = Q at *
    rw [← e2]
    generalize low B64 cur k = l at *
    generalize B64 ^ k = p at *
    generalize B64 = b at *
    grind
theorem Dvs.done {D : Int} {lx m t : Nat} {cur qs : List Int} {x y : Int} (h : Dvs (x * 2 ^ t) D lx m 0 cur qs) (eD : D = y * 2 ^ t) (hD0 : 0 < D) : val B64 qs = x / y ∧ val B64 cur / 2 ^ t = x % y := by
  obtain ⟨h1, h2, h3, h4, h5, h6⟩ := h
  simp only [Int.pow_zero, Int.one_mul, List.drop_zero] at h5 h6
  have hp : (0 : Int) < 2 ^ t := Int.pow_pos (by decide)
  have v0 := val_nonneg B64_pos h2
  have hy : 0 < y := by
    by_cases hy : 0 < y
    · exact hy
    · exfalso
      have : y * 2 ^ t ≤ 0 * 2 ^ t := Int.mul_le_mul_of_nonneg_right (by omega) (by omega)
      omega
  have e1 : x * 2 ^ t / D = val B64 qs := by
    rw [h6, Int.add_mul_ediv_right _ _ (by omega), Int.ediv_eq_zero_of_lt v0 h5]; omega
  have e2 : x * 2 ^ t % D = val B64 cur := by
    rw [h6, Int.add_mul_emod_self_right]; exact Int.emod_eq_of_lt v0 h5
  rw [eD] at e1 e2
  rw [Int.mul_ediv_mul_of_pos_left _ _ hp] at e1
  rw [Int.mul_comm x, Int.mul_comm y, Int.mul_emod_mul_of_pos _ _ hp] at e2
  refine ⟨e1.symm, ?_⟩
  rw [← e2, Int.mul_ediv_cancel_left _ (by omega)]
end Go.Proofs.Ytnacgkkklmlhaaa
/-
  Contract of nat.Div.
-/
namespace Go.Proofs.Ytnacgkkklmlhaaa
open Go.RowKit
set_option linter.unusedVariables false
set_option linter.unusedSimpArgs false
attribute [local go_sem ↓] Go.wp_at_zero Go.wp_at_succ

set_option maxHeartbeats 1000000 in
/-- nat.Div by 0. -/
theorem Div_zero (ao bo : Option Addr) (la ca lb cb : Nat) (xs ys : List Int) (w : World) (h : NumIn .u64 B64 w ao la ca xs) (h' : NumIn .u64 B64 w bo lb cb ys) (h0 : val B64 ys = 0) :
    Calls Try.prog 71 #[.slice ao la ca, .slice bo lb cb] w fun e w' => e = .returned (.tuple #[.slice none 0 0, .slice none 0 0, .bool false]) ∧ w' = w := by
  have HX := trim_any ao la ca xs w h.lies h.lc h.cm h.nn
  have HY := trim_any bo lb cb ys w h'.lies h'.lc h'.cm h'.nn
  have hz : top ys = 0 := by
    by_cases ht : top ys = 0
    · exact ht
    · exfalso
      have := val_ge B64_pos h'.dg (top ys - 1) (by omega)
      have : (0 : Int) < B64 ^ (top ys - 1) := Int.pow_pos B64_pos
      omega
  rw [hz] at HY
  go_enter Try.func71, Try.ntmps71
  go_wp2_with fail
  refine HX.mono ?_
  rintro e w1 ⟨rfl, rfl⟩
  go_wp2_with fail
  refine HY.mono ?_
  rintro e w2 ⟨rfl, rfl⟩
  go_wp2
  go_ret3
  exact ⟨rfl, rfl⟩

/-- Both answers of Div. -/
def DivOut (w w' : World) (q r : Value) (x y : Int) (L : Nat) : Prop := NumOut .u64 B64 w w' q (x / y) L ∧ NumOut .u64 B64 w w' r (x % y) L

set_option maxHeartbeats 4000000 in
/-- nat.Div. -/
theorem Div_any (ao bo : Option Addr) (la ca lb cb : Nat) (xs0 ys0 : List Int) (w : World) (h0 : NumIn .u64 B64 w ao la ca xs0) (h0' : NumIn .u64 B64 w bo lb cb ys0) (hy0 : val B64 ys0 ≠ 0) (hsm : la + lb < 1073740000) :
    Calls Try.prog 71 #[.slice ao la ca, .slice bo lb cb] w fun e w' => ∃ q r, e = .returned (.tuple #[q, r, .bool true]) ∧ DivOut w w' q r (val B64 xs0) (val B64 ys0) (la + 1) := by
  have hl := h0.len
  have hl' := h0'.len
  have ht := top_le xs0
  have ht' := top_le ys0
  have h := h0.take (top xs0) (by omega)
  have h' := h0'.take (top ys0) (by omega)
  have HX := trim_any ao la ca xs0 w h0.lies h0.lc h0.cm h0.nn
  have HY := trim_any bo lb cb ys0 w h0'.lies h0'.lc h0'.cm h0'.nn
  have cx := canon_take_top xs0
  have cy := canon_take_top ys0
  rw [← val_take_top B64 ys0] at hy0
  rw [← val_take_top B64 xs0, ← val_take_top B64 ys0]
  have lx := h.len
  have ly := h'.len
  generalize xs0.take (top xs0) = xs at *
  generalize ys0.take (top ys0) = ys at *
  generalize top xs0 = n at *
  generalize htm : top ys0 = m1 at *
  have hm0 : m1 ≠ 0 := by
    intro hz
    apply hy0
    have : ys = [] := List.eq_nil_of_length_eq_zero (by omega)
    rw [this]; rfl
  obtain ⟨m, rfl⟩ : ∃ m, m1 = m + 1 := ⟨m1 - 1, by omega⟩
  have hnl : n ≤ la := by omega
  have hml : m + 1 ≤ lb := by omega
  clear h0 h0' ht ht' hl hl' htm hm0
  have hx0 := val_nonneg B64_pos h.dg
  have hyp : 0 < val B64 ys := by have := val_nonneg B64_pos h'.dg; omega
  by_cases hlt : n < m + 1
  · have hv : val B64 xs < val B64 ys := by
      apply top_lt_val B64_one h.dg h'.dg
      unfold Canon at cx cy
      omega
    have HN := Norm_any ao n ca xs w h
    have HFIN : Hid (∀ v w', NumOut .u64 B64 w w' v (val B64 xs) n → DivOut w w' (.slice none 0 0) v (val B64 xs) (val B64 ys) (la + 1)) := by
      rintro v w' ⟨a, b, c, d, rfl, e1, e2, e3, e4, e5⟩
      refine ⟨⟨none, 0, 0, [], rfl, NumIn.nil, Canon.nil, ?_, by omega, e5⟩, ⟨a, b, c, d, rfl, e1, e2, ?_, by omega, e5⟩⟩
      · rw [Int.ediv_eq_zero_of_lt hx0 hv]; rfl
      · rw [e3, Int.emod_eq_of_lt hx0 hv]
    clear hv h h' cx cy hx0 hyp hy0
    go_enter Try.func71, Try.ntmps71
    go_wp2_with fail
    refine HX.mono ?_
    rintro e w1 ⟨rfl, rfl⟩
    go_wp2_with fail
    refine HY.mono ?_
    rintro e w2 ⟨rfl, rfl⟩
    go_wp2_with (go_at_call 72; refine HN.mono ?_; rintro e w3 ⟨v, rfl, hv⟩)
    go_ret3
    exact ⟨_, _, rfl, HFIN.out _ _ (by assumption)⟩
  · obtain ⟨t, ht64, ebl, hbig, hsmall⟩ := norm_div ys h'.dg m ly cy
    obtain ⟨b, off, rfl, hblk, hc⟩ := h'.lies.at (by omega)
    have hcell := hc m (by omega)
    have gy := h'.dg.getD B64_pos m
    have HLZ := fun w => lead_any (ys.getD m 0) w gy.1 gy.2
    rw [ebl] at HLZ
    generalize ys.getD m 0 = yt at *
    have HSY := Shift_neg (some ⟨b, off, none⟩) (m + 1) cb ys t w h' ht64 (by omega)
    have hmn : m + 1 ≤ n := by omega
    clear hlt hc ebl gy
    go_enter Try.func71, Try.ntmps71
    go_wp2_with fail
    refine HX.mono ?_
    rintro e w1 ⟨rfl, rfl⟩
    go_wp2_with fail
    refine HY.mono ?_
    rintro e w2 ⟨rfl, rfl⟩
    go_wp2_with fail
    refine (HLZ _).mono ?_
    rintro e w3 ⟨rfl, rfl⟩
    go_wp2_with fail
    refine HSY.mono ?_
    rintro e w4 ⟨v, rfl, ad, ld, cd, ds, rfl, hdn, hdc, hdv, hdl, hbel⟩
    have hld : ld = m + 1 := by
      have hp : (0 : Int) < B64 ^ m := Int.pow_pos B64_pos
      rw [← hdn.len]
      exact canon_len hdn.dg hdc m (by rw [hdv]; omega) (by rw [hdv]; exact hsmall)
    subst hld
    have hDv : Dv w4 ad (m + 1) ds := by
      refine ⟨hdn.lies, hdn.dg, by omega, ?_⟩
      rw [Nat.add_sub_cancel, digit_at B64_pos ds hdn.dg m, hdv]
      have hp : (0 : Int) < B64 ^ m := Int.pow_pos B64_pos
      have a1 : 9223372036854775808 ≤ val B64 ys * 2 ^ t / B64 ^ m := (Int.le_ediv_iff_mul_le hp).2 hbig
      have a2 : val B64 ys * 2 ^ t / B64 ^ m < B64 := Int.ediv_lt_of_lt_mul hp (by rw [Int.mul_comm B64, ← Int.pow_succ]; exact hsmall)
      rw [Int.emod_eq_of_lt (by omega) a2]
      exact a1
    obtain ⟨b2, off2, rfl, hblk2, hc2⟩ := hdn.lies.at (by omega)
    obtain ⟨M, rfl⟩ : ∃ M, n = m + 1 + M := ⟨n - (m + 1), by omega⟩
    have h4 := h.old hbel
    have HBEL : Hid (Below w3.heap.size w3 w4) := hbel
    have HD0 : Hid (0 < val B64 ds ∧ val B64 ds < B64 ^ (m + 1)) := hDv.range
    have HX0 : Hid (val B64 xs * 2 ^ t < B64 ^ (M + 1) * val B64 ds) := by
      unfold Hid
      have a := val_lt B64_pos h.dg
      rw [lx] at a
      have hp : (0 : Int) < 2 ^ t := Int.pow_pos (by decide)
      have hp2 : (0 : Int) < B64 ^ (M + 1) := Int.pow_pos B64_pos
      have c1 := Int.mul_lt_mul_of_pos_right a hp
      have c2 : (2 : Int) ^ t ≤ 9223372036854775808 := pow_mono (B := 2) (by decide) (show t ≤ 63 by omega)
      have c3 : (0 : Int) < B64 ^ m := Int.pow_pos B64_pos
      have c4 : B64 ^ m * 2 ^ t ≤ B64 ^ m * 9223372036854775808 := Int.mul_le_mul_of_nonneg_left c2 (by omega)
      have c5 : B64 ^ (M + 1) * (B64 ^ m * 2 ^ t) ≤ B64 ^ (M + 1) * val B64 ds := Int.mul_le_mul_of_nonneg_left (by rw [hdv]; omega) (by omega)
      have c6 : B64 ^ (m + 1 + M) * 2 ^ t = B64 ^ (M + 1) * (B64 ^ m * 2 ^ t) := by rw [show m + 1 + M = (M + 1) + m by omega, Int.pow_add]; grind
      omega
    have HDV : Hid (val B64 ds = val B64 ys * 2 ^ t) := hdv
    have HLX : Hid (xs.length = m + 1 + M) := lx
    clear hsmall hbig hdv hdc HLZ hcell hbel cx cy hy0 hx0 hyp lx ly hc2 HX HY HSY h' hblk
    go_wp2_with (at_make; refine wpList_make_row _ rfl _ _ 23 rfl 36 .u64 8 Try.underlying23 Try.infoU _ _ _ _ (m + 1 + M + 1) rfl rfl (by omega) (by omega) (by omega) (by unfold maxLen; omega) ?_)
    intro w5 hrowl hbel5
    have HSX := Shift_neg ao (m + 1 + M) ca xs t w5 (h4.old hbel5) ht64 (by omega)
    go_wp2_with fail
    refine HSX.mono ?_
    rintro e w6 ⟨v, rfl, asx, ls, cs, sx, rfl, hsn, hsc, hsv, hsl, hbel6⟩
    have hrow6 := hrowl.below hbel6 hrowl.lt
    have hbel46 : Below w4.heap.size w4 w6 := hbel5.trans (hbel6.mono hbel5.size)
    have hlsx := hsn.len
    go_wp2_with (refine wpList_copy_row rfl _ _ 23 23 rfl 36 Try.underlying23 .u64 8 Try.infoU w4.heap.size asx _ _ _ _ rfl rfl _ sx hrow6 hsn.lies (by simp) ls (by omega) w4.heap.size w4 hbel46 (Nat.le_refl _) ?_)
    intro w7 hrow7 hbel7
    have HV7 : Hid (val B64 (sx.take ls ++ List.replicate (m + 1 + M + 1 - ls) 0) = val B64 xs * 2 ^ t ∧ Dg B64 (sx.take ls ++ List.replicate (m + 1 + M + 1 - ls) 0) ∧ (sx.take ls ++ List.replicate (m + 1 + M + 1 - ls) (0 : Int)).length = m + 1 + M + 1) := by
      refine ⟨?_, (hsn.dg.take _).append (Dg.zeros B64_pos _), ?_⟩
      · rw [val_append, List.take_of_length_le (by omega), hsv, val_replicate]; simp
      · simp; omega
    have HROW7 : Hid (Row 36 .u64 w7 w4.heap.size (sx.take ls ++ List.replicate (m + 1 + M + 1 - ls) 0)) := hrow7
    clear hrow7 hsv hsc hsl hsn hlsx hrow6 hbel46 hbel6 hbel5 hrowl HSX
    generalize sx.take ls ++ List.replicate (m + 1 + M + 1 - ls) 0 = cur0 at *
    go_wp2_with (at_make; refine wpList_make_row _ rfl _ _ 23 rfl 36 .u64 8 Try.underlying23 Try.infoU _ _ _ _ (M + 1) rfl rfl (by omega) (by omega) (by omega) (by unfold maxLen; omega) ?_)
    intro w8 hrowq hbel8
    have hrow8 := HROW7.out.below hbel8 HROW7.out.lt
    have hgq : w4.heap.size < w7.heap.size := HROW7.out.lt
    have hbel48 : Below w4.heap.size w4 w8 := hbel7.trans (hbel8.mono hbel7.size)
    have HINI : Hid (Dvs (val B64 xs * 2 ^ t) (val B64 ds) (m + 1 + M) (M + 1) (M + 1) cur0 (List.replicate (M + 1) 0)) := by
      refine ⟨HV7.out.2.2, HV7.out.2.1, by simp, Dg.zeros B64_pos _, by rw [HV7.out.1]; exact HX0.out, ?_⟩
      rw [HV7.out.1, List.drop_eq_nil_of_le (by simp)]
      simp [val]
    clear HROW7 hbel7 hbel8
    go_wp2
    go_loopw [58] (fun v wr => ∃ (i : Nat) (cur qs : List Int), i ≤ M + 1 ∧ v = .int .i64 i ∧ Row 36 .u64 wr w4.heap.size cur ∧ Row 36 .u64 wr w7.heap.size qs ∧ Dvs (val B64 xs * 2 ^ t) (val B64 ds) (m + 1 + M) (M + 1) (M + 1 - i) cur qs ∧ Below w4.heap.size w4 wr) (fun v _ => M + 1 - (intOf v).toNat)
    case atStart => exact ⟨0, _, _, Nat.zero_le _, rfl, hrow8, hrowq, HINI.out, hbel48⟩
    case round =>
      obtain ⟨i, cur, qs, hi, rfl, hrl, hrq, hdv, hbw⟩ := hrel
      by_cases hlt : i < M + 1
      · obtain ⟨k, hk⟩ : ∃ k : Nat, (M : Int) - i = k := ⟨M - i, by omega⟩
        have hkM : k < M + 1 := by omega
        rw [show M + 1 - i = k + 1 by omega] at hdv
        have hpre := hdv.pre (n := m + 1) (by omega) HD0.out.2 HD0.out.1
        have hlc := hdv.1
        have hDw : Dv wr (some ⟨b2, off2, none⟩) (m + 1) ds := ⟨hDv.lies.old hbw, hDv.dg, hDv.pos, hDv.big⟩
        have HDL := divLimb_any 36 w4.heap.size k m (m + 1 + M + 1 - k) cd (some ⟨b2, off2, none⟩) cur ds wr hrl hdv.2.1 hDw (fun b' off' s hb' => by injection hb' with hb'; injection hb' with hb'; omega) (by omega) (by omega) _ _ rfl rfl hpre.2
        have HST : Hid (∀ cur' G, cur'.length = cur.length → Dg B64 cur' → (∀ j, j < k ∨ k + (m + 1) < j → cur'.getD j 0 = cur.getD j 0) → G = val B64 (seg cur k (m + 1 + 1)) / val B64 ds → val B64 (seg cur' k (m + 1 + 1)) = val B64 (seg cur k (m + 1 + 1)) % val B64 ds →
            (0 ≤ G ∧ G < 18446744073709551616) ∧ Dvs (val B64 xs * 2 ^ t) (val B64 ds) (m + 1 + M) (M + 1) k cur' (qs.set k G)) := fun cur' G a b c d e => hdv.step (n := m + 1) (by omega) hkM HD0.out.2 HD0.out.1 a b c d e
        have hlq := hdv.2.2.1
        have HRQ : Hid (Row 36 .u64 wr w7.heap.size qs) := hrq
        have HBW : Hid (Below w4.heap.size w4 wr) := hbw
        have HKI : Hid (M + 1 - (i + 1) = k) := by unfold Hid; omega
        have hke : k + (m + 1 + 1) ≤ m + 1 + M + 1 := by omega
        clear hdv hpre hrl hrq hbw hrow8 hrowq hbel48 hDw HINI HV7
        go_wp2_with fail
        rw [show k + (m + 1) + 1 - k = m + 1 + 1 by omega]
        refine HDL.mono ?_
        rintro e w9 ⟨G, rfl, cur', hrl', c1, c2, c3, eG, eR, hgr⟩
        have hst := HST.out cur' G c1 c2 c3 eG eR
        have hrq9 := HRQ.out.kept hgr (by simp; omega)
        have hfr := hrq9.frozen k
        have hcl := hrq9.cell k (by omega)
        have HRL : Hid (Row 36 .u64 (w9.setCell ⟨w7.heap.size, k, none⟩ (.int .u64 G)) w4.heap.size cur') := hrl'.kept (grown_set _ _ _ _) (by simp; omega)
        have HRQ9 : Hid (Row 36 .u64 (w9.setCell ⟨w7.heap.size, k, none⟩ (.int .u64 G)) w7.heap.size (qs.set k G)) := hrq9.set k G
        have HB9 : Hid (Below w4.heap.size w4 (w9.setCell ⟨w7.heap.size, k, none⟩ (.int .u64 G))) := (HBW.out.grown hgr HBW.out.size (fun j hj => by injection hj with hj; omega)).setCell (p := ⟨w7.heap.size, k, none⟩) (by show w4.heap.size ≤ w7.heap.size; omega) _
        have HDS : Hid (Dvs _ _ _ _ _ _ _) := hst.2
        clear hst hrq9 hrl' c1 c2 c3 eG eR hgr HST HDL HRQ HBW
        go_wp2
        go_roundw
        case rel => exact ⟨i + 1, cur', _, by omega, by go_num, HRL.out, HRQ9.out, by rw [HKI.out]; exact HDS.out, HB9.out⟩
        case measure => simp [intOf]; omega
      · obtain rfl : i = M + 1 := by omega
        rw [Nat.sub_self] at hdv
        have hdone := hdv.done HDV.out HD0.out.1
        have hlc := hdv.1
        have hlq := hdv.2.2.1
        have hnq := hrq.num hdv.2.2.2.1 (by omega)
        have hnl' := hrl.num hdv.2.1 (by omega)
        rw [hlq] at hnq
        rw [hlc] at hnl'
        have HSH := Shift_down (some ⟨w4.heap.size, 0, none⟩) (m + 1 + M + 1) (m + 1 + M + 1) cur t wr hnl' (by omega)
        rw [hdone.2] at HSH
        have HQV : Hid (val B64 qs = val B64 xs / val B64 ys) := hdone.1
        have HNQ : Hid (NumIn _ _ _ _ _ _ _) := hnq
        have HB : Hid (Below w3.heap.size w3 wr) := HBEL.out.trans (hbw.mono HBEL.out.size)
        clear hdv hdone hrl hrq hnq hnl' hbw hrow8 hrowq hbel48 HINI HV7 hlc hlq h h4 hdn hDv HX0 HD0 HDV
        go_wp2_with fail
        refine (trim_any _ _ _ _ _ HNQ.out.lies HNQ.out.lc HNQ.out.cm HNQ.out.nn).mono ?_
        rintro e w10 ⟨rfl, rfl⟩
        go_wp2_with fail
        refine HSH.mono ?_
        rintro e w11 ⟨v, rfl, ar, lr, cr, rs, rfl, r1, r2, r3, r4, r5⟩
        have HF : Hid (DivOut w3 w11 (.slice (some ⟨w7.heap.size, 0, none⟩) (top qs) (M + 1)) (.slice ar lr cr) (val B64 xs) (val B64 ys) (la + 1)) := by
          have hbb : Below w3.heap.size w3 w11 := HB.out.trans (r5.mono HB.out.size)
          refine ⟨(HNQ.out.old r5).out hbb _ HQV.out _ (by omega), ⟨ar, lr, cr, rs, rfl, r1, r2, r3, by omega, hbb⟩⟩
        clear r1 r2 r3 r4 r5 HB HNQ HQV
        go_wp2
        go_ret3
        exact ⟨_, _, rfl, HF.out⟩
end Go.Proofs.Ytnacgkkklmlhaaa
/-
  Contract of the fixed facts: Awake answers true; and of long.
-/
namespace Go.Proofs.Ytnacgkkklmlhaaa
open Go.RowKit
set_option linter.unusedVariables false
set_option linter.unusedSimpArgs false

theorem one_number {xs : List Int} (hd : Dg B64 xs) (hc : Canon xs) {ys : List Int} (hd' : Dg B64 ys) (hc' : Canon ys) (h : val B64 xs = val B64 ys) : xs = ys := canon_inj B64_one hd hd' hc hc' h
theorem dg_lit2 (a b : Int) (ha : 0 ≤ a ∧ a < 18446744073709551616) (hb : 0 ≤ b ∧ b < 18446744073709551616) : Dg B64 [a, b] := Dg.cons ha (Dg.cons hb (Dg.nil _))

end Go.Proofs.Ytnacgkkklmlhaaa
/-
  Contract of long: whether one of the numbers handed over has more limbs than are gone to.
-/
namespace Go.Proofs.Ytnacgkkklmlhaaa
open Go.RowKit
set_option linter.unusedVariables false
set_option linter.unusedSimpArgs false

end Go.Proofs.Ytnacgkkklmlhaaa
/-
  What a law is told of a slice of integers that came in, as a number.
-/
namespace Go.Proofs.Ytnacgkkklmlhaaa
open Go.RowKit
set_option linter.unusedVariables false
set_option linter.unusedSimpArgs false

/-- A slice of integers that came in: nil, or a row of 'cap' cells. -/
def Came (k : IntKind) (w : World) (a : Option Addr) (len cap : Nat) (zs : List Int) : Prop :=
  (a = none ∧ len = 0 ∧ cap = 0 ∧ zs = []) ∨
  ∃ x, a = some x ∧ len ≤ cap ∧ cap ≤ maxLen ∧ zs.length = cap ∧ (∀ i, i < zs.length → w.cell? (x.add i) = some (.int k (zs.getD i 0))) ∧ ∀ n ∈ zs, (Lit.int k n).wf = true

theorem word_u64 {x : Int} (h : (Lit.int .u64 x).wf = true) : 0 ≤ x ∧ x < 18446744073709551616 := by
  simp [Lit.wf, IntKind.min, IntKind.max, IntKind.signed, IntKind.bits] at h
  exact ⟨by omega, by omega⟩
theorem word_u8 {x : Int} (h : (Lit.int .u8 x).wf = true) : 0 ≤ x ∧ x < 256 := by
  simp [Lit.wf, IntKind.min, IntKind.max, IntKind.signed, IntKind.bits] at h
  exact ⟨by omega, by omega⟩

theorem Came.le {k : IntKind} {w : World} {a : Option Addr} {len cap : Nat} {zs : List Int} (h : Came k w a len cap zs) : len ≤ maxLen := by
  rcases h with ⟨rfl, rfl, rfl, rfl⟩ | ⟨x, rfl, h1, h2, _⟩
  · simp
  · omega
theorem Came.num {k : IntKind} {B : Int} {w : World} {a : Option Addr} {len cap : Nat} {zs : List Int} (hk : ∀ n, (Lit.int k n).wf = true → 0 ≤ n ∧ n < B) (h : Came k w a len cap zs) (hs : len ≤ 1073741824) : NumIn k B w a len cap (zs.take len) := by
  rcases h with ⟨rfl, rfl, rfl, rfl⟩ | ⟨x, rfl, h1, h2, h3, h4, h5⟩
  · exact NumIn.nil
  · refine ⟨⟨by simp; omega, ?_⟩, h1, h2, (fun h => by cases h), fun n hn => hk n (h5 n (List.mem_of_mem_take hn)), hs⟩
    by_cases h0 : len = 0
    · exact .inl h0
    · right
      obtain ⟨b, off, spot⟩ := x
      have hc := h4 0 (by omega)
      have hspot : spot = none := by simpa [Addr.add] using World.cell?_spot hc
      subst hspot
      refine ⟨b, off, rfl, ?_, fun i hi => ?_⟩
      · rw [add_none] at hc
        exact World.block_lt_of_cell? w ⟨b, off + 0, none⟩ hc
      · have := h4 i (by omega)
        rw [add_none] at this
        rw [this]
        simp only [List.getD, List.getElem?_take]
        rw [if_pos hi]
theorem Came.nat {w : World} {a : Option Addr} {len cap : Nat} {zs : List Int} (h : Came .u64 w a len cap zs) (hs : len ≤ 70) : NumIn .u64 B64 w a len cap (zs.take len) := h.num (fun _ => word_u64) (by omega)
theorem Came.bytes {w : World} {a : Option Addr} {len cap : Nat} {zs : List Int} (h : Came .u8 w a len cap zs) (hs : len ≤ 2000) : NumIn .u8 256 w a len cap (zs.take len) := h.num (fun _ => word_u8) (by omega)
theorem Came.old {k : IntKind} {w w' : World} {a : Option Addr} {len cap : Nat} {zs : List Int} (h : Came k w a len cap zs) (hb : Below w.heap.size w w') : Came k w' a len cap zs := by
  rcases h with h | ⟨x, rfl, h1, h2, h3, h4, h5⟩
  · exact .inl h
  · refine .inr ⟨x, rfl, h1, h2, h3, fun i hi => ?_, h5⟩
    have := h4 i hi
    have hlt := World.block_lt_of_cell? w _ this
    rw [hb.cell hlt]; exact this
end Go.Proofs.Ytnacgkkklmlhaaa
/-
  append of numbers to a slice of the call's own.
-/
namespace Go.Proofs.Ytnacgkkklmlhaaa
open Go.RowKit
set_option linter.unusedVariables false
set_option linter.unusedSimpArgs false

/-- The slice value v is the call's own (its block is from 'base' on) and holds xs. -/
def Own (e : TypeId) (k : IntKind) (w : World) (base : Nat) (v : Value) (xs : List Int) : Prop := w.ownsRow base e 1 v xs.length (xs.map (Value.int k))

theorem Own.nil (e : TypeId) (k : IntKind) (w : World) (base : Nat) : Own e k w base (.slice none 0 0) [] := World.ownsRow_nil w base e 1
theorem Own.num {e : TypeId} {k : IntKind} {B : Int} {w : World} {base : Nat} {v : Value} {xs : List Int} (h : Own e k w base v xs) (hd : Dg B xs) (hs : xs.length ≤ 1073741824) : ∃ ao cap, v = .slice ao xs.length cap ∧ NumIn k B w ao xs.length cap xs := by
  rcases h.2 with ⟨rfl, h0⟩ | ⟨g, cap, cur, rfl, hg, hrow, h1, h2, h3, h4⟩
  · have : xs = [] := List.eq_nil_of_length_eq_zero h0
    subst this
    exact ⟨none, 0, rfl, NumIn.nil⟩
  · refine ⟨_, cap, rfl, ⟨⟨rfl, ?_⟩, h1, h2, (fun h => by cases h), hd, hs⟩⟩
    right
    refine ⟨g, 0, rfl, (Array.getElem?_eq_some_iff.1 hrow).1, fun i hi => ?_⟩
    rw [Nat.zero_add, cell_of_row w g i cur e (0, 0) hrow]
    have : (cur.toList.take (xs.length * 1))[i]? = (xs.map (Value.int k))[i]? := by rw [h4]
    rw [List.getElem?_take, if_pos (by omega)] at this
    rw [← Array.getElem?_toList, this]
    simp [hi]
theorem Own.below {e : TypeId} {k : IntKind} {w w' : World} {base : Nat} {v : Value} {xs : List Int} (h : Own e k w base v xs) (hb : Below w.heap.size w w') : Own e k w' base v xs := by
  refine ⟨h.1, ?_⟩
  rcases h.2 with h0 | ⟨g, cap, cur, rfl, hg, hrow, r⟩
  · exact .inl h0
  · exact .inr ⟨g, cap, cur, rfl, hg, by rw [hb.block g (Array.getElem?_eq_some_iff.1 hrow).1]; exact hrow, r⟩
theorem Own.alloc {e : TypeId} {k : IntKind} {w : World} {base : Nat} {v : Value} {xs : List Int} (h : Own e k w base v xs) (o : Obj) : Own e k (w.alloc o) base v xs := World.ownsRow.alloc h o
/-- A slice literal without elements. -/
theorem own_lit0 (e : TypeId) (k : IntKind) (w : World) (base : Nat) (hb : base ≤ w.heap.size) : Own e k (w.alloc (.cells #[] e)) base (.slice (some ⟨w.heap.size, 0, none⟩) 0 0) [] :=
  World.ownsRow_lit w #[] 0 hb (Nat.zero_le _) (by simp)
theorem Row.own {e : TypeId} {k : IntKind} {w : World} {g base : Nat} {xs : List Int} (h : Row e k w g xs) (hb : base ≤ g) (hs : xs.length ≤ 1073741824) : Own e k w base (.slice (some ⟨g, 0, none⟩) xs.length xs.length) xs := by
  refine ⟨by simp, .inr ⟨g, xs.length, _, rfl, hb, h, Nat.le_refl _, by unfold maxLen; omega, by simp, ?_⟩⟩
  simp only [Nat.mul_one]
  exact List.take_of_length_le (by simp)

/-- append(out, src...): whatever the source. -/
theorem wpList_append_nums {P : Program} {w : World} {ops : Array Oper} {rest : List Oper} {o : Oper} {a : Act} {Q : Exit → Act → World → Prop} (hgd : o.guard = none) (s x : Operand) (t : TypeId)
    (ho : o.op = .call { callee := .builtin .append, args := #[s, x], argTypes := #[t, t] }) (e : TypeId) (k : IntKind) (bytes : Nat) (ht : P.underlying t = some (.slice e))
    (h2 : (P.info? e).map (fun i => (i.zero, i.size, i.bytes)) = some (some (.int k 0), 1, bytes)) (base : Nat) (v : Value) (xs : List Int) (hs : a.eval s = v) (hown : Own e k w base v xs)
    (ao : Option Addr) (m c : Nat) (ys : List Int) (hx : a.eval x = .slice ao m c) (hy : Lies k w ao m ys) (hnn : ao = none → c = 0) (hb1 : xs.length + m ≤ 1073741824) (hb2 : bytes ≤ 8) (w0 : World) (hb : Below base w0 w) (hbase : base ≤ w.heap.size)
    (h : ∀ v' w', Own e k w' base v' (xs ++ ys) → Below base w0 w' → (∀ g, v.ownBlock ≠ some g → g < w.heap.size → w'.heap[g]? = w.heap[g]?) → w.heap.size ≤ w'.heap.size → wpList P ops Q rest (a.put o.dst v') w') : wpList P ops Q (o :: rest) a w := by
  obtain ⟨i, hi, hz0, hz1, hz2⟩ := info_parts h2
  have hl := hy.len
  cases ao with
  | none =>
    obtain rfl := hnn rfl
    have hm0 : m = 0 := by
      rcases hy.2 with h | ⟨b, off, e', _⟩
      · exact h
      · cases e'
    subst hm0
    have hy0 : ys = [] := List.eq_nil_of_length_eq_zero hl
    subst hy0
    refine wpList_append_own_none hgd s x t ho base e i 1 ht hi v _ _ hs hown hx ?_
    exact h v w (by rw [List.append_nil]; exact hown) hb (fun _ _ _ => rfl) (Nat.le_refl _)
  | some ad =>
    have hbt : (xs.length + m) * bytes ≤ 140737488355328 := by
      have := Nat.mul_le_mul hb1 hb2
      omega
    refine wpList_append_own (w := w) hgd s x t ho base e i (.int k 0) 1 bytes ht hi hz0 hz1 hz2 rfl (by decide) v _ _ hs hown ad m c (ys.map (Value.int k)) hx (by simp [hl]) ?_ (ints_oneCell _ _) (by unfold maxLen; omega) hbt hbase ?_
    · intro j u hj
      simp only [List.getElem?_map] at hj
      by_cases hjm : j < ys.length
      · obtain ⟨b, off, e', hlt, hc⟩ := hy.at (by omega)
        injection e' with e'
        subst e'
        have := hc j (by omega)
        rw [List.getElem?_eq_getElem hjm] at hj
        simp only [Option.map_some, Option.some.injEq] at hj
        rw [add_none, this, ← hj]
        simp [List.getD, List.getElem?_eq_getElem hjm]
      · rw [List.getElem?_eq_none (by omega)] at hj
        simp at hj
    · intro v' w' hown' hgr _
      refine h v' w' ?_ (hb.grown hgr hbase ?_) ?_ hgr.size
      · unfold Own
        rw [List.length_append, List.map_append, hl]
        exact hown'
      · intro g hg
        exact (hown.lt g hg).1
      · intro g hg hlt
        exact hgr.block g hlt (fun e => hg e.symm)

theorem blen_bytes (B : Int) (n : Nat) (h0 : 0 ≤ B) (h : B < 256 ^ n) : blen B.toNat ≤ 8 * n := by
  apply blen_le
  have e : ((2 ^ (8 * n) : Nat) : Int) = 256 ^ n := by rw [Int.natCast_pow, Int.pow_mul]; rfl
  rw [← e] at h
  omega
/-- Bytes as a text. -/
theorem conv_bytes (w : World) (src dst e : TypeId) (hs : Try.prog.underlying src = some (.slice e)) (he : Try.prog.underlying e = some (.int .u8)) (hd : Try.prog.underlying dst = some .string) (ao : Option Addr) (len cap : Nat) (xs : List Int) (h : Lies .u8 w ao len xs) :
    (convert src dst (.slice ao len cap)).run Try.prog w = .ok (.string (strOfNums xs)) w := by
  have hl := h.len
  rcases h.2 with h0 | ⟨b, off, rfl, hb, hc⟩
  · subst h0
    have hx : xs = [] := List.eq_nil_of_length_eq_zero hl
    subst hx
    cases ao with
    | none => exact run_convert_bytes_nil w src e hs he 0 cap dst hd
    | some a =>
      rw [run_convert_bytes_string w src dst e _ 0 cap hs he hd, run_bytesToString w a 0 cap [] (by rfl)]
      rfl
  · exact run_convert_bytes_arg w src e hs he b off len cap xs hl hc dst hd

/-- nat.Shift below or at 0. -/
theorem Shift_minus (ao : Option Addr) (la ca : Nat) (xs : List Int) (t : Nat) (arg : Int) (w : World) (h : NumIn .u64 B64 w ao la ca xs) (ha : arg = -(t : Int)) (ht : t ≤ 4096) (hlb : la < 1073741000) :
    Calls Try.prog 82 #[.slice ao la ca, .int .i64 arg] w fun e w' => ∃ v, e = .returned v ∧ NumOut .u64 B64 w w' v (val B64 xs * 2 ^ t) (la + 65) := by
  subst ha
  by_cases h0 : t = 0
  · subst h0
    refine (Shift_down ao la ca xs 0 w h (by decide)).mono ?_
    rintro e w' ⟨v, rfl, a, b, c, d, rfl, e1, e2, e3, e4, e5⟩
    refine ⟨_, rfl, a, b, c, d, rfl, e1, e2, ?_, by omega, e5⟩
    rw [e3]; simp
  · refine (Shift_up ao la ca xs t w h (by omega) ht hlb).mono ?_
    rintro e w' ⟨v, rfl, a, b, c, d, rfl, e1, e2, e3, e4, e5⟩
    exact ⟨_, rfl, a, b, c, d, rfl, e1, e2, e3, by omega, e5⟩
/-- nat.Shift from 0 on. -/
theorem Shift_plus (ao : Option Addr) (la ca : Nat) (xs : List Int) (t : Nat) (arg : Int) (w : World) (h : NumIn .u64 B64 w ao la ca xs) (ha : arg = (t : Int)) (ht : t < 2147483648) :
    Calls Try.prog 82 #[.slice ao la ca, .int .i64 arg] w fun e w' => ∃ v, e = .returned v ∧ NumOut .u64 B64 w w' v (val B64 xs / 2 ^ t) la := by
  subst ha
  exact Shift_down ao la ca xs t w h ht
end Go.Proofs.Ytnacgkkklmlhaaa
