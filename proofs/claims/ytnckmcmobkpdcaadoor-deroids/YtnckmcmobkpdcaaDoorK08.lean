import Derived.Test.YtnckmcmobkpdcaaDoorK07
import Derived.Test.YtnckmcmobkpdcaaDoorK03
import Derived.Test.YtnckmcmobkpdcaaDoorK04
import Derived.Lib.LaidU8
import Derived.WideShapes
import Derived.OpenShut
import Derived.ChangeSame
/-
  Contracts of nat.double, halve, Shift.
-/
namespace Go.Proofs.YtnckmcmobkpdcaaDoor
open Go.RowKit
set_option linter.unusedVariables false
set_option linter.unusedSimpArgs false
attribute [local go_sem ↓] Go.wp_at_zero Go.wp_at_succ

/-- A limb in two parts. -/
theorem parts (x p s : Int) (hp : 0 < p) (hs : 0 < s) (hps : p * s = 18446744073709551616) (hx : 0 ≤ x ∧ x < 18446744073709551616) :
    (x * p) % 18446744073709551616 = (x % s) * p ∧ 0 ≤ x / s ∧ x / s < p ∧ (x % s) * p + 18446744073709551616 * (x / s) = x * p ∧ 0 ≤ (x % s) * p ∧ (x % s) * p + p ≤ 18446744073709551616 := by
  have h1 := Int.emod_nonneg x (show s ≠ 0 by omega)
  have h2 := Int.emod_lt_of_pos x hs
  have h3 := Int.mul_ediv_add_emod x s
  have h4 : 0 ≤ x / s := Int.ediv_nonneg hx.1 (by omega)
  have h5 : x / s < p := by
    apply Int.ediv_lt_of_lt_mul hs
    rw [hps]; exact hx.2
  have h6 : (x % s) * p + 18446744073709551616 * (x / s) = x * p := by
    rw [← hps]
    conv => rhs; rw [← h3]
    grind
  have h7 : 0 ≤ (x % s) * p := Int.mul_nonneg h1 (by omega)
  have h8 : (x % s) * p + p ≤ 18446744073709551616 := by
    have : (x % s + 1) * p ≤ s * p := Int.mul_le_mul_of_nonneg_right (by omega) (by omega)
    rw [Int.add_mul, Int.one_mul, Int.mul_comm s p, hps] at this
    exact this
  refine ⟨?_, h4, h5, h6, h7, h8⟩
  rw [← h6, Int.add_mul_emod_self_left]
  exact Int.emod_eq_of_lt h7 (by omega)
/-- Or of parts that don't meet is the sum. -/
theorem or_sum (y : Int) (m r : Nat) (hy : 0 ≤ y ∧ y < 2 ^ r) (hm : (m : Int) * 2 ^ r + 2 ^ r ≤ 18446744073709551616) : bits .or .u64 y ((m : Int) * 2 ^ r) = y + (m : Int) * 2 ^ r := by
  obtain ⟨y, rfl⟩ := Int.eq_ofNat_of_zero_le hy.1
  have hp : ((2 ^ r : Nat) : Int) = (2 : Int) ^ r := by simp
  rw [← hp] at hy hm ⊢
  rw [← Int.natCast_mul] at hm ⊢
  have hy2 : y < 2 ^ r := by omega
  have := bits_or_u64_nat y (m * 2 ^ r) (by omega) (by omega)
  rw [this]
  have e := Nat.two_pow_add_eq_or_of_lt hy2 m
  rw [Nat.mul_comm m (2 ^ r), Nat.or_comm, ← e]
  omega
theorem or_sum' (y z : Int) (m r : Nat) (hz : z = (m : Int) * 2 ^ r) (hy : 0 ≤ y ∧ y < 2 ^ r) (hm : z + 2 ^ r ≤ 18446744073709551616) : bits .or .u64 y z = y + z := by
  subst hz; exact or_sum y m r hy hm
theorem pow64 (r : Nat) (hr : r ≤ 64) : (2 : Int) ^ r * 2 ^ (64 - r) = 18446744073709551616 := by
  rw [← Int.pow_add, show r + (64 - r) = 64 by omega]; rfl

/-- What stands in the row when i limbs have been gone over. -/
def Dbls (xs : List Int) (n q r i : Nat) (cur : List Int) : Prop :=
  cur.length = n ∧ Dg B64 cur ∧ (∀ j, q + i < j → cur.getD j 0 = 0) ∧ cur.getD (q + i) 0 < 2 ^ r ∧ low B64 cur (q + i + 1) = B64 ^ q * (low B64 xs i * 2 ^ r)
theorem Dbls.zero (xs : List Int) (n q r : Nat) : Dbls xs n q r 0 (List.replicate n 0) :=
  ⟨by simp, Dg.zeros B64_pos _, fun j _ => getD_zeros _ j, by rw [getD_zeros]; exact Int.pow_pos (by decide), by rw [low_zeros, low_zero]; simp⟩
theorem Dbls.step {xs : List Int} {n q r i : Nat} {cur : List Int} (h : Dbls xs n q r i cur) (hr : r < 64) (hn : q + i + 1 < n) (hx : 0 ≤ xs.getD i 0 ∧ xs.getD i 0 < 18446744073709551616) :
    Dbls xs n q r (i + 1) ((cur.set (q + i) (bits .or .u64 (cur.getD (q + i) 0) (IntKind.u64.wrap (xs.getD i 0 * 2 ^ r)))).set (q + i + 1) (xs.getD i 0 / 2 ^ (64 - r))) := by
  obtain ⟨h1, h2, h3, h4, h5⟩ := h
  have hp : (0 : Int) < 2 ^ r := Int.pow_pos (by decide)
  have hs : (0 : Int) < 2 ^ (64 - r) := Int.pow_pos (by decide)
  obtain ⟨a1, a2, a3, a4, a5, a6⟩ := parts (xs.getD i 0) (2 ^ r) (2 ^ (64 - r)) hp hs (pow64 r (by omega)) hx
  have hy := h2.getD B64_pos (q + i)
  obtain ⟨m, hm⟩ := Int.eq_ofNat_of_zero_le (Int.emod_nonneg (xs.getD i 0) (show (2 : Int) ^ (64 - r) ≠ 0 by omega))
  rw [IntKind.wrap_u64, a1, or_sum' (cur.getD (q + i) 0) _ m r (by rw [hm]) ⟨hy.1, h4⟩ a6]
  have hpb : (2 : Int) ^ r ≤ 18446744073709551616 := by omega
  refine ⟨by simp [h1], (h2.set _ ⟨by omega, by unfold B64; omega⟩).set _ ⟨a2, by unfold B64; omega⟩, fun j hj => ?_, ?_, ?_⟩
  · rw [getD_set _ _ _ _ (by simp; omega), if_neg (by omega), getD_set _ _ _ _ (by omega), if_neg (by omega)]
    exact h3 j (by omega)
  · rw [show q + (i + 1) = q + i + 1 by omega, getD_set _ _ _ _ (by simp; omega), if_pos rfl]
    exact a3
  · rw [show q + (i + 1) + 1 = (q + i + 1) + 1 by omega, low_set_succ _ _ _ _ (by simp; omega), low_set_succ _ _ _ _ (by omega)]
    rw [low_succ] at h5
    rw [low_succ B64 xs, Int.pow_succ, Int.pow_add]
    rw [Int.pow_add] at h5
    generalize xs.getD i 0 % 2 ^ (64 - r) * 2 ^ r = u at *
    generalize xs.getD i 0 / 2 ^ (64 - r) = v at *
    generalize cur.getD (q + i) 0 = y at *
    generalize low B64 cur (q + i) = L at *
    generalize low B64 xs i = X at *
    generalize xs.getD i 0 = x at *
    generalize (2 : Int) ^ r = p at *
    have e : B64 = 18446744073709551616 := rfl
    rw [← e] at a4
    generalize B64 ^ q = Q at *
    generalize B64 ^ i = I at *
    generalize B64 = b at *
    have : L + Q * I * (y + u) + Q * I * b * v = (L + Q * I * y) + Q * I * (u + b * v) := by grind
    rw [this, h5, a4]
    grind
theorem Dbls.done {xs : List Int} {n q r : Nat} {cur : List Int} (h : Dbls xs n q r xs.length cur) (hn : n = q + xs.length + 1) : val B64 cur = val B64 xs * 2 ^ (64 * q + r) := by
  rw [← low_len, h.1, hn, h.2.2.2.2, low_len, Int.pow_add, Int.pow_mul]
  have e : B64 = 2 ^ 64 := rfl
  rw [e]
  generalize val (2 ^ 64) xs = V
  generalize ((2 : Int) ^ 64) ^ q = Q
  generalize (2 : Int) ^ r = R
  grind

/-! ### halve -/
theorem getD_drop (xs : List Int) (q j : Nat) : (xs.drop q).getD j 0 = xs.getD (q + j) 0 := by simp [List.getD, List.getElem?_drop]
/-- What stands in the row when i limbs have been gone over. -/
def Hlvs (ds : List Int) (n r i : Nat) (cur : List Int) : Prop :=
  cur.length = n ∧ Dg B64 cur ∧ 2 ^ r * low B64 cur i + ds.getD 0 0 % 2 ^ r = low B64 ds i + B64 ^ i * (ds.getD i 0 % 2 ^ r)
theorem Hlvs.zero (ds : List Int) (n r : Nat) : Hlvs ds n r 0 (List.replicate n 0) :=
  ⟨by simp, Dg.zeros B64_pos _, by rw [low_zeros, low_zero]; simp⟩
theorem Hlvs.step {ds : List Int} {n r i : Nat} {cur : List Int} (h : Hlvs ds n r i cur) (hr : r < 64) (hn : i < n) (hx : 0 ≤ ds.getD i 0 ∧ ds.getD i 0 < 18446744073709551616) (hy : 0 ≤ ds.getD (i + 1) 0 ∧ ds.getD (i + 1) 0 < 18446744073709551616) :
    Hlvs ds n r (i + 1) (cur.set i (bits .or .u64 (ds.getD i 0 / 2 ^ r) (IntKind.u64.wrap (ds.getD (i + 1) 0 * 2 ^ (64 - r))))) := by
  obtain ⟨h1, h2, h3⟩ := h
  have hp : (0 : Int) < 2 ^ r := Int.pow_pos (by decide)
  have hs : (0 : Int) < 2 ^ (64 - r) := Int.pow_pos (by decide)
  have hps := pow64 r (by omega)
  obtain ⟨a1, a2, a3, a4, a5, a6⟩ := parts (ds.getD (i + 1) 0) (2 ^ (64 - r)) (2 ^ r) hs hp (by rw [Int.mul_comm]; exact hps) hy
  obtain ⟨_, b2, b3, b4, _, _⟩ := parts (ds.getD i 0) (2 ^ (64 - r)) (2 ^ r) hs hp (by rw [Int.mul_comm]; exact hps) hx
  obtain ⟨m, hm⟩ := Int.eq_ofNat_of_zero_le (Int.emod_nonneg (ds.getD (i + 1) 0) (show (2 : Int) ^ r ≠ 0 by omega))
  rw [IntKind.wrap_u64, a1, or_sum' (ds.getD i 0 / 2 ^ r) _ m (64 - r) (by rw [hm]) ⟨b2, b3⟩ a6]
  refine ⟨by simp [h1], h2.set _ ⟨by omega, by unfold B64; omega⟩, ?_⟩
  rw [low_set_succ _ _ _ _ (by omega), low_succ, Int.pow_succ]
  have c := Int.mul_ediv_add_emod (ds.getD i 0) (2 ^ r)
  generalize ds.getD i 0 / 2 ^ r = u at *
  generalize ds.getD i 0 % 2 ^ r = v at *
  generalize ds.getD (i + 1) 0 % 2 ^ r = y at *
  generalize ds.getD 0 0 % 2 ^ r = z at *
  generalize ds.getD i 0 = x at *
  generalize low B64 cur i = L at *
  generalize low B64 ds i = D at *
  have e : B64 = 18446744073709551616 := rfl
  rw [← e] at hps
  generalize (2 : Int) ^ r = p at *
  generalize (2 : Int) ^ (64 - r) = s at *
  generalize B64 ^ i = I at *
  generalize B64 = b at *
  have : p * (L + I * (u + y * s)) + z = (p * L + z) + I * (p * u) + I * (p * s) * y := by grind
  rw [this, h3, hps]
  have : p * u = x - v := by omega
  rw [this]
  grind
theorem Hlvs.done {ds : List Int} {r : Nat} {cur : List Int} (h : Hlvs ds ds.length r ds.length cur) : val B64 cur = val B64 ds / 2 ^ r := by
  obtain ⟨h1, h2, h3⟩ := h
  have hp : (0 : Int) < 2 ^ r := Int.pow_pos (by decide)
  have e0 : ds.getD ds.length 0 = 0 := by simp
  have e1 : low B64 cur ds.length = val B64 cur := by rw [← h1, low_len]
  rw [e0, low_len, e1, Int.zero_emod, Int.mul_zero, Int.add_zero] at h3
  have a := Int.emod_nonneg (ds.getD 0 0) (show (2 : Int) ^ r ≠ 0 by omega)
  have b := Int.emod_lt_of_pos (ds.getD 0 0) hp
  rw [← h3, Int.mul_comm, Int.add_comm, Int.add_mul_ediv_right _ _ (by omega), Int.ediv_eq_zero_of_lt a b]
  omega
theorem val_drop {B : Int} (hB : 0 < B) (xs : List Int) (hd : Dg B xs) (q : Nat) : val B (xs.drop q) = val B xs / B ^ q := by
  by_cases hq : q ≤ xs.length
  · have h := val_append B (xs.take q) (xs.drop q)
    rw [List.take_append_drop] at h
    have hl : (xs.take q).length = q := by simp; omega
    rw [hl] at h
    have a := val_nonneg hB (hd.take q)
    have b := val_lt hB (hd.take q)
    rw [hl] at b
    have hp : 0 < B ^ q := Int.pow_pos hB
    rw [h, Int.mul_comm, Int.add_mul_ediv_right _ _ (by omega), Int.ediv_eq_zero_of_lt a b]
    omega
  · rw [List.drop_eq_nil_of_le (by omega)]
    have a := val_nonneg hB hd
    have b := val_lt hB hd
    have c := pow_mono (B := B) (by omega) (show xs.length ≤ q by omega)
    rw [Int.ediv_eq_zero_of_lt a (by omega)]; rfl
theorem half_val (xs : List Int) (hd : Dg B64 xs) (q r : Nat) : val B64 (xs.drop q) / 2 ^ r = val B64 xs / 2 ^ (64 * q + r) := by
  have hp : (0 : Int) < B64 ^ q := Int.pow_pos B64_pos
  rw [val_drop B64_pos xs hd, Int.pow_add, Int.pow_mul]
  have e : B64 = 2 ^ 64 := rfl
  rw [e] at hp ⊢
  rw [Int.ediv_ediv_of_nonneg (by omega)]

end Go.Proofs.YtnckmcmobkpdcaaDoor
/-
  Contracts of nat.Read and Bytes.
-/
namespace Go.Proofs.YtnckmcmobkpdcaaDoor
open Go.RowKit
set_option linter.unusedVariables false
set_option linter.unusedSimpArgs false
attribute [local go_sem ↓] Go.wp_at_zero Go.wp_at_succ

theorem val_set (B : Int) : ∀ (xs : List Int) (j : Nat) (y : Int), j < xs.length → val B (xs.set j y) = val B xs + B ^ j * (y - xs.getD j 0)
  | [], j, y, h => by simp at h
  | x :: xs, 0, y, _ => by simp [val]; omega
  | x :: xs, j + 1, y, h => by
    simp only [List.set_cons_succ, val, val_set B xs j y (by simpa using h), List.getD_cons_succ, Int.pow_succ]
    grind
theorem getD_reverse (xs : List Int) (k : Nat) (h : k < xs.length) : xs.reverse.getD k 0 = xs.getD (xs.length - 1 - k) 0 := by
  simp only [List.getD]
  rw [List.getElem?_reverse h]
theorem pow256 (k : Nat) : (256 : Int) ^ k = B64 ^ (k / 8) * 256 ^ (k % 8) := by
  have e : B64 = 256 ^ 8 := rfl
  rw [e, ← Int.pow_mul, ← Int.pow_add]
  congr 1
  omega
theorem pow2_8 (r : Nat) : (2 : Int) ^ (8 * r) = 256 ^ r := by
  rw [Int.pow_mul]; rfl
theorem pow256_le (r : Nat) (h : r < 8) : (256 : Int) ^ r * 256 ≤ 18446744073709551616 := by
  have := pow_mono (B := 256) (by decide) (show r + 1 ≤ 8 by omega)
  rw [Int.pow_succ] at this
  exact this

/-- What stands in the row when k bytes have been gone over. -/
def Reads (rb : List Int) (n k : Nat) (cur : List Int) : Prop :=
  cur.length = n ∧ Dg B64 cur ∧ (∀ j, k / 8 < j → cur.getD j 0 = 0) ∧ cur.getD (k / 8) 0 < 256 ^ (k % 8) ∧ val B64 cur = low 256 rb k
theorem Reads.zero (rb : List Int) (n : Nat) : Reads rb n 0 (List.replicate n 0) :=
  ⟨by simp, Dg.zeros B64_pos _, fun j _ => getD_zeros _ j, by rw [getD_zeros]; decide, by rw [val_replicate, low_zero]⟩
theorem Reads.step {rb : List Int} {n k : Nat} {cur : List Int} (h : Reads rb n k cur) (hn : k / 8 < n) (hd : 0 ≤ rb.getD k 0 ∧ rb.getD k 0 < 256) :
    Reads rb n (k + 1) (cur.set (k / 8) (bits .or .u64 (cur.getD (k / 8) 0) (IntKind.u64.wrap (rb.getD k 0 * 2 ^ (8 * (k % 8)))))) := by
  obtain ⟨h1, h2, h3, h4, h5⟩ := h
  have hp : (0 : Int) < 256 ^ (k % 8) := Int.pow_pos (by decide)
  have hle := pow256_le (k % 8) (by omega)
  have hy := h2.getD B64_pos (k / 8)
  obtain ⟨m, hm⟩ := Int.eq_ofNat_of_zero_le hd.1
  have hmul : rb.getD k 0 * 256 ^ (k % 8) + 256 ^ (k % 8) ≤ 18446744073709551616 := by
    have : (rb.getD k 0 + 1) * 256 ^ (k % 8) ≤ 256 * 256 ^ (k % 8) := Int.mul_le_mul_of_nonneg_right (by omega) (by omega)
    rw [Int.add_mul, Int.one_mul] at this
    omega
  have hnn : 0 ≤ rb.getD k 0 * 256 ^ (k % 8) := Int.mul_nonneg hd.1 (by omega)
  rw [IntKind.wrap_u64, pow2_8, Int.emod_eq_of_lt hnn (by omega)]
  rw [or_sum' (cur.getD (k / 8) 0) _ m (8 * (k % 8)) (by rw [pow2_8, hm]) ⟨hy.1, by rw [pow2_8]; exact h4⟩ (by rw [pow2_8]; exact hmul)]
  refine ⟨by simp [h1], h2.set _ ⟨by omega, by unfold B64; omega⟩, fun j hj => ?_, ?_, ?_⟩
  · rw [getD_set _ _ _ _ (by omega), if_neg (by omega)]
    exact h3 j (by omega)
  · rw [getD_set _ _ _ _ (by omega)]
    by_cases h7 : k % 8 = 7
    · rw [if_neg (by omega), h3 _ (by omega), show (k + 1) % 8 = 0 by omega]; decide
    · rw [if_pos (by omega), show (k + 1) % 8 = k % 8 + 1 by omega, Int.pow_succ]
      have : (rb.getD k 0 + 1) * 256 ^ (k % 8) ≤ 256 * 256 ^ (k % 8) := Int.mul_le_mul_of_nonneg_right (by omega) (by omega)
      rw [Int.add_mul, Int.one_mul] at this
      omega
  · rw [val_set _ _ _ _ (by omega), low_succ, pow256 k, h5]
    generalize rb.getD k 0 = d at *
    generalize cur.getD (k / 8) 0 = c at *
    generalize B64 ^ (k / 8) = p at *
    generalize (256 : Int) ^ (k % 8) = q at *
    grind

set_option maxHeartbeats 2000000 in
/-- nat.Read: at most 512 bytes. -/
theorem Read_yes (ao : Option Addr) (n ca : Nat) (bs : List Int) (w : World) (h : NumIn .u8 256 w ao n ca bs) (hn : n ≤ 512) :
    Calls Tryd.prog 27 #[.slice ao n ca] w fun e w' => ∃ v, e = .returned (.tuple #[v, .int .i64 0]) ∧ NumOut .u64 B64 w w' v (val 256 bs.reverse) 64 := by
  have hl := h.len
  go_enter Tryd.func27, Tryd.ntmps27
  go_wp2_with (at_make; refine wpList_make_row _ rfl _ _ 46 rfl 34 .u64 8 Tryd.underlying46 Tryd.infoU _ _ _ _ ((n + 7) / 8) rfl rfl (by omega) (by omega) (by omega) (by unfold maxLen; omega) ?_)
  intro w3 hrow hbel
  go_wp2
  go_loopw [18] (fun i wr => ∃ (k : Nat) (cur : List Int), k ≤ n ∧ i = .int .i64 k ∧ Row 34 .u64 wr w.heap.size cur ∧ Reads bs.reverse ((n + 7) / 8) k cur ∧ Below w.heap.size w wr) (fun i _ => n - (intOf i).toNat)
  case atStart => exact ⟨0, _, Nat.zero_le _, rfl, hrow, Reads.zero _ _, hbel⟩
  case round =>
    obtain ⟨k, cur, hk, rfl, hrw, ha, hb⟩ := hrel
    by_cases hlt : k < n
    · have hx := h.lies.old hb
      obtain ⟨b, off, rfl, hblk, hc⟩ := hx.at (by omega)
      have hlen := ha.1
      have hcell := hc (n - 1 - k) (by omega)
      have hfr := hrw.frozen (k / 8)
      have hcl := hrw.cell (k / 8) (by omega)
      have gx := h.dg.getD (by decide) (n - 1 - k)
      have er := getD_reverse bs k (by omega)
      rw [hl] at er
      have HS : Hid (Reads _ _ _ _) := ha.step (by omega) (by rw [er]; exact gx)
      rw [er] at HS
      have HR : Hid (Row _ _ _ _ _) := hrw.set (k / 8) (bits .or .u64 (cur.getD (k / 8) 0) (IntKind.u64.wrap (bs.getD (n - 1 - k) 0 * 2 ^ (8 * (k % 8)))))
      have HB : Hid (Below w.heap.size w wr) := hb
      generalize bs.getD (n - 1 - k) 0 = x at *
      generalize cur.getD (k / 8) 0 = y at *
      clear hrw hrow hbel hb hx hc h ha hlen er
      go_wp2
      go_region
      all_goals
        go_wp2
        go_roundw
        case rel => exact ⟨k + 1, _, by omega, by go_num, HR.out, HS.out, (HB.out.setCell (Nat.le_refl _) _).drew⟩
        case measure => simp [intOf]; omega
    · obtain rfl : k = n := by omega
      have hlen := ha.1
      have HV : Hid (val B64 cur = val 256 bs.reverse) := by
        unfold Hid
        rw [ha.2.2.2.2]
        have e : bs.reverse.length = k := by simp [hl]
        rw [← e, low_len]
      have HR : Hid (NumIn _ _ _ _ _ _ _) := hrw.num ha.2.1 (by omega)
      have HB : Hid (Below w.heap.size w wr) := hb
      rw [hlen] at HR
      clear ha hb hrw hrow hbel hlen h
      go_wp2_with fail
      refine (trim_any _ _ _ _ _ HR.out.lies HR.out.lc HR.out.cm HR.out.nn).mono ?_
      rintro e w4 ⟨rfl, rfl⟩
      go_wp2
      go_ret2
      exact ⟨_, rfl, HR.out.out HB.out _ HV.out _ (by omega)⟩

set_option maxHeartbeats 400000 in
/-- nat.Read: more bytes. -/
theorem Read_no (ao : Option Addr) (n ca : Nat) (w : World) (hn : 512 < n) (hm : n ≤ maxLen) :
    Calls Tryd.prog 27 #[.slice ao n ca] w fun e w' => e = .returned (.tuple #[.slice none 0 0, .int .i64 3]) ∧ w' = w := by
  go_enter Tryd.func27, Tryd.ntmps27
  go_wp2
  go_ret2
  exact ⟨rfl, rfl⟩

/-! ### Bits and bytes of a number's value -/
theorem digit_at {B : Int} (hB : 0 < B) (xs : List Int) (hd : Dg B xs) (j : Nat) : xs.getD j 0 = val B xs / B ^ j % B := by
  rw [← val_drop hB xs hd j]
  have e : xs.getD j 0 = (xs.drop j).getD 0 0 := by rw [getD_drop]; rfl
  rw [e]
  have hdd := hd.drop j
  cases h : xs.drop j with
  | nil => simp [val]
  | cons d ds =>
    rw [h] at hdd
    simp only [val, List.getD_cons_zero, Int.add_mul_emod_self_left]
    exact (Int.emod_eq_of_lt hdd.head.1 hdd.head.2).symm
/-- The byte of that place. -/
def byteAt (V : Int) (p : Nat) : Int := V / 256 ^ p % 256
theorem byte_of_limb (xs : List Int) (hd : Dg B64 xs) (p : Nat) : xs.getD (p / 8) 0 / 256 ^ (p % 8) % 256 = byteAt (val B64 xs) p := by
  unfold byteAt
  rw [digit_at B64_pos xs hd (p / 8), pow256 p]
  have hp : (0 : Int) < B64 ^ (p / 8) := Int.pow_pos B64_pos
  have hq : (0 : Int) < 256 ^ (p % 8) := Int.pow_pos (by decide)
  rw [← Int.ediv_ediv_of_nonneg (by omega)]
  generalize val B64 xs / B64 ^ (p / 8) = Y
  have e : B64 = 256 ^ (p % 8) * (256 * 256 ^ (7 - p % 8)) := by
    rw [Int.mul_comm 256, ← Int.pow_succ, ← Int.pow_add, show p % 8 + (7 - p % 8 + 1) = 8 by omega]; rfl
  rw [e]
  generalize (256 : Int) ^ (p % 8) = q at *
  generalize (256 : Int) ^ (7 - p % 8) = s at *
  rw [Int.emod_def Y, show Y - q * (256 * s) * (Y / (q * (256 * s))) = Y + q * (-(256 * s * (Y / (q * (256 * s))))) by grind]
  rw [Int.add_mul_ediv_left _ _ (by omega)]
  rw [show Y / q + -(256 * s * (Y / (q * (256 * s)))) = Y / q + 256 * (-(s * (Y / (q * (256 * s))))) by grind, Int.add_mul_emod_self_left]
theorem low_bytes (V : Int) (rb : List Int) : ∀ (k : Nat), (∀ p, p < k → rb.getD p 0 = byteAt V p) → low 256 rb k = V % 256 ^ k
  | 0, _ => by simp [low_zero, Int.emod_one]
  | k + 1, h => by
    have hp : (0 : Int) < 256 ^ k := Int.pow_pos (by decide)
    rw [low_succ, low_bytes V rb k (fun p hp => h p (by omega)), h k (by omega)]
    unfold byteAt
    rw [Int.pow_succ]
    have e1 := Int.mul_ediv_add_emod V (256 ^ k)
    have e2 := Int.mul_ediv_add_emod (V / 256 ^ k) 256
    have a1 := Int.emod_nonneg V (show (256 : Int) ^ k ≠ 0 by omega)
    have a2 := Int.emod_lt_of_pos V hp
    have b1 := Int.emod_nonneg (V / 256 ^ k) (show (256 : Int) ≠ 0 by decide)
    have b2 := Int.emod_lt_of_pos (V / 256 ^ k) (show (0 : Int) < 256 by decide)
    have e3 : V = V % 256 ^ k + 256 ^ k * (V / 256 ^ k % 256) + 256 ^ k * 256 * (V / 256 ^ k / 256) := by
      conv => lhs; rw [← e1, ← e2]
      grind
    conv => rhs; rw [e3]
    rw [Int.add_mul_emod_self_left]
    refine (Int.emod_eq_of_lt ?_ ?_).symm
    · have := Int.mul_nonneg (show (0 : Int) ≤ 256 ^ k by omega) b1
      omega
    · have : 256 ^ k * (V / 256 ^ k % 256) ≤ 256 ^ k * 255 := Int.mul_le_mul_of_nonneg_left (by omega) (by omega)
      omega
theorem lenOf_eq (xs : List Int) (hd : Dg B64 xs) : lenOf xs = blen (val B64 xs).toNat := by
  unfold lenOf
  by_cases h : top xs = 0
  · rw [if_pos h, ← val_take_top, h]
    simp [val, blen]
  · rw [if_neg h]
    obtain ⟨m, hm⟩ : ∃ m, top xs = m + 1 := ⟨top xs - 1, by omega⟩
    have ht := top_hit xs (by omega)
    have hg := hd.getD B64_pos (top xs - 1)
    rw [hm] at ht hg ⊢
    simp only [Nat.add_sub_cancel] at ht hg ⊢
    have hv : val B64 xs = low B64 xs m + B64 ^ m * xs.getD m 0 := by rw [← low_succ, ← hm, low_all _ _ _ (Nat.le_refl _)]
    have l0 : 0 ≤ low B64 xs m := val_nonneg B64_pos (hd.take m)
    have l1 : low B64 xs m < B64 ^ m := by
      have a := val_lt B64_pos (hd.take m)
      have b : (xs.take m).length ≤ m := by simp; omega
      have c := pow_mono (B := B64) (by decide) b
      unfold low; omega
    generalize xs.getD m 0 = d at *
    generalize low B64 xs m = L at *
    obtain ⟨e, he⟩ := Int.eq_ofNat_of_zero_le hg.1
    subst he
    have hne : e ≠ 0 := by intro h0; rw [h0] at ht; exact ht rfl
    have b1 := blen_lt e
    have b2 := blen_ge e hne
    have b3 := blen_pos e hne
    have hB : B64 ^ m = ((2 ^ (64 * m) : Nat) : Int) := by
      rw [Int.natCast_pow, Int.pow_mul]; rfl
    rw [hB] at hv l1
    obtain ⟨L, rfl⟩ := Int.eq_ofNat_of_zero_le l0
    have hn : (val B64 xs).toNat = L + 2 ^ (64 * m) * e := by
      rw [hv, ← Int.natCast_mul, ← Int.natCast_add, Int.toNat_natCast]
    have hL : L < 2 ^ (64 * m) := by omega
    have hp := Nat.two_pow_pos (64 * m)
    obtain ⟨c, hc⟩ : ∃ c, blen e = c + 1 := ⟨blen e - 1, by omega⟩
    rw [hc] at b1 b2
    simp only [Nat.add_sub_cancel] at b2
    have := blen_eq (val B64 xs).toNat (64 * m + c) (by
      rw [hn, Nat.pow_add]
      have := Nat.mul_le_mul_left (2 ^ (64 * m)) b2
      omega) (by
      rw [hn, show 64 * m + c + 1 = 64 * m + (c + 1) by omega, Nat.pow_add]
      have := Nat.mul_le_mul_left (2 ^ (64 * m)) (show e + 1 ≤ 2 ^ (c + 1) by omega)
      rw [Nat.mul_add] at this
      omega)
    rw [Int.toNat_natCast, hc, this]
    omega
theorem lt_of_blen (V : Int) (h0 : 0 ≤ V) (n : Nat) (h : blen V.toNat ≤ 8 * n) : V < 256 ^ n := by
  have a := blen_lt V.toNat
  have b : 2 ^ blen V.toNat ≤ 2 ^ (8 * n) := Nat.pow_le_pow_right (by decide) h
  have e : ((2 ^ (8 * n) : Nat) : Int) = 256 ^ n := by rw [Int.natCast_pow, Int.pow_mul]; rfl
  rw [← e]
  omega


/-- What stands in the row when k bytes have been written, the least last. -/
def Wrts (V : Int) (n k : Nat) (cur : List Int) : Prop :=
  cur.length = n ∧ Dg 256 cur ∧ ∀ p, p < k → cur.getD (n - 1 - p) 0 = byteAt V p
theorem byteAt_range (V : Int) (p : Nat) : 0 ≤ byteAt V p ∧ byteAt V p < 256 := by unfold byteAt; omega
theorem Wrts.zero (V : Int) (n : Nat) : Wrts V n 0 (List.replicate n 0) :=
  ⟨by simp, Dg.zeros (by decide) _, fun p h => by omega⟩
theorem Wrts.step {V : Int} {n k : Nat} {cur : List Int} (h : Wrts V n k cur) (hk : k < n) : Wrts V n (k + 1) (cur.set (n - 1 - k) (byteAt V k)) := by
  obtain ⟨h1, h2, h3⟩ := h
  refine ⟨by simp [h1], h2.set _ (byteAt_range V k), fun p hp => ?_⟩
  rw [getD_set _ _ _ _ (by omega)]
  by_cases e : p = k
  · rw [e, if_pos rfl]
  · rw [if_neg (by omega)]; exact h3 p (by omega)
theorem Wrts.done {V : Int} {n : Nat} {cur : List Int} (h : Wrts V n n cur) (h0 : 0 ≤ V) (hv : V < 256 ^ n) : val 256 cur.reverse = V := by
  obtain ⟨h1, h2, h3⟩ := h
  have e : cur.reverse.length = n := by simp [h1]
  rw [← low_len, e, low_bytes V cur.reverse n (fun p hp => by rw [getD_reverse _ _ (by omega), h1]; exact h3 p hp)]
  exact Int.emod_eq_of_lt h0 hv

/-- An answer of bytes. -/
def BytesOut (w w' : World) (v : Value) (n : Nat) (V : Int) : Prop :=
  ∃ g bs, v = .slice (some ⟨g, 0, none⟩) n n ∧ Row 5 .u8 w' g bs ∧ bs.length = n ∧ Dg 256 bs ∧ val 256 bs.reverse = V ∧ Below w.heap.size w w'

end Go.Proofs.YtnckmcmobkpdcaaDoor
/-
  The code's Int.
-/
namespace Go.Proofs.YtnckmcmobkpdcaaDoor
open Go.Shelf Go.RowKit
set_option linter.unusedVariables false
set_option linter.unusedSimpArgs false

/-- Bytes as numbers. -/
def intsB (l : Bs) : List Int := l.map fun b => (b.toNat : Int)
theorem intsB_len (l : Bs) : (intsB l).length = l.length := by simp [intsB]
theorem intsB_dg (l : Bs) : Dg 256 (intsB l) := by
  intro x hx
  simp only [intsB, List.mem_map] at hx
  obtain ⟨b, _, rfl⟩ := hx
  have := b.toNat_lt
  omega
theorem intsB_get (l : Bs) (i : Nat) (hi : i < l.length) : (intsB l).getD i 0 = ((l.getD i 0).toNat : Int) := by simp [intsB, List.getD, hi]
/-- Bytes that are there, as a number's digits. -/
theorem numIn_bat {w : World} {p : Option Addr} {n c : Nat} {l : Bs} (h : BAt w p n l) (hl : l.length = n) (h0 : 0 < n) (hc : n ≤ c) (hc2 : c ≤ 9223372036854775807) (hn : n ≤ 1000000) : NumIn .u8 256 w p n c (intsB l) := by
  obtain ⟨b, o, rfl, hcl⟩ := h h0
  refine ⟨⟨(by rw [intsB_len, hl]), .inr ⟨b, o, rfl, ?_, fun i hi => (by rw [hcl i hi, intsB_get l i (by omega)])⟩⟩, hc, (by unfold maxLen; omega), (fun e => by cases e), intsB_dg l, (by omega)⟩
  exact World.block_lt_of_cell? w ⟨b, o + 0, none⟩ (hcl 0 h0)
/-- A number's digits as they stand. -/
def intL : Bs → Option Bs
  | [] => none
  | a :: xs => if 128 ≤ a.toNat then none else if a.toNat = 0 ∧ 0 < xs.length then (if (xs.getD 0 0).toNat < 128 then none else some xs) else some (a :: xs)
theorem intL_cons (a : UInt8) (xs : Bs) : intL (a :: xs) = if 128 ≤ a.toNat then none else if a.toNat = 0 ∧ 0 < xs.length then (if (xs.getD 0 0).toNat < 128 then none else some xs) else some (a :: xs) := rfl
/-- What Int answers. -/
def IntPost (w : World) (t : Nat) (b : Bs) (e : Ending) (w' : World) : Prop :=
  Below w.heap.size w w' ∧ (((t ≠ 2 ∨ intL b = none) ∧ e = .returned (.tuple #[.slice none 0 0, .int .i64 30])) ∨
    ∃ l, t = 2 ∧ intL b = some l ∧ ((512 < l.length ∧ e = .returned (.tuple #[.slice none 0 0, .int .i64 3])) ∨ (l.length ≤ 512 ∧ ∃ v, e = .returned (.tuple #[v, .int .i64 0]) ∧ NumOut .u64 B64 w w' v (val 256 (intsB l).reverse) 64)))
theorem NumOut.later {w w1 w' : World} {v : Value} {n : Int} {L : Nat} (hb : Below w.heap.size w w1) (h : NumOut .u64 B64 w1 w' v n L) : NumOut .u64 B64 w w' v n L := by
  obtain ⟨ao, len, cap, xs, e, h1, h2, h3, h4, h5⟩ := h
  exact ⟨ao, len, cap, xs, e, h1, h2, h3, h4, hb.trans (h5.mono hb.size)⟩
set_option maxRecDepth 100000 in
set_option maxHeartbeats 4000000 in
/-- Int. -/
theorem derInt (t : Nat) (ht : t < 256) (p : Option Addr) (n c : Nat) (l : Bs) (P : Nat → Prop) (w : World) (hl : l.length = n) (h : ByV w P p c l) (hn : n ≤ 1000000) :
    Calls Tryd.prog 14 #[.agg #[.int .u8 (t : Int), .slice p n c]] w (IntPost w t l) := by
  have hcap := h.cap
  have hbig := h.big
  rw [hl] at hcap
  obtain ⟨W1, hW1⟩ : ∃ W1, w.alloc (.cells #[.int .u8 (t : Int), .slice p n c] 24) = W1 := ⟨_, rfl⟩
  have b1 : Below w.heap.size w W1 := by rw [← hW1]; exact (Below.refl _ _).alloc (Nat.le_refl _) _
  have s1 : Tl W1 w.heap.size (.int .u8 (t : Int)) (.slice p n c) := by rw [← hW1]; exact Tl.new w _ _
  obtain ⟨g0, g1, g2, g3⟩ := s1.facts
  have HB : Hid (Below w.heap.size w W1) := b1
  have HBAD : Hid (t ≠ 2 ∨ intL l = none → IntPost w t l (.returned (.tuple #[.slice none 0 0, .int .i64 30])) W1) := fun hh => ⟨b1, .inl ⟨hh, rfl⟩⟩
  have HRD : Hid (∀ (q : Option Addr) (m d : Nat) (l' : Bs), t = 2 → intL l = some l' → l'.length = m → 0 < m → m ≤ d → d ≤ 9223372036854775807 → m ≤ 1000000 → BAt W1 q m l' → Calls Tryd.prog 27 #[.slice q m d] W1 fun e w' => ∃ v k, e = .returned (.tuple #[v, k]) ∧ IntPost w t l e w') := by
    intro q m d l' h2 hi hm h0 hd hd2 hm2 hb
    by_cases hbg : 512 < m
    · refine (Read_no q m d W1 hbg (by unfold maxLen; omega)).mono ?_
      rintro e w' ⟨rfl, rfl⟩
      exact ⟨_, _, rfl, b1, .inr ⟨l', h2, hi, .inl ⟨by omega, rfl⟩⟩⟩
    · refine (Read_yes q m d (intsB l') W1 (numIn_bat hb hm h0 hd hd2 hm2) (by omega)).mono ?_
      rintro e w' ⟨v, rfl, hv⟩
      have hv' := hv.later b1
      exact ⟨_, _, rfl, by obtain ⟨_, _, _, _, _, _, _, _, _, h5⟩ := hv'; exact h5, .inr ⟨l', h2, hi, .inr ⟨by omega, v, rfl, hv'⟩⟩⟩
  clear b1 s1
  by_cases q2 : t = 2
  rotate_left
  · have e2 : ((t : Int) == 2) = false := by simp; omega
    have e3 : ((t : Int) != 2) = true := by simp; omega
    go_enter Tryd.func14, Tryd.ntmps14
    go_wp2_with fail
    go_ret2
    exact HBAD.out (.inl q2)
  have e2 : ((t : Int) == 2) = true := by simp; omega
  have e3 : ((t : Int) != 2) = false := by simp; omega
  have HT2 : Hid (t = 2) := q2
  clear q2
  cases l with
  | nil =>
    simp at hl
    subst hl
    go_enter Tryd.func14, Tryd.ntmps14
    go_wp2_with fail
    go_ret2
    exact HBAD.out (.inr rfl)
  | cons a xs =>
    obtain ⟨b, o, rfl, hcl⟩ := h.lies (by simp)
    have HCL : Hid (∀ i, i < (a :: xs).length → W1.cell? ⟨b, o + i, none⟩ = some (.int .u8 (((a :: xs).getD i 0).toNat : Int))) := fun i hi => (HB.out.cell (p := ⟨b, o + i, none⟩) (World.block_lt_of_cell? w _ (hcl i hi))).trans (hcl i hi)
    have c0 : W1.cell? ⟨b, o, none⟩ = some (.int .u8 (a.toNat : Int)) := by simpa using HCL.out 0 (by simp)
    have ha := a.toNat_lt
    have hn0 : 0 < n := by simp at hl; omega
    have hz : ((n : Int) == 0) = false := by simp; omega
    have hnI : (0 : Int) < (n : Int) := by omega
    have hcI : (n : Int) ≤ (c : Int) := by omega
    obtain ⟨A, hA⟩ : ∃ A, a.toNat = A := ⟨_, rfl⟩
    have HL : Hid ((a :: xs).length = n ∧ a.toNat = A ∧ xs.length = n - 1) := ⟨hl, hA, by simp at hl; omega⟩
    rw [hA] at c0 ha
    clear hl hcl h hA
    by_cases q3 : 128 ≤ A
    · have q3I : (128 : Int) ≤ (A : Int) := by omega
      go_enter Tryd.func14, Tryd.ntmps14
      go_wp2_with fail
      go_ret2
      exact HBAD.out (.inr (by rw [intL_cons, if_pos (by rw [HL.out.2.1]; exact q3)]))
    have q3I : ¬ (128 : Int) ≤ (A : Int) := by omega
    have HWH : Hid (BAt W1 (some ⟨b, o, none⟩) n (a :: xs)) := fun _ => ⟨b, o, rfl, fun i hi => HCL.out i (by rw [HL.out.1]; exact hi)⟩
    by_cases q4 : A = 0
    · subst q4
      by_cases q5 : 1 < n
      · have q5I : (1 : Int) < (n : Int) := by omega
        have q6I : (1 : Int) ≤ (n : Int) := by omega
        have q7I : (1 : Int) ≤ (c : Int) := by omega
        have hc1 : ¬ c = 1 := by omega
        have hn1 : (0 : Int) < (n : Int) - 1 := by omega
        have c1 : W1.cell? ⟨b, o + 1, none⟩ = some (.int .u8 ((xs.getD 0 0).toNat : Int)) := by simpa using HCL.out 1 (by rw [HL.out.1]; omega)
        obtain ⟨X, hX⟩ : ∃ X, (xs.getD 0 0).toNat = X := ⟨_, rfl⟩
        have hx := (xs.getD 0 0).toNat_lt
        rw [hX] at c1 hx
        have HX : Hid ((xs.getD 0 0).toNat = X) := hX
        clear hX
        by_cases q8 : X < 128
        · have q8I : (X : Int) < 128 := by omega
          go_enter Tryd.func14, Tryd.ntmps14
          go_wp2_with fail
          go_ret2
          exact HBAD.out (.inr (by rw [intL_cons, if_neg (by rw [HL.out.2.1]; omega), if_pos ⟨HL.out.2.1, by rw [HL.out.2.2]; omega⟩, if_pos (by rw [HX.out]; exact q8)]))
        · have q8I : ¬ (X : Int) < 128 := by omega
          have HR := HRD.out (some ⟨b, o + 1, none⟩) (n - 1) (c - 1) xs HT2.out (by rw [intL_cons, if_neg (by rw [HL.out.2.1]; omega), if_pos ⟨HL.out.2.1, by rw [HL.out.2.2]; omega⟩, if_neg (by rw [HX.out]; exact q8)]) HL.out.2.2 (by omega) (by omega) (by omega) (by omega) (fun _ => ⟨b, o + 1, rfl, fun i hi => by have := HCL.out (i + 1) (by rw [HL.out.1]; omega); rw [show o + 1 + i = o + (i + 1) by omega]; simpa using this⟩)
          go_enter Tryd.func14, Tryd.ntmps14
          go_wp2_with (go_at_call 27; refine HR.mono ?_; rintro e w' ⟨v, k, rfl, hp⟩; have HP : Hid (IntPost w t (a :: xs) (.returned (.tuple #[v, k])) w') := hp; clear hp)
          go_ret2
          exact HP.out
      · have q5I : ¬ (1 : Int) < (n : Int) := by omega
        have HR := HRD.out (some ⟨b, o, none⟩) n c (a :: xs) HT2.out (by rw [intL_cons, if_neg (by rw [HL.out.2.1]; omega), if_neg (by rw [HL.out.2.2]; omega)]) HL.out.1 (by omega) (by omega) (by omega) (by omega) HWH.out
        go_enter Tryd.func14, Tryd.ntmps14
        go_wp2_with (go_at_call 27; refine HR.mono ?_; rintro e w' ⟨v, k, rfl, hp⟩; have HP : Hid (IntPost w t (a :: xs) (.returned (.tuple #[v, k])) w') := hp; clear hp)
        go_ret2
        exact HP.out
    have q4I : ((A : Int) == 0) = false := by simp; omega
    have HR := HRD.out (some ⟨b, o, none⟩) n c (a :: xs) HT2.out (by rw [intL_cons, if_neg (by rw [HL.out.2.1]; omega), if_neg (by rw [HL.out.2.1]; omega)]) HL.out.1 (by omega) (by omega) (by omega) (by omega) HWH.out
    go_enter Tryd.func14, Tryd.ntmps14
    go_wp2_with (go_at_call 27; refine HR.mono ?_; rintro e w' ⟨v, k, rfl, hp⟩; have HP : Hid (IntPost w t (a :: xs) (.returned (.tuple #[v, k])) w') := hp; clear hp)
    go_ret2
    exact HP.out
end Go.Proofs.YtnckmcmobkpdcaaDoor
/-
  Layer 10's Awake.
-/
namespace Go.Proofs.YtnckmcmobkpdcaaDoor
open Go.Shelf Go.RowKit
set_option linter.unusedVariables false
set_option linter.unusedSimpArgs false

theorem md_laid {w : World} (h : laidMet Tryd.prog [("latchkey/der.monthDays", Rows.laid_latchkey_der_monthDays)] w) : Md w := by
  obtain ⟨g, t, cs, fuel, p, hg, hty, hvar, hd⟩ := Lib.laidMet.reads h (.head _)
  obtain rfl := Option.some.inj ((show Tryd.prog.globalNamed "latchkey/der.monthDays" = some 0 by kernel_rfl).symm.trans hg)
  obtain rfl := Option.some.inj ((show (Tryd.prog.globals[0]?).map (·.type) = some 74 by kernel_rfl).symm.trans hty)
  rw [show (Rows.laid_latchkey_der_monthDays : DataW Unit) = Lib.tabData .i64 mdL by kernel_rfl] at hd
  have hcs := Lib.cells_of_tab (zs := mdL) Tryd.underlying74 Tryd.underlying3 (by kernel_rfl) (by kernel_rfl) hd
  intro i hi
  rw [World.var?_cell hg hvar i, ← Array.getElem?_toList, hcs]
  have hml : i < mdL.length := hi
  simp [List.getD, hml]
theorem awake_read : readD [48, 3, 2, 1, 5] = .ok ((48, [2, 1, 5]), []) := rfl
theorem awake_int : intL [0, 5] = none := rfl
theorem awake_oid : oidD 6 [42, 134, 72] = .ok [1, 2, 840] := rfl
theorem awake_t1 : timeD 23 [55, 48, 48, 49, 48, 49, 48, 48, 48, 48, 48, 49, 90] = some 1 := by decide +kernel
theorem awake_t2 : timeD 23 [53, 48, 48, 49, 48, 49, 48, 48, 48, 48, 48, 48, 90] = none := by decide +kernel
theorem byv_litF (W : World) (l : Bs) (fz : Nat × Nat) (hl : l.length ≤ 1000) : ByV (W.alloc (.cells (u8sC l) 5 fz)) (fun b => b < (W.alloc (.cells (u8sC l) 5 fz)).heap.size) (some ⟨W.heap.size, 0, none⟩) l.length l := by
  refine ⟨Nat.le_refl _, by omega, fun _ => ⟨W.heap.size, 0, rfl, fun i hi => ?_⟩, fun a ha _ => by cases ha; rw [alloc_sz]; show W.heap.size < W.heap.size + 1; omega⟩
  rw [Nat.zero_add, cell_of_row _ W.heap.size i _ _ _ (heap_alloc_new W _)]
  simp [u8sC, List.getD, hi]
theorem byv_cellsF (W : World) (l : Bs) (cs : Array Value) (n : Nat) (fz : Nat × Nat) (hc : u8sC l = cs) (hn : l.length = n) (hl : n ≤ 1000) : ByV (W.alloc (.cells cs 5 fz)) (fun b => b < (W.alloc (.cells cs 5 fz)).heap.size) (some ⟨W.heap.size, 0, none⟩) n l := by
  subst hc hn
  exact byv_litF W l fz hl
theorem byv_cells (W : World) (l : Bs) (cs : Array Value) (n : Nat) (hc : u8sC l = cs) (hn : l.length = n) (hl : n ≤ 1000) : ByV (W.alloc (.cells cs 5)) (fun b => b < (W.alloc (.cells cs 5)).heap.size) (some ⟨W.heap.size, 0, none⟩) n l := by
  subst hc hn
  exact byv_lit W l hl
theorem conv_litT (cs : Array Value) (n : Nat) (hn : cs.size = n) (w : World) : (convert 22 22 (.slice (some ⟨w.heap.size, 0, none⟩) n n)).run Tryd.prog (w.alloc (.cells cs 5)) = .ok (.slice (some ⟨w.heap.size, 0, none⟩) n n) (w.alloc (.cells cs 5 (n, n + 1))) := by
  have hsh : (w.alloc (.cells cs 5)).shape? w.heap.size = some (5, n) := by
    unfold World.shape?
    rw [heap_alloc_new w]
    simp [hn]
  have hfr : (w.alloc (.cells cs 5)).freeze ⟨w.heap.size, n, none⟩ 1 = w.alloc (.cells cs 5 (n, n + 1)) := by
    simp only [World.freeze, World.alloc]
    simp only [Nat.one_ne_zero, if_false]
    congr 1
    apply Array.ext_getElem?
    intro i
    rw [Array.getElem?_modify]
    by_cases h : w.heap.size = i
    · subst h
      simp
    · have h' : ¬ i = w.heap.size := fun e => h e.symm
      simp [h, h', Array.getElem?_push]
  simp [convert, run_underlying Tryd.underlying22, run_underlying Tryd.underlying5, markStringish, hsh, hfr]
set_option maxRecDepth 100000 in
set_option maxHeartbeats 4000000 in
/-- Awake. -/
theorem DAwake_any (w : World) (hM : Md w) : Calls Tryd.prog 5 #[] w fun e w' => e = .returned (.bool true) ∧ Below w.heap.size w w' := by
  have HM : Hid (Md w) := hM
  clear hM
  go_enter Tryd.func5, Tryd.ntmps5
  go_wp2_with fail
  go_at_call 13
  have v1 := byv_cells w [48, 3, 2, 1, 5] #[.int .u8 48, .int .u8 3, .int .u8 2, .int .u8 1, .int .u8 5] 5 rfl rfl (by omega)
  have b1 : Below w.heap.size w (w.alloc (.cells #[.int .u8 48, .int .u8 3, .int .u8 2, .int .u8 1, .int .u8 5] 5)) := (Below.refl _ _).alloc (Nat.le_refl _) _
  generalize w.alloc (.cells #[.int .u8 48, .int .u8 3, .int .u8 2, .int .u8 1, .int .u8 5] 5) = W1 at v1 b1 ⊢
  refine (derRead _ 5 5 _ _ W1 rfl v1).mono ?_
  rw [awake_read]
  intro e w2 hp
  obtain ⟨b2, p1, c1, p2, c2, he, _, _⟩ := hp.okx
  subst he
  have B2 : Below w.heap.size w w2 := b1.trans (b2.mono b1.size)
  clear hp v1 b1 b2
  simp only [List.length_cons, List.length_nil]
  go_wp2_with fail
  go_at_call 14
  have s3 : Tl (w2.alloc (.cells #[.int .u8 48, .slice p1 3 c1] 24)) w2.heap.size (.int .u8 48) (.slice p1 3 c1) := Tl.new w2 _ _
  have B3 : Below w.heap.size w (w2.alloc (.cells #[.int .u8 48, .slice p1 3 c1] 24)) := B2.alloc B2.size _
  have z3 := alloc_sz w2 (.cells #[.int .u8 48, .slice p1 3 c1] 24)
  obtain ⟨G, hG⟩ : ∃ G, w2.heap.size = G := ⟨_, rfl⟩
  rw [hG] at s3 z3
  generalize w2.alloc (.cells #[.int .u8 48, .slice p1 3 c1] 24) = W3 at s3 B3 z3 ⊢
  rw [hG, ← z3]
  clear hG B2
  have v4 := byv_cells W3 [0, 5] #[.int .u8 0, .int .u8 5] 2 rfl rfl (by omega)
  have b4 : Below W3.heap.size W3 (W3.alloc (.cells #[.int .u8 0, .int .u8 5] 5)) := (Below.refl _ _).alloc (Nat.le_refl _) _
  generalize W3.alloc (.cells #[.int .u8 0, .int .u8 5] 5) = W4 at v4 b4 ⊢
  refine (derInt 2 (by omega) _ 2 2 _ _ W4 rfl v4 (by omega)).mono ?_
  rintro e w5 ⟨b5, (⟨_, rfl⟩ | ⟨l, _, hl, _⟩)⟩
  rotate_left
  · rw [awake_int] at hl
    cases hl
  have s5 : Tl w5 G (.int .u8 48) (.slice p1 3 c1) := (s3.below b4).below b5
  have B5 : Below w.heap.size w w5 := B3.trans ((b4.mono B3.size).trans (b5.mono (Nat.le_trans B3.size b4.size)))
  clear s3 B3 b4 v4 b5 z3
  go_wp2_with fail
  go_at_call 6
  have v6 := byv_cells w5 [42, 134, 72] #[.int .u8 42, .int .u8 134, .int .u8 72] 3 rfl rfl (by omega)
  have b6 : Below w5.heap.size w5 (w5.alloc (.cells #[.int .u8 42, .int .u8 134, .int .u8 72] 5)) := (Below.refl _ _).alloc (Nat.le_refl _) _
  generalize w5.alloc (.cells #[.int .u8 42, .int .u8 134, .int .u8 72] 5) = W6 at v6 b6 ⊢
  refine (derOid 6 (by omega) _ 3 3 _ _ W6 rfl v6).mono ?_
  rw [awake_oid]
  rintro e w7 ⟨b7, (⟨k, hk, _⟩ | ⟨l, v, hl, _, rfl, o7⟩)⟩
  · cases hk
  cases hl
  obtain ⟨g7, c7, rfl⟩ : ∃ g c, v = .slice (some ⟨g, 0, none⟩) 3 c := by
    rcases o7.2 with ⟨_, hh⟩ | ⟨g, cap, cur, e, _⟩
    · cases hh
    · exact ⟨g, cap, e⟩
  have x7 : w7.cell? ⟨g7, 2, none⟩ = some (.int .u64 840) := by rw [owns_cell o7 2 (by decide)]; rfl
  have s7 : Tl w7 G (.int .u8 48) (.slice p1 3 c1) := (s5.below b6).below b7
  have B7 : Below w.heap.size w w7 := B5.trans ((b6.mono B5.size).trans (b7.mono (Nat.le_trans B5.size b6.size)))
  have m7 : Md w7 := HM.out.below B7
  clear s5 B5 b6 v6 b7 o7
  have hcv := conv_litT #[.int .u8 55, .int .u8 48, .int .u8 48, .int .u8 49, .int .u8 48, .int .u8 49, .int .u8 48, .int .u8 48, .int .u8 48, .int .u8 48, .int .u8 48, .int .u8 49, .int .u8 90] 13 rfl w7
  go_wp2_with fail
  clear hcv
  go_at_call 11
  have v8 := byv_cellsF w7 [55, 48, 48, 49, 48, 49, 48, 48, 48, 48, 48, 49, 90] #[.int .u8 55, .int .u8 48, .int .u8 48, .int .u8 49, .int .u8 48, .int .u8 49, .int .u8 48, .int .u8 48, .int .u8 48, .int .u8 48, .int .u8 48, .int .u8 49, .int .u8 90] 13 (13, 14) rfl rfl (by omega)
  have b8 : Below w7.heap.size w7 (w7.alloc (.cells #[.int .u8 55, .int .u8 48, .int .u8 48, .int .u8 49, .int .u8 48, .int .u8 49, .int .u8 48, .int .u8 48, .int .u8 48, .int .u8 48, .int .u8 48, .int .u8 49, .int .u8 90] 5 (13, 14))) := (Below.refl _ _).alloc (Nat.le_refl _) _
  generalize w7.alloc (.cells #[.int .u8 55, .int .u8 48, .int .u8 48, .int .u8 49, .int .u8 48, .int .u8 49, .int .u8 48, .int .u8 48, .int .u8 48, .int .u8 48, .int .u8 48, .int .u8 49, .int .u8 90] 5 (13, 14)) = W8 at v8 b8 ⊢
  refine (derTime 23 (by omega) _ 13 13 _ _ W8 rfl v8 (m7.below b8)).mono ?_
  rw [awake_t1]
  rintro e w9 ⟨rfl, b9⟩
  simp only [timeV]
  have x9 : w9.cell? ⟨g7, 2, none⟩ = some (.int .u64 840) := by
    have h1 := World.block_lt_of_cell? w7 _ x7
    exact (b9.cell (p := ⟨g7, 2, none⟩) (Nat.lt_of_lt_of_le h1 b8.size)).trans ((b8.cell (p := ⟨g7, 2, none⟩) h1).trans x7)
  have s9 : Tl w9 G (.int .u8 48) (.slice p1 3 c1) := (s7.below b8).below b9
  have m9 : Md w9 := (m7.below b8).below b9
  have B9 : Below w.heap.size w w9 := B7.trans ((b8.mono B7.size).trans (b9.mono (Nat.le_trans B7.size b8.size)))
  clear x7 s7 m7 B7 b8 b9 v8
  have hcv := conv_litT #[.int .u8 53, .int .u8 48, .int .u8 48, .int .u8 49, .int .u8 48, .int .u8 49, .int .u8 48, .int .u8 48, .int .u8 48, .int .u8 48, .int .u8 48, .int .u8 48, .int .u8 90] 13 rfl w9
  go_wp2_with fail
  clear hcv
  go_at_call 11
  have v8 := byv_cellsF w9 [53, 48, 48, 49, 48, 49, 48, 48, 48, 48, 48, 48, 90] #[.int .u8 53, .int .u8 48, .int .u8 48, .int .u8 49, .int .u8 48, .int .u8 49, .int .u8 48, .int .u8 48, .int .u8 48, .int .u8 48, .int .u8 48, .int .u8 48, .int .u8 90] 13 (13, 14) rfl rfl (by omega)
  have b8 : Below w9.heap.size w9 (w9.alloc (.cells #[.int .u8 53, .int .u8 48, .int .u8 48, .int .u8 49, .int .u8 48, .int .u8 49, .int .u8 48, .int .u8 48, .int .u8 48, .int .u8 48, .int .u8 48, .int .u8 48, .int .u8 90] 5 (13, 14))) := (Below.refl _ _).alloc (Nat.le_refl _) _
  generalize w9.alloc (.cells #[.int .u8 53, .int .u8 48, .int .u8 48, .int .u8 49, .int .u8 48, .int .u8 49, .int .u8 48, .int .u8 48, .int .u8 48, .int .u8 48, .int .u8 48, .int .u8 48, .int .u8 90] 5 (13, 14)) = W8 at v8 b8 ⊢
  refine (derTime 23 (by omega) _ 13 13 _ _ W8 rfl v8 (m9.below b8)).mono ?_
  rw [awake_t2]
  rintro e wA ⟨rfl, b9⟩
  simp only [timeV]
  have xA : wA.cell? ⟨g7, 2, none⟩ = some (.int .u64 840) := by
    have h1 := World.block_lt_of_cell? w9 _ x9
    exact (b9.cell (p := ⟨g7, 2, none⟩) (Nat.lt_of_lt_of_le h1 b8.size)).trans ((b8.cell (p := ⟨g7, 2, none⟩) h1).trans x9)
  have sA : Tl wA G (.int .u8 48) (.slice p1 3 c1) := (s9.below b8).below b9
  have BA : Below w.heap.size w wA := B9.trans ((b8.mono B9.size).trans (b9.mono (Nat.le_trans B9.size b8.size)))
  obtain ⟨y0, y1, y2, y3⟩ := sA.facts
  clear x9 s9 m9 B9 b8 b9 v8
  go_wp2_with fail
  go_ret
  exact ⟨rfl, BA⟩
end Go.Proofs.YtnckmcmobkpdcaaDoor
/-
  The code's Seq; DerReads.
-/
namespace Go.Proofs.YtnckmcmobkpdcaaDoor
open Go.Shelf Go.RowKit
set_option linter.unusedVariables false
set_option linter.unusedSimpArgs false

theorem own_nil0 (w : World) : (w.alloc (.cells #[] 5)).ownsRow w.heap.size 5 1 (.slice (some ⟨w.heap.size, 0, none⟩) 0 0) 0 (Lib.byteCells []) := World.ownsRow_lit w #[] 0 (Nat.le_refl _) (Nat.zero_le _) (by simp)
theorem Pcs.mono {w : World} {B B' : Nat} {P Q : Nat → Prop} {v : Value} {l : List Pc} (h : Pcs w B P v l) (hB : B' ≤ B) (hPQ : ∀ g, P g → g < w.heap.size → Q g) : Pcs w B' Q v l :=
  ⟨⟨h.own.1, by
    rcases h.own.2 with h1 | ⟨g1, cap, cur, e1, h1, h2⟩
    · exact .inl h1
    · exact .inr ⟨g1, cap, cur, e1, by omega, h2⟩⟩, fun x hx => (h.at_ x hx).mono hPQ⟩
theorem Pcs.below {w w' : World} {B : Nat} {P : Nat → Prop} {v : Value} {l : List Pc} (h : Pcs w B P v l) (hb : Below w.heap.size w w') : Pcs w' B P v l :=
  ⟨owns_keep h.own (fun g hg => hb.block g (owns_lt h.own hg).2.1), fun x hx => (h.at_ x hx).keep (fun g _ hlt => hb.block g hlt)⟩
theorem ByV.below {w w' : World} {P : Nat → Prop} {p : Option Addr} {c : Nat} {l : Bs} (h : ByV w P p c l) (hb : Below w.heap.size w w') : ByV w' P p c l := h.keep (fun g _ hlt => hb.block g hlt)
/-- The pieces of a sequence, or the first fault. -/
def sqD (bs : Bs) : List (UInt8 × Bs) × Nat := match readD bs with
  | .error k => ([], k)
  | .ok ((t, b), r) => if t.toNat ≠ 48 ∨ 0 < r.length then ([], 30) else pcsD b
/-- What is answered, as one form. -/
def okP (R : List (UInt8 × Bs) × Nat) : List (UInt8 × Bs) := if R.2 = 0 then R.1 else []
theorem LsPost.uni {w w' : World} {P : World → Nat → Prop} {R : List (UInt8 × Bs) × Nat} {e : Ending} (h : LsPost w P R e w') : Below w.heap.size w w' ∧ ∃ l v, e = .returned (.tuple #[v, .int .i64 (R.2 : Int)]) ∧ pcsOf l = okP R ∧ Pcs w' w.heap.size (P w) v l ∧ (R.2 ≠ 0 → v = .slice none 0 0) := by
  obtain ⟨hb, (⟨h1, he⟩ | ⟨h1, l, v, h2, he, h3⟩)⟩ := h
  · exact ⟨hb, [], .slice none 0 0, he, by unfold okP; rw [if_neg h1]; rfl, ⟨World.ownsRow_nil _ _ _ _, fun x hx => by cases hx⟩, fun _ => rfl⟩
  · exact ⟨hb, l, v, by rw [h1]; exact he, by unfold okP; rw [if_pos h1]; exact h2, h3, fun h => absurd h1 h⟩
def spT : Except Nat ((UInt8 × Bs) × Bs) → Nat
  | .error _ => 0
  | .ok ((t, _), _) => t.toNat
def spB : Except Nat ((UInt8 × Bs) × Bs) → Bs
  | .error _ => []
  | .ok ((_, b), _) => b
def spR : Except Nat ((UInt8 × Bs) × Bs) → Bs
  | .error _ => []
  | .ok (_, r) => r
def spK : Except Nat ((UInt8 × Bs) × Bs) → Nat
  | .error k => k
  | .ok _ => 0
theorem SpPost.uni {w w' : World} {P : World → Nat → Prop} {R : Except Nat ((UInt8 × Bs) × Bs)} {e : Ending} (h : SpPost w P R e w') : Below w.heap.size w w' ∧ ∃ p1 c1 p2 c2, e = .returned (.tuple #[.agg #[.int .u8 (spT R : Int), .slice p1 (spB R).length c1], .slice p2 (spR R).length c2, .int .i64 (spK R : Int)]) ∧ ByV w' (P w) p1 c1 (spB R) ∧ ByV w' (P w) p2 c2 (spR R) := by
  obtain ⟨hb, (⟨t, b, r, p1, c1, p2, c2, rfl, he, h1, h2⟩ | ⟨k, rfl, he⟩)⟩ := h
  · exact ⟨hb, p1, c1, p2, c2, he, h1, h2⟩
  · exact ⟨hb, none, 0, none, 0, he, ByV.nil _ _, ByV.nil _ _⟩
end Go.Proofs.YtnckmcmobkpdcaaDoor
/-
  Pieces in a row.
-/
namespace Go.Proofs.YtnckmcmobkpdcaaDoor
open Go.Shelf Go.RowKit
set_option linter.unusedVariables false
/-- A piece in a row of them. -/
def PieceAt (w : World) (g i : Nat) : Prop := ∃ (T : Nat) (p : Option Addr) (n c : Nat) (l : Bs), w.cell? ⟨g, i * 2, none⟩ = some (.int .u8 (T : Int)) ∧ w.cell? ⟨g, i * 2 + 1, none⟩ = some (.slice p n c) ∧ T < 256 ∧ l.length = n ∧ n ≤ 1001 ∧ ByV w (fun b => b < w.heap.size) p c l
theorem PieceAt.below {w w' : World} {g i : Nat} (h : PieceAt w g i) (hb : Below w.heap.size w w') : PieceAt w' g i := by
  obtain ⟨T, p, n, c, l, h1, h2, h3, h4, h5, h6⟩ := h
  exact ⟨T, p, n, c, l, (hb.cell (World.block_lt_of_cell? w _ h1)).trans h1, (hb.cell (World.block_lt_of_cell? w _ h2)).trans h2, h3, h4, h5, (h6.below hb).mono (fun b hlt _ => Nat.lt_of_lt_of_le hlt hb.size)⟩
end Go.Proofs.YtnckmcmobkpdcaaDoor
/-
  append(b, make([]byte, n)...) onto bytes of the call's own; a piece that came in.
-/
namespace Go.Proofs.YtnckmcmobkpdcaaDoor
open Go.RowKit Go.ChangeShapes Go.WideShapes
set_option linter.unusedVariables false
set_option linter.unusedSimpArgs false

theorem zeroCells_u8 (m : Nat) : Builtin.zeroCells #[Value.int .u8 0] m = (Lib.byteCells (List.replicate m 0)).toArray := by
  unfold Builtin.zeroCells Lib.byteCells
  apply Array.ext'
  simp [Array.toList_map, Nat.mod_one]
  apply List.ext_getElem?
  intro i
  simp [List.getElem?_range, List.getElem?_replicate]
  by_cases h : i < m <;> simp [h]
theorem underInt : Tryd.prog.underlying 3 = some (.int .i64) := by kernel_rfl
/-- Zeros appended to bytes of the call's own. -/
theorem run_append_zeros {w : World} (base : Nat) (ty : TypeId) (g n cap : Nat) (old : Bs) (hown : w.ownsRow base 5 1 (.slice (some ⟨g, 0, none⟩) n cap) n (Lib.byteCells old)) (m : Nat) (hlen : n + m ≤ 10000000) (hbase : base ≤ w.heap.size) :
    ∃ v' w', (Builtin.append_ #[22, 3] ty #[.slice (some ⟨g, 0, none⟩) n cap, .int .i64 (m : Int)]).run Tryd.prog w = .ok v' w' ∧ w'.ownsRow base 5 1 v' (n + m) (Lib.byteCells (old ++ List.replicate m 0)) ∧ w.grownBy w' (some g) ∧ (v'.ownBlock = some g ∨ v'.ownBlock = some w.heap.size) := by
  obtain ⟨i0, hi0, hz0, hz1, hz2⟩ := info_parts infoU8
  rcases hown.2 with ⟨e, _⟩ | ⟨g', cap', cur, e, hbg, hg, hnc, hcm, hcs, htake⟩
  · cases e
  cases e
  have hlo : (Lib.byteCells old).length = n := by have := hown.1; omega
  have hwr : IntKind.i64.wrap (m : Int) = (m : Int) := by
    have : (m : Int) < 9223372036854775807 := by omega
    exact IntWalk.i64_in _ (by omega)
  have hai : ∀ W, (asInt (Value.int .i64 (m : Int))).run Tryd.prog W = .ok (m : Int) W := fun _ => rfl
  have hneg : ¬ ((m : Int) < 0) := by omega
  have hbig : ¬ (281474976710656 < (m : Int)) := by omega
  have hw0 : IntKind.i64.wrap 0 = 0 := by kernel_rfl
  have hone : ∀ u ∈ Lib.byteCells (List.replicate m 0), u.oneCell' = true := by intro u hu; simp only [Lib.byteCells, List.mem_map] at hu; obtain ⟨x, _, rfl⟩ := hu; rfl
  have hml : (Lib.byteCells (List.replicate m 0)).length = m := by simp [Lib.byteCells]
  have hcs1 : cur.size = cap := by omega
  have hzc : Builtin.zeroCells (Value.int .u8 0).cells m = (Lib.byteCells (List.replicate m 0)).toArray := zeroCells_u8 m
  have hcat : Lib.byteCells (old ++ List.replicate m 0) = Lib.byteCells old ++ Lib.byteCells (List.replicate m 0) := (byteCells_app _ _).symm
  have htk : cur.toList.take n = Lib.byteCells old := by rw [Nat.mul_one] at htake; exact htake
  by_cases hroom : n + m ≤ cap
  · have hst := run_storeCells_at Tryd.prog g n 5 (Lib.byteCells (List.replicate m 0)) 0 cur w hg (by rw [hml, hcs1]; omega) hone
    simp only [Nat.add_zero] at hst
    refine ⟨.slice (some ⟨g, 0, none⟩) (n + m) cap, w.setRow g (cur.toList.take n ++ Lib.byteCells (List.replicate m 0) ++ cur.toList.drop (n + (Lib.byteCells (List.replicate m 0)).length)).toArray, ?_, ?_, ?_, .inl rfl⟩
    · by_cases hm0 : m = 0
      · subst hm0
        have hroom' : n ≤ cap := by omega
        simp [Builtin.append_, run_underlying Tryd.underlying22, run_underlying underInt, sizeOf, typeInfo, hi0, hz1, hz2, hroom, storeCells]
        rw [show (0 : Int) = ((0 : Nat) : Int) from rfl, hai]
        simp [Result.andThen, hw0, hroom']
        have h9 := hst
        simp [Lib.byteCells, storeCells] at h9
        simp [Lib.byteCells]
        exact h9
      · simp [Builtin.append_, run_underlying Tryd.underlying22, run_underlying underInt, sizeOf, typeInfo, zeroValue, hi0, hz0, hz1, hz2, hai, hwr, hneg, hbig, hroom, hm0, hzc, Addr.add_lit, hst]
    · refine ⟨by rw [hcat, List.length_append, hlo, hml, Nat.mul_one], .inr ⟨g, cap, _, rfl, hbg, setRow_heap w g cur _ _ _ hg, hroom, hcm, ?_, ?_⟩⟩
      · simp only [List.size_toArray, List.length_append, List.length_take, List.length_drop, Array.length_toList, hml]
        omega
      · rw [hcat, htk, Nat.mul_one]
        have : (Lib.byteCells old ++ Lib.byteCells (List.replicate m 0)).length = n + m := by rw [List.length_append, hlo, hml]
        rw [← this]
        exact List.take_left
    · exact ⟨rfl, rfl, rfl, by simp, fun k _ hk => setRow_other w g k _ (fun e => hk (by rw [e]))⟩
  · have hm0 : m ≠ 0 := by omega
    have hn' : ¬ (n + m ≤ cap) := hroom
    have h63' : ¬ (9223372036854775807 < ((n : Int) + (m : Int))) := by omega
    have hfit : Builtin.nextslicecap (n + m) cap * 1 ≤ 281474976710656 := growslice_fits (by omega) (by omega)
    have h48' : ¬ (281474976710656 < Builtin.nextslicecap (n + m) cap) := by omega
    have holds : ∀ j u, (Lib.byteCells old)[j]? = some u → w.drew.cell? ((⟨g, 0, none⟩ : Addr).add j) = some u := by
      intro j u hj
      have := hown.cells (g := g) rfl j u hj
      simpa using this
    have hfo := run_firstCells_some (P := Tryd.prog) w.drew 1 n ⟨g, 0, none⟩ n cap (Lib.byteCells old) (by rw [hlo, Nat.mul_one]) holds
    refine ⟨.slice (some ⟨w.heap.size, 0, none⟩) (n + m) (grownCap w (n + m) cap 5), w.drew.alloc (.cells ((Lib.byteCells old).toArray ++ (Lib.byteCells (List.replicate m 0)).toArray ++ Builtin.zeroCells (Value.int .u8 0).cells (grownCap w (n + m) cap 5 - (n + m))) 5), ?_, ?_, ?_, .inr rfl⟩
    · simp [Builtin.append_, run_underlying Tryd.underlying22, run_underlying underInt, sizeOf, typeInfo, zeroValue, hi0, hz0, hz1, hz2, hai, hwr, hneg, hbig, hn', hm0, hzc, h63', h48', Question.forced, hfo, newRow, grownCap]
      have ee : ∀ Z : Array Value, (Lib.byteCells old).toArray ++ ((Lib.byteCells (List.replicate m 0)).toArray ++ Z) = (Lib.byteCells old ++ Lib.byteCells (List.replicate m 0)).toArray ++ Z := fun Z => by apply Array.ext'; simp
      rw [ee]
    · have hge := grownCap_ge w (n + m) cap 5
      have hcm2 : grownCap w (n + m) cap 5 ≤ maxLen := grownCap_le_maxLen w (n + m) cap 5 (by unfold maxLen; omega)
      refine ⟨by rw [hcat, List.length_append, hlo, hml, Nat.mul_one], .inr ⟨w.heap.size, _, _, rfl, hbase, heap_alloc_new w.drew _, hge, hcm2, ?_, ?_⟩⟩
      · simp only [Array.size_append, List.size_toArray, size_zeroCells, hlo, hml]
        show n + m + (grownCap w (n + m) cap 5 - (n + m)) * 1 = _
        omega
      · rw [hcat, Nat.mul_one]
        have : (Lib.byteCells old ++ Lib.byteCells (List.replicate m 0)).length = n + m := by rw [List.length_append, hlo, hml]
        simp only [Array.toList_append, List.append_assoc]
        rw [← List.append_assoc, ← this]
        exact List.take_left
    · exact ⟨rfl, rfl, rfl, by simp, fun k hk _ => Below.heap_alloc w.drew _ k hk⟩
theorem tlvFields : ∃ f0 f1 : Field, Tryd.prog.underlying 24 = some (.struct #[f0, f1]) ∧ f0.offset = 0 ∧ f1.offset = 1 ∧ f0.type = 5 ∧ f1.type = 22 := ⟨_, _, Tryd.underlying24, rfl, rfl, rfl, rfl⟩
/-- A piece that came in. -/
theorem open_tlv {H : Type} {enc : TypeId × Value → H} {w : World} {held : Bool} {fuel : Nat} {cs : Array Value} {x : DataW H × List MemPlace} (h : DataW.trod enc Tryd.prog w 0 (fun _ => true) held fuel 24 cs.toList = some x) :
    ∃ (t : Int) (a1 : Option Addr) (l1 c1 : Nat) (z1 : List Int), cs = #[.int .u8 t, .slice a1 l1 c1] ∧ (0 ≤ t ∧ t < 256) ∧ CameJ .u8 w a1 l1 c1 z1 := by
  obtain ⟨f0, f1, hu, o0, o1, t0, t1⟩ := tlvFields
  have hc : Tryd.prog.cellsOf 5 = 1 := by kernel_rfl
  have hc1 : Tryd.prog.cellsOf 22 = 1 := by kernel_rfl
  have hc2 : Tryd.prog.cellsOf 24 = 2 := by kernel_rfl
  obtain ⟨y0, y1, n, _, hl, g0, g1⟩ := trod_struct2 hu h
  rw [hc2] at hl
  rw [o0, t0, hc] at g0
  rw [o1, t1, hc1] at g1
  obtain ⟨v0, v1, hcs⟩ : ∃ v0 v1, cs.toList = [v0, v1] := by
    match hh : cs.toList, hl with
    | [v0, v1], _ => exact ⟨v0, v1, rfl⟩
  rw [hcs] at g0 g1
  simp only [List.drop_zero, List.drop_succ_cons, List.take_succ_cons, List.take_zero] at g0 g1
  obtain ⟨t, rfl, ht⟩ : ∃ t, v0 = .int .u8 t ∧ (0 ≤ t ∧ t < 256) := by
    obtain ⟨z, e0, _, hz⟩ := DataW.trod_int (k := .u8) Tryd.underlying5 g0
    cases e0
    exact ⟨z, rfl, byte_wf hz⟩
  obtain ⟨a1, l1, c1, z1, rfl, w1⟩ : ∃ a l c z, v1 = .slice a l c ∧ CameJ .u8 w a l c z := by
    rcases open_ints Tryd.underlying22 Tryd.underlying5 (by kernel_rfl) g1 with ⟨hcs, _⟩ | ⟨x, l, c, zs, hcs, _, hl, hm, hz, _, hcell, hwz⟩
    · cases hcs
      exact ⟨none, 0, 0, [], rfl, .inl ⟨rfl, rfl, rfl, rfl⟩⟩
    · cases hcs
      exact ⟨_, _, _, zs, rfl, .inr ⟨_, rfl, hl, hm, by simpa using hz, hcell, hwz⟩⟩
  exact ⟨t, a1, l1, c1, z1, Array.ext' hcs, ht, w1⟩
end Go.Proofs.YtnckmcmobkpdcaaDoor
