/-
  Contracts of nat.double, halve, Shift.
-/
import Derived.Test.YtdojbknkaoiioaaProd
namespace Go.Proofs.Ytdojbknkaoiioaa
open Go.RowKit
set_option linter.unusedVariables false
set_option linter.unusedSimpArgs false
attribute [local go_sem ↓] Go.wp_at_zero Go.wp_at_succ

/-- A limb in two parts. -/
theorem parts (x p s : Int) (hp : 0 < p) (hs : 0 < s) (hps : p * s = 18446744073709551616) (hx : 0 ≤ x ∧ x < 18446744073709551616) :
    (x * p) % 18446744073709551616 = (x % s) * p ∧ 0 ≤ x / s ∧ x / s < p ∧ (x % s) * p + 18446744073709551616 * (x / s) = x * p ∧ 0 ≤ (x % s) * p ∧ (x % s) * p + p ≤ 18446744073709551616 := by
  have h1 := Int.emod_nonneg x (show s ≠ 0 by omega)
  have h2 := Int.emod_lt_of_pos x hs
  have h3 := Int.mul_ediv_add_emod x s
  have h4 : 0 ≤ x / s := Int.ediv_nonneg hx.1 (by omega)
  have h5 : x / s < p := by
    apply Int.ediv_lt_of_lt_mul hs
    rw [hps]; exact hx.2
  have h6 : (x % s) * p + 18446744073709551616 * (x / s) = x * p := by
    rw [← hps]
    conv => rhs; rw [← h3]
    grind
  have h7 : 0 ≤ (x % s) * p := Int.mul_nonneg h1 (by omega)
  have h8 : (x % s) * p + p ≤ 18446744073709551616 := by
    have : (x % s + 1) * p ≤ s * p := Int.mul_le_mul_of_nonneg_right (by omega) (by omega)
    rw [Int.add_mul, Int.one_mul, Int.mul_comm s p, hps] at this
    exact this
  refine ⟨?_, h4, h5, h6, h7, h8⟩
  rw [← h6, Int.add_mul_emod_self_left]
  exact Int.emod_eq_of_lt h7 (by omega)
/-- Or of parts that don't meet is the sum. -/
theorem or_sum (y : Int) (m r : Nat) (hy : 0 ≤ y ∧ y < 2 ^ r) (hm : (m : Int) * 2 ^ r + 2 ^ r ≤ 18446744073709551616) : bits .or .u64 y ((m : Int) * 2 ^ r) = y + (m : Int) * 2 ^ r := by
  obtain ⟨y, rfl⟩ := Int.eq_ofNat_of_zero_le hy.1
  have hp : ((2 ^ r : Nat) : Int) = (2 : Int) ^ r := by simp
  rw [← hp] at hy hm ⊢
  rw [← Int.natCast_mul] at hm ⊢
  have hy2 : y < 2 ^ r := by omega
  have := bits_or_u64_nat y (m * 2 ^ r) (by omega) (by omega)
  rw [this]
  have e := Nat.two_pow_add_eq_or_of_lt hy2 m
  rw [Nat.mul_comm m (2 ^ r), Nat.or_comm, ← e]
  omega
theorem or_sum' (y z : Int) (m r : Nat) (hz : z = (m : Int) * 2 ^ r) (hy : 0 ≤ y ∧ y < 2 ^ r) (hm : z + 2 ^ r ≤ 18446744073709551616) : bits .or .u64 y z = y + z := by
  subst hz; exact or_sum y m r hy hm
theorem pow64 (r : Nat) (hr : r ≤ 64) : (2 : Int) ^ r * 2 ^ (64 - r) = 18446744073709551616 := by
  rw [← Int.pow_add, show r + (64 - r) = 64 by omega]; rfl

/-- What stands in the row when i limbs have been gone over. -/
def Dbls (xs : List Int) (n q r i : Nat) (cur : List Int) : Prop :=
  cur.length = n ∧ Dg B64 cur ∧ (∀ j, q + i < j → cur.getD j 0 = 0) ∧ cur.getD (q + i) 0 < 2 ^ r ∧ low B64 cur (q + i + 1) = B64 ^ q * (low B64 xs i * 2 ^ r)
theorem Dbls.zero (xs : List Int) (n q r : Nat) : Dbls xs n q r 0 (List.replicate n 0) :=
  ⟨by simp, Dg.zeros B64_pos _, fun j _ => getD_zeros _ j, by rw [getD_zeros]; exact Int.pow_pos (by decide), by rw [low_zeros, low_zero]; simp⟩
theorem Dbls.step {xs : List Int} {n q r i : Nat} {cur : List Int} (h : Dbls xs n q r i cur) (hr : r < 64) (hn : q + i + 1 < n) (hx : 0 ≤ xs.getD i 0 ∧ xs.getD i 0 < 18446744073709551616) :
    Dbls xs n q r (i + 1) ((cur.set (q + i) (bits .or .u64 (cur.getD (q + i) 0) (IntKind.u64.wrap (xs.getD i 0 * 2 ^ r)))).set (q + i + 1) (xs.getD i 0 / 2 ^ (64 - r))) := by
  obtain ⟨h1, h2, h3, h4, h5⟩ := h
  have hp : (0 : Int) < 2 ^ r := Int.pow_pos (by decide)
  have hs : (0 : Int) < 2 ^ (64 - r) := Int.pow_pos (by decide)
  obtain ⟨a1, a2, a3, a4, a5, a6⟩ := parts (xs.getD i 0) (2 ^ r) (2 ^ (64 - r)) hp hs (pow64 r (by omega)) hx
  have hy := h2.getD B64_pos (q + i)
  obtain ⟨m, hm⟩ := Int.eq_ofNat_of_zero_le (Int.emod_nonneg (xs.getD i 0) (show (2 : Int) ^ (64 - r) ≠ 0 by omega))
  rw [IntKind.wrap_u64, a1, or_sum' (cur.getD (q + i) 0) _ m r (by rw [hm]) ⟨hy.1, h4⟩ a6]
  have hpb : (2 : Int) ^ r ≤ 18446744073709551616 := by omega
  refine ⟨by simp [h1], (h2.set _ ⟨by omega, by unfold B64; omega⟩).set _ ⟨a2, by unfold B64; omega⟩, fun j hj => ?_, ?_, ?_⟩
  · rw [getD_set _ _ _ _ (by simp; omega), if_neg (by omega), getD_set _ _ _ _ (by omega), if_neg (by omega)]
    exact h3 j (by omega)
  · rw [show q + (i + 1) = q + i + 1 by omega, getD_set _ _ _ _ (by simp; omega), if_pos rfl]
    exact a3
  · rw [show q + (i + 1) + 1 = (q + i + 1) + 1 by omega, low_set_succ _ _ _ _ (by simp; omega), low_set_succ _ _ _ _ (by omega)]
    rw [low_succ] at h5
    rw [low_succ B64 xs, Int.pow_succ, Int.pow_add]
    rw [Int.pow_add] at h5
    generalize xs.getD i 0 % 2 ^ (64 - r) * 2 ^ r = u at *
    generalize xs.getD i 0 / 2 ^ (64 - r) = v at *
    generalize cur.getD (q + i) 0 = y at *
    generalize low B64 cur (q + i) = L at *
    generalize low B64 xs i = X at *
    generalize xs.getD i 0 = x at *
    generalize (2 : Int) ^ r = p at *
    have e : B64 = 18446744073709551616 := rfl
    rw [← e] at a4
    generalize B64 ^ q = Q at *
    generalize B64 ^ i = I at *
    generalize B64 = b at *
    have : L + Q * I * (y + u) + Q * I * b * v = (L + Q * I * y) + Q * I * (u + b * v) := by grind
    rw [this, h5, a4]
    grind
theorem Dbls.done {xs : List Int} {n q r : Nat} {cur : List Int} (h : Dbls xs n q r xs.length cur) (hn : n = q + xs.length + 1) : val B64 cur = val B64 xs * 2 ^ (64 * q + r) := by
  rw [← low_len, h.1, hn, h.2.2.2.2, low_len, Int.pow_add, Int.pow_mul]
  have e : B64 = 2 ^ 64 := rfl
  rw [e]
  generalize val (2 ^ 64) xs = V
  generalize ((2 : Int) ^ 64) ^ q = Q
  generalize (2 : Int) ^ r = R
  grind

set_option maxHeartbeats 2000000 in
/-- nat.double. -/
theorem double_any (ao : Option Addr) (la ca : Nat) (xs : List Int) (q r : Nat) (t : Int) (w : World) (h : NumIn .u64 B64 w ao la ca xs) (ht : t = 64 * q + r) (hr : r < 64) (hsum : la + q < 1073741823) :
    Calls Try.prog 86 #[.slice ao la ca, .int .i64 t] w fun e w' => ∃ v, e = .returned v ∧ NumOut .u64 B64 w w' v (val B64 xs * 2 ^ (64 * q + r)) (la + q + 1) := by
  have hl := h.len
  have ht0 : 0 ≤ t := by omega
  have hq : t / 64 = (q : Int) := by omega
  have hrr : t % 64 = (r : Int) := by omega
  have ht1 : t < 100000000000 := by omega
  clear ht
  go_enter Try.func86, Try.ntmps86
  go_wp2_with (at_make; refine wpList_make_row _ rfl _ _ 27 rfl 34 .u64 8 Try.underlying27 Try.infoU _ _ _ _ (la + q + 1) rfl rfl (by omega) (by omega) (by omega) (by unfold maxLen; omega) ?_)
  intro w3 hrow hbel
  go_wp2
  go_loopw [21] (fun i wr => ∃ (k : Nat) (cur : List Int), k ≤ la ∧ i = .int .i64 k ∧ Row 34 .u64 wr w.heap.size cur ∧ Dbls xs (la + q + 1) q r k cur ∧ Below w.heap.size w wr) (fun i _ => la - (intOf i).toNat)
  case atStart => exact ⟨0, _, Nat.zero_le _, rfl, hrow, Dbls.zero _ _ _ _, hbel⟩
  case round =>
    obtain ⟨k, cur, hk, rfl, hrw, ha, hb⟩ := hrel
    by_cases hlt : k < la
    · have hx := h.lies.old hb
      obtain ⟨b, off, rfl, hblk, hc⟩ := hx.at (by omega)
      have hlen := ha.1
      have hcell := hc k (by omega)
      have hfr := hrw.frozen (q + k)
      have hcl := hrw.cell (q + k) (by omega)
      have hfr2 := hrw.frozen (q + k + 1)
      have hcl2 := hrw.cell (q + k + 1) (by omega)
      have gx := h.dg.getD B64_pos k
      have HS : Hid (Dbls _ _ _ _ _ _) := ha.step hr (by omega) gx
      have HR : Hid (Row _ _ _ _ _) := (hrw.set (q + k) (bits .or .u64 (cur.getD (q + k) 0) (IntKind.u64.wrap (xs.getD k 0 * 2 ^ r)))).set (q + k + 1) (xs.getD k 0 / 2 ^ (64 - r))
      have HB : Hid (Below w.heap.size w wr) := hb
      generalize xs.getD k 0 = x at *
      generalize cur.getD (q + k) 0 = y at *
      generalize cur.getD (q + k + 1) 0 = z at *
      have i0 : (0 : Int) ≤ (k : Int) := by omega
      have i1 : (k : Int) < (la : Int) := by omega
      have i2 : (q : Int) + k < (la + q + 1 : Nat) := by omega
      have hbne : b < w.heap.size := by
        obtain ⟨b', off', e, hlt', _⟩ := h.lies.at (by omega)
        injection e with e
        injection e with e
        omega
      clear hrw hrow hbel hb hx hc h ha hlen
      go_wp2
      go_region
      all_goals
        go_wp2
        go_roundw
        case rel => exact ⟨k + 1, _, by omega, by go_num, HR.out, HS.out, ((HB.out.setCell (Nat.le_refl _) _).setCell (Nat.le_refl _) _).drew⟩
        case measure => simp [intOf]; omega
    · obtain rfl : k = la := by omega
      have hlen := ha.1
      have HV : Hid _ := (by rw [← hl] at ha; exact ha.done (by omega) : val B64 cur = val B64 xs * 2 ^ (64 * q + r))
      have HR : Hid (NumIn _ _ _ _ _ _ _) := hrw.num ha.2.1 (by omega)
      have HB : Hid (Below w.heap.size w wr) := hb
      rw [hlen] at HR
      clear ha hb hrw hrow hbel hlen h
      go_wp2_with fail
      refine (trim_any _ _ _ _ _ HR.out.lies HR.out.lc HR.out.cm HR.out.nn).mono ?_
      rintro e w4 ⟨rfl, rfl⟩
      go_wp2
      go_ret
      exact ⟨_, rfl, HR.out.out HB.out _ HV.out _ (by omega)⟩

/-! ### halve -/
theorem getD_drop (xs : List Int) (q j : Nat) : (xs.drop q).getD j 0 = xs.getD (q + j) 0 := by simp [List.getD, List.getElem?_drop]
/-- What stands in the row when i limbs have been gone over. -/
def Hlvs (ds : List Int) (n r i : Nat) (cur : List Int) : Prop :=
  cur.length = n ∧ Dg B64 cur ∧ 2 ^ r * low B64 cur i + ds.getD 0 0 % 2 ^ r = low B64 ds i + B64 ^ i * (ds.getD i 0 % 2 ^ r)
theorem Hlvs.zero (ds : List Int) (n r : Nat) : Hlvs ds n r 0 (List.replicate n 0) :=
  ⟨by simp, Dg.zeros B64_pos _, by rw [low_zeros, low_zero]; simp⟩
theorem Hlvs.step {ds : List Int} {n r i : Nat} {cur : List Int} (h : Hlvs ds n r i cur) (hr : r < 64) (hn : i < n) (hx : 0 ≤ ds.getD i 0 ∧ ds.getD i 0 < 18446744073709551616) (hy : 0 ≤ ds.getD (i + 1) 0 ∧ ds.getD (i + 1) 0 < 18446744073709551616) :
    Hlvs ds n r (i + 1) (cur.set i (bits .or .u64 (ds.getD i 0 / 2 ^ r) (IntKind.u64.wrap (ds.getD (i + 1) 0 * 2 ^ (64 - r))))) := by
  obtain ⟨h1, h2, h3⟩ := h
  have hp : (0 : Int) < 2 ^ r := Int.pow_pos (by decide)
  have hs : (0 : Int) < 2 ^ (64 - r) := Int.pow_pos (by decide)
  have hps := pow64 r (by omega)
  obtain ⟨a1, a2, a3, a4, a5, a6⟩ := parts (ds.getD (i + 1) 0) (2 ^ (64 - r)) (2 ^ r) hs hp (by rw [Int.mul_comm]; exact hps) hy
  obtain ⟨_, b2, b3, b4, _, _⟩ := parts (ds.getD i 0) (2 ^ (64 - r)) (2 ^ r) hs hp (by rw [Int.mul_comm]; exact hps) hx
  obtain ⟨m, hm⟩ := Int.eq_ofNat_of_zero_le (Int.emod_nonneg (ds.getD (i + 1) 0) (show (2 : Int) ^ r ≠ 0 by omega))
  rw [IntKind.wrap_u64, a1, or_sum' (ds.getD i 0 / 2 ^ r) _ m (64 - r) (by rw [hm]) ⟨b2, b3⟩ a6]
  refine ⟨by simp [h1], h2.set _ ⟨by omega, by unfold B64; omega⟩, ?_⟩
  rw [low_set_succ _ _ _ _ (by omega), low_succ, Int.pow_succ]
  have c := Int.mul_ediv_add_emod (ds.getD i 0) (2 ^ r)
  generalize ds.getD i 0 / 2 ^ r = u at *
  generalize ds.getD i 0 % 2 ^ r = v at *
  generalize ds.getD (i + 1) 0 % 2 ^ r = y at *
  generalize ds.getD 0 0 % 2 ^ r = z at *
  generalize ds.getD i 0 = x at *
  generalize low B64 cur i = L at *
  generalize low B64 ds i = D at *
  have e : B64 = 18446744073709551616 := rfl
  rw [← e] at hps
  generalize (2 : Int) ^ r = p at *
  generalize (2 : Int) ^ (64 - r) = s at *
  generalize B64 ^ i = I at *
  generalize B64 = b at *
  have : p * (L + I * (u + y * s)) + z = (p * L + z) + I * (p * u) + I * (p * s) * y := by grind
  rw [this, h3, hps]
  have : p * u = x - v := by omega
  rw [this]
  grind
theorem Hlvs.done {ds : List Int} {r : Nat} {cur : List Int} (h : Hlvs ds ds.length r ds.length cur) : val B64 cur = val B64 ds / 2 ^ r := by
  obtain ⟨h1, h2, h3⟩ := h
  have hp : (0 : Int) < 2 ^ r := Int.pow_pos (by decide)
  have e0 : ds.getD ds.length 0 = 0 := by simp
  have e1 : low B64 cur ds.length = val B64 cur := by rw [← h1, low_len]
  rw [e0, low_len, e1, Int.zero_emod, Int.mul_zero, Int.add_zero] at h3
  have a := Int.emod_nonneg (ds.getD 0 0) (show (2 : Int) ^ r ≠ 0 by omega)
  have b := Int.emod_lt_of_pos (ds.getD 0 0) hp
  rw [← h3, Int.mul_comm, Int.add_comm, Int.add_mul_ediv_right _ _ (by omega), Int.ediv_eq_zero_of_lt a b]
  omega
theorem val_drop {B : Int} (hB : 0 < B) (xs : List Int) (hd : Dg B xs) (q : Nat) : val B (xs.drop q) = val B xs / B ^ q := by
  by_cases hq : q ≤ xs.length
  · have h := val_append B (xs.take q) (xs.drop q)
    rw [List.take_append_drop] at h
    have hl : (xs.take q).length = q := by simp; omega
    rw [hl] at h
    have a := val_nonneg hB (hd.take q)
    have b := val_lt hB (hd.take q)
    rw [hl] at b
    have hp : 0 < B ^ q := Int.pow_pos hB
    rw [h, Int.mul_comm, Int.add_mul_ediv_right _ _ (by omega), Int.ediv_eq_zero_of_lt a b]
    omega
  · rw [List.drop_eq_nil_of_le (by omega)]
    have a := val_nonneg hB hd
    have b := val_lt hB hd
    have c := pow_mono (B := B) (by omega) (show xs.length ≤ q by omega)
    rw [Int.ediv_eq_zero_of_lt a (by omega)]; rfl
theorem half_val (xs : List Int) (hd : Dg B64 xs) (q r : Nat) : val B64 (xs.drop q) / 2 ^ r = val B64 xs / 2 ^ (64 * q + r) := by
  have hp : (0 : Int) < B64 ^ q := Int.pow_pos B64_pos
  rw [val_drop B64_pos xs hd, Int.pow_add, Int.pow_mul]
  have e : B64 = 2 ^ 64 := rfl
  rw [e] at hp ⊢
  rw [Int.ediv_ediv_of_nonneg (by omega)]

set_option maxHeartbeats 2000000 in
set_option maxRecDepth 100000 in
/-- nat.halve. -/
theorem halve_any (ao : Option Addr) (la ca : Nat) (xs : List Int) (q r : Nat) (t : Int) (w : World) (h : NumIn .u64 B64 w ao la ca xs) (ht : t = 64 * q + r) (hr : r < 64) (htb : t < 4294967296) :
    Calls Try.prog 87 #[.slice ao la ca, .int .i64 t] w fun e w' => ∃ v, e = .returned v ∧ NumOut .u64 B64 w w' v (val B64 xs / 2 ^ (64 * q + r)) la := by
  have hl := h.len
  have hs := h.sm
  have ht0 : 0 ≤ t := by omega
  have hq : t / 64 = (q : Int) := by omega
  have hrr : t % 64 = (r : Int) := by omega
  have hqb : q < 67108864 := by omega
  clear ht
  have HV := half_val xs h.dg q r
  by_cases hge : la ≤ q
  · have HN : Hid (NumOut .u64 B64 w w (.slice none 0 0) (val B64 xs / 2 ^ (64 * q + r)) la) := by
      refine ⟨none, 0, 0, [], rfl, NumIn.nil, Canon.nil, ?_, Nat.zero_le _, Below.refl _ _⟩
      rw [← HV, List.drop_eq_nil_of_le (by omega)]
      simp [val]
    clear HV h
    go_enter Try.func87, Try.ntmps87
    go_wp2
    go_ret
    exact ⟨_, rfl, HN.out⟩
  · obtain ⟨n, hN⟩ : ∃ n : Nat, (la : Int) - q = n := ⟨la - q, by omega⟩
    have hn0 : 0 < n := by omega
    have hqn : q + n ≤ la := by omega
    have hqn' : la ≤ q + n := by omega
    have hql : q < la := by omega
    have HVH : Hid (val B64 (xs.drop q) / 2 ^ r = val B64 xs / 2 ^ (64 * q + r)) := HV
    clear HV hge
    go_enter Try.func87, Try.ntmps87
    go_wp2_with (at_make; refine wpList_make_row _ rfl _ _ 27 rfl 34 .u64 8 Try.underlying27 Try.infoU _ _ _ _ n rfl rfl (by omega) (by omega) (by omega) (by unfold maxLen; omega) ?_)
    intro w3 hrow hbel
    go_wp2
    go_loopw [24] (fun i wr => ∃ (k : Nat) (cur : List Int), k ≤ n ∧ i = .int .i64 k ∧ Row 34 .u64 wr w.heap.size cur ∧ Hlvs (xs.drop q) n r k cur ∧ Below w.heap.size w wr) (fun i _ => n - (intOf i).toNat)
    case atStart => exact ⟨0, _, Nat.zero_le _, rfl, hrow, Hlvs.zero _ _ _, hbel⟩
    case round =>
      obtain ⟨k, cur, hk, rfl, hrw, ha, hb⟩ := hrel
      by_cases hlt : k < n
      · have hx := h.lies.old hb
        have HL := fun w hw => limb_any ao la ca xs (((q + k : Nat) : Int) + 1) w hw (by unfold maxLen; omega) (by omega)
        have et : (((q + k : Nat) : Int) + 1).toNat = q + k + 1 := by omega
        rw [et] at HL
        have gx := h.dg.getD B64_pos (q + k)
        have gy := h.dg.getD B64_pos (q + k + 1)
        have HS : Hid (Hlvs _ _ _ _ _) := ha.step hr hlt (by rw [getD_drop]; exact gx) (by rw [getD_drop]; exact gy)
        rw [getD_drop, getD_drop, show q + (k + 1) = q + k + 1 by omega] at HS
        obtain ⟨b, off, rfl, hblk, hc⟩ := hx.at (by omega)
        have hlen := ha.1
        have hcell := hc (q + k) (by omega)
        have hfr := hrw.frozen k
        have hcl := hrw.cell k (by omega)
        have HR : Hid (Row _ _ _ _ _) := hrw.set k (bits .or .u64 (xs.getD (q + k) 0 / 2 ^ r) (IntKind.u64.wrap (xs.getD (q + k + 1) 0 * 2 ^ (64 - r))))
        have HB : Hid (Below w.heap.size w wr) := hb
        generalize xs.getD (q + k) 0 = x at *
        generalize xs.getD (q + k + 1) 0 = y at *
        have HLX : Lies .u64 wr.drew (some ⟨b, off, none⟩) la xs := hx
        have i0 : (0 : Int) ≤ (k : Int) := by omega
        have i1 : (k : Int) < (n : Int) := by omega
        have hbne : b < w.heap.size := by
          obtain ⟨b', off', e, hlt', _⟩ := h.lies.at (by omega)
          injection e with e
          injection e with e
          omega
        have HBB : Hid (some b ≠ some w.heap.size) := by unfold Hid; simp; omega
        have hw2 : IntKind.i64.wrap (((q + k : Nat) : Int) + 1) = ((q + k : Nat) : Int) + 1 := IntWalk.i64_in _ (by omega)
        have hw1 : IntKind.i64.wrap ((q : Int) + (k : Int)) = ((q + k : Nat) : Int) := by rw [IntWalk.i64_in _ (by omega)]; omega
        have hw3 : IntKind.i64.wrap (64 - (r : Int)) = ((64 - r : Nat) : Int) := by rw [IntWalk.i64_in _ (by omega)]; omega
        have i3 : ((q + k : Nat) : Int) < (la : Int) := by omega
        have HQK : q + k < la := by omega
        clear hrw hrow hbel hb hx hc h ha hlen et hq hrr HVH
        generalize q + k = p at *
        have HLT : Hid (k < n) := hlt
        have hkb : k < 1073741824 := by omega
        go_wp2
        clear hN hqn hqn' hql hlt hl
        go_region_held3 (fun w' => w'.cell? ⟨b, off + p, none⟩ = some (.int .u64 x)) (first | exact hcell | exact (grown_set wr _ _ _).cell hcell HBB.out) (first | (go_at_call 61; refine (HL wr.drew HLX).mono ?_; rintro e w2 ⟨rfl, rfl⟩))
        all_goals
          go_wp2
          go_roundw
          case rel => exact ⟨k + 1, _, by have := HLT.out; omega, by go_num, HR.out, HS.out, (HB.out.setCell (Nat.le_refl _) _).drew⟩
          case measure => have := HLT.out; simp [intOf]; omega
      · obtain rfl : k = n := by omega
        have hlen := ha.1
        have HV : Hid (val B64 cur = val B64 xs / 2 ^ (64 * q + r)) := by
          have e : (xs.drop q).length = k := by simp; omega
          rw [← e] at ha
          unfold Hid
          rw [ha.done]
          exact HVH.out
        have HR : Hid (NumIn _ _ _ _ _ _ _) := hrw.num ha.2.1 (by omega)
        have HB : Hid (Below w.heap.size w wr) := hb
        rw [hlen] at HR
        clear ha hb hrw hrow hbel hlen h HVH
        go_wp2_with fail
        refine (trim_any _ _ _ _ _ HR.out.lies HR.out.lc HR.out.cm HR.out.nn).mono ?_
        rintro e w4 ⟨rfl, rfl⟩
        go_wp2
        go_ret
        exact ⟨_, rfl, HR.out.out HB.out _ HV.out _ (by omega)⟩

set_option maxHeartbeats 2000000 in
/-- nat.Shift: divided. -/
theorem Shift_down (ao : Option Addr) (la ca : Nat) (xs : List Int) (t : Nat) (w : World) (h : NumIn .u64 B64 w ao la ca xs) (htb : t < 2147483648) :
    Calls Try.prog 68 #[.slice ao la ca, .int .i64 t] w fun e w' => ∃ v, e = .returned v ∧ NumOut .u64 B64 w w' v (val B64 xs / 2 ^ t) la := by
  have hl := h.len
  have htop := top_le xs
  have HT := trim_any ao la ca xs w h.lies h.lc h.cm h.nn
  have h2 := h.take (top xs) (by omega)
  have HH := halve_any ao (top xs) ca (xs.take (top xs)) (t / 64) (t % 64) (t : Int) w h2 (by omega) (by omega) (by omega)
  rw [val_take_top, show 64 * (t / 64) + t % 64 = t by omega] at HH
  have hle : top xs ≤ la := by omega
  generalize top xs = n at *
  have HLE : Hid (n ≤ la) := hle
  clear h h2 hl htop hle
  go_enter Try.func68, Try.ntmps68
  go_wp2_with fail
  refine HT.mono ?_
  rintro e w1 ⟨rfl, rfl⟩
  go_wp2_with fail
  refine HH.mono ?_
  rintro e w2 ⟨v, rfl, ao', len', cap', xs', rfl, a, b, c, d, e⟩
  go_wp2
  go_ret
  exact ⟨_, rfl, ao', len', cap', xs', rfl, a, b, c, Nat.le_trans d HLE.out, e⟩
set_option maxHeartbeats 2000000 in
/-- nat.Shift: multiplied. -/
theorem Shift_up (ao : Option Addr) (la ca : Nat) (xs : List Int) (t : Nat) (w : World) (h : NumIn .u64 B64 w ao la ca xs) (ht0 : 0 < t) (htb : t ≤ 4096) (hlb : la < 1073741000) :
    Calls Try.prog 68 #[.slice ao la ca, .int .i64 (-(t : Int))] w fun e w' => ∃ v, e = .returned v ∧ NumOut .u64 B64 w w' v (val B64 xs * 2 ^ t) (la + t / 64 + 1) := by
  have hl := h.len
  have htop := top_le xs
  have HT := trim_any ao la ca xs w h.lies h.lc h.cm h.nn
  have h2 := h.take (top xs) (by omega)
  have HH := double_any ao (top xs) ca (xs.take (top xs)) (t / 64) (t % 64) (t : Int) w h2 (by omega) (by omega) (by omega)
  rw [val_take_top, show 64 * (t / 64) + t % 64 = t by omega] at HH
  have hle : top xs ≤ la := by omega
  generalize top xs = n at *
  have HLE : Hid (n ≤ la) := hle
  clear h h2 hl htop hle
  go_enter Try.func68, Try.ntmps68
  go_wp2_with fail
  refine HT.mono ?_
  rintro e w1 ⟨rfl, rfl⟩
  go_wp2_with fail
  refine HH.mono ?_
  rintro e w2 ⟨v, rfl, ao', len', cap', xs', rfl, a, b, c, d, e⟩
  go_wp2
  go_ret
  exact ⟨_, rfl, ao', len', cap', xs', rfl, a, b, c, Nat.le_trans d (by have := HLE.out; omega), e⟩
end Go.Proofs.Ytdojbknkaoiioaa
