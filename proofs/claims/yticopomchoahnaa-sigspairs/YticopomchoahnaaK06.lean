import Derived.Test.YticopomchoahnaaK05
import Derived.Test.YticopomchoahnaaK04
import Derived.Test.YticopomchoahnaaK03
/-
  Contracts of nat.double, halve, Shift.
-/
namespace Go.Proofs.Yticopomchoahnaa
open Go.RowKit
set_option linter.unusedVariables false
set_option linter.unusedSimpArgs false
attribute [local go_sem ↓] Go.wp_at_zero Go.wp_at_succ

/-- A limb in two parts. -/
theorem parts (x p s : Int) (hp : 0 < p) (hs : 0 < s) (hps : p * s = 18446744073709551616) (hx : 0 ≤ x ∧ x < 18446744073709551616) :
    (x * p) % 18446744073709551616 = (x % s) * p ∧ 0 ≤ x / s ∧ x / s < p ∧ (x % s) * p + 18446744073709551616 * (x / s) = x * p ∧ 0 ≤ (x % s) * p ∧ (x % s) * p + p ≤ 18446744073709551616 := by
  have h1 := Int.emod_nonneg x (show s ≠ 0 by omega)
  have h2 := Int.emod_lt_of_pos x hs
  have h3 := Int.mul_ediv_add_emod x s
  have h4 : 0 ≤ x / s := Int.ediv_nonneg hx.1 (by omega)
  have h5 : x / s < p := by
    apply Int.ediv_lt_of_lt_mul hs
    rw [hps]; exact hx.2
  have h6 : (x % s) * p + 18446744073709551616 * (x / s) = x * p := by
    rw [← hps]
    conv => rhs; rw [← h3]
    grind
  have h7 : 0 ≤ (x % s) * p := Int.mul_nonneg h1 (by omega)
  have h8 : (x % s) * p + p ≤ 18446744073709551616 := by
    have : (x % s + 1) * p ≤ s * p := Int.mul_le_mul_of_nonneg_right (by omega) (by omega)
    rw [Int.add_mul, Int.one_mul, Int.mul_comm s p, hps] at this
    exact this
  refine ⟨?_, h4, h5, h6, h7, h8⟩
  rw [← h6, Int.add_mul_emod_self_left]
  exact Int.emod_eq_of_lt h7 (by omega)
/-- Or of parts that don't meet is the sum. -/
theorem or_sum (y : Int) (m r : Nat) (hy : 0 ≤ y ∧ y < 2 ^ r) (hm : (m : Int) * 2 ^ r + 2 ^ r ≤ 18446744073709551616) : bits .or .u64 y ((m : Int) * 2 ^ r) = y + (m : Int) * 2 ^ r := by
  obtain ⟨y, rfl⟩ := Int.eq_ofNat_of_zero_le hy.1
  have hp : ((2 ^ r : Nat) : Int) = (2 : Int) ^ r := by simp
  rw [← hp] at hy hm ⊢
  rw [← Int.natCast_mul] at hm ⊢
  have hy2 : y < 2 ^ r := by omega
  have := bits_or_u64_nat y (m * 2 ^ r) (by omega) (by omega)
  rw [this]
  have e := Nat.two_pow_add_eq_or_of_lt hy2 m
  rw [Nat.mul_comm m (2 ^ r), Nat.or_comm, ← e]
  omega
theorem or_sum' (y z : Int) (m r : Nat) (hz : z = (m : Int) * 2 ^ r) (hy : 0 ≤ y ∧ y < 2 ^ r) (hm : z + 2 ^ r ≤ 18446744073709551616) : bits .or .u64 y z = y + z := by
  subst hz; exact or_sum y m r hy hm
theorem pow64 (r : Nat) (hr : r ≤ 64) : (2 : Int) ^ r * 2 ^ (64 - r) = 18446744073709551616 := by
  rw [← Int.pow_add, show r + (64 - r) = 64 by omega]; rfl

/-- What stands in the row when i limbs have been gone over. -/
def Dbls (xs : List Int) (n q r i : Nat) (cur : List Int) : Prop :=
  cur.length = n ∧ Dg B64 cur ∧ (∀ j, q + i < j → cur.getD j 0 = 0) ∧ cur.getD (q + i) 0 < 2 ^ r ∧ low B64 cur (q + i + 1) = B64 ^ q * (low B64 xs i * 2 ^ r)
theorem Dbls.zero (xs : List Int) (n q r : Nat) : Dbls xs n q r 0 (List.replicate n 0) :=
  ⟨by simp, Dg.zeros B64_pos _, fun j _ => getD_zeros _ j, by rw [getD_zeros]; exact Int.pow_pos (by decide), by rw [low_zeros, low_zero]; simp⟩
theorem Dbls.step {xs : List Int} {n q r i : Nat} {cur : List Int} (h : Dbls xs n q r i cur) (hr : r < 64) (hn : q + i + 1 < n) (hx : 0 ≤ xs.getD i 0 ∧ xs.getD i 0 < 18446744073709551616) :
    Dbls xs n q r (i + 1) ((cur.set (q + i) (bits .or .u64 (cur.getD (q + i) 0) (IntKind.u64.wrap (xs.getD i 0 * 2 ^ r)))).set (q + i + 1) (xs.getD i 0 / 2 ^ (64 - r))) := by
  obtain ⟨h1, h2, h3, h4, h5⟩ := h
  have hp : (0 : Int) < 2 ^ r := Int.pow_pos (by decide)
  have hs : (0 : Int) < 2 ^ (64 - r) := Int.pow_pos (by decide)
  obtain ⟨a1, a2, a3, a4, a5, a6⟩ := parts (xs.getD i 0) (2 ^ r) (2 ^ (64 - r)) hp hs (pow64 r (by omega)) hx
  have hy := h2.getD B64_pos (q + i)
  obtain ⟨m, hm⟩ := Int.eq_ofNat_of_zero_le (Int.emod_nonneg (xs.getD i 0) (show (2 : Int) ^ (64 - r) ≠ 0 by omega))
  rw [IntKind.wrap_u64, a1, or_sum' (cur.getD (q + i) 0) _ m r (by rw [hm]) ⟨hy.1, h4⟩ a6]
  have hpb : (2 : Int) ^ r ≤ 18446744073709551616 := by omega
  refine ⟨by simp [h1], (h2.set _ ⟨by omega, by unfold B64; omega⟩).set _ ⟨a2, by unfold B64; omega⟩, fun j hj => ?_, ?_, ?_⟩
  · rw [getD_set _ _ _ _ (by simp; omega), if_neg (by omega), getD_set _ _ _ _ (by omega), if_neg (by omega)]
    exact h3 j (by omega)
  · rw [show q + (i + 1) = q + i + 1 by omega, getD_set _ _ _ _ (by simp; omega), if_pos rfl]
    exact a3
  · rw [show q + (i + 1) + 1 = (q + i + 1) + 1 by omega, low_set_succ _ _ _ _ (by simp; omega), low_set_succ _ _ _ _ (by omega)]
    rw [low_succ] at h5
    rw [low_succ B64 xs, Int.pow_succ, Int.pow_add]
    rw [Int.pow_add] at h5
    generalize xs.getD i 0 % 2 ^ (64 - r) * 2 ^ r = u at *
    generalize xs.getD i 0 / 2 ^ (64 - r) = v at *
    generalize cur.getD (q + i) 0 = y at *
    generalize low B64 cur (q + i) = L at *
    generalize low B64 xs i = X at *
    generalize xs.getD i 0 = x at *
    generalize (2 : Int) ^ r = p at *
    have e : B64 = 18446744073709551616 := rfl
    rw [← e] at a4
    generalize B64 ^ q = Q at *
    generalize B64 ^ i = I at *
    generalize B64 = b at *
    have : L + Q * I * (y + u) + Q * I * b * v = (L + Q * I * y) + Q * I * (u + b * v) := by grind
    rw [this, h5, a4]
    grind
theorem Dbls.done {xs : List Int} {n q r : Nat} {cur : List Int} (h : Dbls xs n q r xs.length cur) (hn : n = q + xs.length + 1) : val B64 cur = val B64 xs * 2 ^ (64 * q + r) := by
  rw [← low_len, h.1, hn, h.2.2.2.2, low_len, Int.pow_add, Int.pow_mul]
  have e : B64 = 2 ^ 64 := rfl
  rw [e]
  generalize val (2 ^ 64) xs = V
  generalize ((2 : Int) ^ 64) ^ q = Q
  generalize (2 : Int) ^ r = R
  grind

set_option maxHeartbeats 2000000 in
/-- nat.double. -/
theorem double_any (ao : Option Addr) (la ca : Nat) (xs : List Int) (q r : Nat) (t : Int) (w : World) (h : NumIn .u64 B64 w ao la ca xs) (ht : t = 64 * q + r) (hr : r < 64) (hsum : la + q < 1073741823) :
    Calls Try.prog 132 #[.slice ao la ca, .int .i64 t] w fun e w' => ∃ v, e = .returned v ∧ NumOut .u64 B64 w w' v (val B64 xs * 2 ^ (64 * q + r)) (la + q + 1) := by
  have hl := h.len
  have ht0 : 0 ≤ t := by omega
  have hq : t / 64 = (q : Int) := by omega
  have hrr : t % 64 = (r : Int) := by omega
  have ht1 : t < 100000000000 := by omega
  clear ht
  go_enter Try.func132, Try.ntmps132
  go_wp2_with (at_make; refine wpList_make_row _ rfl _ _ 29 rfl 38 .u64 8 Try.underlying29 Try.infoU _ _ _ _ (la + q + 1) rfl rfl (by omega) (by omega) (by omega) (by unfold maxLen; omega) ?_)
  intro w3 hrow hbel
  go_wp2
  go_loopw [21] (fun i wr => ∃ (k : Nat) (cur : List Int), k ≤ la ∧ i = .int .i64 k ∧ Row 38 .u64 wr w.heap.size cur ∧ Dbls xs (la + q + 1) q r k cur ∧ Below w.heap.size w wr) (fun i _ => la - (intOf i).toNat)
  case atStart => exact ⟨0, _, Nat.zero_le _, rfl, hrow, Dbls.zero _ _ _ _, hbel⟩
  case round =>
    obtain ⟨k, cur, hk, rfl, hrw, ha, hb⟩ := hrel
    by_cases hlt : k < la
    · have hx := h.lies.old hb
      obtain ⟨b, off, rfl, hblk, hc⟩ := hx.at (by omega)
      have hlen := ha.1
      have hcell := hc k (by omega)
      have hfr := hrw.frozen (q + k)
      have hcl := hrw.cell (q + k) (by omega)
      have hfr2 := hrw.frozen (q + k + 1)
      have hcl2 := hrw.cell (q + k + 1) (by omega)
      have gx := h.dg.getD B64_pos k
      have HS : Hid (Dbls _ _ _ _ _ _) := ha.step hr (by omega) gx
      have HR : Hid (Row _ _ _ _ _) := (hrw.set (q + k) (bits .or .u64 (cur.getD (q + k) 0) (IntKind.u64.wrap (xs.getD k 0 * 2 ^ r)))).set (q + k + 1) (xs.getD k 0 / 2 ^ (64 - r))
      have HB : Hid (Below w.heap.size w wr) := hb
      generalize xs.getD k 0 = x at *
      generalize cur.getD (q + k) 0 = y at *
      generalize cur.getD (q + k + 1) 0 = z at *
      have i0 : (0 : Int) ≤ (k : Int) := by omega
      have i1 : (k : Int) < (la : Int) := by omega
      have i2 : (q : Int) + k < (la + q + 1 : Nat) := by omega
      have hbne : b < w.heap.size := by
        obtain ⟨b', off', e, hlt', _⟩ := h.lies.at (by omega)
        injection e with e
        injection e with e
        omega
      clear hrw hrow hbel hb hx hc h ha hlen
      go_wp2
      go_region
      all_goals
        go_wp2
        go_roundw
        case rel => exact ⟨k + 1, _, by omega, by go_num, HR.out, HS.out, ((HB.out.setCell (Nat.le_refl _) _).setCell (Nat.le_refl _) _).drew⟩
        case measure => simp [intOf]; omega
    · obtain rfl : k = la := by omega
      have hlen := ha.1
      have HV : Hid _ := (by rw [← hl] at ha; exact ha.done (by omega) : val B64 cur = val B64 xs * 2 ^ (64 * q + r))
      have HR : Hid (NumIn _ _ _ _ _ _ _) := hrw.num ha.2.1 (by omega)
      have HB : Hid (Below w.heap.size w wr) := hb
      rw [hlen] at HR
      clear ha hb hrw hrow hbel hlen h
      go_wp2_with fail
      refine (trim_any _ _ _ _ _ HR.out.lies HR.out.lc HR.out.cm HR.out.nn).mono ?_
      rintro e w4 ⟨rfl, rfl⟩
      go_wp2
      go_ret
      exact ⟨_, rfl, HR.out.out HB.out _ HV.out _ (by omega)⟩

/-! ### halve -/
theorem getD_drop (xs : List Int) (q j : Nat) : (xs.drop q).getD j 0 = xs.getD (q + j) 0 := by simp [List.getD, List.getElem?_drop]
/-- What stands in the row when i limbs have been gone over. -/
def Hlvs (ds : List Int) (n r i : Nat) (cur : List Int) : Prop :=
  cur.length = n ∧ Dg B64 cur ∧ 2 ^ r * low B64 cur i + ds.getD 0 0 % 2 ^ r = low B64 ds i + B64 ^ i * (ds.getD i 0 % 2 ^ r)
theorem Hlvs.zero (ds : List Int) (n r : Nat) : Hlvs ds n r 0 (List.replicate n 0) :=
  ⟨by simp, Dg.zeros B64_pos _, by rw [low_zeros, low_zero]; simp⟩
theorem Hlvs.step {ds : List Int} {n r i : Nat} {cur : List Int} (h : Hlvs ds n r i cur) (hr : r < 64) (hn : i < n) (hx : 0 ≤ ds.getD i 0 ∧ ds.getD i 0 < 18446744073709551616) (hy : 0 ≤ ds.getD (i + 1) 0 ∧ ds.getD (i + 1) 0 < 18446744073709551616) :
    Hlvs ds n r (i + 1) (cur.set i (bits .or .u64 (ds.getD i 0 / 2 ^ r) (IntKind.u64.wrap (ds.getD (i + 1) 0 * 2 ^ (64 - r))))) := by
  obtain ⟨h1, h2, h3⟩ := h
  have hp : (0 : Int) < 2 ^ r := Int.pow_pos (by decide)
  have hs : (0 : Int) < 2 ^ (64 - r) := Int.pow_pos (by decide)
  have hps := pow64 r (by omega)
  obtain ⟨a1, a2, a3, a4, a5, a6⟩ := parts (ds.getD (i + 1) 0) (2 ^ (64 - r)) (2 ^ r) hs hp (by rw [Int.mul_comm]; exact hps) hy
  obtain ⟨_, b2, b3, b4, _, _⟩ := parts (ds.getD i 0) (2 ^ (64 - r)) (2 ^ r) hs hp (by rw [Int.mul_comm]; exact hps) hx
  obtain ⟨m, hm⟩ := Int.eq_ofNat_of_zero_le (Int.emod_nonneg (ds.getD (i + 1) 0) (show (2 : Int) ^ r ≠ 0 by omega))
  rw [IntKind.wrap_u64, a1, or_sum' (ds.getD i 0 / 2 ^ r) _ m (64 - r) (by rw [hm]) ⟨b2, b3⟩ a6]
  refine ⟨by simp [h1], h2.set _ ⟨by omega, by unfold B64; omega⟩, ?_⟩
  rw [low_set_succ _ _ _ _ (by omega), low_succ, Int.pow_succ]
  have c := Int.mul_ediv_add_emod (ds.getD i 0) (2 ^ r)
  generalize ds.getD i 0 / 2 ^ r = u at *
  generalize ds.getD i 0 % 2 ^ r = v at *
  generalize ds.getD (i + 1) 0 % 2 ^ r = y at *
  generalize ds.getD 0 0 % 2 ^ r = z at *
  generalize ds.getD i 0 = x at *
  generalize low B64 cur i = L at *
  generalize low B64 ds i = D at *
  have e : B64 = 18446744073709551616 := rfl
  rw [← e] at hps
  generalize (2 : Int) ^ r = p at *
  generalize (2 : Int) ^ (64 - r) = s at *
  generalize B64 ^ i = I at *
  generalize B64 = b at *
  have : p * (L + I * (u + y * s)) + z = (p * L + z) + I * (p * u) + I * (p * s) * y := by grind
  rw [this, h3, hps]
  have : p * u = x - v := by omega
  rw [this]
  grind
theorem Hlvs.done {ds : List Int} {r : Nat} {cur : List Int} (h : Hlvs ds ds.length r ds.length cur) : val B64 cur = val B64 ds / 2 ^ r := by
  obtain ⟨h1, h2, h3⟩ := h
  have hp : (0 : Int) < 2 ^ r := Int.pow_pos (by decide)
  have e0 : ds.getD ds.length 0 = 0 := by simp
  have e1 : low B64 cur ds.length = val B64 cur := by rw [← h1, low_len]
  rw [e0, low_len, e1, Int.zero_emod, Int.mul_zero, Int.add_zero] at h3
  have a := Int.emod_nonneg (ds.getD 0 0) (show (2 : Int) ^ r ≠ 0 by omega)
  have b := Int.emod_lt_of_pos (ds.getD 0 0) hp
  rw [← h3, Int.mul_comm, Int.add_comm, Int.add_mul_ediv_right _ _ (by omega), Int.ediv_eq_zero_of_lt a b]
  omega
theorem val_drop {B : Int} (hB : 0 < B) (xs : List Int) (hd : Dg B xs) (q : Nat) : val B (xs.drop q) = val B xs / B ^ q := by
  by_cases hq : q ≤ xs.length
  · have h := val_append B (xs.take q) (xs.drop q)
    rw [List.take_append_drop] at h
    have hl : (xs.take q).length = q := by simp; omega
    rw [hl] at h
    have a := val_nonneg hB (hd.take q)
    have b := val_lt hB (hd.take q)
    rw [hl] at b
    have hp : 0 < B ^ q := Int.pow_pos hB
    rw [h, Int.mul_comm, Int.add_mul_ediv_right _ _ (by omega), Int.ediv_eq_zero_of_lt a b]
    omega
  · rw [List.drop_eq_nil_of_le (by omega)]
    have a := val_nonneg hB hd
    have b := val_lt hB hd
    have c := pow_mono (B := B) (by omega) (show xs.length ≤ q by omega)
    rw [Int.ediv_eq_zero_of_lt a (by omega)]; rfl
theorem half_val (xs : List Int) (hd : Dg B64 xs) (q r : Nat) : val B64 (xs.drop q) / 2 ^ r = val B64 xs / 2 ^ (64 * q + r) := by
  have hp : (0 : Int) < B64 ^ q := Int.pow_pos B64_pos
  rw [val_drop B64_pos xs hd, Int.pow_add, Int.pow_mul]
  have e : B64 = 2 ^ 64 := rfl
  rw [e] at hp ⊢
  rw [Int.ediv_ediv_of_nonneg (by omega)]

set_option maxHeartbeats 2000000 in
set_option maxRecDepth 100000 in
/-- nat.halve. -/
theorem halve_any (ao : Option Addr) (la ca : Nat) (xs : List Int) (q r : Nat) (t : Int) (w : World) (h : NumIn .u64 B64 w ao la ca xs) (ht : t = 64 * q + r) (hr : r < 64) (htb : t < 4294967296) :
    Calls Try.prog 133 #[.slice ao la ca, .int .i64 t] w fun e w' => ∃ v, e = .returned v ∧ NumOut .u64 B64 w w' v (val B64 xs / 2 ^ (64 * q + r)) la := by
  have hl := h.len
  have hs := h.sm
  have ht0 : 0 ≤ t := by omega
  have hq : t / 64 = (q : Int) := by omega
  have hrr : t % 64 = (r : Int) := by omega
  have hqb : q < 67108864 := by omega
  clear ht
  have HV := half_val xs h.dg q r
  by_cases hge : la ≤ q
  · have HN : Hid (NumOut .u64 B64 w w (.slice none 0 0) (val B64 xs / 2 ^ (64 * q + r)) la) := by
      refine ⟨none, 0, 0, [], rfl, NumIn.nil, Canon.nil, ?_, Nat.zero_le _, Below.refl _ _⟩
      rw [← HV, List.drop_eq_nil_of_le (by omega)]
      simp [val]
    clear HV h
    go_enter Try.func133, Try.ntmps133
    go_wp2
    go_ret
    exact ⟨_, rfl, HN.out⟩
  · obtain ⟨n, hN⟩ : ∃ n : Nat, (la : Int) - q = n := ⟨la - q, by omega⟩
    have hn0 : 0 < n := by omega
    have hqn : q + n ≤ la := by omega
    have hqn' : la ≤ q + n := by omega
    have hql : q < la := by omega
    have HVH : Hid (val B64 (xs.drop q) / 2 ^ r = val B64 xs / 2 ^ (64 * q + r)) := HV
    clear HV hge
    go_enter Try.func133, Try.ntmps133
    go_wp2_with (at_make; refine wpList_make_row _ rfl _ _ 29 rfl 38 .u64 8 Try.underlying29 Try.infoU _ _ _ _ n rfl rfl (by omega) (by omega) (by omega) (by unfold maxLen; omega) ?_)
    intro w3 hrow hbel
    go_wp2
    go_loopw [24] (fun i wr => ∃ (k : Nat) (cur : List Int), k ≤ n ∧ i = .int .i64 k ∧ Row 38 .u64 wr w.heap.size cur ∧ Hlvs (xs.drop q) n r k cur ∧ Below w.heap.size w wr) (fun i _ => n - (intOf i).toNat)
    case atStart => exact ⟨0, _, Nat.zero_le _, rfl, hrow, Hlvs.zero _ _ _, hbel⟩
    case round =>
      obtain ⟨k, cur, hk, rfl, hrw, ha, hb⟩ := hrel
      by_cases hlt : k < n
      · have hx := h.lies.old hb
        have HL := fun w hw => limb_any ao la ca xs (((q + k : Nat) : Int) + 1) w hw (by unfold maxLen; omega) (by omega)
        have et : (((q + k : Nat) : Int) + 1).toNat = q + k + 1 := by omega
        rw [et] at HL
        have gx := h.dg.getD B64_pos (q + k)
        have gy := h.dg.getD B64_pos (q + k + 1)
        have HS : Hid (Hlvs _ _ _ _ _) := ha.step hr hlt (by rw [getD_drop]; exact gx) (by rw [getD_drop]; exact gy)
        rw [getD_drop, getD_drop, show q + (k + 1) = q + k + 1 by omega] at HS
        obtain ⟨b, off, rfl, hblk, hc⟩ := hx.at (by omega)
        have hlen := ha.1
        have hcell := hc (q + k) (by omega)
        have hfr := hrw.frozen k
        have hcl := hrw.cell k (by omega)
        have HR : Hid (Row _ _ _ _ _) := hrw.set k (bits .or .u64 (xs.getD (q + k) 0 / 2 ^ r) (IntKind.u64.wrap (xs.getD (q + k + 1) 0 * 2 ^ (64 - r))))
        have HB : Hid (Below w.heap.size w wr) := hb
        generalize xs.getD (q + k) 0 = x at *
        generalize xs.getD (q + k + 1) 0 = y at *
        have HLX : Lies .u64 wr.drew (some ⟨b, off, none⟩) la xs := hx
        have i0 : (0 : Int) ≤ (k : Int) := by omega
        have i1 : (k : Int) < (n : Int) := by omega
        have hbne : b < w.heap.size := by
          obtain ⟨b', off', e, hlt', _⟩ := h.lies.at (by omega)
          injection e with e
          injection e with e
          omega
        have HBB : Hid (some b ≠ some w.heap.size) := by unfold Hid; simp; omega
        have hw2 : IntKind.i64.wrap (((q + k : Nat) : Int) + 1) = ((q + k : Nat) : Int) + 1 := IntWalk.i64_in _ (by omega)
        have hw1 : IntKind.i64.wrap ((q : Int) + (k : Int)) = ((q + k : Nat) : Int) := by rw [IntWalk.i64_in _ (by omega)]; omega
        have hw3 : IntKind.i64.wrap (64 - (r : Int)) = ((64 - r : Nat) : Int) := by rw [IntWalk.i64_in _ (by omega)]; omega
        have i3 : ((q + k : Nat) : Int) < (la : Int) := by omega
        have HQK : q + k < la := by omega
        clear hrw hrow hbel hb hx hc h ha hlen et hq hrr HVH
        generalize q + k = p at *
        have HLT : Hid (k < n) := hlt
        have hkb : k < 1073741824 := by omega
        go_wp2
        clear hN hqn hqn' hql hlt hl
        go_region_held3 (fun w' => w'.cell? ⟨b, off + p, none⟩ = some (.int .u64 x)) (first | exact hcell | exact (grown_set wr _ _ _).cell hcell HBB.out) (first | (go_at_call 74; refine (HL wr.drew HLX).mono ?_; rintro e w2 ⟨rfl, rfl⟩))
        all_goals
          go_wp2
          go_roundw
          case rel => exact ⟨k + 1, _, by have := HLT.out; omega, by go_num, HR.out, HS.out, (HB.out.setCell (Nat.le_refl _) _).drew⟩
          case measure => have := HLT.out; simp [intOf]; omega
      · obtain rfl : k = n := by omega
        have hlen := ha.1
        have HV : Hid (val B64 cur = val B64 xs / 2 ^ (64 * q + r)) := by
          have e : (xs.drop q).length = k := by simp; omega
          rw [← e] at ha
          unfold Hid
          rw [ha.done]
          exact HVH.out
        have HR : Hid (NumIn _ _ _ _ _ _ _) := hrw.num ha.2.1 (by omega)
        have HB : Hid (Below w.heap.size w wr) := hb
        rw [hlen] at HR
        clear ha hb hrw hrow hbel hlen h HVH
        go_wp2_with fail
        refine (trim_any _ _ _ _ _ HR.out.lies HR.out.lc HR.out.cm HR.out.nn).mono ?_
        rintro e w4 ⟨rfl, rfl⟩
        go_wp2
        go_ret
        exact ⟨_, rfl, HR.out.out HB.out _ HV.out _ (by omega)⟩

set_option maxHeartbeats 2000000 in
/-- nat.Shift: divided. -/
theorem Shift_down (ao : Option Addr) (la ca : Nat) (xs : List Int) (t : Nat) (w : World) (h : NumIn .u64 B64 w ao la ca xs) (htb : t < 2147483648) :
    Calls Try.prog 128 #[.slice ao la ca, .int .i64 t] w fun e w' => ∃ v, e = .returned v ∧ NumOut .u64 B64 w w' v (val B64 xs / 2 ^ t) la := by
  have hl := h.len
  have htop := top_le xs
  have HT := trim_any ao la ca xs w h.lies h.lc h.cm h.nn
  have h2 := h.take (top xs) (by omega)
  have HH := halve_any ao (top xs) ca (xs.take (top xs)) (t / 64) (t % 64) (t : Int) w h2 (by omega) (by omega) (by omega)
  rw [val_take_top, show 64 * (t / 64) + t % 64 = t by omega] at HH
  have hle : top xs ≤ la := by omega
  generalize top xs = n at *
  have HLE : Hid (n ≤ la) := hle
  clear h h2 hl htop hle
  go_enter Try.func128, Try.ntmps128
  go_wp2_with fail
  refine HT.mono ?_
  rintro e w1 ⟨rfl, rfl⟩
  go_wp2_with fail
  refine HH.mono ?_
  rintro e w2 ⟨v, rfl, ao', len', cap', xs', rfl, a, b, c, d, e⟩
  go_wp2
  go_ret
  exact ⟨_, rfl, ao', len', cap', xs', rfl, a, b, c, Nat.le_trans d HLE.out, e⟩
set_option maxHeartbeats 2000000 in
/-- nat.Shift: multiplied. -/
theorem Shift_up (ao : Option Addr) (la ca : Nat) (xs : List Int) (t : Nat) (w : World) (h : NumIn .u64 B64 w ao la ca xs) (ht0 : 0 < t) (htb : t ≤ 4096) (hlb : la < 1073741000) :
    Calls Try.prog 128 #[.slice ao la ca, .int .i64 (-(t : Int))] w fun e w' => ∃ v, e = .returned v ∧ NumOut .u64 B64 w w' v (val B64 xs * 2 ^ t) (la + t / 64 + 1) := by
  have hl := h.len
  have htop := top_le xs
  have HT := trim_any ao la ca xs w h.lies h.lc h.cm h.nn
  have h2 := h.take (top xs) (by omega)
  have HH := double_any ao (top xs) ca (xs.take (top xs)) (t / 64) (t % 64) (t : Int) w h2 (by omega) (by omega) (by omega)
  rw [val_take_top, show 64 * (t / 64) + t % 64 = t by omega] at HH
  have hle : top xs ≤ la := by omega
  generalize top xs = n at *
  have HLE : Hid (n ≤ la) := hle
  clear h h2 hl htop hle
  go_enter Try.func128, Try.ntmps128
  go_wp2_with fail
  refine HT.mono ?_
  rintro e w1 ⟨rfl, rfl⟩
  go_wp2_with fail
  refine HH.mono ?_
  rintro e w2 ⟨v, rfl, ao', len', cap', xs', rfl, a, b, c, d, e⟩
  go_wp2
  go_ret
  exact ⟨_, rfl, ao', len', cap', xs', rfl, a, b, c, Nat.le_trans d (by have := HLE.out; omega), e⟩
end Go.Proofs.Yticopomchoahnaa
/-
  Contracts of nat.Read and Bytes.
-/
namespace Go.Proofs.Yticopomchoahnaa
open Go.RowKit
set_option linter.unusedVariables false
set_option linter.unusedSimpArgs false
attribute [local go_sem ↓] Go.wp_at_zero Go.wp_at_succ

theorem val_set (B : Int) : ∀ (xs : List Int) (j : Nat) (y : Int), j < xs.length → val B (xs.set j y) = val B xs + B ^ j * (y - xs.getD j 0)
  | [], j, y, h => by simp at h
  | x :: xs, 0, y, _ => by simp [val]; omega
  | x :: xs, j + 1, y, h => by
    simp only [List.set_cons_succ, val, val_set B xs j y (by simpa using h), List.getD_cons_succ, Int.pow_succ]
    grind
theorem getD_reverse (xs : List Int) (k : Nat) (h : k < xs.length) : xs.reverse.getD k 0 = xs.getD (xs.length - 1 - k) 0 := by
  simp only [List.getD]
  rw [List.getElem?_reverse h]
theorem pow256 (k : Nat) : (256 : Int) ^ k = B64 ^ (k / 8) * 256 ^ (k % 8) := by
  have e : B64 = 256 ^ 8 := rfl
  rw [e, ← Int.pow_mul, ← Int.pow_add]
  congr 1
  omega
theorem pow2_8 (r : Nat) : (2 : Int) ^ (8 * r) = 256 ^ r := by
  rw [Int.pow_mul]; rfl
theorem pow256_le (r : Nat) (h : r < 8) : (256 : Int) ^ r * 256 ≤ 18446744073709551616 := by
  have := pow_mono (B := 256) (by decide) (show r + 1 ≤ 8 by omega)
  rw [Int.pow_succ] at this
  exact this

/-- What stands in the row when k bytes have been gone over. -/
def Reads (rb : List Int) (n k : Nat) (cur : List Int) : Prop :=
  cur.length = n ∧ Dg B64 cur ∧ (∀ j, k / 8 < j → cur.getD j 0 = 0) ∧ cur.getD (k / 8) 0 < 256 ^ (k % 8) ∧ val B64 cur = low 256 rb k
theorem Reads.zero (rb : List Int) (n : Nat) : Reads rb n 0 (List.replicate n 0) :=
  ⟨by simp, Dg.zeros B64_pos _, fun j _ => getD_zeros _ j, by rw [getD_zeros]; decide, by rw [val_replicate, low_zero]⟩
theorem Reads.step {rb : List Int} {n k : Nat} {cur : List Int} (h : Reads rb n k cur) (hn : k / 8 < n) (hd : 0 ≤ rb.getD k 0 ∧ rb.getD k 0 < 256) :
    Reads rb n (k + 1) (cur.set (k / 8) (bits .or .u64 (cur.getD (k / 8) 0) (IntKind.u64.wrap (rb.getD k 0 * 2 ^ (8 * (k % 8)))))) := by
  obtain ⟨h1, h2, h3, h4, h5⟩ := h
  have hp : (0 : Int) < 256 ^ (k % 8) := Int.pow_pos (by decide)
  have hle := pow256_le (k % 8) (by omega)
  have hy := h2.getD B64_pos (k / 8)
  obtain ⟨m, hm⟩ := Int.eq_ofNat_of_zero_le hd.1
  have hmul : rb.getD k 0 * 256 ^ (k % 8) + 256 ^ (k % 8) ≤ 18446744073709551616 := by
    have : (rb.getD k 0 + 1) * 256 ^ (k % 8) ≤ 256 * 256 ^ (k % 8) := Int.mul_le_mul_of_nonneg_right (by omega) (by omega)
    rw [Int.add_mul, Int.one_mul] at this
    omega
  have hnn : 0 ≤ rb.getD k 0 * 256 ^ (k % 8) := Int.mul_nonneg hd.1 (by omega)
  rw [IntKind.wrap_u64, pow2_8, Int.emod_eq_of_lt hnn (by omega)]
  rw [or_sum' (cur.getD (k / 8) 0) _ m (8 * (k % 8)) (by rw [pow2_8, hm]) ⟨hy.1, by rw [pow2_8]; exact h4⟩ (by rw [pow2_8]; exact hmul)]
  refine ⟨by simp [h1], h2.set _ ⟨by omega, by unfold B64; omega⟩, fun j hj => ?_, ?_, ?_⟩
  · rw [getD_set _ _ _ _ (by omega), if_neg (by omega)]
    exact h3 j (by omega)
  · rw [getD_set _ _ _ _ (by omega)]
    by_cases h7 : k % 8 = 7
    · rw [if_neg (by omega), h3 _ (by omega), show (k + 1) % 8 = 0 by omega]; decide
    · rw [if_pos (by omega), show (k + 1) % 8 = k % 8 + 1 by omega, Int.pow_succ]
      have : (rb.getD k 0 + 1) * 256 ^ (k % 8) ≤ 256 * 256 ^ (k % 8) := Int.mul_le_mul_of_nonneg_right (by omega) (by omega)
      rw [Int.add_mul, Int.one_mul] at this
      omega
  · rw [val_set _ _ _ _ (by omega), low_succ, pow256 k, h5]
    generalize rb.getD k 0 = d at *
    generalize cur.getD (k / 8) 0 = c at *
    generalize B64 ^ (k / 8) = p at *
    generalize (256 : Int) ^ (k % 8) = q at *
    grind

set_option maxHeartbeats 2000000 in
/-- nat.Read: at most 512 bytes. -/
theorem Read_yes (ao : Option Addr) (n ca : Nat) (bs : List Int) (w : World) (h : NumIn .u8 256 w ao n ca bs) (hn : n ≤ 512) :
    Calls Try.prog 72 #[.slice ao n ca] w fun e w' => ∃ v, e = .returned (.tuple #[v, .int .i64 0]) ∧ NumOut .u64 B64 w w' v (val 256 bs.reverse) 64 := by
  have hl := h.len
  go_enter Try.func72, Try.ntmps72
  go_wp2_with (at_make; refine wpList_make_row _ rfl _ _ 29 rfl 38 .u64 8 Try.underlying29 Try.infoU _ _ _ _ ((n + 7) / 8) rfl rfl (by omega) (by omega) (by omega) (by unfold maxLen; omega) ?_)
  intro w3 hrow hbel
  go_wp2
  go_loopw [18] (fun i wr => ∃ (k : Nat) (cur : List Int), k ≤ n ∧ i = .int .i64 k ∧ Row 38 .u64 wr w.heap.size cur ∧ Reads bs.reverse ((n + 7) / 8) k cur ∧ Below w.heap.size w wr) (fun i _ => n - (intOf i).toNat)
  case atStart => exact ⟨0, _, Nat.zero_le _, rfl, hrow, Reads.zero _ _, hbel⟩
  case round =>
    obtain ⟨k, cur, hk, rfl, hrw, ha, hb⟩ := hrel
    by_cases hlt : k < n
    · have hx := h.lies.old hb
      obtain ⟨b, off, rfl, hblk, hc⟩ := hx.at (by omega)
      have hlen := ha.1
      have hcell := hc (n - 1 - k) (by omega)
      have hfr := hrw.frozen (k / 8)
      have hcl := hrw.cell (k / 8) (by omega)
      have gx := h.dg.getD (by decide) (n - 1 - k)
      have er := getD_reverse bs k (by omega)
      rw [hl] at er
      have HS : Hid (Reads _ _ _ _) := ha.step (by omega) (by rw [er]; exact gx)
      rw [er] at HS
      have HR : Hid (Row _ _ _ _ _) := hrw.set (k / 8) (bits .or .u64 (cur.getD (k / 8) 0) (IntKind.u64.wrap (bs.getD (n - 1 - k) 0 * 2 ^ (8 * (k % 8)))))
      have HB : Hid (Below w.heap.size w wr) := hb
      generalize bs.getD (n - 1 - k) 0 = x at *
      generalize cur.getD (k / 8) 0 = y at *
      clear hrw hrow hbel hb hx hc h ha hlen er
      go_wp2
      go_region
      all_goals
        go_wp2
        go_roundw
        case rel => exact ⟨k + 1, _, by omega, by go_num, HR.out, HS.out, (HB.out.setCell (Nat.le_refl _) _).drew⟩
        case measure => simp [intOf]; omega
    · obtain rfl : k = n := by omega
      have hlen := ha.1
      have HV : Hid (val B64 cur = val 256 bs.reverse) := by
        unfold Hid
        rw [ha.2.2.2.2]
        have e : bs.reverse.length = k := by simp [hl]
        rw [← e, low_len]
      have HR : Hid (NumIn _ _ _ _ _ _ _) := hrw.num ha.2.1 (by omega)
      have HB : Hid (Below w.heap.size w wr) := hb
      rw [hlen] at HR
      clear ha hb hrw hrow hbel hlen h
      go_wp2_with fail
      refine (trim_any _ _ _ _ _ HR.out.lies HR.out.lc HR.out.cm HR.out.nn).mono ?_
      rintro e w4 ⟨rfl, rfl⟩
      go_wp2
      go_ret2
      exact ⟨_, rfl, HR.out.out HB.out _ HV.out _ (by omega)⟩

set_option maxHeartbeats 400000 in
/-- nat.Read: more bytes. -/
theorem Read_no (ao : Option Addr) (n ca : Nat) (w : World) (hn : 512 < n) (hm : n ≤ maxLen) :
    Calls Try.prog 72 #[.slice ao n ca] w fun e w' => e = .returned (.tuple #[.slice none 0 0, .int .i64 3]) ∧ w' = w := by
  go_enter Try.func72, Try.ntmps72
  go_wp2
  go_ret2
  exact ⟨rfl, rfl⟩

/-! ### Bits and bytes of a number's value -/
theorem digit_at {B : Int} (hB : 0 < B) (xs : List Int) (hd : Dg B xs) (j : Nat) : xs.getD j 0 = val B xs / B ^ j % B := by
  rw [← val_drop hB xs hd j]
  have e : xs.getD j 0 = (xs.drop j).getD 0 0 := by rw [getD_drop]; rfl
  rw [e]
  have hdd := hd.drop j
  cases h : xs.drop j with
  | nil => simp [val]
  | cons d ds =>
    rw [h] at hdd
    simp only [val, List.getD_cons_zero, Int.add_mul_emod_self_left]
    exact (Int.emod_eq_of_lt hdd.head.1 hdd.head.2).symm
/-- The byte of that place. -/
def byteAt (V : Int) (p : Nat) : Int := V / 256 ^ p % 256
theorem byte_of_limb (xs : List Int) (hd : Dg B64 xs) (p : Nat) : xs.getD (p / 8) 0 / 256 ^ (p % 8) % 256 = byteAt (val B64 xs) p := by
  unfold byteAt
  rw [digit_at B64_pos xs hd (p / 8), pow256 p]
  have hp : (0 : Int) < B64 ^ (p / 8) := Int.pow_pos B64_pos
  have hq : (0 : Int) < 256 ^ (p % 8) := Int.pow_pos (by decide)
  rw [← Int.ediv_ediv_of_nonneg (by omega)]
  generalize val B64 xs / B64 ^ (p / 8) = Y
  have e : B64 = 256 ^ (p % 8) * (256 * 256 ^ (7 - p % 8)) := by
    rw [Int.mul_comm 256, ← Int.pow_succ, ← Int.pow_add, show p % 8 + (7 - p % 8 + 1) = 8 by omega]; rfl
  rw [e]
  generalize (256 : Int) ^ (p % 8) = q at *
  generalize (256 : Int) ^ (7 - p % 8) = s at *
  rw [Int.emod_def Y, show Y - q * (256 * s) * (Y / (q * (256 * s))) = Y + q * (-(256 * s * (Y / (q * (256 * s))))) by grind]
  rw [Int.add_mul_ediv_left _ _ (by omega)]
  rw [show Y / q + -(256 * s * (Y / (q * (256 * s)))) = Y / q + 256 * (-(s * (Y / (q * (256 * s))))) by grind, Int.add_mul_emod_self_left]
theorem low_bytes (V : Int) (rb : List Int) : ∀ (k : Nat), (∀ p, p < k → rb.getD p 0 = byteAt V p) → low 256 rb k = V % 256 ^ k
  | 0, _ => by simp [low_zero, Int.emod_one]
  | k + 1, h => by
    have hp : (0 : Int) < 256 ^ k := Int.pow_pos (by decide)
    rw [low_succ, low_bytes V rb k (fun p hp => h p (by omega)), h k (by omega)]
    unfold byteAt
    rw [Int.pow_succ]
    have e1 := Int.mul_ediv_add_emod V (256 ^ k)
    have e2 := Int.mul_ediv_add_emod (V / 256 ^ k) 256
    have a1 := Int.emod_nonneg V (show (256 : Int) ^ k ≠ 0 by omega)
    have a2 := Int.emod_lt_of_pos V hp
    have b1 := Int.emod_nonneg (V / 256 ^ k) (show (256 : Int) ≠ 0 by decide)
    have b2 := Int.emod_lt_of_pos (V / 256 ^ k) (show (0 : Int) < 256 by decide)
    have e3 : V = V % 256 ^ k + 256 ^ k * (V / 256 ^ k % 256) + 256 ^ k * 256 * (V / 256 ^ k / 256) := by
      conv => lhs; rw [← e1, ← e2]
      grind
    conv => rhs; rw [e3]
    rw [Int.add_mul_emod_self_left]
    refine (Int.emod_eq_of_lt ?_ ?_).symm
    · have := Int.mul_nonneg (show (0 : Int) ≤ 256 ^ k by omega) b1
      omega
    · have : 256 ^ k * (V / 256 ^ k % 256) ≤ 256 ^ k * 255 := Int.mul_le_mul_of_nonneg_left (by omega) (by omega)
      omega
theorem lenOf_eq (xs : List Int) (hd : Dg B64 xs) : lenOf xs = blen (val B64 xs).toNat := by
  unfold lenOf
  by_cases h : top xs = 0
  · rw [if_pos h, ← val_take_top, h]
    simp [val, blen]
  · rw [if_neg h]
    obtain ⟨m, hm⟩ : ∃ m, top xs = m + 1 := ⟨top xs - 1, by omega⟩
    have ht := top_hit xs (by omega)
    have hg := hd.getD B64_pos (top xs - 1)
    rw [hm] at ht hg ⊢
    simp only [Nat.add_sub_cancel] at ht hg ⊢
    have hv : val B64 xs = low B64 xs m + B64 ^ m * xs.getD m 0 := by rw [← low_succ, ← hm, low_all _ _ _ (Nat.le_refl _)]
    have l0 : 0 ≤ low B64 xs m := val_nonneg B64_pos (hd.take m)
    have l1 : low B64 xs m < B64 ^ m := by
      have a := val_lt B64_pos (hd.take m)
      have b : (xs.take m).length ≤ m := by simp; omega
      have c := pow_mono (B := B64) (by decide) b
      unfold low; omega
    generalize xs.getD m 0 = d at *
    generalize low B64 xs m = L at *
    obtain ⟨e, he⟩ := Int.eq_ofNat_of_zero_le hg.1
    subst he
    have hne : e ≠ 0 := by intro h0; rw [h0] at ht; exact ht rfl
    have b1 := blen_lt e
    have b2 := blen_ge e hne
    have b3 := blen_pos e hne
    have hB : B64 ^ m = ((2 ^ (64 * m) : Nat) : Int) := by
      rw [Int.natCast_pow, Int.pow_mul]; rfl
    rw [hB] at hv l1
    obtain ⟨L, rfl⟩ := Int.eq_ofNat_of_zero_le l0
    have hn : (val B64 xs).toNat = L + 2 ^ (64 * m) * e := by
      rw [hv, ← Int.natCast_mul, ← Int.natCast_add, Int.toNat_natCast]
    have hL : L < 2 ^ (64 * m) := by omega
    have hp := Nat.two_pow_pos (64 * m)
    obtain ⟨c, hc⟩ : ∃ c, blen e = c + 1 := ⟨blen e - 1, by omega⟩
    rw [hc] at b1 b2
    simp only [Nat.add_sub_cancel] at b2
    have := blen_eq (val B64 xs).toNat (64 * m + c) (by
      rw [hn, Nat.pow_add]
      have := Nat.mul_le_mul_left (2 ^ (64 * m)) b2
      omega) (by
      rw [hn, show 64 * m + c + 1 = 64 * m + (c + 1) by omega, Nat.pow_add]
      have := Nat.mul_le_mul_left (2 ^ (64 * m)) (show e + 1 ≤ 2 ^ (c + 1) by omega)
      rw [Nat.mul_add] at this
      omega)
    rw [Int.toNat_natCast, hc, this]
    omega
theorem lt_of_blen (V : Int) (h0 : 0 ≤ V) (n : Nat) (h : blen V.toNat ≤ 8 * n) : V < 256 ^ n := by
  have a := blen_lt V.toNat
  have b : 2 ^ blen V.toNat ≤ 2 ^ (8 * n) := Nat.pow_le_pow_right (by decide) h
  have e : ((2 ^ (8 * n) : Nat) : Int) = 256 ^ n := by rw [Int.natCast_pow, Int.pow_mul]; rfl
  rw [← e]
  omega

set_option maxHeartbeats 1000000 in
/-- nat.Bytes: too many. -/
theorem Bytes_no (ao : Option Addr) (la ca : Nat) (xs : List Int) (size : Int) (w : World) (h : NumIn .u64 B64 w ao la ca xs) (hno : size < 0 ∨ 512 < size ∨ 8 * size < lenOf xs) :
    Calls Try.prog 49 #[.slice ao la ca, .int .i64 size] w fun e w' => e = .returned (.tuple #[.slice none 0 0, .bool false]) ∧ w' = w := by
  have HL := Len_any ao la ca xs w h
  by_cases h1 : size < 0
  · go_enter Try.func49, Try.ntmps49
    go_wp2
    go_ret2
    exact ⟨rfl, rfl⟩
  by_cases h2 : 512 < size
  · go_enter Try.func49, Try.ntmps49
    go_wp2
    go_ret2
    exact ⟨rfl, rfl⟩
  · have h3 : 8 * size < (lenOf xs : Int) := by omega
    have h1' : 0 ≤ size := by omega
    have h2' : size ≤ 512 := by omega
    clear hno h1 h2
    generalize lenOf xs = L at *
    go_enter Try.func49, Try.ntmps49
    go_wp2_with (go_at_call 73; refine HL.mono ?_; rintro e w' ⟨rfl, rfl⟩)
    go_ret2
    exact ⟨rfl, rfl⟩

/-- What stands in the row when k bytes have been written, the least last. -/
def Wrts (V : Int) (n k : Nat) (cur : List Int) : Prop :=
  cur.length = n ∧ Dg 256 cur ∧ ∀ p, p < k → cur.getD (n - 1 - p) 0 = byteAt V p
theorem byteAt_range (V : Int) (p : Nat) : 0 ≤ byteAt V p ∧ byteAt V p < 256 := by unfold byteAt; omega
theorem Wrts.zero (V : Int) (n : Nat) : Wrts V n 0 (List.replicate n 0) :=
  ⟨by simp, Dg.zeros (by decide) _, fun p h => by omega⟩
theorem Wrts.step {V : Int} {n k : Nat} {cur : List Int} (h : Wrts V n k cur) (hk : k < n) : Wrts V n (k + 1) (cur.set (n - 1 - k) (byteAt V k)) := by
  obtain ⟨h1, h2, h3⟩ := h
  refine ⟨by simp [h1], h2.set _ (byteAt_range V k), fun p hp => ?_⟩
  rw [getD_set _ _ _ _ (by omega)]
  by_cases e : p = k
  · rw [e, if_pos rfl]
  · rw [if_neg (by omega)]; exact h3 p (by omega)
theorem Wrts.done {V : Int} {n : Nat} {cur : List Int} (h : Wrts V n n cur) (h0 : 0 ≤ V) (hv : V < 256 ^ n) : val 256 cur.reverse = V := by
  obtain ⟨h1, h2, h3⟩ := h
  have e : cur.reverse.length = n := by simp [h1]
  rw [← low_len, e, low_bytes V cur.reverse n (fun p hp => by rw [getD_reverse _ _ (by omega), h1]; exact h3 p hp)]
  exact Int.emod_eq_of_lt h0 hv

/-- An answer of bytes. -/
def BytesOut (w w' : World) (v : Value) (n : Nat) (V : Int) : Prop :=
  ∃ g bs, v = .slice (some ⟨g, 0, none⟩) n n ∧ Row 5 .u8 w' g bs ∧ bs.length = n ∧ Dg 256 bs ∧ val 256 bs.reverse = V ∧ Below w.heap.size w w'

set_option maxHeartbeats 2000000 in
/-- nat.Bytes. -/
theorem Bytes_yes (ao : Option Addr) (la ca : Nat) (xs : List Int) (n : Nat) (w : World) (h : NumIn .u64 B64 w ao la ca xs) (hn : n ≤ 512) (hlen : lenOf xs ≤ 8 * n) :
    Calls Try.prog 49 #[.slice ao la ca, .int .i64 n] w fun e w' => ∃ v, e = .returned (.tuple #[v, .bool true]) ∧ BytesOut w w' v n (val B64 xs) := by
  have hl := h.len
  have hs := h.sm
  have hV0 := val_nonneg B64_pos h.dg
  have hV := lt_of_blen (val B64 xs) hV0 n (by rw [← lenOf_eq xs h.dg]; exact hlen)
  have HL := Len_any ao la ca xs w h
  have HV : Hid (0 ≤ val B64 xs ∧ val B64 xs < 256 ^ n) := ⟨hV0, hV⟩
  have hlen' : (lenOf xs : Int) ≤ 8 * (n : Int) := by omega
  clear hV0 hV
  generalize lenOf xs = L at *
  go_enter Try.func49, Try.ntmps49
  go_wp2_with (first | (go_at_call 73; refine HL.mono ?_; rintro e w' ⟨rfl, rfl⟩) | (at_make; refine wpList_make_row _ rfl _ _ 39 rfl 5 .u8 1 Try.underlying39 Try.infoB _ _ _ _ n rfl rfl rfl rfl (by omega) (by unfold maxLen; omega) ?_))
  intro w3 hrow hbel
  clear hlen' hlen
  go_wp2
  go_loopw [25] (fun i wr => ∃ (k : Nat) (cur : List Int), k ≤ n ∧ i = .int .i64 k ∧ Row 5 .u8 wr w'.heap.size cur ∧ Wrts (val B64 xs) n k cur ∧ Below w'.heap.size w' wr) (fun i _ => n - (intOf i).toNat)
  case atStart => exact ⟨0, _, Nat.zero_le _, rfl, hrow, Wrts.zero _ _, hbel⟩
  case round =>
    obtain ⟨k, cur, hk, rfl, hrw, ha, hb⟩ := hrel
    by_cases hlt : k < n
    · have hx := h.lies.old hb
      have HLM := fun w hw => limb_any ao la ca xs ((k : Int) / 8) w hw (by unfold maxLen; omega) (by omega)
      rw [show ((k : Int) / 8).toNat = k / 8 by omega] at HLM
      have hln := ha.1
      have hfr := hrw.frozen (n - 1 - k)
      have hcl := hrw.cell (n - 1 - k) (by omega)
      have gx := h.dg.getD B64_pos (k / 8)
      have eb := byte_of_limb xs h.dg k
      have HS : Hid (Wrts _ _ _ _) := ha.step hlt
      have HR : Hid (Row _ _ _ _ _) := hrw.set (n - 1 - k) (byteAt (val B64 xs) k)
      rw [← eb, ← pow2_8] at HS HR
      have HB : Hid (Below w'.heap.size w' wr) := hb
      generalize xs.getD (k / 8) 0 = x at *
      generalize cur.getD (n - 1 - k) 0 = y at *
      clear hrw hrow hbel hb h ha hln HL HV eb
      go_wp2_with fail
      refine (HLM _ hx).mono ?_
      rintro e w2 ⟨rfl, rfl⟩
      go_wp2
      go_roundw
      case rel => exact ⟨k + 1, _, by omega, by go_num, HR.out, HS.out, HB.out.setCell (Nat.le_refl _) _⟩
      case measure => simp [intOf]; omega
    · obtain rfl : k = n := by omega
      have HF : Hid (BytesOut w' wr (.slice (some ⟨w'.heap.size, 0, none⟩) k k) k (val B64 xs)) := ⟨_, cur, rfl, hrw, ha.1, ha.2.1, ha.done HV.out.1 HV.out.2, hb⟩
      clear hrw ha hb hrow hbel h HL HV
      go_wp2
      go_ret2
      exact ⟨_, rfl, HF.out⟩
end Go.Proofs.Yticopomchoahnaa
/-
  The code's Int.
-/
namespace Go.Proofs.Yticopomchoahnaa
open Go.Shelf Go.RowKit
set_option linter.unusedVariables false
set_option linter.unusedSimpArgs false

/-- Bytes as numbers. -/
def intsB (l : Bs) : List Int := l.map fun b => (b.toNat : Int)
theorem intsB_len (l : Bs) : (intsB l).length = l.length := by simp [intsB]
theorem intsB_dg (l : Bs) : Dg 256 (intsB l) := by
  intro x hx
  simp only [intsB, List.mem_map] at hx
  obtain ⟨b, _, rfl⟩ := hx
  have := b.toNat_lt
  omega
theorem intsB_get (l : Bs) (i : Nat) (hi : i < l.length) : (intsB l).getD i 0 = ((l.getD i 0).toNat : Int) := by simp [intsB, List.getD, hi]
/-- Bytes that are there, as a number's digits. -/
theorem numIn_bat {w : World} {p : Option Addr} {n c : Nat} {l : Bs} (h : BAt w p n l) (hl : l.length = n) (h0 : 0 < n) (hc : n ≤ c) (hc2 : c ≤ 9223372036854775807) (hn : n ≤ 1000000) : NumIn .u8 256 w p n c (intsB l) := by
  obtain ⟨b, o, rfl, hcl⟩ := h h0
  refine ⟨⟨(by rw [intsB_len, hl]), .inr ⟨b, o, rfl, ?_, fun i hi => (by rw [hcl i hi, intsB_get l i (by omega)])⟩⟩, hc, (by unfold maxLen; omega), (fun e => by cases e), intsB_dg l, (by omega)⟩
  exact World.block_lt_of_cell? w ⟨b, o + 0, none⟩ (hcl 0 h0)
/-- A number's digits as they stand. -/
def intL : Bs → Option Bs
  | [] => none
  | a :: xs => if 128 ≤ a.toNat then none else if a.toNat = 0 ∧ 0 < xs.length then (if (xs.getD 0 0).toNat < 128 then none else some xs) else some (a :: xs)
theorem intL_cons (a : UInt8) (xs : Bs) : intL (a :: xs) = if 128 ≤ a.toNat then none else if a.toNat = 0 ∧ 0 < xs.length then (if (xs.getD 0 0).toNat < 128 then none else some xs) else some (a :: xs) := rfl
/-- What Int answers. -/
def IntPost (w : World) (t : Nat) (b : Bs) (e : Ending) (w' : World) : Prop :=
  Below w.heap.size w w' ∧ (((t ≠ 2 ∨ intL b = none) ∧ e = .returned (.tuple #[.slice none 0 0, .int .i64 30])) ∨
    ∃ l, t = 2 ∧ intL b = some l ∧ ((512 < l.length ∧ e = .returned (.tuple #[.slice none 0 0, .int .i64 3])) ∨ (l.length ≤ 512 ∧ ∃ v, e = .returned (.tuple #[v, .int .i64 0]) ∧ NumOut .u64 B64 w w' v (val 256 (intsB l).reverse) 64)))
theorem NumOut.later {w w1 w' : World} {v : Value} {n : Int} {L : Nat} (hb : Below w.heap.size w w1) (h : NumOut .u64 B64 w1 w' v n L) : NumOut .u64 B64 w w' v n L := by
  obtain ⟨ao, len, cap, xs, e, h1, h2, h3, h4, h5⟩ := h
  exact ⟨ao, len, cap, xs, e, h1, h2, h3, h4, hb.trans (h5.mono hb.size)⟩
set_option maxRecDepth 100000 in
set_option maxHeartbeats 4000000 in
/-- Int. -/
theorem derInt (t : Nat) (ht : t < 256) (p : Option Addr) (n c : Nat) (l : Bs) (P : Nat → Prop) (w : World) (hl : l.length = n) (h : ByV w P p c l) (hn : n ≤ 1000000) :
    Calls Try.prog 41 #[.agg #[.int .u8 (t : Int), .slice p n c]] w (IntPost w t l) := by
  have hcap := h.cap
  have hbig := h.big
  rw [hl] at hcap
  obtain ⟨W1, hW1⟩ : ∃ W1, w.alloc (.cells #[.int .u8 (t : Int), .slice p n c] 103) = W1 := ⟨_, rfl⟩
  have b1 : Below w.heap.size w W1 := by rw [← hW1]; exact (Below.refl _ _).alloc (Nat.le_refl _) _
  have s1 : Tl W1 w.heap.size (.int .u8 (t : Int)) (.slice p n c) := by rw [← hW1]; exact Tl.new w _ _
  obtain ⟨g0, g1, g2, g3⟩ := s1.facts
  have HB : Hid (Below w.heap.size w W1) := b1
  have HBAD : Hid (t ≠ 2 ∨ intL l = none → IntPost w t l (.returned (.tuple #[.slice none 0 0, .int .i64 30])) W1) := fun hh => ⟨b1, .inl ⟨hh, rfl⟩⟩
  have HRD : Hid (∀ (q : Option Addr) (m d : Nat) (l' : Bs), t = 2 → intL l = some l' → l'.length = m → 0 < m → m ≤ d → d ≤ 9223372036854775807 → m ≤ 1000000 → BAt W1 q m l' → Calls Try.prog 72 #[.slice q m d] W1 fun e w' => ∃ v k, e = .returned (.tuple #[v, k]) ∧ IntPost w t l e w') := by
    intro q m d l' h2 hi hm h0 hd hd2 hm2 hb
    by_cases hbg : 512 < m
    · refine (Read_no q m d W1 hbg (by unfold maxLen; omega)).mono ?_
      rintro e w' ⟨rfl, rfl⟩
      exact ⟨_, _, rfl, b1, .inr ⟨l', h2, hi, .inl ⟨by omega, rfl⟩⟩⟩
    · refine (Read_yes q m d (intsB l') W1 (numIn_bat hb hm h0 hd hd2 hm2) (by omega)).mono ?_
      rintro e w' ⟨v, rfl, hv⟩
      have hv' := hv.later b1
      exact ⟨_, _, rfl, by obtain ⟨_, _, _, _, _, _, _, _, _, h5⟩ := hv'; exact h5, .inr ⟨l', h2, hi, .inr ⟨by omega, v, rfl, hv'⟩⟩⟩
  clear b1 s1
  by_cases q2 : t = 2
  rotate_left
  · have e2 : ((t : Int) == 2) = false := by simp; omega
    have e3 : ((t : Int) != 2) = true := by simp; omega
    go_enter Try.func41, Try.ntmps41
    go_wp2_with fail
    go_ret2
    exact HBAD.out (.inl q2)
  have e2 : ((t : Int) == 2) = true := by simp; omega
  have e3 : ((t : Int) != 2) = false := by simp; omega
  have HT2 : Hid (t = 2) := q2
  clear q2
  cases l with
  | nil =>
    simp at hl
    subst hl
    go_enter Try.func41, Try.ntmps41
    go_wp2_with fail
    go_ret2
    exact HBAD.out (.inr rfl)
  | cons a xs =>
    obtain ⟨b, o, rfl, hcl⟩ := h.lies (by simp)
    have HCL : Hid (∀ i, i < (a :: xs).length → W1.cell? ⟨b, o + i, none⟩ = some (.int .u8 (((a :: xs).getD i 0).toNat : Int))) := fun i hi => (HB.out.cell (p := ⟨b, o + i, none⟩) (World.block_lt_of_cell? w _ (hcl i hi))).trans (hcl i hi)
    have c0 : W1.cell? ⟨b, o, none⟩ = some (.int .u8 (a.toNat : Int)) := by simpa using HCL.out 0 (by simp)
    have ha := a.toNat_lt
    have hn0 : 0 < n := by simp at hl; omega
    have hz : ((n : Int) == 0) = false := by simp; omega
    have hnI : (0 : Int) < (n : Int) := by omega
    have hcI : (n : Int) ≤ (c : Int) := by omega
    obtain ⟨A, hA⟩ : ∃ A, a.toNat = A := ⟨_, rfl⟩
    have HL : Hid ((a :: xs).length = n ∧ a.toNat = A ∧ xs.length = n - 1) := ⟨hl, hA, by simp at hl; omega⟩
    rw [hA] at c0 ha
    clear hl hcl h hA
    by_cases q3 : 128 ≤ A
    · have q3I : (128 : Int) ≤ (A : Int) := by omega
      go_enter Try.func41, Try.ntmps41
      go_wp2_with fail
      go_ret2
      exact HBAD.out (.inr (by rw [intL_cons, if_pos (by rw [HL.out.2.1]; exact q3)]))
    have q3I : ¬ (128 : Int) ≤ (A : Int) := by omega
    have HWH : Hid (BAt W1 (some ⟨b, o, none⟩) n (a :: xs)) := fun _ => ⟨b, o, rfl, fun i hi => HCL.out i (by rw [HL.out.1]; exact hi)⟩
    by_cases q4 : A = 0
    · subst q4
      by_cases q5 : 1 < n
      · have q5I : (1 : Int) < (n : Int) := by omega
        have q6I : (1 : Int) ≤ (n : Int) := by omega
        have q7I : (1 : Int) ≤ (c : Int) := by omega
        have hc1 : ¬ c = 1 := by omega
        have hn1 : (0 : Int) < (n : Int) - 1 := by omega
        have c1 : W1.cell? ⟨b, o + 1, none⟩ = some (.int .u8 ((xs.getD 0 0).toNat : Int)) := by simpa using HCL.out 1 (by rw [HL.out.1]; omega)
        obtain ⟨X, hX⟩ : ∃ X, (xs.getD 0 0).toNat = X := ⟨_, rfl⟩
        have hx := (xs.getD 0 0).toNat_lt
        rw [hX] at c1 hx
        have HX : Hid ((xs.getD 0 0).toNat = X) := hX
        clear hX
        by_cases q8 : X < 128
        · have q8I : (X : Int) < 128 := by omega
          go_enter Try.func41, Try.ntmps41
          go_wp2_with fail
          go_ret2
          exact HBAD.out (.inr (by rw [intL_cons, if_neg (by rw [HL.out.2.1]; omega), if_pos ⟨HL.out.2.1, by rw [HL.out.2.2]; omega⟩, if_pos (by rw [HX.out]; exact q8)]))
        · have q8I : ¬ (X : Int) < 128 := by omega
          have HR := HRD.out (some ⟨b, o + 1, none⟩) (n - 1) (c - 1) xs HT2.out (by rw [intL_cons, if_neg (by rw [HL.out.2.1]; omega), if_pos ⟨HL.out.2.1, by rw [HL.out.2.2]; omega⟩, if_neg (by rw [HX.out]; exact q8)]) HL.out.2.2 (by omega) (by omega) (by omega) (by omega) (fun _ => ⟨b, o + 1, rfl, fun i hi => by have := HCL.out (i + 1) (by rw [HL.out.1]; omega); rw [show o + 1 + i = o + (i + 1) by omega]; simpa using this⟩)
          go_enter Try.func41, Try.ntmps41
          go_wp2_with (go_at_call 72; refine HR.mono ?_; rintro e w' ⟨v, k, rfl, hp⟩; have HP : Hid (IntPost w t (a :: xs) (.returned (.tuple #[v, k])) w') := hp; clear hp)
          go_ret2
          exact HP.out
      · have q5I : ¬ (1 : Int) < (n : Int) := by omega
        have HR := HRD.out (some ⟨b, o, none⟩) n c (a :: xs) HT2.out (by rw [intL_cons, if_neg (by rw [HL.out.2.1]; omega), if_neg (by rw [HL.out.2.2]; omega)]) HL.out.1 (by omega) (by omega) (by omega) (by omega) HWH.out
        go_enter Try.func41, Try.ntmps41
        go_wp2_with (go_at_call 72; refine HR.mono ?_; rintro e w' ⟨v, k, rfl, hp⟩; have HP : Hid (IntPost w t (a :: xs) (.returned (.tuple #[v, k])) w') := hp; clear hp)
        go_ret2
        exact HP.out
    have q4I : ((A : Int) == 0) = false := by simp; omega
    have HR := HRD.out (some ⟨b, o, none⟩) n c (a :: xs) HT2.out (by rw [intL_cons, if_neg (by rw [HL.out.2.1]; omega), if_neg (by rw [HL.out.2.1]; omega)]) HL.out.1 (by omega) (by omega) (by omega) (by omega) HWH.out
    go_enter Try.func41, Try.ntmps41
    go_wp2_with (go_at_call 72; refine HR.mono ?_; rintro e w' ⟨v, k, rfl, hp⟩; have HP : Hid (IntPost w t (a :: xs) (.returned (.tuple #[v, k])) w') := hp; clear hp)
    go_ret2
    exact HP.out
end Go.Proofs.Yticopomchoahnaa
/-
  A signature's two numbers, as the document reads them and as all pieces. No program in sight.
-/
namespace Go.Proofs.Yticopomchoahnaa
open Go.Shelf Go.RowKit
set_option linter.unusedVariables false
set_option linter.unusedSimpArgs false

/-- An INTEGER's bytes, and what is left. -/
def wholeR (bs : Bs) : Option (Bs × Bs) := match pieceR bs 2 with
  | none => none
  | some (b, r) => match intL b with
    | none => none
    | some x => some (x, r)
/-- Two INTEGERs, and nothing else. -/
def twoR (b : Bs) : Option (Bs × Bs) := match wholeR b with
  | none => none
  | some (x, r1) => if 512 < x.length then none else match wholeR r1 with
    | none => none
    | some (y, r2) => if 512 < y.length ∨ 0 < r2.length then none else some (x, y)
def pairR (bs : Bs) : Option (Bs × Bs) := match pieceR bs 48 with
  | none => none
  | some (b, r) => if 0 < r.length then none else twoR b
/-- An INTEGER of at most 512 bytes. -/
def intO (t : Nat) (b : Bs) : Option Bs := if t = 2 then (match intL b with
  | none => none
  | some x => if 512 < x.length then none else some x) else none
/-- Two pieces that are INTEGERs. -/
def pairOf (R : List (UInt8 × Bs) × Nat) : Option (Bs × Bs) := if R.2 ≠ 0 then none else match R.1 with
  | [(t1, b1), (t2, b2)] => (match intO t1.toNat b1 with
    | none => none
    | some x => match intO t2.toNat b2 with
      | none => none
      | some y => some (x, y))
  | _ => none
theorem whole_err {bs : Bs} {k : Nat} (h : readD bs = .error k) : wholeR bs = none := by
  unfold wholeR
  rw [pieceR_err h]
theorem whole_ok {bs : Bs} {t : UInt8} {b r : Bs} (h : readD bs = .ok ((t, b), r)) : wholeR bs = if t.toNat = 2 then (match intL b with
    | none => none
    | some x => some (x, r)) else none := by
  unfold wholeR pieceR
  rw [h]
  simp only []
  by_cases h2 : t.toNat = 2
  · rw [if_pos h2, if_pos h2]
  · rw [if_neg h2, if_neg h2]
theorem pcs_more {bs : Bs} (h0 : bs ≠ []) : (pcsD bs).2 ≠ 0 ∨ ∃ x l, (pcsD bs).1 = x :: l := by
  cases hr : readD bs with
  | error k =>
    left
    rw [pcsD_err h0 hr]
    have := read_err hr
    omega
  | ok q =>
    obtain ⟨⟨t, b⟩, r⟩ := q
    right
    rw [pcsD_ok hr]
    exact ⟨_, _, rfl⟩
theorem two_of (b : Bs) : twoR b = pairOf (pcsD b) := by
  by_cases h0 : b = []
  · subst h0
    rfl
  cases hr : readD b with
  | error k =>
    have hk := read_err hr
    unfold twoR pairOf
    rw [whole_err hr, pcsD_err h0 hr, if_pos (show (([], k) : List (UInt8 × Bs) × Nat).2 ≠ 0 by show k ≠ 0; omega)]
  | ok q =>
    obtain ⟨⟨t1, b1⟩, r1⟩ := q
    rw [pcsD_ok hr]
    have hw := whole_ok hr
    by_cases h1 : r1 = []
    · subst h1
      have e1 : pairOf ((t1, b1) :: (pcsD []).1, (pcsD []).2) = none := rfl
      rw [e1]
      have e2 : wholeR [] = none := rfl
      unfold twoR
      rw [hw]
      by_cases ht : t1.toNat = 2
      · rw [if_pos ht]
        cases intL b1 with
        | none => rfl
        | some x =>
          simp only []
          by_cases h5 : 512 < x.length
          · rw [if_pos h5]
          · rw [if_neg h5, e2]
      · rw [if_neg ht]
    cases hr1 : readD r1 with
    | error k =>
      have hk := read_err hr1
      rw [pcsD_err h1 hr1]
      have e1 : pairOf ((t1, b1) :: (([], k) : List (UInt8 × Bs) × Nat).1, (([], k) : List (UInt8 × Bs) × Nat).2) = none := by unfold pairOf; rw [if_pos (show k ≠ 0 by omega)]
      rw [e1]
      unfold twoR
      rw [hw]
      by_cases ht : t1.toNat = 2
      · rw [if_pos ht]
        cases intL b1 with
        | none => rfl
        | some x =>
          simp only []
          by_cases h5 : 512 < x.length
          · rw [if_pos h5]
          · rw [if_neg h5, whole_err hr1]
      · rw [if_neg ht]
    | ok q =>
      obtain ⟨⟨t2, b2⟩, r2⟩ := q
      rw [pcsD_ok hr1]
      have hw1 := whole_ok hr1
      by_cases h2 : r2 = []
      · subst h2
        have e1 : pairOf ((t1, b1) :: ((t2, b2) :: (pcsD []).1, (pcsD []).2).1, ((t2, b2) :: (pcsD []).1, (pcsD []).2).2) = (match intO t1.toNat b1 with
          | none => none
          | some x => match intO t2.toNat b2 with
            | none => none
            | some y => some (x, y)) := rfl
        rw [e1]
        unfold twoR
        rw [hw]
        unfold intO
        by_cases ht : t1.toNat = 2
        · rw [if_pos ht, if_pos ht]
          cases intL b1 with
          | none => rfl
          | some x =>
            simp only []
            by_cases h5 : 512 < x.length
            · rw [if_pos h5, if_pos h5]
            · rw [if_neg h5, if_neg h5, hw1]
              by_cases ht2 : t2.toNat = 2
              · rw [if_pos ht2, if_pos ht2]
                cases intL b2 with
                | none => rfl
                | some y =>
                  simp only []
                  by_cases h6 : 512 < y.length
                  · rw [if_pos (.inl h6), if_pos h6]
                  · rw [if_neg (by simp; omega), if_neg h6]
              · rw [if_neg ht2, if_neg ht2]
        · rw [if_neg ht, if_neg ht]
      · have e1 : pairOf ((t1, b1) :: ((t2, b2) :: (pcsD r2).1, (pcsD r2).2).1, ((t2, b2) :: (pcsD r2).1, (pcsD r2).2).2) = none := by
          unfold pairOf
          simp only []
          rcases pcs_more h2 with h | ⟨y, l, h⟩
          · rw [if_pos h]
          · rw [h]
            by_cases h7 : (pcsD r2).2 ≠ 0
            · rw [if_pos h7]
            · rw [if_neg h7]
        rw [e1]
        have hl : 0 < r2.length := by
          rcases Nat.eq_zero_or_pos r2.length with h | h
          · exact absurd (List.eq_nil_of_length_eq_zero h) h2
          · exact h
        unfold twoR
        rw [hw]
        by_cases ht : t1.toNat = 2
        · rw [if_pos ht]
          cases intL b1 with
          | none => rfl
          | some x =>
            simp only []
            by_cases h5 : 512 < x.length
            · rw [if_pos h5]
            · rw [if_neg h5, hw1]
              by_cases ht2 : t2.toNat = 2
              · rw [if_pos ht2]
                cases intL b2 with
                | none => rfl
                | some y =>
                  simp only []
                  rw [if_pos (.inr hl)]
              · rw [if_neg ht2]
        · rw [if_neg ht]
end Go.Proofs.Yticopomchoahnaa
/-
  Contract of math/bits.Div64 where the divisor's greatest bit is set, and of nat.guessLimb there.
-/
namespace Go.Proofs.Yticopomchoahnaa
open Go.RowKit
set_option linter.unusedVariables false
set_option linter.unusedSimpArgs false

/-- A quotient's half, guessed: q y1 + r = H, and q is not below how often y1 2^32 + y0 is in H 2^32 + u. -/
def Gs (H u y1 y0 q r : Int) : Prop := q * y1 + r = H ∧ (H * 4294967296 + u) / (y1 * 4294967296 + y0) ≤ q ∧ 0 ≤ r ∧ 0 ≤ q ∧ q ≤ 4294967297
/-- .. and found. -/
def Fd (H u y1 y0 q : Int) : Prop := q = (H * 4294967296 + u) / (y1 * 4294967296 + y0)

/-- What is known of the halves. -/
structure Hv (H u y1 y0 : Int) : Prop where
  h0 : 0 ≤ H
  h1 : H < y1 * 4294967296 + y0
  u0 : 0 ≤ u
  u1 : u < 4294967296
  a0 : 2147483648 ≤ y1
  a1 : y1 < 4294967296
  b0 : 0 ≤ y0
  b1 : y0 < 4294967296
theorem Hv.qlt {H u y1 y0 : Int} (h : Hv H u y1 y0) : (H * 4294967296 + u) / (y1 * 4294967296 + y0) < 4294967296 := by
  obtain ⟨h0, h1, u0, u1, a0, a1, b0, b1⟩ := h
  apply Int.ediv_lt_of_lt_mul (by omega)
  have : (H + 1) * 4294967296 ≤ (y1 * 4294967296 + y0) * 4294967296 := by omega
  generalize y1 * 4294967296 + y0 = Y at *
  omega
theorem Hv.qge {H u y1 y0 : Int} (h : Hv H u y1 y0) : 0 ≤ (H * 4294967296 + u) / (y1 * 4294967296 + y0) := by
  obtain ⟨h0, h1, u0, u1, a0, a1, b0, b1⟩ := h
  exact Int.ediv_nonneg (by omega) (by omega)
theorem Hv.start {H u y1 y0 : Int} (h : Hv H u y1 y0) : Gs H u y1 y0 (H / y1) (H % y1) ∧ H % y1 < 4294967296 := by
  obtain ⟨h0, h1, u0, u1, a0, a1, b0, b1⟩ := h
  have e := Int.mul_ediv_add_emod H y1
  have r0 := Int.emod_nonneg H (show y1 ≠ 0 by omega)
  have r1 := Int.emod_lt_of_pos H (show 0 < y1 by omega)
  have q0 : 0 ≤ H / y1 := Int.ediv_nonneg h0 (by omega)
  have qle : H / y1 ≤ 4294967297 := by
    have : H / y1 < 4294967298 := by
      apply Int.ediv_lt_of_lt_mul (by omega)
      omega
    omega
  refine ⟨⟨by rw [Int.mul_comm]; exact e, ?_, r0, q0, qle⟩, by omega⟩
  have : (H * 4294967296 + u) / (y1 * 4294967296 + y0) < H / y1 + 1 := by
    apply Int.ediv_lt_of_lt_mul (by omega)
    generalize H / y1 = q at *
    generalize H % y1 = r at *
    have e2 : (q + 1) * (y1 * 4294967296 + y0) = (y1 * q) * 4294967296 + y1 * 4294967296 + q * y0 + y0 := by grind
    have e3 : 0 ≤ q * y0 := Int.mul_nonneg q0 b0
    rw [e2, ← e]
    generalize y1 * q = P at *
    generalize q * y0 = R at *
    omega
  omega
/-- One round: the guess was too great. -/
theorem Gs.step {H u y1 y0 q r : Int} (hv : Hv H u y1 y0) (h : Gs H u y1 y0 q r) (hr : r < 4294967296) (hc : 4294967296 ≤ q ∨ 4294967296 * r + u < q * y0) :
    Gs H u y1 y0 (q - 1) (r + y1) ∧ 1 ≤ q ∧ q - 1 ≤ 4294967296 := by
  have hq := hv.qlt
  have hqg := hv.qge
  obtain ⟨h0, h1, u0, u1, a0, a1, b0, b1⟩ := hv
  obtain ⟨g1, g2, g3, g4, g5⟩ := h
  have key : (H * 4294967296 + u) / (y1 * 4294967296 + y0) ≤ q - 1 := by
    rcases hc with hc | hc
    · omega
    · have : (H * 4294967296 + u) / (y1 * 4294967296 + y0) < q := by
        apply Int.ediv_lt_of_lt_mul (by omega)
        have e2 : q * (y1 * 4294967296 + y0) = (q * y1) * 4294967296 + q * y0 := by grind
        rw [e2, ← g1]
        generalize q * y1 = P at *
        generalize q * y0 = R at *
        omega
      omega
  refine ⟨⟨?_, key, by omega, by omega, by omega⟩, by omega, by omega⟩
  rw [← g1]; grind
/-- The guess is right. -/
theorem Gs.found {H u y1 y0 q r : Int} (hv : Hv H u y1 y0) (h : Gs H u y1 y0 q r) (hc : q * y0 ≤ 4294967296 * r + u) : Fd H u y1 y0 q := by
  obtain ⟨h0, h1, u0, u1, a0, a1, b0, b1⟩ := hv
  obtain ⟨g1, g2, g3, g4, g5⟩ := h
  unfold Fd
  have : q ≤ (H * 4294967296 + u) / (y1 * 4294967296 + y0) := by
    apply (Int.le_ediv_iff_mul_le (by omega)).2
    have e2 : q * (y1 * 4294967296 + y0) = (q * y1) * 4294967296 + q * y0 := by grind
    rw [e2, ← g1]
    generalize q * y1 = P at *
    generalize q * y0 = R at *
    omega
  omega
/-- .. as what is left is a half too great. -/
theorem Gs.over {H u y1 y0 q r : Int} (hv : Hv H u y1 y0) (h : Gs H u y1 y0 q r) (hq : q ≤ 4294967296) (hr : 4294967296 ≤ r) : Fd H u y1 y0 q := by
  refine h.found hv ?_
  obtain ⟨h0, h1, u0, u1, a0, a1, b0, b1⟩ := hv
  obtain ⟨g1, g2, g3, g4, g5⟩ := h
  have : q * y0 ≤ 4294967296 * 4294967295 := Int.mul_le_mul hq (by omega) b0 (by omega)
  omega
theorem Fd.lt {H u y1 y0 q : Int} (hv : Hv H u y1 y0) (h : Fd H u y1 y0 q) : 0 ≤ q ∧ q < 4294967296 := by
  unfold Fd at h
  have := hv.qlt
  have := hv.qge
  omega
/-- What is left, modulo 2^64, is what is left. -/
theorem Fd.rest {H u y1 y0 q : Int} (hv : Hv H u y1 y0) (h : Fd H u y1 y0 q) : (H * 4294967296 + u - q * (y1 * 4294967296 + y0)) % 18446744073709551616 = (H * 4294967296 + u) % (y1 * 4294967296 + y0) := by
  unfold Fd at h
  obtain ⟨h0, h1, u0, u1, a0, a1, b0, b1⟩ := hv
  have e : H * 4294967296 + u - q * (y1 * 4294967296 + y0) = (H * 4294967296 + u) % (y1 * 4294967296 + y0) := by
    rw [Int.emod_def, h, Int.mul_comm (y1 * 4294967296 + y0)]
  rw [e]
  have r0 := Int.emod_nonneg (H * 4294967296 + u) (show y1 * 4294967296 + y0 ≠ 0 by omega)
  have r1 := Int.emod_lt_of_pos (H * 4294967296 + u) (show 0 < y1 * 4294967296 + y0 by omega)
  exact Int.emod_eq_of_lt r0 (by omega)
/-- Both halves. -/
theorem two_halves (hi u1 u0 Y q1 q0 : Int) (hY : 0 < Y) (h1 : q1 = (hi * 4294967296 + u1) / Y) (h0 : q0 = ((hi * 4294967296 + u1) % Y * 4294967296 + u0) / Y) :
    q1 * 4294967296 + q0 = (hi * 18446744073709551616 + (u1 * 4294967296 + u0)) / Y := by
  have e := Int.mul_ediv_add_emod (hi * 4294967296 + u1) Y
  rw [← h1] at e
  generalize (hi * 4294967296 + u1) % Y = R at *
  have e2 : hi * 18446744073709551616 + (u1 * 4294967296 + u0) = (R * 4294967296 + u0) + Y * (q1 * 4294967296) := by
    have : hi * 18446744073709551616 + (u1 * 4294967296 + u0) = (hi * 4294967296 + u1) * 4294967296 + u0 := by omega
    rw [this, ← e]
    grind
  rw [e2, Int.add_mul_ediv_left _ _ (by omega), ← h0]
  omega

theorem wrap_prod (q b : Int) (h0 : 0 ≤ q) (h1 : q < 4294967296) (b0 : 0 ≤ b) (b1 : b < 4294967296) : IntKind.u64.wrap (q * b) = q * b := by
  rw [IntKind.wrap_u64]
  have a : 0 ≤ q * b := Int.mul_nonneg h0 b0
  have c : q * b ≤ 4294967295 * 4294967295 := Int.mul_le_mul (by omega) (by omega) b0 (by omega)
  exact Int.emod_eq_of_lt a (by omega)
theorem wrap_quot (R a : Int) (h0 : 0 ≤ R / a) (h1 : R / a ≤ 4294967297) : IntKind.u64.wrap (R / a) = R / a := by
  rw [IntKind.wrap_u64]
  exact Int.emod_eq_of_lt h0 (by omega)
theorem wrap_back (R a : Int) {u b : Int} (h0 : 0 ≤ R) (hv : Hv R u a b) : IntKind.u64.wrap (R / a * a) = R - R % a := by
  have e := Int.mul_ediv_add_emod R a
  have r0 := Int.emod_nonneg R (show a ≠ 0 by have := hv.a0; omega)
  have x := hv.h1
  have y := hv.a1
  have z := hv.b1
  rw [IntKind.wrap_u64, Int.mul_comm, show a * (R / a) = R - R % a by omega]
  have q0 : 0 ≤ a * (R / a) := Int.mul_nonneg (by have := hv.a0; omega) (Int.ediv_nonneg h0 (by have := hv.a0; omega))
  exact Int.emod_eq_of_lt (by omega) (by omega)
theorem back_nonneg (R a : Int) (h0 : 0 ≤ R) (ha : 0 < a) : 0 ≤ R - R % a := by
  have e := Int.mul_ediv_add_emod R a
  have : 0 ≤ a * (R / a) := Int.mul_nonneg (by omega) (Int.ediv_nonneg h0 (by omega))
  omega
theorem wrap_chain (hi u1 q y : Int) : IntKind.u64.wrap (IntKind.u64.wrap (IntKind.u64.wrap (hi * 4294967296) + u1) - IntKind.u64.wrap (q * y)) = (hi * 4294967296 + u1 - q * y) % 18446744073709551616 := by
  simp only [IntKind.wrap_u64]
  generalize q * y = Z
  omega

set_option maxHeartbeats 8000000 in
set_option maxRecDepth 100000 in
/-- math/bits.Div64, the divisor's greatest bit set, the high limb not 0. -/
theorem div64_hi (hi lo y : Int) (w : World) (h0 : 1 ≤ hi) (h1 : hi < y) (l0 : 0 ≤ lo) (l1 : lo < 18446744073709551616) (y0 : 9223372036854775808 ≤ y) (y1 : y < 18446744073709551616) :
    Calls Try.prog 137 #[.int .u64 hi, .int .u64 lo, .int .u64 y] w fun e w' => ∃ r, e = .returned (.tuple #[.int .u64 ((hi * 18446744073709551616 + lo) / y), .int .u64 r]) ∧ w' = w := by
  have HL := lead_any y w (by omega) y1
  have e64 : 64 - blen y.toNat = 0 := by rw [blen_eq y.toNat 63 (by omega) (by omega)]
  rw [e64] at HL
  clear e64
  obtain ⟨a, ea⟩ : ∃ a, y / 4294967296 = a := ⟨_, rfl⟩
  obtain ⟨b, eb⟩ : ∃ b, bits .and .u64 y 4294967295 = b := ⟨_, rfl⟩
  obtain ⟨u1, eu1⟩ : ∃ u1, lo / 4294967296 = u1 := ⟨_, rfl⟩
  obtain ⟨u0, eu0⟩ : ∃ u0, bits .and .u64 lo 4294967295 = u0 := ⟨_, rfl⟩
  have mask : ∀ z : Int, 0 ≤ z → z < 18446744073709551616 → bits .and .u64 z 4294967295 = z % 4294967296 := fun z z0 z1 => by
    obtain ⟨z, rfl⟩ := Int.eq_ofNat_of_zero_le z0
    rw [low_half z (by omega)]; omega
  have hbm : b = y % 4294967296 := by rw [← eb]; exact mask y (by omega) y1
  have hum : u0 = lo % 4294967296 := by rw [← eu0]; exact mask lo l0 l1
  have eo : bits .or .u64 hi (lo / 18446744073709551616) = hi := by
    rw [Int.ediv_eq_zero_of_lt l0 l1]
    obtain ⟨z, rfl⟩ := Int.eq_ofNat_of_zero_le (show 0 ≤ hi by omega)
    have := bits_or_u64_nat z 0 (by omega) (by omega)
    simpa using this
  have a0 : 2147483648 ≤ a := by omega
  have a1 : a < 4294967296 := by omega
  have b0 : 0 ≤ b := by omega
  have b1 : b < 4294967296 := by omega
  have u10 : 0 ≤ u1 := by omega
  have u11 : u1 < 4294967296 := by omega
  have u00 : 0 ≤ u0 := by omega
  have u01 : u0 < 4294967296 := by omega
  have hY : a * 4294967296 + b = y := by omega
  have elo : lo = u1 * 4294967296 + u0 := by omega
  have hv : Hv hi u1 a b := ⟨by omega, by omega, u10, u11, a0, a1, b0, b1⟩
  have HV : Hid (Hv hi u1 a b) := hv
  have hs := hv.start
  obtain ⟨qq, eqq⟩ : ∃ q2, hi / a = q2 := ⟨_, rfl⟩
  obtain ⟨PP, ePP⟩ : ∃ P2, IntKind.u64.wrap (qq * a) = P2 := ⟨_, rfl⟩
  have hqqe : qq = hi / a := eqq.symm
  have hPPe : PP = hi - hi % a := by rw [← ePP, hqqe]; exact wrap_back hi a (by omega) hv
  obtain ⟨rr, err⟩ : ∃ r2, hi - PP = r2 := ⟨_, rfl⟩
  have hrre : rr = hi % a := by omega
  have hst0 : Gs hi u1 a b qq rr ∧ rr < 4294967296 := by rw [hqqe, hrre]; exact hs
  have HST0 : Hid _ := hst0
  have hrr0 := hst0.1.2.2.1
  have hrr1 := hst0.2
  have hPP0 : 0 ≤ PP ∧ PP ≤ hi := by have := back_nonneg hi a (by omega) (by omega); omega
  have HY : Hid _ := hY
  have HLO : Hid _ := elo
  clear hst0 hv hs hqqe hPPe hrre mask hbm hum hY elo
  go_enter Try.func137, Try.ntmps137
  go_wp2_with (go_at_call 127; refine HL.mono ?_; rintro e w' ⟨rfl, rfl⟩)
  go_loop [15, 16] (fun vq vr => ∃ q r : Int, vq = .int .u64 q ∧ vr = .int .u64 r ∧ Gs hi u1 a b q r ∧ r < 4294967296) (fun vq _ => (intOf vq).toNat)
  case atStart => exact ⟨_, _, rfl, rfl, by rw [eqq]; exact HST0.out.1, HST0.out.2⟩
  case round =>
    obtain ⟨q, r, rfl, rfl, hg, hr⟩ := hrel
    have hr0 := hg.2.2.1
    have hq0 := hg.2.2.2.1
    have hqm := hg.2.2.2.2
    obtain ⟨M, hM⟩ : ∃ M, IntKind.u64.wrap (q * b) = M := ⟨_, rfl⟩
    by_cases hA : 4294967296 ≤ q
    · have hst := hg.step HV.out hr (.inl hA)
      obtain ⟨q', e1⟩ : ∃ q', q - 1 = q' := ⟨_, rfl⟩
      obtain ⟨r', e2⟩ : ∃ r', r + a = r' := ⟨_, rfl⟩
      rw [e1, e2] at hst
      have HG : Hid (Gs _ _ _ _ _ _) := hst.1
      have hq1 : 1 ≤ q := hst.2.1
      have hq2 : q' ≤ 4294967296 := hst.2.2
      have HD : Hid (q'.toNat < q.toNat) := by unfold Hid; omega
      by_cases hC : 4294967296 ≤ r'
      · have hF : Fd hi u1 a b q' := HG.out.over HV.out hq2 hC
        clear hst hg HG HD 
        have hY := HY.out
        have elo := HLO.out
        have hq1b := hF.lt HV.out
        obtain ⟨W1, w1⟩ : ∃ W1, IntKind.u64.wrap (hi * 4294967296) = W1 := ⟨_, rfl⟩
        obtain ⟨W2, w2⟩ : ∃ W2, IntKind.u64.wrap (W1 + u1) = W2 := ⟨_, rfl⟩
        obtain ⟨W3, w3⟩ : ∃ W3, IntKind.u64.wrap (q' * y) = W3 := ⟨_, rfl⟩
        obtain ⟨R, w4⟩ : ∃ R, IntKind.u64.wrap (W2 - W3) = R := ⟨_, rfl⟩
        have eR : R = (hi * 4294967296 + u1) % y := by rw [← w4, ← w3, ← w2, ← w1, wrap_chain]; have := hF.rest HV.out; rw [hY] at this; exact this
        have hv2 : Hv R u0 a b := by
          have x0 := Int.emod_nonneg (hi * 4294967296 + u1) (show y ≠ 0 by omega)
          have x1 := Int.emod_lt_of_pos (hi * 4294967296 + u1) (show 0 < y by omega)
          exact ⟨by omega, by omega, u00, u01, a0, a1, b0, b1⟩
        have hR0 := hv2.h0
        have HFIN : Hid (∀ p, Fd R u0 a b p → q' * 4294967296 + p = (hi * 18446744073709551616 + lo) / y) := fun p hp => by
          unfold Fd at hp hF
          rw [hY] at hp hF
          rw [elo]
          exact two_halves hi u1 u0 y q' p (by omega) hF (by rw [← eR]; exact hp)
        have hs2 := hv2.start
        obtain ⟨q2, eq2⟩ : ∃ q2, R / a = q2 := ⟨_, rfl⟩
        obtain ⟨P2, eP2⟩ : ∃ P2, IntKind.u64.wrap (q2 * a) = P2 := ⟨_, rfl⟩
        have hq2e : q2 = R / a := eq2.symm
        have hP2e : P2 = R - R % a := by rw [← eP2, hq2e]; exact wrap_back R a hR0 hv2 
        obtain ⟨r2, er2⟩ : ∃ r2, R - P2 = r2 := ⟨_, rfl⟩
        have hr2e : r2 = R % a := by omega
        have hst2 : Gs R u0 a b q2 r2 ∧ r2 < 4294967296 := by rw [hq2e, hr2e]; exact hs2
        have hr20 := hst2.1.2.2.1
        have hr21 := hst2.2
        have hP20 : 0 ≤ P2 ∧ P2 ≤ R := by have := back_nonneg R a hR0 (by omega); omega
        have hRb : R < 18446744073709551616 := by have := hv2.h1; omega
        have HST : Hid _ := hst2
        have HV1 : Hid _ := HV
        clear HV
        have HV : Hid (Hv R u0 a b) := hv2
        clear hs2 hv2 eR hq2e hP2e hr2e hst2 hF HV1 hY elo
        go_wp2
        go_loop [18, 16] (fun vq vr => ∃ q r : Int, vq = .int .u64 q ∧ vr = .int .u64 r ∧ Gs R u0 a b q r ∧ r < 4294967296) (fun vq _ => (intOf vq).toNat)
        case atStart => exact ⟨_, _, rfl, rfl, HST.out.1, HST.out.2⟩
        case round =>
          obtain ⟨q, r, rfl, rfl, hg, hr⟩ := hrel
          have hr0 := hg.2.2.1
          have hq0 := hg.2.2.2.1
          have hqm := hg.2.2.2.2
          obtain ⟨M, hM⟩ : ∃ M, IntKind.u64.wrap (q * b) = M := ⟨_, rfl⟩
          by_cases hA : 4294967296 ≤ q
          · have hst := hg.step HV.out hr (.inl hA)
            obtain ⟨q', e1⟩ : ∃ q', q - 1 = q' := ⟨_, rfl⟩
            obtain ⟨r', e2⟩ : ∃ r', r + a = r' := ⟨_, rfl⟩
            rw [e1, e2] at hst
            have HG : Hid (Gs _ _ _ _ _ _) := hst.1
            have hq1 : 1 ≤ q := hst.2.1
            have hq2 : q' ≤ 4294967296 := hst.2.2
            have HD : Hid (q'.toNat < q.toNat) := by unfold Hid; omega
            by_cases hC : 4294967296 ≤ r'
            · have hF : Fd R u0 a b q' := HG.out.over HV.out hq2 hC
              clear hst hg HG HD 
              have HQ := HFIN.out q' hF
              have hpb := hF.lt HV.out
              clear hF
              have HQH : Hid _ := HQ
              clear HQ
              go_wp2
              go_ret2
              exact ⟨⟨_, ret_two HQH.out rfl⟩, rfl⟩
            · have hC' : r' < 4294967296 := by omega
              clear hst hg 
              go_wp2
              go_round
              case rel => exact ⟨q', r', rfl, rfl, HG.out, hC'⟩
              case measure => simp only [intOf]; exact HD.out
          · have hlt : q < 4294967296 := by omega
            have eM : M = q * b := by rw [← hM]; exact wrap_prod q b hq0 hlt b0 b1
            by_cases hB : 4294967296 * r + u0 < M
            · have hst := hg.step HV.out hr (.inr (by rw [← eM]; exact hB))
              obtain ⟨q', e1⟩ : ∃ q', q - 1 = q' := ⟨_, rfl⟩
              obtain ⟨r', e2⟩ : ∃ r', r + a = r' := ⟨_, rfl⟩
              rw [e1, e2] at hst
              have HG : Hid (Gs _ _ _ _ _ _) := hst.1
              have hq1 : 1 ≤ q := hst.2.1
              have hq2 : q' ≤ 4294967296 := hst.2.2
              have HD : Hid (q'.toNat < q.toNat) := by unfold Hid; omega
              by_cases hC : 4294967296 ≤ r'
              · have hF : Fd R u0 a b q' := HG.out.over HV.out hq2 hC
                clear hst hg HG HD eM
                have HQ := HFIN.out q' hF
                have hpb := hF.lt HV.out
                clear hF
                have HQH : Hid _ := HQ
                clear HQ
                go_wp2
                go_ret2
                exact ⟨⟨_, ret_two HQH.out rfl⟩, rfl⟩
              · have hC' : r' < 4294967296 := by omega
                clear hst hg eM
                go_wp2
                go_round
                case rel => exact ⟨q', r', rfl, rfl, HG.out, hC'⟩
                case measure => simp only [intOf]; exact HD.out
            · have hF : Fd R u0 a b q := hg.found HV.out (by rw [← eM]; omega)
              clear hg eM
              have HQ := HFIN.out q hF
              have hpb := hF.lt HV.out
              clear hF
              have HQH : Hid _ := HQ
              clear HQ
              go_wp2
              go_ret2
              exact ⟨⟨_, ret_two HQH.out rfl⟩, rfl⟩
      · have hC' : r' < 4294967296 := by omega
        clear hst hg 
        go_wp2
        go_round
        case rel => exact ⟨q', r', rfl, rfl, HG.out, hC'⟩
        case measure => simp only [intOf]; exact HD.out
    · have hlt : q < 4294967296 := by omega
      have eM : M = q * b := by rw [← hM]; exact wrap_prod q b hq0 hlt b0 b1
      by_cases hB : 4294967296 * r + u1 < M
      · have hst := hg.step HV.out hr (.inr (by rw [← eM]; exact hB))
        obtain ⟨q', e1⟩ : ∃ q', q - 1 = q' := ⟨_, rfl⟩
        obtain ⟨r', e2⟩ : ∃ r', r + a = r' := ⟨_, rfl⟩
        rw [e1, e2] at hst
        have HG : Hid (Gs _ _ _ _ _ _) := hst.1
        have hq1 : 1 ≤ q := hst.2.1
        have hq2 : q' ≤ 4294967296 := hst.2.2
        have HD : Hid (q'.toNat < q.toNat) := by unfold Hid; omega
        by_cases hC : 4294967296 ≤ r'
        · have hF : Fd hi u1 a b q' := HG.out.over HV.out hq2 hC
          clear hst hg HG HD eM
          have hY := HY.out
          have elo := HLO.out
          have hq1b := hF.lt HV.out
          obtain ⟨W1, w1⟩ : ∃ W1, IntKind.u64.wrap (hi * 4294967296) = W1 := ⟨_, rfl⟩
          obtain ⟨W2, w2⟩ : ∃ W2, IntKind.u64.wrap (W1 + u1) = W2 := ⟨_, rfl⟩
          obtain ⟨W3, w3⟩ : ∃ W3, IntKind.u64.wrap (q' * y) = W3 := ⟨_, rfl⟩
          obtain ⟨R, w4⟩ : ∃ R, IntKind.u64.wrap (W2 - W3) = R := ⟨_, rfl⟩
          have eR : R = (hi * 4294967296 + u1) % y := by rw [← w4, ← w3, ← w2, ← w1, wrap_chain]; have := hF.rest HV.out; rw [hY] at this; exact this
          have hv2 : Hv R u0 a b := by
            have x0 := Int.emod_nonneg (hi * 4294967296 + u1) (show y ≠ 0 by omega)
            have x1 := Int.emod_lt_of_pos (hi * 4294967296 + u1) (show 0 < y by omega)
            exact ⟨by omega, by omega, u00, u01, a0, a1, b0, b1⟩
          have hR0 := hv2.h0
          have HFIN : Hid (∀ p, Fd R u0 a b p → q' * 4294967296 + p = (hi * 18446744073709551616 + lo) / y) := fun p hp => by
            unfold Fd at hp hF
            rw [hY] at hp hF
            rw [elo]
            exact two_halves hi u1 u0 y q' p (by omega) hF (by rw [← eR]; exact hp)
          have hs2 := hv2.start
          obtain ⟨q2, eq2⟩ : ∃ q2, R / a = q2 := ⟨_, rfl⟩
          obtain ⟨P2, eP2⟩ : ∃ P2, IntKind.u64.wrap (q2 * a) = P2 := ⟨_, rfl⟩
          have hq2e : q2 = R / a := eq2.symm
          have hP2e : P2 = R - R % a := by rw [← eP2, hq2e]; exact wrap_back R a hR0 hv2 
          obtain ⟨r2, er2⟩ : ∃ r2, R - P2 = r2 := ⟨_, rfl⟩
          have hr2e : r2 = R % a := by omega
          have hst2 : Gs R u0 a b q2 r2 ∧ r2 < 4294967296 := by rw [hq2e, hr2e]; exact hs2
          have hr20 := hst2.1.2.2.1
          have hr21 := hst2.2
          have hP20 : 0 ≤ P2 ∧ P2 ≤ R := by have := back_nonneg R a hR0 (by omega); omega
          have hRb : R < 18446744073709551616 := by have := hv2.h1; omega
          have HST : Hid _ := hst2
          have HV1 : Hid _ := HV
          clear HV
          have HV : Hid (Hv R u0 a b) := hv2
          clear hs2 hv2 eR hq2e hP2e hr2e hst2 hF HV1 hY elo
          go_wp2
          go_loop [18, 16] (fun vq vr => ∃ q r : Int, vq = .int .u64 q ∧ vr = .int .u64 r ∧ Gs R u0 a b q r ∧ r < 4294967296) (fun vq _ => (intOf vq).toNat)
          case atStart => exact ⟨_, _, rfl, rfl, HST.out.1, HST.out.2⟩
          case round =>
            obtain ⟨q, r, rfl, rfl, hg, hr⟩ := hrel
            have hr0 := hg.2.2.1
            have hq0 := hg.2.2.2.1
            have hqm := hg.2.2.2.2
            obtain ⟨M, hM⟩ : ∃ M, IntKind.u64.wrap (q * b) = M := ⟨_, rfl⟩
            by_cases hA : 4294967296 ≤ q
            · have hst := hg.step HV.out hr (.inl hA)
              obtain ⟨q', e1⟩ : ∃ q', q - 1 = q' := ⟨_, rfl⟩
              obtain ⟨r', e2⟩ : ∃ r', r + a = r' := ⟨_, rfl⟩
              rw [e1, e2] at hst
              have HG : Hid (Gs _ _ _ _ _ _) := hst.1
              have hq1 : 1 ≤ q := hst.2.1
              have hq2 : q' ≤ 4294967296 := hst.2.2
              have HD : Hid (q'.toNat < q.toNat) := by unfold Hid; omega
              by_cases hC : 4294967296 ≤ r'
              · have hF : Fd R u0 a b q' := HG.out.over HV.out hq2 hC
                clear hst hg HG HD 
                have HQ := HFIN.out q' hF
                have hpb := hF.lt HV.out
                clear hF
                have HQH : Hid _ := HQ
                clear HQ
                go_wp2
                go_ret2
                exact ⟨⟨_, ret_two HQH.out rfl⟩, rfl⟩
              · have hC' : r' < 4294967296 := by omega
                clear hst hg 
                go_wp2
                go_round
                case rel => exact ⟨q', r', rfl, rfl, HG.out, hC'⟩
                case measure => simp only [intOf]; exact HD.out
            · have hlt : q < 4294967296 := by omega
              have eM : M = q * b := by rw [← hM]; exact wrap_prod q b hq0 hlt b0 b1
              by_cases hB : 4294967296 * r + u0 < M
              · have hst := hg.step HV.out hr (.inr (by rw [← eM]; exact hB))
                obtain ⟨q', e1⟩ : ∃ q', q - 1 = q' := ⟨_, rfl⟩
                obtain ⟨r', e2⟩ : ∃ r', r + a = r' := ⟨_, rfl⟩
                rw [e1, e2] at hst
                have HG : Hid (Gs _ _ _ _ _ _) := hst.1
                have hq1 : 1 ≤ q := hst.2.1
                have hq2 : q' ≤ 4294967296 := hst.2.2
                have HD : Hid (q'.toNat < q.toNat) := by unfold Hid; omega
                by_cases hC : 4294967296 ≤ r'
                · have hF : Fd R u0 a b q' := HG.out.over HV.out hq2 hC
                  clear hst hg HG HD eM
                  have HQ := HFIN.out q' hF
                  have hpb := hF.lt HV.out
                  clear hF
                  have HQH : Hid _ := HQ
                  clear HQ
                  go_wp2
                  go_ret2
                  exact ⟨⟨_, ret_two HQH.out rfl⟩, rfl⟩
                · have hC' : r' < 4294967296 := by omega
                  clear hst hg eM
                  go_wp2
                  go_round
                  case rel => exact ⟨q', r', rfl, rfl, HG.out, hC'⟩
                  case measure => simp only [intOf]; exact HD.out
              · have hF : Fd R u0 a b q := hg.found HV.out (by rw [← eM]; omega)
                clear hg eM
                have HQ := HFIN.out q hF
                have hpb := hF.lt HV.out
                clear hF
                have HQH : Hid _ := HQ
                clear HQ
                go_wp2
                go_ret2
                exact ⟨⟨_, ret_two HQH.out rfl⟩, rfl⟩
        · have hC' : r' < 4294967296 := by omega
          clear hst hg eM
          go_wp2
          go_round
          case rel => exact ⟨q', r', rfl, rfl, HG.out, hC'⟩
          case measure => simp only [intOf]; exact HD.out
      · have hF : Fd hi u1 a b q := hg.found HV.out (by rw [← eM]; omega)
        clear hg eM
        have hY := HY.out
        have elo := HLO.out
        have hq1b := hF.lt HV.out
        obtain ⟨W1, w1⟩ : ∃ W1, IntKind.u64.wrap (hi * 4294967296) = W1 := ⟨_, rfl⟩
        obtain ⟨W2, w2⟩ : ∃ W2, IntKind.u64.wrap (W1 + u1) = W2 := ⟨_, rfl⟩
        obtain ⟨W3, w3⟩ : ∃ W3, IntKind.u64.wrap (q * y) = W3 := ⟨_, rfl⟩
        obtain ⟨R, w4⟩ : ∃ R, IntKind.u64.wrap (W2 - W3) = R := ⟨_, rfl⟩
        have eR : R = (hi * 4294967296 + u1) % y := by rw [← w4, ← w3, ← w2, ← w1, wrap_chain]; have := hF.rest HV.out; rw [hY] at this; exact this
        have hv2 : Hv R u0 a b := by
          have x0 := Int.emod_nonneg (hi * 4294967296 + u1) (show y ≠ 0 by omega)
          have x1 := Int.emod_lt_of_pos (hi * 4294967296 + u1) (show 0 < y by omega)
          exact ⟨by omega, by omega, u00, u01, a0, a1, b0, b1⟩
        have hR0 := hv2.h0
        have HFIN : Hid (∀ p, Fd R u0 a b p → q * 4294967296 + p = (hi * 18446744073709551616 + lo) / y) := fun p hp => by
          unfold Fd at hp hF
          rw [hY] at hp hF
          rw [elo]
          exact two_halves hi u1 u0 y q p (by omega) hF (by rw [← eR]; exact hp)
        have hs2 := hv2.start
        obtain ⟨q2, eq2⟩ : ∃ q2, R / a = q2 := ⟨_, rfl⟩
        obtain ⟨P2, eP2⟩ : ∃ P2, IntKind.u64.wrap (q2 * a) = P2 := ⟨_, rfl⟩
        have hq2e : q2 = R / a := eq2.symm
        have hP2e : P2 = R - R % a := by rw [← eP2, hq2e]; exact wrap_back R a hR0 hv2 
        obtain ⟨r2, er2⟩ : ∃ r2, R - P2 = r2 := ⟨_, rfl⟩
        have hr2e : r2 = R % a := by omega
        have hst2 : Gs R u0 a b q2 r2 ∧ r2 < 4294967296 := by rw [hq2e, hr2e]; exact hs2
        have hr20 := hst2.1.2.2.1
        have hr21 := hst2.2
        have hP20 : 0 ≤ P2 ∧ P2 ≤ R := by have := back_nonneg R a hR0 (by omega); omega
        have hRb : R < 18446744073709551616 := by have := hv2.h1; omega
        have HST : Hid _ := hst2
        have HV1 : Hid _ := HV
        clear HV
        have HV : Hid (Hv R u0 a b) := hv2
        clear hs2 hv2 eR hq2e hP2e hr2e hst2 hF HV1 hY elo
        go_wp2
        go_loop [18, 16] (fun vq vr => ∃ q r : Int, vq = .int .u64 q ∧ vr = .int .u64 r ∧ Gs R u0 a b q r ∧ r < 4294967296) (fun vq _ => (intOf vq).toNat)
        case atStart => exact ⟨_, _, rfl, rfl, HST.out.1, HST.out.2⟩
        case round =>
          obtain ⟨q, r, rfl, rfl, hg, hr⟩ := hrel
          have hr0 := hg.2.2.1
          have hq0 := hg.2.2.2.1
          have hqm := hg.2.2.2.2
          obtain ⟨M, hM⟩ : ∃ M, IntKind.u64.wrap (q * b) = M := ⟨_, rfl⟩
          by_cases hA : 4294967296 ≤ q
          · have hst := hg.step HV.out hr (.inl hA)
            obtain ⟨q', e1⟩ : ∃ q', q - 1 = q' := ⟨_, rfl⟩
            obtain ⟨r', e2⟩ : ∃ r', r + a = r' := ⟨_, rfl⟩
            rw [e1, e2] at hst
            have HG : Hid (Gs _ _ _ _ _ _) := hst.1
            have hq1 : 1 ≤ q := hst.2.1
            have hq2 : q' ≤ 4294967296 := hst.2.2
            have HD : Hid (q'.toNat < q.toNat) := by unfold Hid; omega
            by_cases hC : 4294967296 ≤ r'
            · have hF : Fd R u0 a b q' := HG.out.over HV.out hq2 hC
              clear hst hg HG HD 
              have HQ := HFIN.out q' hF
              have hpb := hF.lt HV.out
              clear hF
              have HQH : Hid _ := HQ
              clear HQ
              go_wp2
              go_ret2
              exact ⟨⟨_, ret_two HQH.out rfl⟩, rfl⟩
            · have hC' : r' < 4294967296 := by omega
              clear hst hg 
              go_wp2
              go_round
              case rel => exact ⟨q', r', rfl, rfl, HG.out, hC'⟩
              case measure => simp only [intOf]; exact HD.out
          · have hlt : q < 4294967296 := by omega
            have eM : M = q * b := by rw [← hM]; exact wrap_prod q b hq0 hlt b0 b1
            by_cases hB : 4294967296 * r + u0 < M
            · have hst := hg.step HV.out hr (.inr (by rw [← eM]; exact hB))
              obtain ⟨q', e1⟩ : ∃ q', q - 1 = q' := ⟨_, rfl⟩
              obtain ⟨r', e2⟩ : ∃ r', r + a = r' := ⟨_, rfl⟩
              rw [e1, e2] at hst
              have HG : Hid (Gs _ _ _ _ _ _) := hst.1
              have hq1 : 1 ≤ q := hst.2.1
              have hq2 : q' ≤ 4294967296 := hst.2.2
              have HD : Hid (q'.toNat < q.toNat) := by unfold Hid; omega
              by_cases hC : 4294967296 ≤ r'
              · have hF : Fd R u0 a b q' := HG.out.over HV.out hq2 hC
                clear hst hg HG HD eM
                have HQ := HFIN.out q' hF
                have hpb := hF.lt HV.out
                clear hF
                have HQH : Hid _ := HQ
                clear HQ
                go_wp2
                go_ret2
                exact ⟨⟨_, ret_two HQH.out rfl⟩, rfl⟩
              · have hC' : r' < 4294967296 := by omega
                clear hst hg eM
                go_wp2
                go_round
                case rel => exact ⟨q', r', rfl, rfl, HG.out, hC'⟩
                case measure => simp only [intOf]; exact HD.out
            · have hF : Fd R u0 a b q := hg.found HV.out (by rw [← eM]; omega)
              clear hg eM
              have HQ := HFIN.out q hF
              have hpb := hF.lt HV.out
              clear hF
              have HQH : Hid _ := HQ
              clear HQ
              go_wp2
              go_ret2
              exact ⟨⟨_, ret_two HQH.out rfl⟩, rfl⟩
end Go.Proofs.Yticopomchoahnaa
/-
  Contract of nat.guessLimb.
-/
namespace Go.Proofs.Yticopomchoahnaa
open Go.RowKit
set_option linter.unusedVariables false
set_option linter.unusedSimpArgs false

set_option maxHeartbeats 1000000 in
theorem div64_any (hi lo y : Int) (w : World) (h0 : 0 ≤ hi) (h1 : hi < y) (l0 : 0 ≤ lo) (l1 : lo < 18446744073709551616) (y0 : 9223372036854775808 ≤ y) (y1 : y < 18446744073709551616) :
    Calls Try.prog 137 #[.int .u64 hi, .int .u64 lo, .int .u64 y] w fun e w' => ∃ r, e = .returned (.tuple #[.int .u64 ((hi * 18446744073709551616 + lo) / y), .int .u64 r]) ∧ Drew w w' := by
  by_cases h : hi = 0
  · subst h
    rw [Int.zero_mul, Int.zero_add]
    have e1 : (y == 0) = false := by simp; omega
    go_enter Try.func137, Try.ntmps137
    go_wp2
    go_quiet (fail)
    go_wp2
    go_ret2
    exact ⟨_, rfl, ⟨nq, rfl⟩⟩
  · refine (div64_hi hi lo y w (by omega) h1 l0 l1 y0 y1).mono ?_
    rintro e w' ⟨r, rfl, rfl⟩
    exact ⟨r, rfl, Drew.refl _⟩

/-- A guess. -/
def gss (hi lo y : Int) : Int := if y ≤ hi then 18446744073709551615 else (hi * 18446744073709551616 + lo) / y

set_option maxHeartbeats 1000000 in
/-- nat.guessLimb. -/
theorem guessLimb_any (hi lo y : Int) (w : World) (h0 : 0 ≤ hi) (l0 : 0 ≤ lo) (l1 : lo < 18446744073709551616) (y0 : 9223372036854775808 ≤ y) (y1 : y < 18446744073709551616) :
    Calls Try.prog 134 #[.int .u64 hi, .int .u64 lo, .int .u64 y] w fun e w' => e = .returned (.int .u64 (gss hi lo y)) ∧ Drew w w' := by
  by_cases h : y ≤ hi
  · have HG : Hid (gss hi lo y = 18446744073709551615) := by unfold Hid gss; rw [if_pos h]
    go_enter Try.func134, Try.ntmps134
    go_wp2
    go_ret
    exact ⟨ret_int HG.out.symm, Drew.refl _⟩
  · have HG : Hid (gss hi lo y = (hi * 18446744073709551616 + lo) / y) := by unfold Hid gss; rw [if_neg h]
    have h' : hi < y := by omega
    have HD := div64_any hi lo y w h0 h' l0 l1 y0 y1
    generalize (hi * 18446744073709551616 + lo) / y = g at *
    clear h
    go_enter Try.func134, Try.ntmps134
    go_wp2_with (go_at_call 137; refine HD.mono ?_; rintro e w' ⟨r, rfl, hd⟩)
    go_ret
    exact ⟨ret_int HG.out.symm, by assumption⟩
end Go.Proofs.Yticopomchoahnaa
/-
  Contract of nat.divLimb: how often the divisor is in what is left, and what is left of it then, in its place.
-/
namespace Go.Proofs.Yticopomchoahnaa
open Go.RowKit
set_option linter.unusedVariables false
set_option linter.unusedSimpArgs false
attribute [local go_sem ↓] Go.wp_at_zero Go.wp_at_succ

/-- The guess by the greatest limbs is not too small, and at most 2 too great. -/
theorem guess_bounds (P ll ld xn x v L D : Int) (hP : 0 < P) (hl : 0 ≤ ll ∧ ll < P) (hd : 0 ≤ ld ∧ ld < P) (hx : 0 ≤ x ∧ x < 18446744073709551616) (hxn : 0 ≤ xn) (hv : 9223372036854775808 ≤ v ∧ v < 18446744073709551616)
    (eL : L = ll + P * (xn * 18446744073709551616 + x)) (eD : D = ld + P * v) (hlt : L < 18446744073709551616 * D) :
    L / D ≤ gss xn x v ∧ gss xn x v ≤ L / D + 2 ∧ 0 ≤ gss xn x v ∧ gss xn x v < 18446744073709551616 := by
  have hPv : 0 < P * v := Int.mul_pos hP (by omega)
  have hD : 0 < D := by omega
  have hS : 0 ≤ xn * 18446744073709551616 + x := by omega
  have hL0 : 0 ≤ L := by
    have := Int.mul_nonneg (show 0 ≤ P by omega) hS
    omega
  have hq : L / D < 18446744073709551616 := Int.ediv_lt_of_lt_mul hD hlt
  have hq0 : 0 ≤ L / D := Int.ediv_nonneg hL0 (by omega)
  have hG : 0 ≤ gss xn x v ∧ gss xn x v ≤ 18446744073709551615 ∧ gss xn x v * v ≤ xn * 18446744073709551616 + x := by
    unfold gss
    split
    · rename_i h
      exact ⟨by omega, by omega, by omega⟩
    · rename_i h
      refine ⟨Int.ediv_nonneg hS (by omega), ?_, Int.ediv_mul_le _ (by omega)⟩
      have : (xn * 18446744073709551616 + x) / v < 18446744073709551616 := Int.ediv_lt_of_lt_mul (by omega) (by omega)
      omega
  refine ⟨?_, ?_, hG.1, by omega⟩
  · unfold gss
    split
    · omega
    · apply (Int.le_ediv_iff_mul_le (by omega)).2
      have h1 : L / D * D ≤ L := Int.ediv_mul_le L (by omega)
      have h2 : L / D * (P * v) ≤ L / D * D := Int.mul_le_mul_of_nonneg_left (by omega) hq0
      have h3 : P * (L / D * v) < P * (xn * 18446744073709551616 + x + 1) := by
        have : P * (L / D * v) = L / D * (P * v) := by grind
        rw [this, Int.mul_add]; omega
      have := Int.lt_of_mul_lt_mul_left h3 (by omega)
      omega
  · generalize gss xn x v = G at *
    have h1 : G * ld ≤ 18446744073709551615 * P := Int.mul_le_mul hG.2.1 (by omega) hd.1 (by omega)
    have h2 : P * (G * v) ≤ P * (xn * 18446744073709551616 + x) := Int.mul_le_mul_of_nonneg_left hG.2.2 (by omega)
    have h3 : P * 18446744073709551616 ≤ P * (2 * v) := Int.mul_le_mul_of_nonneg_left (by omega) (by omega)
    have h4 : G * D = G * ld + P * (G * v) := by rw [eD]; grind
    have h5 : P * (2 * v) = 2 * (P * v) := by grind
    have h6 : (G - 2) * D ≤ L := by
      rw [Int.sub_mul, h4]
      omega
    have := (Int.le_ediv_iff_mul_le hD).2 h6
    omega

/-- What stands in the row: G divisors have been taken away; t is the limb above, were it not cut. -/
def Dls (xs : List Int) (L D : Int) (o n : Nat) (cur : List Int) (G t : Int) : Prop :=
  cur.length = xs.length ∧ (∀ j, j < o ∨ o + n < j → cur.getD j 0 = xs.getD j 0) ∧ Dg B64 cur ∧ cur.getD (o + n) 0 = t % 18446744073709551616 ∧
    val B64 (seg cur o n) + B64 ^ n * t = L - G * D ∧ L / D ≤ G ∧ G ≤ L / D + 2
theorem Dls.range {xs : List Int} {L D : Int} {o n : Nat} {cur : List Int} {G t : Int} (h : Dls xs L D o n cur G t) (hD0 : 0 < D) (hD : D < B64 ^ n) (hL : 0 ≤ L) (ho : o + n < xs.length) : -2 ≤ t ∧ t ≤ 0 := by
  obtain ⟨h1, h2, h3, h4, h5, h6, h7⟩ := h
  have hs : Dg B64 (seg cur o n) := (h3.drop o).take n
  have v0 := val_nonneg B64_pos hs
  have v1 := val_lt B64_pos hs
  rw [seg_len cur o n (by omega)] at v1
  have e := Int.mul_ediv_add_emod L D
  have r0 := Int.emod_nonneg L (show D ≠ 0 by omega)
  have r1 := Int.emod_lt_of_pos L hD0
  have m1 : D * (L / D) ≤ D * G := Int.mul_le_mul_of_nonneg_left h6 (by omega)
  have m2 : D * G ≤ D * (L / D + 2) := Int.mul_le_mul_of_nonneg_left h7 (by omega)
  rw [Int.mul_add] at m2
  rw [Int.mul_comm G D] at h5
  have hp : 0 < B64 ^ n := Int.pow_pos B64_pos
  generalize B64 ^ n = p at *
  generalize val B64 (seg cur o n) = V at *
  generalize D * (L / D) = Q at *
  generalize D * G = W at *
  constructor
  · have : p * (-3) < p * t := by omega
    have := Int.lt_of_mul_lt_mul_left this (by omega)
    omega
  · have : p * t < p * 1 := by omega
    have := Int.lt_of_mul_lt_mul_left this (by omega)
    omega
/-- No limb above: done. -/
theorem Dls.done {xs : List Int} {L D : Int} {o n : Nat} {cur : List Int} {G t : Int} (h : Dls xs L D o n cur G t) (hD0 : 0 < D) (hD : D < B64 ^ n) (hL : 0 ≤ L) (ho : o + n < xs.length) (hz : cur.getD (o + n) 0 = 0) :
    G = L / D ∧ val B64 (seg cur o (n + 1)) = L % D := by
  have ht := h.range hD0 hD hL ho
  obtain ⟨h1, h2, h3, h4, h5, h6, h7⟩ := h
  have t0 : t = 0 := by omega
  have hs : Dg B64 (seg cur o n) := (h3.drop o).take n
  have v0 := val_nonneg B64_pos hs
  rw [t0, Int.mul_zero, Int.add_zero] at h5
  have : G ≤ L / D := (Int.le_ediv_iff_mul_le hD0).2 (by omega)
  have hG : G = L / D := by omega
  refine ⟨hG, ?_⟩
  rw [seg_succ _ _ _ (by omega), val_append, hz]
  simp only [val, Int.mul_zero, Int.add_zero]
  rw [h5, hG, Int.emod_def, Int.mul_comm]
/-- A limb above: the guess was too great. -/
theorem Dls.more {xs : List Int} {L D : Int} {o n : Nat} {cur : List Int} {G t : Int} (h : Dls xs L D o n cur G t) (hD0 : 0 < D) (hD : D < B64 ^ n) (hL : 0 ≤ L) (ho : o + n < xs.length) (hz : cur.getD (o + n) 0 ≠ 0) : L / D < G := by
  obtain ⟨h1, h2, h3, h4, h5, h6, h7⟩ := h
  by_cases hG : G = L / D
  · exfalso
    have hs : Dg B64 (seg cur o n) := (h3.drop o).take n
    have v0 := val_nonneg B64_pos hs
    have v1 := val_lt B64_pos hs
    rw [seg_len cur o n (by omega)] at v1
    have e := Int.mul_ediv_add_emod L D
    have r0 := Int.emod_nonneg L (show D ≠ 0 by omega)
    have r1 := Int.emod_lt_of_pos L hD0
    rw [hG, Int.mul_comm (L / D) D] at h5
    have hp : 0 < B64 ^ n := Int.pow_pos B64_pos
    generalize B64 ^ n = p at *
    generalize val B64 (seg cur o n) = V at *
    generalize D * (L / D) = Q at *
    have a : p * (-1) < p * t := by omega
    have a := Int.lt_of_mul_lt_mul_left a (by omega)
    have b : p * t < p * 1 := by omega
    have b := Int.lt_of_mul_lt_mul_left b (by omega)
    have : t = 0 := by omega
    rw [this] at h4
    exact hz h4
  · omega
/-- Behind subTimes and the limb above. -/
theorem Dls.start {xs ds : List Int} {o n : Nat} {cur : List Int} {G c : Int} (hr : Runs (-1) xs ds o n G cur c) (hn : ds.length = n) (ho : o + n < xs.length) {L D : Int} (eL : L = val B64 (seg xs o (n + 1))) (eD : D = val B64 ds)
    (g1 : L / D ≤ G) (g2 : G ≤ L / D + 2) : Dls xs L D o n (cur.set (o + n) (IntKind.u64.wrap (xs.getD (o + n) 0 - c))) G (xs.getD (o + n) 0 - c) := by
  obtain ⟨r1, r2, r3, r4, r5, r6⟩ := hr
  rw [IntKind.wrap_u64]
  refine ⟨by simp [r1], fun j hj => ?_, r3.set _ ⟨by omega, by unfold B64; omega⟩, ?_, ?_, g1, g2⟩
  · rw [getD_set _ _ _ _ (by omega), if_neg (by omega)]
    exact r2 j (by omega)
  · rw [getD_set _ _ _ _ (by omega), if_pos rfl]
  · rw [seg_set, eL, eD, seg_succ xs o n ho, val_append, seg_len xs o n (by omega)]
    simp only [val, Int.mul_zero, Int.add_zero]
    rw [← hn, List.take_of_length_le (Nat.le_refl _)] at r6
    rw [← hn]
    generalize val B64 (seg cur o ds.length) = A at *
    generalize val B64 (seg xs o ds.length) = X at *
    generalize val B64 ds = Y at *
    generalize B64 ^ ds.length = p at *
    generalize xs.getD (o + ds.length) 0 = x at *
    grind
/-- Behind addTimes and the limb above. -/
theorem Dls.step {xs ds : List Int} {o n : Nat} {cur cur' : List Int} {G t c L D : Int} (h : Dls xs L D o n cur G t) (hr : Runs 1 cur ds o n 1 cur' c) (hn : ds.length = n) (ho : o + n < xs.length) (eD : D = val B64 ds) (hG : L / D < G) :
    Dls xs L D o n (cur'.set (o + n) (IntKind.u64.wrap (cur.getD (o + n) 0 + c))) (G - 1) (t + c) := by
  obtain ⟨h1, h2, h3, h4, h5, h6, h7⟩ := h
  obtain ⟨r1, r2, r3, r4, r5, r6⟩ := hr
  rw [IntKind.wrap_u64]
  refine ⟨by simp [r1, h1], fun j hj => ?_, r3.set _ ⟨by omega, by unfold B64; omega⟩, ?_, ?_, by omega, by omega⟩
  · rw [getD_set _ _ _ _ (by omega), if_neg (by omega), r2 j (by omega)]
    exact h2 j hj
  · rw [getD_set _ _ _ _ (by omega), if_pos rfl, h4]
    omega
  · rw [seg_set]
    rw [← hn, List.take_of_length_le (Nat.le_refl _)] at r6
    rw [← hn] at h5 ⊢
    rw [← eD] at r6
    generalize val B64 (seg cur o ds.length) = A at *
    generalize val B64 (seg cur' o ds.length) = X at *
    generalize B64 ^ ds.length = p at *
    grind

/-- A divisor whose greatest bit is set. -/
structure Dv (w : World) (ao : Option Addr) (n : Nat) (ds : List Int) : Prop where
  lies : Lies .u64 w ao n ds
  dg : Dg B64 ds
  pos : 0 < n
  big : 9223372036854775808 ≤ ds.getD (n - 1) 0
theorem Dv.range {w : World} {ao : Option Addr} {n : Nat} {ds : List Int} (h : Dv w ao n ds) : 0 < val B64 ds ∧ val B64 ds < B64 ^ n := by
  have hl := h.lies.len
  have hp := h.pos
  have hb := h.big
  have ht : top ds = (n - 1) + 1 := by
    rw [show n - 1 + 1 = n by omega]
    exact top_eq ds n (fun j h1 h2 => by omega) (.inr (by omega))
  have a := val_ge B64_pos h.dg (n - 1) ht
  have b := val_lt B64_pos h.dg
  have c : (0 : Int) < B64 ^ (n - 1) := Int.pow_pos B64_pos
  rw [hl] at b
  exact ⟨by omega, b⟩
theorem split_top (xs : List Int) (o n : Nat) (hn : 0 < n) (h : o + n ≤ xs.length) : val B64 (seg xs o n) = val B64 (seg xs o (n - 1)) + B64 ^ (n - 1) * xs.getD (o + (n - 1)) 0 := by
  have e : n = (n - 1) + 1 := by omega
  conv => lhs; rw [e]
  rw [seg_succ _ _ _ (by omega), val_append, seg_len _ _ _ (by omega)]
  simp [val]
theorem pow_pred (n : Nat) (h : 0 < n) : B64 ^ n = B64 ^ (n - 1) * B64 := by
  obtain ⟨m, rfl⟩ : ∃ m, n = m + 1 := ⟨n - 1, by omega⟩
  rw [Nat.add_sub_cancel, Int.pow_succ]
/-- The guess of divLimb. -/
theorem Dv.guess {w : World} {ao : Option Addr} {n : Nat} {ds xs : List Int} (h : Dv w ao n ds) (hx : Dg B64 xs) (o : Nat) (ho : o + n < xs.length) (hlt : val B64 (seg xs o (n + 1)) < 18446744073709551616 * val B64 ds) :
    val B64 (seg xs o (n + 1)) / val B64 ds ≤ gss (xs.getD (o + n) 0) (xs.getD (o + (n - 1)) 0) (ds.getD (n - 1) 0) ∧
    gss (xs.getD (o + n) 0) (xs.getD (o + (n - 1)) 0) (ds.getD (n - 1) 0) ≤ val B64 (seg xs o (n + 1)) / val B64 ds + 2 ∧
    0 ≤ gss (xs.getD (o + n) 0) (xs.getD (o + (n - 1)) 0) (ds.getD (n - 1) 0) ∧ gss (xs.getD (o + n) 0) (xs.getD (o + (n - 1)) 0) (ds.getD (n - 1) 0) < 18446744073709551616 := by
  have hl := h.lies.len
  have hp := h.pos
  have e1 := split_top xs o (n + 1) (by omega) (by omega)
  have e2 := split_top xs o n hp (by omega)
  have e3 := split_top ds 0 n hp (by omega)
  have e4 : seg ds 0 n = ds := by unfold seg; rw [List.drop_zero, List.take_of_length_le (by omega)]
  rw [e4] at e3
  simp only [Nat.add_sub_cancel, Nat.zero_add] at e1 e3
  rw [e2] at e1
  have eB : B64 ^ n = B64 ^ (n - 1) * B64 := pow_pred n hp
  have l0 := val_nonneg B64_pos ((hx.drop o).take (n - 1))
  have l1 := val_lt B64_pos ((hx.drop o).take (n - 1))
  have d0 := val_nonneg B64_pos ((h.dg.drop 0).take (n - 1))
  have d1 := val_lt B64_pos ((h.dg.drop 0).take (n - 1))
  have s1 := seg_len xs o (n - 1) (by omega)
  have s2 := seg_len ds 0 (n - 1) (by omega)
  unfold seg at s1 s2
  rw [s1] at l1
  rw [s2] at d1
  refine guess_bounds (B64 ^ (n - 1)) (val B64 (seg xs o (n - 1))) (val B64 (seg ds 0 (n - 1))) _ _ _ _ _ (Int.pow_pos B64_pos) ⟨l0, l1⟩ ⟨d0, d1⟩ (hx.getD B64_pos _) (hx.getD B64_pos _).1 ⟨h.big, (h.dg.getD B64_pos _).2⟩ ?_ e3 hlt
  rw [e1, eB]
  have e5 : B64 = 18446744073709551616 := rfl
  generalize B64 ^ (n - 1) = p at *
  rw [e5]
  grind

end Go.Proofs.Yticopomchoahnaa
/-
  Contract of nat.divLimb.
-/
namespace Go.Proofs.Yticopomchoahnaa
open Go.RowKit
set_option linter.unusedVariables false
set_option linter.unusedSimpArgs false
attribute [local go_sem ↓] Go.wp_at_zero Go.wp_at_succ

/-- What divLimb leaves. -/
def DlOut (e : TypeId) (g o n : Nat) (xs : List Int) (L D : Int) (w w' : World) (G : Int) : Prop :=
  ∃ cur, Row e .u64 w' g cur ∧ cur.length = xs.length ∧ Dg B64 cur ∧ (∀ j, j < o ∨ o + n < j → cur.getD j 0 = xs.getD j 0) ∧ G = L / D ∧ val B64 (seg cur o (n + 1)) = L % D ∧ w.grownBy w' (some g)

set_option maxHeartbeats 4000000 in
/-- nat.divLimb. -/
theorem divLimb_any (e : TypeId) (g o m cl cd : Nat) (ao : Option Addr) (xs ds : List Int) (w : World) (hr : Row e .u64 w g xs) (hx : Dg B64 xs) (hd : Dv w ao (m + 1) ds) (hne : ∀ b off s, ao = some ⟨b, off, s⟩ → b ≠ g)
    (ho : o + (m + 1) < xs.length) (hs : xs.length ≤ 1073741824) (L D : Int) (eL : L = val B64 (seg xs o (m + 1 + 1))) (eD : D = val B64 ds) (hlt : L < 18446744073709551616 * D) :
    Calls Try.prog 129 #[.slice (some ⟨g, o, none⟩) (m + 1 + 1) cl, .slice ao (m + 1) cd] w fun e' w' => ∃ G, e' = .returned (.int .u64 G) ∧ DlOut e g o (m + 1) xs L D w w' G := by
  have hl := hd.lies.len
  obtain ⟨g1, g2, g3, g4⟩ := hd.guess hx o ho (by rw [← eL, ← eD]; exact hlt)
  have hdv := hd.range
  have hL0 : 0 ≤ L := by rw [eL]; exact val_nonneg B64_pos ((hx.drop o).take (m + 1 + 1))
  rw [← eD] at hdv
  rw [← eL, ← eD] at g1 g2
  obtain ⟨b, off, rfl, hblk, hc⟩ := hd.lies.at (by omega)
  have hcd := hc m (by omega)
  have hcx := hr.cell (o + (m + 1)) (by omega)
  have hcx1 := hr.cell (o + m) (by omega)
  have gx := hx.getD B64_pos (o + (m + 1))
  have gx1 := hx.getD B64_pos (o + m)
  have gd := hd.dg.getD B64_pos m
  have hbig := hd.big
  simp only [Nat.add_sub_cancel] at g1 g2 g3 g4 hbig
  have HGS := fun w => guessLimb_any (xs.getD (o + (m + 1)) 0) (xs.getD (o + m) 0) (ds.getD m 0) w gx.1 gx1.1 gx1.2 hbig gd.2
  have HSUB := fun w hw hl' => subTimes_any e g o (m + 1 + 1) cl (some ⟨b, off, none⟩) (m + 1) cd xs ds (gss (xs.getD (o + (m + 1)) 0) (xs.getD (o + m) 0) (ds.getD m 0)) w hw hl' (fun _ => hne) (by omega) (by omega) (by unfold maxLen; omega) hx hd.dg g3 g4
  have HSTART := fun cur c hrn => Dls.start (xs := xs) (ds := ds) (o := o) (n := m + 1) (cur := cur) (c := c) hrn hl ho eL eD g1 g2
  have HADD : Hid (∀ cur w, cur.length = xs.length → Dg B64 cur → Row e .u64 w g cur → Lies .u64 w (some ⟨b, off, none⟩) (m + 1) ds →
      Calls Try.prog 124 #[.slice (some ⟨g, o, none⟩) (m + 1 + 1) cl, .slice (some ⟨b, off, none⟩) (m + 1) cd, .int .u64 1] w fun e' w' => ∃ cur' c, e' = .returned (.int .u64 c) ∧ Row e .u64 w' g cur' ∧ Runs 1 cur ds o (m + 1) 1 cur' c ∧ w.grownBy w' (some g)) :=
    fun cur w hlen hdg hw hl' => addTimes_any e g o (m + 1 + 1) cl (some ⟨b, off, none⟩) (m + 1) cd cur ds 1 w hw hl' (fun _ => hne) (by omega) (by omega) (by unfold maxLen; omega) hdg hd.dg (by decide) (by decide)
  have hbne : some b ≠ some g := by have := hne b off none rfl; simp; omega
  generalize hxn : xs.getD (o + (m + 1)) 0 = xn at *
  generalize xs.getD (o + m) 0 = x1 at *
  generalize ds.getD m 0 = dn at *
  generalize gss xn x1 dn = G at *
  have hmb : m < 1073741824 := by omega
  have HR : Hid (Row e .u64 w g xs) := hr
  have HLD : Hid (Lies .u64 w (some ⟨b, off, none⟩) (m + 1) ds) := hd.lies
  have HDG : Hid (Dg B64 ds) := hd.dg
  have HST : Hid (∀ cur c, Runs (-1) xs ds o (m + 1) G cur c → Dls xs L D o (m + 1) (cur.set (o + (m + 1)) (IntKind.u64.wrap (xn - c))) G (xn - c)) := HSTART
  have HDV : Hid (0 < D ∧ D < B64 ^ (m + 1)) := hdv
  have HL0 : Hid (0 ≤ L) := hL0
  have HED : Hid (D = val B64 ds) := eD
  have HLEN : Hid (ds.length = m + 1) := hl
  have HXN : Hid (xs.getD (o + (m + 1)) 0 = xn) := hxn
  clear hc eL eD hxn hr hx hd hne HSTART gx gx1 gd hbig hlt g1 g2 hdv hL0 hl
  go_enter Try.func129, Try.ntmps129
  go_wp2
  go_quiet ((go_at_call 134; exact Calls.quiet_of (HGS _)))
  obtain ⟨w1, hw1⟩ : ∃ w1, w1 = w.drewN nq := ⟨_, rfl⟩
  rw [← hw1]
  have hcx' : w1.cell? ⟨g, o + (m + 1), none⟩ = some (.int .u64 xn) := by rw [hw1]; exact hcx
  have HR1 : Hid (Row e .u64 w1.drew g xs) := by rw [hw1]; exact HR.out
  have HLD1 : Hid (Lies .u64 w1.drew (some ⟨b, off, none⟩) (m + 1) ds) := by rw [hw1]; exact HLD.out
  have HGR1 : Hid (w.grownBy w1.drew (some g)) := by rw [hw1]; exact ⟨rfl, rfl, rfl, Nat.le_refl _, fun _ _ _ => rfl⟩
  have HSUB1 := HSUB w1.drew HR1.out HLD1.out
  clear hw1 hcx hcx1 hcd HGS HSUB
  go_wp2
  go_region_with (first | (go_at_call 135; refine HSUB1.mono ?_; rintro e2 w4 ⟨cur', c, rfl, hrow', hrun', hgr'⟩; have hcx4 := (hrow'.cell (o + (m + 1)) (by have := hrun'.1; omega)).trans (congrArg (fun z => some (Value.int IntKind.u64 z)) ((hrun'.2.1 (o + (m + 1)) (.inr (Nat.le_refl _))).trans HXN.out)); have hfr4 := hrow'.frozen (o + (m + 1))))
  all_goals
    have HRW : Hid (Row e .u64 (w4.setCell ⟨g, o + (m + 1), none⟩ (.int .u64 (IntKind.u64.wrap (xn - c)))) g (cur'.set (o + (m + 1)) (IntKind.u64.wrap (xn - c)))) := hrow'.set _ _
    have HDL := HST.out cur' c hrun'
    have HGR : Hid (w.grownBy (w4.setCell ⟨g, o + (m + 1), none⟩ (.int .u64 (IntKind.u64.wrap (xn - c)))) (some g)) := grown_trans (grown_trans HGR1.out hgr') (grown_set _ _ _ _)
    have HDLH : Hid (Dls _ _ _ _ _ _ _ _) := HDL
    generalize w4.setCell ⟨g, o + (m + 1), none⟩ (.int .u64 (IntKind.u64.wrap (xn - c))) = w5 at *
    clear hrow' hrun' hgr' hcx4 hfr4 HDL HST HSUB1 HR1 HLD1 HGR1 hcx'
    go_wp2
    go_loopw [6] (fun v wr => ∃ (G t : Int) (cur : List Int), v = .int .u64 G ∧ 0 ≤ G ∧ G < 18446744073709551616 ∧ Row e .u64 wr g cur ∧ Dls xs L D o (m + 1) cur G t ∧ w.grownBy wr (some g)) (fun v _ => (intOf v).toNat)
    case atStart => exact ⟨_, _, _, rfl, g3, g4, HRW.out, HDLH.out, HGR.out⟩
    case round =>
      obtain ⟨G2, t, cur, rfl, gg0, gg1, hrw, hdl, hgw⟩ := hrel
      have hcl := hrw.cell (o + (m + 1)) (by have := hdl.1; omega)
      have hcl' : wr.drew.cell? ⟨g, o + (m + 1), none⟩ = some (.int .u64 (cur.getD (o + (m + 1)) 0)) := hcl
      by_cases hz : cur.getD (o + (m + 1)) 0 = 0
      · have hdn := hdl.done HDV.out.1 HDV.out.2 HL0.out ho hz
        have HF : Hid (DlOut e g o (m + 1) xs L D w wr G2) := ⟨cur, hrw, hdl.1, hdl.2.2.1, hdl.2.1, hdn.1, hdn.2, hgw⟩
        rw [hz] at hcl
        clear hcl' hdn hrw hdl hgw hz
        go_wp2
        go_ret
        exact ⟨_, rfl, HF.out⟩
      · have hmore := hdl.more HDV.out.1 HDV.out.2 HL0.out ho hz
        have hq0 : 0 ≤ L / D := Int.ediv_nonneg HL0.out (by have := HDV.out.1; omega)
        have hG1 : 1 ≤ G2 := by omega
        have hld : Lies .u64 wr.drew (some ⟨b, off, none⟩) (m + 1) ds := by
          have : Lies .u64 wr (some ⟨b, off, none⟩) (m + 1) ds := HLD.out.kept hgw (fun b' off' s hb' => by injection hb' with hb'; injection hb' with hb'; rw [← hb']; exact hbne)
          exact this
        have HA := HADD.out cur wr.drew hdl.1 hdl.2.2.1 hrw hld
        have HSTEP : Hid (∀ cur' c, Runs 1 cur ds o (m + 1) 1 cur' c → Dls xs L D o (m + 1) (cur'.set (o + (m + 1)) (IntKind.u64.wrap (cur.getD (o + (m + 1)) 0 + c))) (G2 - 1) (t + c)) := fun cur' c hrn => hdl.step hrn HLEN.out ho HED.out hmore
        have HLC : Hid (cur.length = xs.length) := hdl.1
        have HGW : Hid (w.grownBy wr.drew (some g)) := ⟨hgw.os, hgw.tape, hgw.output, hgw.size, hgw.block⟩
        have HZ : Hid (∃ z, z = cur.getD (o + (m + 1)) 0) := ⟨_, rfl⟩
        have hzb : (cur.getD (o + (m + 1)) 0 != 0) = true := by simpa using hz
        have HCD : Hid (∀ cur' : List Int, (∀ j, j < o ∨ o + (m + 1) ≤ j → cur'.getD j 0 = cur.getD j 0) → cur'.getD (o + (m + 1)) 0 = cur.getD (o + (m + 1)) 0) := fun cur' h => h _ (.inr (Nat.le_refl _))
        generalize cur.getD (o + (m + 1)) 0 = z at *
        clear hrw hdl hgw hz hmore hq0 hld HZ
        go_wp2
        go_region_with (first | (go_at_call 124; refine HA.mono ?_; rintro e2 w6 ⟨cur2, c2, rfl, hrow2, hrun2, hgr2⟩; have hcx6 := (hrow2.cell (o + (m + 1)) (by have := hrun2.1; have := HLC.out; omega)).trans (congrArg (fun z => some (Value.int IntKind.u64 z)) (HCD.out cur2 hrun2.2.1)); have hfr6 := hrow2.frozen (o + (m + 1))))
        all_goals
          have HRW2 : Hid (Row e .u64 (w6.setCell ⟨g, o + (m + 1), none⟩ (.int .u64 (IntKind.u64.wrap (z + c2)))) g (cur2.set (o + (m + 1)) (IntKind.u64.wrap (z + c2)))) := hrow2.set _ _
          have HD2 : Hid (Dls _ _ _ _ _ _ _ _) := HSTEP.out cur2 c2 hrun2
          have HGR2 : Hid (w.grownBy (w6.setCell ⟨g, o + (m + 1), none⟩ (.int .u64 (IntKind.u64.wrap (z + c2)))) (some g)) := grown_trans (grown_trans HGW.out hgr2) (grown_set _ _ _ _)
          clear hrow2 hrun2 hgr2 hcx6 hfr6 HSTEP HA HCD
          go_wp2
          go_roundw
          case rel => exact ⟨G2 - 1, _, _, rfl, by omega, by omega, HRW2.out, HD2.out, HGR2.out⟩
          case measure => simp [intOf]; omega
end Go.Proofs.Yticopomchoahnaa
