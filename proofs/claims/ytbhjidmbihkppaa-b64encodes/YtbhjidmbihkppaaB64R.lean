/-
  The document's Encode.
-/
import Derived.Test.YtbhjidmbihkppaaB64T
namespace Go.Proofs.Ytbhjidmbihkppaa
open Go.RowKit
set_option linter.unusedVariables false
set_option linter.unusedSimpArgs false

/-- The document's signs. -/
def signsT : ByteArray := ⟨#[65, 66, 67, 68, 69, 70, 71, 72, 73, 74, 75, 76, 77, 78, 79, 80, 81, 82, 83, 84, 85, 86, 87, 88, 89, 90, 97, 98, 99, 100, 101, 102, 103, 104, 105, 106, 107, 108, 109, 110, 111, 112, 113, 114, 115, 116, 117, 118, 119, 120, 121, 122, 48, 49, 50, 51, 52, 53, 54, 55, 56, 57, 45, 95]⟩
theorem signsT_size : signsT.size = 64 := rfl
theorem signsT_at : ∀ x : Nat, (h : x < 64) → (signsT[x]'h).toNat = sg x := by decide

/-- The first t bits from place 'at' on. -/
def xb (bs : List Nat) (at_ t : Nat) : Nat := be 256 bs * 64 / 2 ^ (8 * bs.length + 6 - at_ - t) % 2 ^ t
theorem xb_zero (bs : List Nat) (a : Nat) : xb bs a 0 = 0 := by simp [xb, Nat.mod_one]
theorem bit_step (Y e t : Nat) : Y / 2 ^ e % 2 ^ (t + 1) = 2 * (Y / 2 ^ (e + 1) % 2 ^ t) + Y / 2 ^ e % 2 := by
  rw [Nat.pow_succ', Nat.mod_mul, Nat.pow_succ, ← Nat.div_div_eq_div_mul]
  omega
theorem xb_succ (bs : List Nat) (a t : Nat) (h : a + t < 8 * bs.length + 6) : xb bs a (t + 1) = 2 * xb bs a t + be 256 bs * 64 / 2 ^ (8 * bs.length + 5 - (a + t)) % 2 := by
  unfold xb
  rw [show 8 * bs.length + 6 - a - (t + 1) = 8 * bs.length + 5 - (a + t) by omega, show 8 * bs.length + 6 - a - t = 8 * bs.length + 5 - (a + t) + 1 by omega]
  exact bit_step _ _ _
theorem xb_six (bs : List Nat) (j : Nat) (h : 6 * j < 8 * bs.length) : xb bs (6 * j) 6 = sx bs j := by
  unfold xb sx
  rw [show 8 * bs.length + 6 - 6 * j - 6 = 8 * bs.length - 6 * j by omega]
theorem xb_lt (bs : List Nat) (a t : Nat) : xb bs a t < 2 ^ t := Nat.mod_lt _ (Nat.two_pow_pos t)
theorem low_bit (Y a b : Nat) (h : b < a) : Y % 2 ^ a / 2 ^ b % 2 = Y / 2 ^ b % 2 := by
  rw [show a = b + (a - b) by omega, Nat.pow_add, Nat.mod_mul_right_div_self, Nat.mod_mod_of_dvd]
  exact Nat.pow_dvd_pow 2 (show 1 ≤ a - b by omega)
/-- A bit of the bytes. -/
theorem bit_in {bs : List Nat} (h : ∀ x ∈ bs, x < 256) (i : Nat) (hi : i < 8 * bs.length) : be 256 bs * 64 / 2 ^ (8 * bs.length + 5 - i) % 2 = bs.getD (i / 8) 0 / 2 ^ (7 - i % 8) % 2 := by
  have e := be_dig h (i / 8) (by omega)
  rw [← e]
  generalize be 256 bs = V
  rw [p256, show (256 : Nat) = 2 ^ 8 by rfl, low_bit _ 8 _ (by omega), Nat.div_div_eq_div_mul, ← Nat.pow_add]
  rw [show 8 * bs.length + 5 - i = (8 * (bs.length - 1 - i / 8) + (7 - i % 8)) + 6 by omega, Nat.pow_add (n := 6), show (64 : Nat) = 2 ^ 6 by rfl, Nat.mul_div_mul_right _ _ (by decide : 0 < 2 ^ 6)]
/-- A bit of the filling. -/
theorem bit_out (bs : List Nat) (i : Nat) (h0 : 8 * bs.length ≤ i) (h1 : i < 8 * bs.length + 6) : be 256 bs * 64 / 2 ^ (8 * bs.length + 5 - i) % 2 = 0 := by
  obtain ⟨e, he⟩ : ∃ e, 8 * bs.length + 5 - i = e := ⟨_, rfl⟩
  rw [he, show (64 : Nat) = 2 ^ (5 - e) * 2 * 2 ^ e by rw [← Nat.pow_succ, ← Nat.pow_add, show (5 - e).succ + e = 6 by omega], ← Nat.mul_assoc, Nat.mul_div_cancel _ (Nat.two_pow_pos e), ← Nat.mul_assoc, Nat.mul_mod_left]

/-- The signs as numbers. -/
def encI (bs : List Nat) (m : Nat) : List Int := (List.range m).map fun j => ((sg (sx bs j) : Nat) : Int)
theorem encI_zero (bs : List Nat) : encI bs 0 = [] := rfl
theorem encI_succ (bs : List Nat) (m : Nat) : encI bs (m + 1) = encI bs m ++ [((sg (sx bs m) : Nat) : Int)] := by simp [encI, List.range_succ]
theorem encI_length (bs : List Nat) (m : Nat) : (encI bs m).length = m := by simp [encI]
theorem encI_dg (bs : List Nat) (m : Nat) : Dg 256 (encI bs m) := by
  intro x hx
  obtain ⟨j, _, rfl⟩ := List.mem_map.1 hx
  have := (sg_facts (sx bs j) (Nat.mod_lt _ (by decide))).2.2
  omega
theorem encI_txt (bs : List Nat) : strOfNums (encI bs ((8 * bs.length + 5) / 6)) = txt bs := by
  unfold strOfNums txt encT encI encL
  congr 2
  simp only [List.map_map]
  apply List.map_congr_left
  intro j hj
  simp [Nat.toUInt8]

set_option maxHeartbeats 2000000 in
/-- The document's Encode. -/
theorem rEnc_any (ao : Option Addr) (len cap : Nat) (xs : List Int) (w : World) (h : NumIn .u8 256 w ao len cap xs) (hl : len ≤ 100000) :
    Calls Try.prog 10 #[.slice ao len cap] w fun e w' => e = .returned (.string (txt (nats xs))) ∧ Below w.heap.size w w' := by
  obtain ⟨bs, hbs⟩ : ∃ bs, nats xs = bs := ⟨_, rfl⟩
  have HB : Hid ((∀ x ∈ bs, x < 256) ∧ bs.length = len ∧ ∀ i, i < len → xs.getD i 0 = ((bs.getD i 0 : Nat) : Int)) := by
    subst hbs
    refine ⟨nats_lt h.dg, by rw [nats_length, h.len], fun i hi => ?_⟩
    have hi' : i < xs.length := by rw [h.len]; exact hi
    have := h.dg xs[i] (List.getElem_mem hi')
    simp [nats, List.getD, hi']
    omega
  rw [hbs]
  clear hbs
  go_enter Try.func10, Try.ntmps10
  go_wp2
  rw [show (⟨#[65, 66, 67, 68, 69, 70, 71, 72, 73, 74, 75, 76, 77, 78, 79, 80, 81, 82, 83, 84, 85, 86, 87, 88, 89, 90, 97, 98, 99, 100, 101, 102, 103, 104, 105, 106, 107, 108, 109, 110, 111, 112, 113, 114, 115, 116, 117, 118, 119, 120, 121, 122, 48, 49, 50, 51, 52, 53, 54, 55, 56, 57, 45, 95]⟩ : ByteArray) = signsT from rfl]
  have hS := signsT_size
  have HSA : Hid (∀ x : Nat, (h : x < signsT.size) → (signsT[x]'h).toNat = sg x) := fun x h => signsT_at x h
  generalize signsT = S at *
  go_loopw [4, 5] (fun v va wr => ∃ m : Nat, 6 * m ≤ 8 * len + 5 ∧ va = .int .i64 ((6 * m : Nat) : Int) ∧ Own 5 .u8 wr w.heap.size v (encI bs m) ∧ Below w.heap.size w wr) (fun _ va _ => 8 * len + 6 - (intOf va).toNat)
  case atStart => exact ⟨0, by omega, rfl, Own.nil _ _ _ _, Below.refl _ _⟩
  case round =>
    obtain ⟨m, hm, rfl, hown, hbw⟩ := hrel
    obtain ⟨a, ha⟩ : ∃ a, 6 * m = a := ⟨_, rfl⟩
    rw [ha]
    by_cases hlt : a < 8 * len
    · have hltI : (a : Int) < 8 * (len : Int) := by omega
      have HW : Hid (Own 5 .u8 wr w.heap.size u4 (encI bs m) ∧ Below w.heap.size w wr ∧ 6 * m = a) := ⟨hown, hbw, ha⟩
      have hab : a ≤ 800005 := by omega
      clear hown hbw ha hm
      go_wp2
      generalize wr = wo at *
      go_loopw [6, 7] (fun vx vi wr => ∃ t : Nat, t ≤ 6 ∧ vi = .int .i64 ((a + t : Nat) : Int) ∧ vx = .int .i64 ((xb bs a t : Nat) : Int) ∧ wr = wo) (fun _ vi _ => a + 6 - (intOf vi).toNat)
      case atStart => exact ⟨0, by omega, rfl, by rw [xb_zero]; rfl, rfl⟩
      case round =>
        obtain ⟨t, ht, rfl, rfl, rfl⟩ := hrel
        by_cases ht6 : t < 6
        · obtain ⟨i, hi⟩ : ∃ i, a + t = i := ⟨_, rfl⟩
          have hsucc := xb_succ bs a t (by rw [HB.out.2.1]; omega)
          have hxl := xb_lt bs a t
          have hp6 : 2 ^ t ≤ 2 ^ 5 := Nat.pow_le_pow_right (by decide) (by omega)
          rw [hi] at hsucc ⊢
          obtain ⟨X, hX⟩ : ∃ X, xb bs a t = X := ⟨_, rfl⟩
          rw [hX] at hsucc hxl ⊢
          have hX32 : X < 32 := by omega
          have hia : (i : Int) < (a : Int) + 6 := by omega
          have hib : i ≤ 800010 := by omega
          by_cases hin : i < 8 * len
          · have hinI : (i : Int) < 8 * (len : Int) := by omega
            rw [bit_in HB.out.1 i (by rw [HB.out.2.1]; exact hin)] at hsucc
            obtain ⟨q, hq⟩ : ∃ q, i / 8 = q := ⟨_, rfl⟩
            obtain ⟨r, hr⟩ : ∃ r, i % 8 = r := ⟨_, rfl⟩
            obtain ⟨e, he⟩ : ∃ e, 7 - r = e := ⟨_, rfl⟩
            have hqI : (i : Int) / 8 = (q : Int) := by omega
            have hrI : (i : Int) % 8 = (r : Int) := by omega
            have heI : 7 - (r : Int) = (e : Int) := by omega
            have hql : q < len := by omega
            have he8 : e < 8 := by omega
            obtain ⟨bq, off, rfl, hbq, hc⟩ := h.lies.at (by omega)
            have hcq := (HW.out.2.1.cell (p := ⟨bq, off + q, none⟩) hbq).trans (hc q hql)
            rw [HB.out.2.2 q hql] at hcq
            rw [hq, hr, he] at hsucc
            obtain ⟨y, hy⟩ : ∃ y, bs.getD q 0 = y := ⟨_, rfl⟩
            rw [hy] at hcq hsucc
            obtain ⟨Y, hY⟩ : ∃ Y, y / 2 ^ e = Y := ⟨_, rfl⟩
            have hYI : (y : Int) / 2 ^ e = (Y : Int) := by rw [← hY]; simp
            rw [hY] at hsucc
            by_cases hz : Y % 2 = 1
            · have hzI : ((Y : Int) % 2 == 1) = true := by simp; omega
              rw [hz] at hsucc
              have HX : Hid (xb bs a (t + 1) = 2 * X + 1 ∧ a + t = i) := ⟨hsucc, hi⟩
              clear hsucc hxl hp6 hX hi hq hr he hy hc hz hY
              go_wp2
              go_roundw
              case rel => exact ⟨t + 1, by omega, by have := HX.out.2; go_num, by rw [HX.out.1]; go_num, by trivial⟩
              case measure => simp [intOf] <;> omega
            · have hzI : ((Y : Int) % 2 == 1) = false := by simp; omega
              rw [show Y % 2 = 0 by omega] at hsucc
              have HX : Hid (xb bs a (t + 1) = 2 * X + 0 ∧ a + t = i) := ⟨hsucc, hi⟩
              clear hsucc hxl hp6 hX hi hq hr he hy hc hz hY
              go_wp2
              go_roundw
              case rel => exact ⟨t + 1, by omega, by have := HX.out.2; go_num, by rw [HX.out.1]; go_num, by trivial⟩
              case measure => simp [intOf] <;> omega
          · have hinI : ¬ (i : Int) < 8 * (len : Int) := by omega
            rw [bit_out bs i (by rw [HB.out.2.1]; omega) (by rw [HB.out.2.1]; omega)] at hsucc
            have HX : Hid (xb bs a (t + 1) = 2 * X + 0 ∧ a + t = i) := ⟨hsucc, hi⟩
            clear hsucc hxl hp6 hX hi
            go_wp2
            go_roundw
            case rel => exact ⟨t + 1, by omega, by have := HX.out.2; go_num, by rw [HX.out.1]; go_num, by trivial⟩
            case measure => simp [intOf] <;> omega
        · obtain rfl : t = 6 := by omega
          have hx6 := xb_six bs m (by rw [HW.out.2.2, HB.out.2.1]; exact hlt)
          rw [HW.out.2.2] at hx6
          rw [hx6]
          have hxb : sx bs m < 64 := Nat.mod_lt _ (by decide)
          have HSM : Hid (encI bs (m + 1) = encI bs m ++ [((sg (sx bs m) : Nat) : Int)]) := encI_succ bs m
          obtain ⟨X, hX⟩ : ∃ X, sx bs m = X := ⟨_, rfl⟩
          rw [hX] at HSM hxb ⊢
          have hsat := HSA.out X (by rw [hS]; exact hxb)
          have hlb : (encI bs m).length < 1073741824 := by rw [encI_length]; have := HW.out.2.2; omega
          clear hx6 hX
          go_wp2_with (at_builtin; refine wpList_append_one rfl _ _ 22 rfl 5 .u8 1 Try.underlying22 Try.infoB w.heap.size u4 (encI bs m) ((sg X : Nat) : Int) (by rfl) HW.out.1 (by rfl) hlb (by decide) w HW.out.2.1 HW.out.2.1.size ?_; intro v' w' hown' hb')
          go_roundw
          case rel => exact ⟨m + 1, by have := HW.out.2.2; omega, by have := HW.out.2.2; go_num, by rw [HSM.out]; exact hown', hb'⟩
          case measure => simp [intOf] <;> omega
    · have hltI : ¬ (a : Int) < 8 * (len : Int) := by omega
      have HM : Hid (m = (8 * bs.length + 5) / 6) := by have := HB.out.2.1; unfold Hid; omega
      obtain ⟨ao2, cap2, rfl, hcv⟩ := own_str hown (encI_dg bs m) m (encI_length bs m) (by omega)
      rw [show strOfNums (encI bs m) = txt bs by rw [HM.out]; exact encI_txt bs] at hcv
      clear hown ha
      go_wp2
      go_ret
      exact ⟨rfl, hbw⟩
end Go.Proofs.Ytbhjidmbihkppaa
