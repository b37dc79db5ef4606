/-
  Contracts of the document's answer: the product (Mul).
-/
import Derived.Test.YtdojbknkaoiioaaRefL
namespace Go.Proofs.Ytdojbknkaoiioaa
open Go.RowKit
set_option linter.unusedVariables false
set_option linter.unusedSimpArgs false

theorem Row.drewN {e : TypeId} {k : IntKind} {w : World} {g : Nat} {xs : List Int} (h : Row e k w g xs) (n : Nat) : Row e k (w.drewN n) g xs := h

/-- What Mul has gathered: i digits' rows whole, k products of the next; what is carried. -/
def RMuls (xs ys : List Int) (n i k : Nat) (cur : List Int) (c : Int) : Prop :=
  cur.length = n ∧ Dg D16 cur ∧ 0 ≤ c ∧ c < 65536 ∧ val D16 cur + D16 ^ (i + k) * c = low D16 xs i * val D16 ys + D16 ^ i * (xs.getD i 0 * low D16 ys k)
theorem RMuls.zero (xs ys : List Int) (n : Nat) : RMuls xs ys n 0 0 (List.replicate n 0) 0 :=
  ⟨by simp, Dg.zeros D16_pos _, by decide, by decide, by rw [val_replicate, low_zero, low_zero]; simp⟩
theorem RMuls.top {xs ys : List Int} {n i k : Nat} {cur : List Int} {c : Int} (h : RMuls xs ys n i k cur c) (hx : Dg D16 xs) (hy : Dg D16 ys) (hi : i < xs.length) (hc : 0 < c) : k ≤ ys.length := by
  obtain ⟨h1, h2, h3, h4, h5⟩ := h
  by_cases hk : k ≤ ys.length
  · exact hk
  · exfalso
    have hv := val_nonneg D16_pos h2
    have hlow : low D16 ys k = val D16 ys := low_all _ _ _ (by have := top_le ys; omega)
    rw [hlow] at h5
    have hY := val_lt D16_pos hy
    have hY0 := val_nonneg D16_pos hy
    have e1 : low D16 xs i * val D16 ys + D16 ^ i * (xs.getD i 0 * val D16 ys) = low D16 xs (i + 1) * val D16 ys := by rw [low_succ]; grind
    rw [e1] at h5
    have hX : low D16 xs (i + 1) < D16 ^ (i + 1) := by
      have a := val_lt D16_pos (hx.take (i + 1))
      have b : (xs.take (i + 1)).length = i + 1 := by simp; omega
      rw [b] at a; exact a
    have hX0 : 0 ≤ low D16 xs (i + 1) := val_nonneg D16_pos (hx.take _)
    have hp1 : 0 < D16 ^ (i + 1) := Int.pow_pos D16_pos
    have hp2 : 0 < D16 ^ ys.length := Int.pow_pos D16_pos
    have m1 : low D16 xs (i + 1) * val D16 ys ≤ low D16 xs (i + 1) * D16 ^ ys.length := Int.mul_le_mul_of_nonneg_left (by omega) hX0
    have m2 : (low D16 xs (i + 1) + 1) * D16 ^ ys.length ≤ D16 ^ (i + 1) * D16 ^ ys.length := Int.mul_le_mul_of_nonneg_right (by omega) (by omega)
    rw [Int.add_mul, ← Int.pow_add] at m2
    have m3 := pow_mono (B := D16) (by decide) (show i + 1 + ys.length ≤ i + k by omega)
    have m4 : D16 ^ (i + k) * 1 ≤ D16 ^ (i + k) * c := Int.mul_le_mul_of_nonneg_left (by omega) (by have : 0 < D16 ^ (i + k) := Int.pow_pos D16_pos; omega)
    omega
theorem prod16 (x y : Int) (hx : 0 ≤ x ∧ x < 65536) (hy : 0 ≤ y ∧ y < 65536) : 0 ≤ x * y ∧ x * y ≤ 4294836225 := by
  have a := Int.mul_nonneg hx.1 hy.1
  have b : x * y ≤ 65535 * 65535 := Int.mul_le_mul (by omega) (by omega) hy.1 (by decide)
  omega
theorem RMuls.step {xs ys : List Int} {n i k : Nat} {cur : List Int} {c : Int} (h : RMuls xs ys n i k cur c) (hx : Dg D16 xs) (hy : Dg D16 ys) (hn : i + k < n) :
    RMuls xs ys n i (k + 1) (cur.set (i + k) ((cur.getD (i + k) 0 + c + xs.getD i 0 * ys.getD k 0) % 65536)) ((cur.getD (i + k) 0 + c + xs.getD i 0 * ys.getD k 0) / 65536) := by
  obtain ⟨h1, h2, h3, h4, h5⟩ := h
  have gx := hx.getD D16_pos i
  have gy := hy.getD D16_pos k
  have gc := h2.getD D16_pos (i + k)
  have hD : D16 = 65536 := rfl
  have hp := prod16 (xs.getD i 0) (ys.getD k 0) (by rw [hD] at gx; exact gx) (by rw [hD] at gy; exact gy)
  rw [hD] at gc
  refine ⟨by simp [h1], h2.set _ (by rw [hD]; omega), by omega, by omega, ?_⟩
  rw [val_set _ _ _ _ (by omega), low_succ, show i + (k + 1) = (i + k) + 1 by omega, Int.pow_succ]
  have e : cur.getD (i + k) 0 + c + xs.getD i 0 * ys.getD k 0 = (cur.getD (i + k) 0 + c + xs.getD i 0 * ys.getD k 0) % 65536 + 65536 * ((cur.getD (i + k) 0 + c + xs.getD i 0 * ys.getD k 0) / 65536) := by omega
  generalize (cur.getD (i + k) 0 + c + xs.getD i 0 * ys.getD k 0) % 65536 = r at *
  generalize (cur.getD (i + k) 0 + c + xs.getD i 0 * ys.getD k 0) / 65536 = q at *
  generalize cur.getD (i + k) 0 = z at *
  generalize xs.getD i 0 = x at *
  generalize ys.getD k 0 = y at *
  generalize val D16 cur = V at *
  generalize low D16 ys k = L at *
  generalize low D16 xs i = X at *
  generalize val D16 ys = Y at *
  have e2 : D16 ^ (i + k) = D16 ^ i * D16 ^ k := Int.pow_add _ _ _
  rw [e2] at h5 ⊢
  generalize D16 ^ i = p at *
  generalize D16 ^ k = s at *
  rw [hD]
  have e3 : r = z + c + x * y - 65536 * q := by omega
  rw [e3]
  grind
theorem RMuls.next {xs ys : List Int} {n i k : Nat} {cur : List Int} (h : RMuls xs ys n i k cur 0) (hk : ys.length ≤ k) : RMuls xs ys n (i + 1) 0 cur 0 := by
  obtain ⟨h1, h2, h3, h4, h5⟩ := h
  refine ⟨h1, h2, h3, h4, ?_⟩
  have hlow : low D16 ys k = val D16 ys := low_all _ _ _ (by have := top_le ys; omega)
  rw [hlow] at h5
  rw [low_succ, low_zero]
  grind
theorem RMuls.done {xs ys : List Int} {n k : Nat} {cur : List Int} (h : RMuls xs ys n xs.length 0 cur 0) : val D16 cur = val D16 xs * val D16 ys := by
  have := h.2.2.2.2
  rw [low_zero, low_len] at this
  simpa using this

set_option maxHeartbeats 4000000 in
/-- the document's Mul. -/
theorem rMul_any (ao bo : Option Addr) (la ca lb cb : Nat) (xs ys : List Int) (w : World) (h : NumIn .i64 D16 w ao la ca xs) (h' : NumIn .i64 D16 w bo lb cb ys) (hla : la ≤ 1000000) (hlb : lb ≤ 1000000) :
    Calls Try.prog 85 #[.slice ao la ca, .slice bo lb cb] w fun e w' => ∃ v, e = .returned v ∧ NumOut .i64 D16 w w' v (val D16 xs * val D16 ys) (la + lb + 1) := by
  have hl := h.len
  have hl' := h'.len
  go_enter Try.func85, Try.ntmps85
  go_wp2_with (at_make; refine wpList_make_row _ rfl _ _ 66 rfl 3 .i64 8 Try.underlying66 Try.infoI _ _ _ _ (la + lb + 1) rfl rfl (by omega) (by omega) (by omega) (by unfold maxLen; omega) ?_)
  intro w3 hrow hbel
  go_wp2
  go_loopw [6] (fun vi wr => ∃ (i : Nat) (cur : List Int), i ≤ la ∧ vi = .int .i64 i ∧ Row 3 .i64 wr w.heap.size cur ∧ RMuls xs ys (la + lb + 1) i 0 cur 0 ∧ Below w.heap.size w wr) (fun vi _ => la - (intOf vi).toNat)
  case atStart => exact ⟨0, _, Nat.zero_le _, rfl, hrow, RMuls.zero _ _ _, hbel⟩
  case round =>
    obtain ⟨i, cur0, hi, rfl, hrw0, hm0, hb0⟩ := hrel
    clear hrow hbel
    by_cases hlt : i < la
    · have HR0 : Hid (Row 3 .i64 wr w.heap.size cur0) := hrw0
      have HM0 : Hid (RMuls xs ys (la + lb + 1) i 0 cur0 0) := hm0
      have HB0 : Hid (Below w.heap.size w wr) := hb0
      clear hrw0 hm0 hb0
      go_wp2
      go_loopw [7, 8] (fun vc vk wr => ∃ (k : Nat) (c : Int) (cur : List Int), vk = .int .i64 k ∧ vc = .int .i64 c ∧ Row 3 .i64 wr w.heap.size cur ∧ RMuls xs ys (la + lb + 1) i k cur c ∧ Below w.heap.size w wr) (fun _ vk _ => lb + 1 - (intOf vk).toNat)
      case atStart => exact ⟨0, 0, cur0, rfl, rfl, HR0.out, HM0.out, HB0.out⟩
      case round =>
        obtain ⟨k, c, cur, rfl, rfl, hrw, hm, hb⟩ := hrel
        clear HR0 HM0 HB0
        have hc0 := hm.2.2.1
        have hc1 := hm.2.2.2.1
        by_cases hgo : k < lb ∨ 0 < c
        · have hk : k ≤ lb := by
            rcases hgo with hgo | hgo
            · omega
            · have := hm.top h.dg h'.dg (by omega) hgo; omega
          have hlen := hm.1
          have hx := h.lies.old hb
          obtain ⟨b, off, rfl, hblk, hcs⟩ := hx.at (by omega)
          have hcx := hcs i hlt
          have hfr := hrw.frozen (i + k)
          have hcl := hrw.cell (i + k) (by omega)
          have gx := h.dg.getD D16_pos i
          have gy := h'.dg.getD D16_pos k
          have gz := hm.2.1.getD D16_pos (i + k)
          have HS : Hid (RMuls xs ys (la + lb + 1) i (k + 1) (cur.set (i + k) ((cur.getD (i + k) 0 + c + xs.getD i 0 * ys.getD k 0) % 65536)) ((cur.getD (i + k) 0 + c + xs.getD i 0 * ys.getD k 0) / 65536)) := hm.step h.dg h'.dg (by omega)
          have HB : Hid (Below w.heap.size w wr) := hb
          have HR : Hid (Row 3 .i64 wr w.heap.size cur) := hrw
          have hp := prod16 (xs.getD i 0) (ys.getD k 0) gx gy
          by_cases hkl : k < lb
          · have hy := h'.lies.old hb
            obtain ⟨b2, off2, rfl, hblk2, hcs2⟩ := hy.at (by omega)
            have hcy := hcs2 k hkl
            have hp1 := hp.1
            have hp2 := hp.2
            have gz1 := gz.1
            have gz2 : cur.getD (i + k) 0 < 65536 := gz.2
            generalize cur.getD (i + k) 0 = z at *
            have HX : Hid (xs.getD i 0 * ys.getD k 0 = xs.getD i 0 * ys.getD k 0) := rfl
            generalize xs.getD i 0 = x at *
            generalize ys.getD k 0 = y at *
            have hmul : IntKind.i64.wrap (x * y) = x * y := IntWalk.i64_in _ (by omega)
            clear hrw hm hb hx hcs hy hcs2 h h' hgo gx gy gz hp HX
            go_wp2
            go_quiet (fail)
            go_wp2
            go_roundw
            case rel => exact ⟨k + 1, _, _, by go_num, rfl, (HR.out.drewN _).set _ _, HS.out, (HB.out.trans (Drew.below ⟨_, rfl⟩ _)).setCell (Nat.le_refl _) _⟩
            case measure => simp [intOf] <;> omega
          · have hz : ys.getD k 0 = 0 := by simp [List.getD, List.getElem?_eq_none (show ys.length ≤ k by omega)]
            rw [hz] at HS
            simp only [Int.mul_zero, Int.add_zero] at HS
            have gz1 := gz.1
            have gz2 : cur.getD (i + k) 0 < 65536 := gz.2
            generalize cur.getD (i + k) 0 = z at *
            have hcp : 0 < c := by omega
            clear hrw hm hb hx hcs h h' hgo gx gy gz hp hcx
            go_wp2
            go_roundw
            case rel => exact ⟨k + 1, _, _, by go_num, rfl, HR.out.set _ _, HS.out, HB.out.setCell (Nat.le_refl _) _⟩
            case measure => simp [intOf] <;> omega
        · obtain rfl : c = 0 := by omega
          have hkl : lb ≤ k := by omega
          have HS : Hid (RMuls xs ys (la + lb + 1) (i + 1) 0 cur 0) := hm.next (by omega)
          clear hm h h' hgo hc0 hc1
          go_wp2
          go_roundw
          case rel => exact ⟨i + 1, cur, by omega, by go_num, hrw, HS.out, hb⟩
          case measure => simp [intOf] <;> omega
    · obtain rfl : i = la := by omega
      have hlen := hm0.1
      have HV : Hid (val D16 cur0 = val D16 xs * val D16 ys) := by rw [← hl] at hm0; exact hm0.done (k := 0)
      have HR : Hid (NumIn .i64 D16 wr (some ⟨w.heap.size, 0, none⟩) (i + lb + 1) (i + lb + 1) cur0) := by have := hrw0.num hm0.2.1 (by omega); rw [hlen] at this; exact this
      have HB : Hid (Below w.heap.size w wr) := hb0
      clear hm0 hb0 hrw0 hlen h h'
      go_wp2_with fail
      refine (rtrim_any _ _ _ _ _ HR.out).mono ?_
      rintro e w4 ⟨rfl, rfl⟩
      go_wp2
      go_ret
      exact ⟨_, rfl, HR.out.out HB.out _ HV.out _ (by omega)⟩
end Go.Proofs.Ytdojbknkaoiioaa
