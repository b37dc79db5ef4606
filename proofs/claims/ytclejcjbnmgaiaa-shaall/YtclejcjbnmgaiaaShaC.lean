/-
  Contracts of the document's mul and root (its table).
-/
import Derived.Test.YtclejcjbnmgaiaaShaT
namespace Go.Proofs.Ytclejcjbnmgaiaa
open Go.RowKit
set_option linter.unusedVariables false
set_option linter.unusedSimpArgs false

/-- Nothing stands above yet. -/
def Zr (m : Nat) (cur : List Int) : Prop := ∀ j, m ≤ j → cur.getD j 0 = 0
theorem Zr.zero (n : Nat) (m : Nat) : Zr m (List.replicate n 0) := fun j _ => getD_zeros n j
theorem Zr.set {m j : Nat} {cur : List Int} (h : Zr m cur) (hj : j < m) (y : Int) : Zr m (cur.set j y) := fun i hi => by
  have : (cur.set j y).getD i 0 = cur.getD i 0 := by simp [List.getD, List.getElem?_set_ne (show j ≠ i by omega)]
  rw [this]; exact h i hi
theorem Zr.up {m : Nat} {cur : List Int} (h : Zr m cur) (y : Int) : Zr (m + 1) (cur.set m y) := fun i hi => by
  have : (cur.set m y).getD i 0 = cur.getD i 0 := by simp [List.getD, List.getElem?_set_ne (show m ≠ i by omega)]
  rw [this]; exact h i (by omega)

set_option maxHeartbeats 4000000 in
/-- the document's mul. -/
theorem sMul_any (ao bo : Option Addr) (la ca lb cb : Nat) (xs ys : List Int) (w : World) (h : NumIn .i64 D16 w ao la ca xs) (h' : NumIn .i64 D16 w bo lb cb ys) (hla : la ≤ 1000) (hlb : lb ≤ 1000) :
    Calls Try.prog 28 #[.slice ao la ca, .slice bo lb cb] w fun e w' => ∃ v, e = .returned v ∧ Nb w w' v (val D16 xs * val D16 ys) (la + lb) := by
  have hl := h.len
  have hl' := h'.len
  obtain ⟨N, hN⟩ : ∃ N, la + lb = N := ⟨_, rfl⟩
  have hNI : (la : Int) + (lb : Int) = (N : Int) := by omega
  have hN2 : N ≤ 2000 := by omega
  rw [hN]
  go_enter Try.func28, Try.ntmps28
  go_wp2_with (at_make; refine wpList_make_row _ rfl _ _ 51 rfl 3 .i64 8 Try.underlying51 Try.infoI _ _ _ _ N rfl rfl (by omega) (by omega) (by omega) (by unfold maxLen; omega) ?_; intro w3 hrow hbel)
  have HH : Hid (NumIn .i64 D16 w ao la ca xs ∧ NumIn .i64 D16 w bo lb cb ys ∧ xs.length = la ∧ ys.length = lb) := ⟨h, h', hl, hl'⟩
  clear h h' hl hl'
  go_loopw [6] (fun vi wr => ∃ (i : Nat) (cur : List Int), i ≤ la ∧ vi = .int .i64 i ∧ Row 3 .i64 wr w.heap.size cur ∧ RMuls xs ys N i 0 cur 0 ∧ Zr (i + lb) cur ∧ Below w.heap.size w wr) (fun vi _ => la - (intOf vi).toNat)
  case atStart => exact ⟨0, _, Nat.zero_le _, rfl, hrow, RMuls.zero _ _ _, Zr.zero _ _, hbel⟩
  case round =>
    obtain ⟨i, cur0, hi, rfl, hrw0, hm0, hz0, hb0⟩ := hrel
    clear hrow hbel
    by_cases hlt : i < la
    · have H0 : Hid (Row 3 .i64 wr w.heap.size cur0 ∧ RMuls xs ys N i 0 cur0 0 ∧ Zr (i + lb) cur0 ∧ Below w.heap.size w wr) := ⟨hrw0, hm0, hz0, hb0⟩
      clear hrw0 hm0 hz0 hb0
      go_wp2
      go_loopw [7, 8] (fun vc vk wr => ∃ (k : Nat) (c : Int) (cur : List Int), k ≤ lb ∧ vk = .int .i64 k ∧ vc = .int .i64 c ∧ Row 3 .i64 wr w.heap.size cur ∧ RMuls xs ys N i k cur c ∧ Zr (i + lb) cur ∧ Below w.heap.size w wr) (fun _ vk _ => lb - (intOf vk).toNat)
      case atStart => exact ⟨0, 0, cur0, by omega, rfl, rfl, H0.out⟩
      case round =>
        obtain ⟨k, c, cur, hk, rfl, rfl, hrw, hm, hz, hb⟩ := hrel
        clear H0
        have hc0 := hm.2.2.1
        have hc1 := hm.2.2.2.1
        by_cases hkl : k < lb
        · have hlen := hm.1
          obtain ⟨b, off, rfl, hblk, hcs⟩ := (HH.out.1.lies.old hb).at (by omega)
          have hcx := hcs i hlt
          obtain ⟨b2, off2, rfl, hblk2, hcs2⟩ := (HH.out.2.1.lies.old hb).at (by omega)
          have hcy := hcs2 k hkl
          have hfr := hrw.frozen (i + k)
          have hcl := hrw.cell (i + k) (by omega)
          have gx := HH.out.1.dg.getD D16_pos i
          have gy := HH.out.2.1.dg.getD D16_pos k
          have gz := hm.2.1.getD D16_pos (i + k)
          have HS : Hid (RMuls xs ys N i (k + 1) (cur.set (i + k) ((cur.getD (i + k) 0 + xs.getD i 0 * ys.getD k 0 + c) % 65536)) ((cur.getD (i + k) 0 + xs.getD i 0 * ys.getD k 0 + c) / 65536)) := by
            have := hm.step HH.out.1.dg HH.out.2.1.dg (by omega)
            rw [show cur.getD (i + k) 0 + c + xs.getD i 0 * ys.getD k 0 = cur.getD (i + k) 0 + xs.getD i 0 * ys.getD k 0 + c by omega] at this
            exact this
          have HZ : Hid (∀ y, Zr (i + lb) (cur.set (i + k) y)) := fun y => hz.set (by omega) y
          have HB : Hid (Row 3 .i64 wr w.heap.size cur ∧ Below w.heap.size w wr) := ⟨hrw, hb⟩
          have hp := prod16 (xs.getD i 0) (ys.getD k 0) gx gy
          have hp1 := hp.1
          have hp2 := hp.2
          have gz1 := gz.1
          have gz2 : cur.getD (i + k) 0 < 65536 := gz.2
          generalize cur.getD (i + k) 0 = z at *
          generalize xs.getD i 0 = x at *
          generalize ys.getD k 0 = y at *
          have hmul : IntKind.i64.wrap (x * y) = x * y := IntWalk.i64_in _ (by omega)
          clear hrw hm hb hcs hcs2 gx gy gz hp hz
          go_wp2
          go_quiet (fail)
          go_wp2
          go_roundw
          case rel => exact ⟨k + 1, _, _, by omega, by go_num, rfl, (HB.out.1.drewN _).set _ _, HS.out, HZ.out _, (HB.out.2.trans (Drew.below ⟨_, rfl⟩ _)).setCell (Nat.le_refl _) _⟩
          case measure => simp [intOf] <;> omega
        · obtain rfl : k = lb := by omega
          have hlen := hm.1
          have hfr := hrw.frozen (i + k)
          have hcl := hrw.cell (i + k) (by omega)
          have HS : Hid (RMuls xs ys N (i + 1) 0 (cur.set (i + k) c) 0) := by
            have := hm.step HH.out.1.dg HH.out.2.1.dg (by omega)
            rw [hz (i + k) (Nat.le_refl _), getD_over ys k (by have := HH.out; omega)] at this
            rw [show (0 + c + xs.getD i 0 * 0) % 65536 = c by omega, show (0 + c + xs.getD i 0 * 0) / 65536 = 0 by omega] at this
            exact this.next (by have := HH.out; omega)
          have HZ : Hid (Zr (i + 1 + k) (cur.set (i + k) c)) := by
            have := hz.up c
            rw [show i + 1 + k = i + k + 1 by omega]
            exact this
          have HB : Hid (Row 3 .i64 wr w.heap.size cur ∧ Below w.heap.size w wr) := ⟨hrw, hb⟩
          clear hrw hm hb hz
          go_wp2
          go_roundw
          case rel => exact ⟨i + 1, _, by omega, by go_num, HB.out.1.set _ _, HS.out, HZ.out, HB.out.2.setCell (Nat.le_refl _) _⟩
          case measure => simp [intOf] <;> omega
    · obtain rfl : i = la := by omega
      have hlen := hm0.1
      have HV : Hid (val D16 cur0 = val D16 xs * val D16 ys) := by have := hm0; rw [← HH.out.2.2.1] at this; exact this.done (k := 0)
      have HR : Hid (NumIn .i64 D16 wr (some ⟨w.heap.size, 0, none⟩) N N cur0 ∧ Below w.heap.size w wr) := ⟨by have := hrw0.num hm0.2.1 (by omega); rw [hlen] at this; exact this, hb0⟩
      clear hm0 hb0 hrw0 hz0
      go_wp2
      go_ret
      exact ⟨_, rfl, _, _, _, cur0, rfl, HR.out.1, HV.out, Nat.le_refl _, HR.out.2⟩
end Go.Proofs.Ytclejcjbnmgaiaa
