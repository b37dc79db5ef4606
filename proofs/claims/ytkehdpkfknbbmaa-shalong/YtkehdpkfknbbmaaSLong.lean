/-
  The walk of ShaLong.
-/
import Derived.Test.YtkehdpkfknbbmaaShaJ
namespace Go.Proofs.Ytkehdpkfknbbmaa
open Go.RowKit
set_option linter.unusedVariables false
set_option linter.unusedSimpArgs false
attribute [local go_sem ↓] keep_l8 keep_l64 keep_s8

/-- The bytes, i of them in their places. -/
def LongP (n : Nat) (c : Int) (i : Nat) (cur : List Int) : Prop := cur.length = n ∧ Dg 256 cur
theorem LongP.step {n i : Nat} {c y : Int} {cur : List Int} (h : LongP n c i cur) (hy : 0 ≤ y ∧ y < 256) : LongP n c (i + 1) (cur.set i y) := ⟨by simpa using h.1, h.2.set i hy⟩

set_option maxRecDepth 100000 in
set_option maxHeartbeats 4000000 in
/-- Bytes of any length, in blocks of any size. -/
theorem ShaLong_walk (n c z : Nat) (w : World) (hn : n < 65536) (hc : c < 256) (hz : z < 256) :
    Calls Try.prog 6 #[.int .u16 n, .int .u8 c, .int .u8 z] w fun e w' => e = .returned (.bool true) ∧ Below w.heap.size w w' := by
  go_enter Try.func6, Try.ntmps6
  go_wp2_with fail
  refine (SAwake_any w).mono ?_
  rintro e wA ⟨rfl, hbA⟩
  go_wp2_with (at_make; refine wpList_make_row _ rfl _ _ 22 rfl 5 .u8 1 Try.underlying22 Try.infoB _ _ _ _ n rfl rfl rfl rfl (by omega) (by unfold maxLen; omega) ?_; intro w1 hr1 hb1)
  have HR1 : Hid (Row 5 .u8 w1 wA.heap.size (List.replicate n 0) ∧ Below w.heap.size w w1 ∧ w.heap.size ≤ wA.heap.size) := ⟨hr1, hbA.trans (hb1.mono hbA.size), hbA.size⟩
  clear hr1 hb1 hbA
  generalize wA.heap.size = gb at *
  go_loopw [18] (fun vi wr => ∃ (i : Nat) (cur : List Int), i ≤ n ∧ vi = .int .i64 i ∧ Row 5 .u8 wr gb cur ∧ LongP n c i cur ∧ Below w.heap.size w wr) (fun vi _ => n - (intOf vi).toNat)
  case atStart => exact ⟨0, _, by omega, rfl, HR1.out.1, ⟨by simp, Dg.zeros (by decide) _⟩, HR1.out.2.1⟩
  case round =>
    obtain ⟨i, cur, hi, rfl, hrw, hm, hb⟩ := hrel
    have HGB : Hid (w.heap.size ≤ gb) := HR1.out.2.2
    clear HR1
    have HRW : Hid (Row 5 .u8 wr gb cur ∧ Below w.heap.size w wr ∧ LongP n c i cur) := ⟨hrw, hb, hm⟩
    by_cases hlt : i < n
    · have hcl := hrw.cell i (by have := hm.1; omega)
      have hf := hrw.frozen i
      clear hrw hb hm
      go_wp2
      refine ⟨⟨i + 1, cur.set i (((c : Int) + (i : Int)) % 256), by omega, by go_num, HRW.out.1.set i _, HRW.out.2.2.step (by omega), HRW.out.2.1.setCell HGB.out _⟩, ?_⟩
      simp [intOf]
      omega
    · clear hrw hb hm
      go_wp2_with fail
      refine (New_any wr).mono ?_
      rintro e w2 ⟨rfl, hh2, hb2⟩
      have HW2 : Hid (HashAt w2 wr.heap.size [] ∧ Row 5 .u8 w2 gb cur ∧ Below w.heap.size w w2 ∧ gb ≠ wr.heap.size ∧ w.heap.size ≤ wr.heap.size ∧ cur.length = n ∧ Dg 256 cur) := by
        obtain ⟨a1, a2, a3⟩ := HRW.out
        have := a1.lt
        exact ⟨hh2, a1.below hb2 a1.lt, a2.trans (hb2.mono a2.size), by omega, a2.size, a3.1, a3.2⟩
      clear hh2 hb2 HRW
      generalize wr.heap.size = gh at *
      obtain ⟨k, hk⟩ : ∃ k, 1 + z = k := ⟨_, rfl⟩
      have hkI : (1 : Int) + (z : Int) = (k : Int) := by omega
      have hk1 : 1 ≤ k := by omega
      have hk2 : k ≤ 256 := by omega
      have HNN : Hid (cur.length = n ∧ Dg 256 cur ∧ gb ≠ gh ∧ w.heap.size ≤ gh) := ⟨HW2.out.2.2.2.2.2.1, HW2.out.2.2.2.2.2.2, HW2.out.2.2.2.1, HW2.out.2.2.2.2.1⟩
      clear hk
      go_wp2
      go_loopw [11] (fun va wr => ∃ (p : Nat), p ≤ n + k ∧ va = .int .i64 p ∧ HashAt wr gh (cur.take p) ∧ Row 5 .u8 wr gb cur ∧ Below w.heap.size w wr) (fun va _ => n + k - (intOf va).toNat)
      case atStart => exact ⟨0, by omega, rfl, HW2.out.1, HW2.out.2.1, HW2.out.2.2.1⟩
      case round =>
        obtain ⟨p, hp, rfl, hh3, hr3, hb3⟩ := hrel
        clear HW2
        by_cases hpn : p < n
        · obtain ⟨m, hm⟩ : ∃ m, min (p + k) n = m := ⟨_, rfl⟩
          have hmI : min ((p : Int) + (k : Int)) (n : Int) = (m : Int) := by omega
          have hpm : p ≤ m := by omega
          have hpmI : (p : Int) ≤ (m : Int) := by omega
          have hmnI : (m : Int) ≤ (n : Int) := by omega
          have hmn : m ≤ n := by omega
          have hne : ¬ n = p := by omega
          have hcut : Lies .u8 wr (some ⟨gb, p, none⟩) (m - p) ((cur.drop p).take (m - p)) := hr3.lies p (m - p) (by have := HNN.out.1; omega)
          have HP := Put_any gh (cur.take p) ((cur.drop p).take (m - p)) (some ⟨gb, p, none⟩) (m - p) (n - p) wr hh3 ((HNN.out.2.1.drop p).take _) hcut (fun b off s e => by cases e; exact HNN.out.2.2.1) (by omega) (by unfold maxLen; omega) (fun h => by cases h) (by have := HNN.out.1; simp; omega)
          have HT : Hid (cur.take p ++ (cur.drop p).take (m - p) = cur.take (p + k)) := by
            unfold Hid
            rw [← List.take_add, show p + (m - p) = m by omega]
            have := HNN.out.1
            by_cases h : p + k ≤ n
            · rw [show m = p + k by omega]
            · rw [List.take_of_length_le (show cur.length ≤ m by omega), List.take_of_length_le (show cur.length ≤ p + k by omega)]
          rw [HT.out] at HP
          have HB3 : Hid (Row 5 .u8 wr gb cur ∧ Below w.heap.size w wr) := ⟨hr3, hb3⟩
          clear hh3 hr3 hb3 hcut HT hm
          go_wp2_with (go_at_call 12; refine HP.mono ?_; rintro e w4 ⟨⟨v, rfl⟩, hh4, hb4⟩)
          refine ⟨⟨p + k, by omega, by go_num, hh4, hb4.row HB3.out.1 HNN.out.2.2.1, HB3.out.2.trans (hb4.below HNN.out.2.2.2 HB3.out.2.size)⟩, ?_⟩
          simp [intOf]
          omega
        · have HS : Hid (cur.take p = cur) := List.take_of_length_le (by have := HNN.out.1; omega)
          rw [HS.out] at hh3
          have HSUM := Sum_any gh cur wr hh3 (by have := HNN.out.1; omega)
          have HOF := fun w' hr' => HOf_any cur (some ⟨gb, 0, none⟩) n n w' HNN.out.2.1 (lies_row (e := 5) hr' HNN.out.1) (Nat.le_refl _) (by unfold maxLen; omega) (fun h => by cases h) (by omega) (fun b off s e => by cases e; exact hr'.lt)
          have hl1 := shaS_length cur
          have HB3 : Hid (Row 5 .u8 wr gb cur ∧ Below w.heap.size w wr) := ⟨hr3, hb3⟩
          generalize shaS cur = s1 at *
          clear hh3 hr3 hb3 HS
          go_wp2_with fail
          refine HSUM.mono ?_
          rintro e w5 ⟨rfl, hb5⟩
          go_wp2_with fail
          refine (HOF w5 (HB3.out.1.below hb5 HB3.out.1.lt)).mono ?_
          rintro e w6 ⟨rfl, hb6⟩
          go_wp2_with ((with_reducible show wpList _ _ _ (Oper.mk _ (Op.binOp .eql _ _ _ _) _ _ _ none :: _) _ _); refine wpList_eql_ag (by with_reducible rfl) _ _ _ (by with_reducible rfl) s1 hl1 (by rfl) (by rfl) ?_)
          go_ret
          exact ⟨rfl, HB3.out.2.trans ((hb5.mono HB3.out.2.size).trans (hb6.mono (by have := HB3.out.2.size; have := hb5.size; omega)))⟩

theorem nat_of_u16 {x : Int} (h : (Lit.int .u16 x).wf = true) : ∃ n : Nat, x = (n : Int) ∧ n < 65536 := by
  simp [Lit.wf, IntKind.min, IntKind.max, IntKind.signed, IntKind.bits] at h
  exact ⟨x.toNat, by omega, by omega⟩
theorem nat_of_u8 {x : Int} (h : (Lit.int .u8 x).wf = true) : ∃ n : Nat, x = (n : Int) ∧ n < 256 := by
  simp [Lit.wf, IntKind.min, IntKind.max, IntKind.signed, IntKind.bits] at h
  exact ⟨x.toNat, by omega, by omega⟩
/-- The same, of numbers as they come. -/
theorem ShaLong_came (a0 a1 a2 : Int) (w0 : (Lit.int .u16 a0).wf = true) (w1 : (Lit.int .u8 a1).wf = true) (w2 : (Lit.int .u8 a2).wf = true) (w : World) :
    Calls Try.prog 6 #[.int .u16 a0, .int .u8 a1, .int .u8 a2] w fun e w' => e = .returned (.bool true) ∧ Below w.heap.size w w' := by
  obtain ⟨n, rfl, hn⟩ := nat_of_u16 w0
  obtain ⟨c, rfl, hc⟩ := nat_of_u8 w1
  obtain ⟨z, rfl, hz⟩ := nat_of_u8 w2
  exact ShaLong_walk n c z w hn hc hz
end Go.Proofs.Ytkehdpkfknbbmaa
