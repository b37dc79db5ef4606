import Derived.Test.YtagljkbfgldlgaaK01
import Derived.Laws.BytesArg
import Derived.Laws.AppendOwnNone
import Derived.RangeFuncNested
import Derived.RangeFuncBound
import Derived.RangeFuncCalls
import Derived.RangeFuncLeaves
import Derived.Shelf.Abstract
import Derived.Shelf.RegionOpen
import Derived.OwnWalkIn
import Derived.TacticsInMore
import Derived.LoopNIn
import Derived.LoopIn
import Derived.Test.YtagljkbfgldlgaaK00
/-
  Contract of nat.Div.
-/
namespace Go.Proofs.Ytagljkbfgldlgaa
open Go.RowKit
set_option linter.unusedVariables false
set_option linter.unusedSimpArgs false
attribute [local go_sem ↓] Go.wp_at_zero Go.wp_at_succ

set_option maxHeartbeats 1000000 in
/-- nat.Div by 0. -/
theorem Div_zero (ao bo : Option Addr) (la ca lb cb : Nat) (xs ys : List Int) (w : World) (h : NumIn .u64 B64 w ao la ca xs) (h' : NumIn .u64 B64 w bo lb cb ys) (h0 : val B64 ys = 0) :
    Calls Try.prog 53 #[.slice ao la ca, .slice bo lb cb] w fun e w' => e = .returned (.tuple #[.slice none 0 0, .slice none 0 0, .bool false]) ∧ w' = w := by
  have HX := trim_any ao la ca xs w h.lies h.lc h.cm h.nn
  have HY := trim_any bo lb cb ys w h'.lies h'.lc h'.cm h'.nn
  have hz : top ys = 0 := by
    by_cases ht : top ys = 0
    · exact ht
    · exfalso
      have := val_ge B64_pos h'.dg (top ys - 1) (by omega)
      have : (0 : Int) < B64 ^ (top ys - 1) := Int.pow_pos B64_pos
      omega
  rw [hz] at HY
  go_enter Try.func53, Try.ntmps53
  go_wp2_with fail
  refine HX.mono ?_
  rintro e w1 ⟨rfl, rfl⟩
  go_wp2_with fail
  refine HY.mono ?_
  rintro e w2 ⟨rfl, rfl⟩
  go_wp2
  go_ret3
  exact ⟨rfl, rfl⟩

/-- Both answers of Div. -/
def DivOut (w w' : World) (q r : Value) (x y : Int) (L : Nat) : Prop := NumOut .u64 B64 w w' q (x / y) L ∧ NumOut .u64 B64 w w' r (x % y) L

set_option maxHeartbeats 4000000 in
/-- nat.Div. -/
theorem Div_any (ao bo : Option Addr) (la ca lb cb : Nat) (xs0 ys0 : List Int) (w : World) (h0 : NumIn .u64 B64 w ao la ca xs0) (h0' : NumIn .u64 B64 w bo lb cb ys0) (hy0 : val B64 ys0 ≠ 0) (hsm : la + lb < 1073740000) :
    Calls Try.prog 53 #[.slice ao la ca, .slice bo lb cb] w fun e w' => ∃ q r, e = .returned (.tuple #[q, r, .bool true]) ∧ DivOut w w' q r (val B64 xs0) (val B64 ys0) (la + 1) := by
  have hl := h0.len
  have hl' := h0'.len
  have ht := top_le xs0
  have ht' := top_le ys0
  have h := h0.take (top xs0) (by omega)
  have h' := h0'.take (top ys0) (by omega)
  have HX := trim_any ao la ca xs0 w h0.lies h0.lc h0.cm h0.nn
  have HY := trim_any bo lb cb ys0 w h0'.lies h0'.lc h0'.cm h0'.nn
  have cx := canon_take_top xs0
  have cy := canon_take_top ys0
  rw [← val_take_top B64 ys0] at hy0
  rw [← val_take_top B64 xs0, ← val_take_top B64 ys0]
  have lx := h.len
  have ly := h'.len
  generalize xs0.take (top xs0) = xs at *
  generalize ys0.take (top ys0) = ys at *
  generalize top xs0 = n at *
  generalize htm : top ys0 = m1 at *
  have hm0 : m1 ≠ 0 := by
    intro hz
    apply hy0
    have : ys = [] := List.eq_nil_of_length_eq_zero (by omega)
    rw [this]; rfl
  obtain ⟨m, rfl⟩ : ∃ m, m1 = m + 1 := ⟨m1 - 1, by omega⟩
  have hnl : n ≤ la := by omega
  have hml : m + 1 ≤ lb := by omega
  clear h0 h0' ht ht' hl hl' htm hm0
  have hx0 := val_nonneg B64_pos h.dg
  have hyp : 0 < val B64 ys := by have := val_nonneg B64_pos h'.dg; omega
  by_cases hlt : n < m + 1
  · have hv : val B64 xs < val B64 ys := by
      apply top_lt_val B64_one h.dg h'.dg
      unfold Canon at cx cy
      omega
    have HN := Norm_any ao n ca xs w h
    have HFIN : Hid (∀ v w', NumOut .u64 B64 w w' v (val B64 xs) n → DivOut w w' (.slice none 0 0) v (val B64 xs) (val B64 ys) (la + 1)) := by
      rintro v w' ⟨a, b, c, d, rfl, e1, e2, e3, e4, e5⟩
      refine ⟨⟨none, 0, 0, [], rfl, NumIn.nil, Canon.nil, ?_, by omega, e5⟩, ⟨a, b, c, d, rfl, e1, e2, ?_, by omega, e5⟩⟩
      · rw [Int.ediv_eq_zero_of_lt hx0 hv]; rfl
      · rw [e3, Int.emod_eq_of_lt hx0 hv]
    clear hv h h' cx cy hx0 hyp hy0
    go_enter Try.func53, Try.ntmps53
    go_wp2_with fail
    refine HX.mono ?_
    rintro e w1 ⟨rfl, rfl⟩
    go_wp2_with fail
    refine HY.mono ?_
    rintro e w2 ⟨rfl, rfl⟩
    go_wp2_with (go_at_call 69; refine HN.mono ?_; rintro e w3 ⟨v, rfl, hv⟩)
    go_ret3
    exact ⟨_, _, rfl, HFIN.out _ _ (by assumption)⟩
  · obtain ⟨t, ht64, ebl, hbig, hsmall⟩ := norm_div ys h'.dg m ly cy
    obtain ⟨b, off, rfl, hblk, hc⟩ := h'.lies.at (by omega)
    have hcell := hc m (by omega)
    have gy := h'.dg.getD B64_pos m
    have HLZ := fun w => lead_any (ys.getD m 0) w gy.1 gy.2
    rw [ebl] at HLZ
    generalize ys.getD m 0 = yt at *
    have HSY := Shift_neg (some ⟨b, off, none⟩) (m + 1) cb ys t w h' ht64 (by omega)
    have hmn : m + 1 ≤ n := by omega
    clear hlt hc ebl gy
    go_enter Try.func53, Try.ntmps53
    go_wp2_with fail
    refine HX.mono ?_
    rintro e w1 ⟨rfl, rfl⟩
    go_wp2_with fail
    refine HY.mono ?_
    rintro e w2 ⟨rfl, rfl⟩
    go_wp2_with fail
    refine (HLZ _).mono ?_
    rintro e w3 ⟨rfl, rfl⟩
    go_wp2_with fail
    refine HSY.mono ?_
    rintro e w4 ⟨v, rfl, ad, ld, cd, ds, rfl, hdn, hdc, hdv, hdl, hbel⟩
    have hld : ld = m + 1 := by
      have hp : (0 : Int) < B64 ^ m := Int.pow_pos B64_pos
      rw [← hdn.len]
      exact canon_len hdn.dg hdc m (by rw [hdv]; omega) (by rw [hdv]; exact hsmall)
    subst hld
    have hDv : Dv w4 ad (m + 1) ds := by
      refine ⟨hdn.lies, hdn.dg, by omega, ?_⟩
      rw [Nat.add_sub_cancel, digit_at B64_pos ds hdn.dg m, hdv]
      have hp : (0 : Int) < B64 ^ m := Int.pow_pos B64_pos
      have a1 : 9223372036854775808 ≤ val B64 ys * 2 ^ t / B64 ^ m := (Int.le_ediv_iff_mul_le hp).2 hbig
      have a2 : val B64 ys * 2 ^ t / B64 ^ m < B64 := Int.ediv_lt_of_lt_mul hp (by rw [Int.mul_comm B64, ← Int.pow_succ]; exact hsmall)
      rw [Int.emod_eq_of_lt (by omega) a2]
      exact a1
    obtain ⟨b2, off2, rfl, hblk2, hc2⟩ := hdn.lies.at (by omega)
    obtain ⟨M, rfl⟩ : ∃ M, n = m + 1 + M := ⟨n - (m + 1), by omega⟩
    have h4 := h.old hbel
    have HBEL : Hid (Below w3.heap.size w3 w4) := hbel
    have HD0 : Hid (0 < val B64 ds ∧ val B64 ds < B64 ^ (m + 1)) := hDv.range
    have HX0 : Hid (val B64 xs * 2 ^ t < B64 ^ (M + 1) * val B64 ds) := by
      unfold Hid
      have a := val_lt B64_pos h.dg
      rw [lx] at a
      have hp : (0 : Int) < 2 ^ t := Int.pow_pos (by decide)
      have hp2 : (0 : Int) < B64 ^ (M + 1) := Int.pow_pos B64_pos
      have c1 := Int.mul_lt_mul_of_pos_right a hp
      have c2 : (2 : Int) ^ t ≤ 9223372036854775808 := pow_mono (B := 2) (by decide) (show t ≤ 63 by omega)
      have c3 : (0 : Int) < B64 ^ m := Int.pow_pos B64_pos
      have c4 : B64 ^ m * 2 ^ t ≤ B64 ^ m * 9223372036854775808 := Int.mul_le_mul_of_nonneg_left c2 (by omega)
      have c5 : B64 ^ (M + 1) * (B64 ^ m * 2 ^ t) ≤ B64 ^ (M + 1) * val B64 ds := Int.mul_le_mul_of_nonneg_left (by rw [hdv]; omega) (by omega)
      have c6 : B64 ^ (m + 1 + M) * 2 ^ t = B64 ^ (M + 1) * (B64 ^ m * 2 ^ t) := by rw [show m + 1 + M = (M + 1) + m by omega, Int.pow_add]; grind
      omega
    have HDV : Hid (val B64 ds = val B64 ys * 2 ^ t) := hdv
    have HLX : Hid (xs.length = m + 1 + M) := lx
    clear hsmall hbig hdv hdc HLZ hcell hbel cx cy hy0 hx0 hyp lx ly hc2 HX HY HSY h' hblk
    go_wp2_with (at_make; refine wpList_make_row _ rfl _ _ 29 rfl 50 .u64 8 Try.underlying29 Try.infoU _ _ _ _ (m + 1 + M + 1) rfl rfl (by omega) (by omega) (by omega) (by unfold maxLen; omega) ?_)
    intro w5 hrowl hbel5
    have HSX := Shift_neg ao (m + 1 + M) ca xs t w5 (h4.old hbel5) ht64 (by omega)
    go_wp2_with fail
    refine HSX.mono ?_
    rintro e w6 ⟨v, rfl, asx, ls, cs, sx, rfl, hsn, hsc, hsv, hsl, hbel6⟩
    have hrow6 := hrowl.below hbel6 hrowl.lt
    have hbel46 : Below w4.heap.size w4 w6 := hbel5.trans (hbel6.mono hbel5.size)
    have hlsx := hsn.len
    go_wp2_with (refine wpList_copy_row rfl _ _ 29 29 rfl 50 Try.underlying29 .u64 8 Try.infoU w4.heap.size asx _ _ _ _ rfl rfl _ sx hrow6 hsn.lies (by simp) ls (by omega) w4.heap.size w4 hbel46 (Nat.le_refl _) ?_)
    intro w7 hrow7 hbel7
    have HV7 : Hid (val B64 (sx.take ls ++ List.replicate (m + 1 + M + 1 - ls) 0) = val B64 xs * 2 ^ t ∧ Dg B64 (sx.take ls ++ List.replicate (m + 1 + M + 1 - ls) 0) ∧ (sx.take ls ++ List.replicate (m + 1 + M + 1 - ls) (0 : Int)).length = m + 1 + M + 1) := by
      refine ⟨?_, (hsn.dg.take _).append (Dg.zeros B64_pos _), ?_⟩
      · rw [val_append, List.take_of_length_le (by omega), hsv, val_replicate]; simp
      · simp; omega
    have HROW7 : Hid (Row 50 .u64 w7 w4.heap.size (sx.take ls ++ List.replicate (m + 1 + M + 1 - ls) 0)) := hrow7
    clear hrow7 hsv hsc hsl hsn hlsx hrow6 hbel46 hbel6 hbel5 hrowl HSX
    generalize sx.take ls ++ List.replicate (m + 1 + M + 1 - ls) 0 = cur0 at *
    go_wp2_with (at_make; refine wpList_make_row _ rfl _ _ 29 rfl 50 .u64 8 Try.underlying29 Try.infoU _ _ _ _ (M + 1) rfl rfl (by omega) (by omega) (by omega) (by unfold maxLen; omega) ?_)
    intro w8 hrowq hbel8
    have hrow8 := HROW7.out.below hbel8 HROW7.out.lt
    have hgq : w4.heap.size < w7.heap.size := HROW7.out.lt
    have hbel48 : Below w4.heap.size w4 w8 := hbel7.trans (hbel8.mono hbel7.size)
    have HINI : Hid (Dvs (val B64 xs * 2 ^ t) (val B64 ds) (m + 1 + M) (M + 1) (M + 1) cur0 (List.replicate (M + 1) 0)) := by
      refine ⟨HV7.out.2.2, HV7.out.2.1, by simp, Dg.zeros B64_pos _, by rw [HV7.out.1]; exact HX0.out, ?_⟩
      rw [HV7.out.1, List.drop_eq_nil_of_le (by simp)]
      simp [val]
    clear HROW7 hbel7 hbel8
    go_wp2
    go_loopw [58] (fun v wr => ∃ (i : Nat) (cur qs : List Int), i ≤ M + 1 ∧ v = .int .i64 i ∧ Row 50 .u64 wr w4.heap.size cur ∧ Row 50 .u64 wr w7.heap.size qs ∧ Dvs (val B64 xs * 2 ^ t) (val B64 ds) (m + 1 + M) (M + 1) (M + 1 - i) cur qs ∧ Below w4.heap.size w4 wr) (fun v _ => M + 1 - (intOf v).toNat)
    case atStart => exact ⟨0, _, _, Nat.zero_le _, rfl, hrow8, hrowq, HINI.out, hbel48⟩
    case round =>
      obtain ⟨i, cur, qs, hi, rfl, hrl, hrq, hdv, hbw⟩ := hrel
      by_cases hlt : i < M + 1
      · obtain ⟨k, hk⟩ : ∃ k : Nat, (M : Int) - i = k := ⟨M - i, by omega⟩
        have hkM : k < M + 1 := by omega
        rw [show M + 1 - i = k + 1 by omega] at hdv
        have hpre := hdv.pre (n := m + 1) (by omega) HD0.out.2 HD0.out.1
        have hlc := hdv.1
        have hDw : Dv wr (some ⟨b2, off2, none⟩) (m + 1) ds := ⟨hDv.lies.old hbw, hDv.dg, hDv.pos, hDv.big⟩
        have HDL := divLimb_any 50 w4.heap.size k m (m + 1 + M + 1 - k) cd (some ⟨b2, off2, none⟩) cur ds wr hrl hdv.2.1 hDw (fun b' off' s hb' => by injection hb' with hb'; injection hb' with hb'; omega) (by omega) (by omega) _ _ rfl rfl hpre.2
        have HST : Hid (∀ cur' G, cur'.length = cur.length → Dg B64 cur' → (∀ j, j < k ∨ k + (m + 1) < j → cur'.getD j 0 = cur.getD j 0) → G = val B64 (seg cur k (m + 1 + 1)) / val B64 ds → val B64 (seg cur' k (m + 1 + 1)) = val B64 (seg cur k (m + 1 + 1)) % val B64 ds →
            (0 ≤ G ∧ G < 18446744073709551616) ∧ Dvs (val B64 xs * 2 ^ t) (val B64 ds) (m + 1 + M) (M + 1) k cur' (qs.set k G)) := fun cur' G a b c d e => hdv.step (n := m + 1) (by omega) hkM HD0.out.2 HD0.out.1 a b c d e
        have hlq := hdv.2.2.1
        have HRQ : Hid (Row 50 .u64 wr w7.heap.size qs) := hrq
        have HBW : Hid (Below w4.heap.size w4 wr) := hbw
        have HKI : Hid (M + 1 - (i + 1) = k) := by unfold Hid; omega
        have hke : k + (m + 1 + 1) ≤ m + 1 + M + 1 := by omega
        clear hdv hpre hrl hrq hbw hrow8 hrowq hbel48 hDw HINI HV7
        go_wp2_with fail
        rw [show k + (m + 1) + 1 - k = m + 1 + 1 by omega]
        refine HDL.mono ?_
        rintro e w9 ⟨G, rfl, cur', hrl', c1, c2, c3, eG, eR, hgr⟩
        have hst := HST.out cur' G c1 c2 c3 eG eR
        have hrq9 := HRQ.out.kept hgr (by simp; omega)
        have hfr := hrq9.frozen k
        have hcl := hrq9.cell k (by omega)
        have HRL : Hid (Row 50 .u64 (w9.setCell ⟨w7.heap.size, k, none⟩ (.int .u64 G)) w4.heap.size cur') := hrl'.kept (grown_set _ _ _ _) (by simp; omega)
        have HRQ9 : Hid (Row 50 .u64 (w9.setCell ⟨w7.heap.size, k, none⟩ (.int .u64 G)) w7.heap.size (qs.set k G)) := hrq9.set k G
        have HB9 : Hid (Below w4.heap.size w4 (w9.setCell ⟨w7.heap.size, k, none⟩ (.int .u64 G))) := (HBW.out.grown hgr HBW.out.size (fun j hj => by injection hj with hj; omega)).setCell (p := ⟨w7.heap.size, k, none⟩) (by show w4.heap.size ≤ w7.heap.size; omega) _
        have HDS : Hid (Dvs _ _ _ _ _ _ _) := hst.2
        clear hst hrq9 hrl' c1 c2 c3 eG eR hgr HST HDL HRQ HBW
        go_wp2
        go_roundw
        case rel => exact ⟨i + 1, cur', _, by omega, by go_num, HRL.out, HRQ9.out, by rw [HKI.out]; exact HDS.out, HB9.out⟩
        case measure => simp [intOf]; omega
      · obtain rfl : i = M + 1 := by omega
        rw [Nat.sub_self] at hdv
        have hdone := hdv.done HDV.out HD0.out.1
        have hlc := hdv.1
        have hlq := hdv.2.2.1
        have hnq := hrq.num hdv.2.2.2.1 (by omega)
        have hnl' := hrl.num hdv.2.1 (by omega)
        rw [hlq] at hnq
        rw [hlc] at hnl'
        have HSH := Shift_down (some ⟨w4.heap.size, 0, none⟩) (m + 1 + M + 1) (m + 1 + M + 1) cur t wr hnl' (by omega)
        rw [hdone.2] at HSH
        have HQV : Hid (val B64 qs = val B64 xs / val B64 ys) := hdone.1
        have HNQ : Hid (NumIn _ _ _ _ _ _ _) := hnq
        have HB : Hid (Below w3.heap.size w3 wr) := HBEL.out.trans (hbw.mono HBEL.out.size)
        clear hdv hdone hrl hrq hnq hnl' hbw hrow8 hrowq hbel48 HINI HV7 hlc hlq h h4 hdn hDv HX0 HD0 HDV
        go_wp2_with fail
        refine (trim_any _ _ _ _ _ HNQ.out.lies HNQ.out.lc HNQ.out.cm HNQ.out.nn).mono ?_
        rintro e w10 ⟨rfl, rfl⟩
        go_wp2_with fail
        refine HSH.mono ?_
        rintro e w11 ⟨v, rfl, ar, lr, cr, rs, rfl, r1, r2, r3, r4, r5⟩
        have HF : Hid (DivOut w3 w11 (.slice (some ⟨w7.heap.size, 0, none⟩) (top qs) (M + 1)) (.slice ar lr cr) (val B64 xs) (val B64 ys) (la + 1)) := by
          have hbb : Below w3.heap.size w3 w11 := HB.out.trans (r5.mono HB.out.size)
          refine ⟨(HNQ.out.old r5).out hbb _ HQV.out _ (by omega), ⟨ar, lr, cr, rs, rfl, r1, r2, r3, by omega, hbb⟩⟩
        clear r1 r2 r3 r4 r5 HB HNQ HQV
        go_wp2
        go_ret3
        exact ⟨_, _, rfl, HF.out⟩
end Go.Proofs.Ytagljkbfgldlgaa
/-
  Contract of the fixed facts: Awake answers true; and of long.
-/
namespace Go.Proofs.Ytagljkbfgldlgaa
open Go.RowKit
set_option linter.unusedVariables false
set_option linter.unusedSimpArgs false

theorem one_number {xs : List Int} (hd : Dg B64 xs) (hc : Canon xs) {ys : List Int} (hd' : Dg B64 ys) (hc' : Canon ys) (h : val B64 xs = val B64 ys) : xs = ys := canon_inj B64_one hd hd' hc hc' h
theorem dg_lit2 (a b : Int) (ha : 0 ≤ a ∧ a < 18446744073709551616) (hb : 0 ≤ b ∧ b < 18446744073709551616) : Dg B64 [a, b] := Dg.cons ha (Dg.cons hb (Dg.nil _))

end Go.Proofs.Ytagljkbfgldlgaa
/-
  Contract of long: whether one of the numbers handed over has more limbs than are gone to.
-/
namespace Go.Proofs.Ytagljkbfgldlgaa
open Go.RowKit
set_option linter.unusedVariables false
set_option linter.unusedSimpArgs false

end Go.Proofs.Ytagljkbfgldlgaa
/-
  What a law is told of a slice of integers that came in, as a number.
-/
namespace Go.Proofs.Ytagljkbfgldlgaa
open Go.RowKit
set_option linter.unusedVariables false
set_option linter.unusedSimpArgs false

/-- A slice of integers that came in: nil, or a row of 'cap' cells. -/
def Came (k : IntKind) (w : World) (a : Option Addr) (len cap : Nat) (zs : List Int) : Prop :=
  (a = none ∧ len = 0 ∧ cap = 0 ∧ zs = []) ∨
  ∃ x, a = some x ∧ len ≤ cap ∧ cap ≤ maxLen ∧ zs.length = cap ∧ (∀ i, i < zs.length → w.cell? (x.add i) = some (.int k (zs.getD i 0))) ∧ ∀ n ∈ zs, (Lit.int k n).wf = true

theorem word_u64 {x : Int} (h : (Lit.int .u64 x).wf = true) : 0 ≤ x ∧ x < 18446744073709551616 := by
  simp [Lit.wf, IntKind.min, IntKind.max, IntKind.signed, IntKind.bits] at h
  exact ⟨by omega, by omega⟩
theorem word_u8 {x : Int} (h : (Lit.int .u8 x).wf = true) : 0 ≤ x ∧ x < 256 := by
  simp [Lit.wf, IntKind.min, IntKind.max, IntKind.signed, IntKind.bits] at h
  exact ⟨by omega, by omega⟩

theorem Came.le {k : IntKind} {w : World} {a : Option Addr} {len cap : Nat} {zs : List Int} (h : Came k w a len cap zs) : len ≤ maxLen := by
  rcases h with ⟨rfl, rfl, rfl, rfl⟩ | ⟨x, rfl, h1, h2, _⟩
  · simp
  · omega
theorem Came.num {k : IntKind} {B : Int} {w : World} {a : Option Addr} {len cap : Nat} {zs : List Int} (hk : ∀ n, (Lit.int k n).wf = true → 0 ≤ n ∧ n < B) (h : Came k w a len cap zs) (hs : len ≤ 1073741824) : NumIn k B w a len cap (zs.take len) := by
  rcases h with ⟨rfl, rfl, rfl, rfl⟩ | ⟨x, rfl, h1, h2, h3, h4, h5⟩
  · exact NumIn.nil
  · refine ⟨⟨by simp; omega, ?_⟩, h1, h2, (fun h => by cases h), fun n hn => hk n (h5 n (List.mem_of_mem_take hn)), hs⟩
    by_cases h0 : len = 0
    · exact .inl h0
    · right
      obtain ⟨b, off, spot⟩ := x
      have hc := h4 0 (by omega)
      have hspot : spot = none := by simpa [Addr.add] using World.cell?_spot hc
      subst hspot
      refine ⟨b, off, rfl, ?_, fun i hi => ?_⟩
      · rw [add_none] at hc
        exact World.block_lt_of_cell? w ⟨b, off + 0, none⟩ hc
      · have := h4 i (by omega)
        rw [add_none] at this
        rw [this]
        simp only [List.getD, List.getElem?_take]
        rw [if_pos hi]
theorem Came.nat {w : World} {a : Option Addr} {len cap : Nat} {zs : List Int} (h : Came .u64 w a len cap zs) (hs : len ≤ 70) : NumIn .u64 B64 w a len cap (zs.take len) := h.num (fun _ => word_u64) (by omega)
theorem Came.bytes {w : World} {a : Option Addr} {len cap : Nat} {zs : List Int} (h : Came .u8 w a len cap zs) (hs : len ≤ 2000) : NumIn .u8 256 w a len cap (zs.take len) := h.num (fun _ => word_u8) (by omega)
theorem Came.old {k : IntKind} {w w' : World} {a : Option Addr} {len cap : Nat} {zs : List Int} (h : Came k w a len cap zs) (hb : Below w.heap.size w w') : Came k w' a len cap zs := by
  rcases h with h | ⟨x, rfl, h1, h2, h3, h4, h5⟩
  · exact .inl h
  · refine .inr ⟨x, rfl, h1, h2, h3, fun i hi => ?_, h5⟩
    have := h4 i hi
    have hlt := World.block_lt_of_cell? w _ this
    rw [hb.cell hlt]; exact this
end Go.Proofs.Ytagljkbfgldlgaa
/-
  append of numbers to a slice of the call's own.
-/
namespace Go.Proofs.Ytagljkbfgldlgaa
open Go.RowKit
set_option linter.unusedVariables false
set_option linter.unusedSimpArgs false

/-- The slice value v is the call's own (its block is from 'base' on) and holds xs. -/
def Own (e : TypeId) (k : IntKind) (w : World) (base : Nat) (v : Value) (xs : List Int) : Prop := w.ownsRow base e 1 v xs.length (xs.map (Value.int k))

theorem Own.nil (e : TypeId) (k : IntKind) (w : World) (base : Nat) : Own e k w base (.slice none 0 0) [] := World.ownsRow_nil w base e 1
theorem Own.num {e : TypeId} {k : IntKind} {B : Int} {w : World} {base : Nat} {v : Value} {xs : List Int} (h : Own e k w base v xs) (hd : Dg B xs) (hs : xs.length ≤ 1073741824) : ∃ ao cap, v = .slice ao xs.length cap ∧ NumIn k B w ao xs.length cap xs := by
  rcases h.2 with ⟨rfl, h0⟩ | ⟨g, cap, cur, rfl, hg, hrow, h1, h2, h3, h4⟩
  · have : xs = [] := List.eq_nil_of_length_eq_zero h0
    subst this
    exact ⟨none, 0, rfl, NumIn.nil⟩
  · refine ⟨_, cap, rfl, ⟨⟨rfl, ?_⟩, h1, h2, (fun h => by cases h), hd, hs⟩⟩
    right
    refine ⟨g, 0, rfl, (Array.getElem?_eq_some_iff.1 hrow).1, fun i hi => ?_⟩
    rw [Nat.zero_add, cell_of_row w g i cur e (0, 0) hrow]
    have : (cur.toList.take (xs.length * 1))[i]? = (xs.map (Value.int k))[i]? := by rw [h4]
    rw [List.getElem?_take, if_pos (by omega)] at this
    rw [← Array.getElem?_toList, this]
    simp [hi]
theorem Own.below {e : TypeId} {k : IntKind} {w w' : World} {base : Nat} {v : Value} {xs : List Int} (h : Own e k w base v xs) (hb : Below w.heap.size w w') : Own e k w' base v xs := by
  refine ⟨h.1, ?_⟩
  rcases h.2 with h0 | ⟨g, cap, cur, rfl, hg, hrow, r⟩
  · exact .inl h0
  · exact .inr ⟨g, cap, cur, rfl, hg, by rw [hb.block g (Array.getElem?_eq_some_iff.1 hrow).1]; exact hrow, r⟩
theorem Own.alloc {e : TypeId} {k : IntKind} {w : World} {base : Nat} {v : Value} {xs : List Int} (h : Own e k w base v xs) (o : Obj) : Own e k (w.alloc o) base v xs := World.ownsRow.alloc h o
/-- A slice literal without elements. -/
theorem own_lit0 (e : TypeId) (k : IntKind) (w : World) (base : Nat) (hb : base ≤ w.heap.size) : Own e k (w.alloc (.cells #[] e)) base (.slice (some ⟨w.heap.size, 0, none⟩) 0 0) [] :=
  World.ownsRow_lit w #[] 0 hb (Nat.zero_le _) (by simp)
theorem Row.own {e : TypeId} {k : IntKind} {w : World} {g base : Nat} {xs : List Int} (h : Row e k w g xs) (hb : base ≤ g) (hs : xs.length ≤ 1073741824) : Own e k w base (.slice (some ⟨g, 0, none⟩) xs.length xs.length) xs := by
  refine ⟨by simp, .inr ⟨g, xs.length, _, rfl, hb, h, Nat.le_refl _, by unfold maxLen; omega, by simp, ?_⟩⟩
  simp only [Nat.mul_one]
  exact List.take_of_length_le (by simp)

/-- append(out, src...): whatever the source. -/
theorem wpList_append_nums {P : Program} {w : World} {ops : Array Oper} {rest : List Oper} {o : Oper} {a : Act} {Q : Exit → Act → World → Prop} (hgd : o.guard = none) (s x : Operand) (t : TypeId)
    (ho : o.op = .call { callee := .builtin .append, args := #[s, x], argTypes := #[t, t] }) (e : TypeId) (k : IntKind) (bytes : Nat) (ht : P.underlying t = some (.slice e))
    (h2 : (P.info? e).map (fun i => (i.zero, i.size, i.bytes)) = some (some (.int k 0), 1, bytes)) (base : Nat) (v : Value) (xs : List Int) (hs : a.eval s = v) (hown : Own e k w base v xs)
    (ao : Option Addr) (m c : Nat) (ys : List Int) (hx : a.eval x = .slice ao m c) (hy : Lies k w ao m ys) (hnn : ao = none → c = 0) (hb1 : xs.length + m ≤ 1073741824) (hb2 : bytes ≤ 8) (w0 : World) (hb : Below base w0 w) (hbase : base ≤ w.heap.size)
    (h : ∀ v' w', Own e k w' base v' (xs ++ ys) → Below base w0 w' → (∀ g, v.ownBlock ≠ some g → g < w.heap.size → w'.heap[g]? = w.heap[g]?) → w.heap.size ≤ w'.heap.size → wpList P ops Q rest (a.put o.dst v') w') : wpList P ops Q (o :: rest) a w := by
  obtain ⟨i, hi, hz0, hz1, hz2⟩ := info_parts h2
  have hl := hy.len
  cases ao with
  | none =>
    obtain rfl := hnn rfl
    have hm0 : m = 0 := by
      rcases hy.2 with h | ⟨b, off, e', _⟩
      · exact h
      · cases e'
    subst hm0
    have hy0 : ys = [] := List.eq_nil_of_length_eq_zero hl
    subst hy0
    refine wpList_append_own_none hgd s x t ho base e i 1 ht hi v _ _ hs hown hx ?_
    exact h v w (by rw [List.append_nil]; exact hown) hb (fun _ _ _ => rfl) (Nat.le_refl _)
  | some ad =>
    have hbt : (xs.length + m) * bytes ≤ 140737488355328 := by
      have := Nat.mul_le_mul hb1 hb2
      omega
    refine wpList_append_own (w := w) hgd s x t ho base e i (.int k 0) 1 bytes ht hi hz0 hz1 hz2 rfl (by decide) v _ _ hs hown ad m c (ys.map (Value.int k)) hx (by simp [hl]) ?_ (ints_oneCell _ _) (by unfold maxLen; omega) hbt hbase ?_
    · intro j u hj
      simp only [List.getElem?_map] at hj
      by_cases hjm : j < ys.length
      · obtain ⟨b, off, e', hlt, hc⟩ := hy.at (by omega)
        injection e' with e'
        subst e'
        have := hc j (by omega)
        rw [List.getElem?_eq_getElem hjm] at hj
        simp only [Option.map_some, Option.some.injEq] at hj
        rw [add_none, this, ← hj]
        simp [List.getD, List.getElem?_eq_getElem hjm]
      · rw [List.getElem?_eq_none (by omega)] at hj
        simp at hj
    · intro v' w' hown' hgr _
      refine h v' w' ?_ (hb.grown hgr hbase ?_) ?_ hgr.size
      · unfold Own
        rw [List.length_append, List.map_append, hl]
        exact hown'
      · intro g hg
        exact (hown.lt g hg).1
      · intro g hg hlt
        exact hgr.block g hlt (fun e => hg e.symm)

theorem blen_bytes (B : Int) (n : Nat) (h0 : 0 ≤ B) (h : B < 256 ^ n) : blen B.toNat ≤ 8 * n := by
  apply blen_le
  have e : ((2 ^ (8 * n) : Nat) : Int) = 256 ^ n := by rw [Int.natCast_pow, Int.pow_mul]; rfl
  rw [← e] at h
  omega
/-- Bytes as a text. -/
theorem conv_bytes (w : World) (src dst e : TypeId) (hs : Try.prog.underlying src = some (.slice e)) (he : Try.prog.underlying e = some (.int .u8)) (hd : Try.prog.underlying dst = some .string) (ao : Option Addr) (len cap : Nat) (xs : List Int) (h : Lies .u8 w ao len xs) :
    (convert src dst (.slice ao len cap)).run Try.prog w = .ok (.string (strOfNums xs)) w := by
  have hl := h.len
  rcases h.2 with h0 | ⟨b, off, rfl, hb, hc⟩
  · subst h0
    have hx : xs = [] := List.eq_nil_of_length_eq_zero hl
    subst hx
    cases ao with
    | none => exact run_convert_bytes_nil w src e hs he 0 cap dst hd
    | some a =>
      rw [run_convert_bytes_string w src dst e _ 0 cap hs he hd, run_bytesToString w a 0 cap [] (by rfl)]
      rfl
  · exact run_convert_bytes_arg w src e hs he b off len cap xs hl hc dst hd

/-- nat.Shift below or at 0. -/
theorem Shift_minus (ao : Option Addr) (la ca : Nat) (xs : List Int) (t : Nat) (arg : Int) (w : World) (h : NumIn .u64 B64 w ao la ca xs) (ha : arg = -(t : Int)) (ht : t ≤ 4096) (hlb : la < 1073741000) :
    Calls Try.prog 39 #[.slice ao la ca, .int .i64 arg] w fun e w' => ∃ v, e = .returned v ∧ NumOut .u64 B64 w w' v (val B64 xs * 2 ^ t) (la + 65) := by
  subst ha
  by_cases h0 : t = 0
  · subst h0
    refine (Shift_down ao la ca xs 0 w h (by decide)).mono ?_
    rintro e w' ⟨v, rfl, a, b, c, d, rfl, e1, e2, e3, e4, e5⟩
    refine ⟨_, rfl, a, b, c, d, rfl, e1, e2, ?_, by omega, e5⟩
    rw [e3]; simp
  · refine (Shift_up ao la ca xs t w h (by omega) ht hlb).mono ?_
    rintro e w' ⟨v, rfl, a, b, c, d, rfl, e1, e2, e3, e4, e5⟩
    exact ⟨_, rfl, a, b, c, d, rfl, e1, e2, e3, by omega, e5⟩
/-- nat.Shift from 0 on. -/
theorem Shift_plus (ao : Option Addr) (la ca : Nat) (xs : List Int) (t : Nat) (arg : Int) (w : World) (h : NumIn .u64 B64 w ao la ca xs) (ha : arg = (t : Int)) (ht : t < 2147483648) :
    Calls Try.prog 39 #[.slice ao la ca, .int .i64 arg] w fun e w' => ∃ v, e = .returned v ∧ NumOut .u64 B64 w w' v (val B64 xs / 2 ^ t) la := by
  subst ha
  exact Shift_down ao la ca xs t w h ht
end Go.Proofs.Ytagljkbfgldlgaa
/-
  Contracts of the document's answer (numbers as digits of 16 bits): trim, Of, Nat, Same.
-/
namespace Go.Proofs.Ytagljkbfgldlgaa
open Go.RowKit
set_option linter.unusedVariables false
set_option linter.unusedSimpArgs false

/-- An operation whose guard is met is walked as one without. -/
theorem wpList_unguard {P : Program} {w : World} {ops : Array Oper} {rest : List Oper} {o : Oper} {a : Act} {Q : Exit → Act → World → Prop} (hw : Region.wanted o (yielded ops a.tmps) = true)
    (h : wpList P ops Q ({ o with guard := none } :: rest) a w) : wpList P ops Q (o :: rest) a w := by
  have hn : Region.wanted { o with guard := none } (yielded ops a.tmps) = true := rfl
  unfold wpList at h ⊢
  rw [if_pos hn] at h
  rw [if_pos hw]
  exact h

/-- append(out, x). -/
theorem wpList_append_one {P : Program} {w : World} {ops : Array Oper} {rest : List Oper} {o : Oper} {a : Act} {Q : Exit → Act → World → Prop} (hgd : o.guard = none) (s x : Operand) (t : TypeId)
    (ho : o.op = .call { callee := .builtin .append, args := #[s, x], argTypes := #[t, t] }) (e : TypeId) (k : IntKind) (bytes : Nat) (ht : P.underlying t = some (.slice e))
    (h2 : (P.info? e).map (fun i => (i.zero, i.size, i.bytes)) = some (some (.int k 0), 1, bytes)) (base : Nat) (v : Value) (xs : List Int) (y : Int) (hs : a.eval s = v) (hown : Own e k w base v xs)
    (hx : a.eval x = .slice (some ⟨w.heap.size, 0, none⟩) 1 1) (hb1 : xs.length < 1073741824) (hb2 : bytes ≤ 8) (w0 : World) (hb : Below base w0 w) (hbase : base ≤ w.heap.size)
    (h : ∀ v' w', Own e k w' base v' (xs ++ [y]) → Below base w0 w' → wpList P ops Q rest (a.put o.dst v') w') : wpList P ops Q (o :: rest) a (w.alloc (.cells #[.int k y] e)) := by
  refine wpList_append_nums hgd s x t ho e k bytes ht h2 base v xs hs (hown.alloc _) (some ⟨w.heap.size, 0, none⟩) 1 1 [y] hx ((row_alloc w e k y).lies 0 1 (by simp)) (fun h => by cases h) (by omega) hb2 w0 (hb.alloc hbase _) (by simp; omega) ?_
  intro v' w' h1 h2 _ _
  exact h v' w' h1 h2

def D16 : Int := 65536
theorem D16_pos : 0 < D16 := by decide
theorem D16_one : 1 < D16 := by decide
theorem D16_4 : D16 ^ 4 = B64 := by decide

set_option maxHeartbeats 1000000 in
/-- the document's trim. -/
theorem rtrim_any (ao : Option Addr) (len cap : Nat) (xs : List Int) (w : World) (h : NumIn .i64 D16 w ao len cap xs) :
    Calls Try.prog 75 #[.slice ao len cap] w fun e w' => e = .returned (.slice ao (top xs) cap) ∧ w' = w := by
  have hl := h.len
  have ht := top_le xs
  have hs := h.sm
  have hm := h.cm
  have hlc := h.lc
  have hn := h.nn
  unfold maxLen at hm
  go_enter Try.func75, Try.ntmps75
  go_wp2
  go_loop [3] (fun v => ∃ k : Nat, k ≤ len ∧ v = .int .i64 k ∧ ∀ j, k ≤ j → j < len → xs.getD j 0 = 0) (fun v => (intOf v).toNat)
  case atStart => exact ⟨len, Nat.le_refl _, rfl, fun j h1 h2 => by omega⟩
  case round =>
    obtain ⟨k, hk, rfl, hz⟩ := hrel
    have fin : top xs = k → ∀ (K : Prop), (top xs = k → K) → K := fun h K f => f h
    by_cases h0 : k = 0
    · subst h0
      have htop : top xs = 0 := top_eq xs 0 (fun j h1 h2 => hz j h1 (by omega)) (.inl rfl)
      have HT : Hid (top xs = 0) := htop
      clear htop hz fin h
      cases ao with
      | none =>
        obtain rfl := hn rfl
        obtain rfl : len = 0 := by omega
        go_wp2
        go_ret
        exact ⟨ret_slice HT.out.symm rfl, rfl⟩
      | some a =>
        go_wp2
        go_ret
        exact ⟨ret_slice HT.out.symm rfl, rfl⟩
    · obtain ⟨b, off, rfl, hb, hc⟩ := h.lies.at (by omega)
      obtain ⟨m, rfl⟩ : ∃ m, k = m + 1 := ⟨k - 1, by omega⟩
      have hcell := hc m (by omega)
      by_cases hz0 : xs.getD m 0 = 0
      · have HZ : Hid (∀ j, m ≤ j → j < len → xs.getD j 0 = 0) := fun j h1 h2 => by
          by_cases e : j = m
          · rw [e]; exact hz0
          · exact hz j (by omega) h2
        rw [hz0] at hcell
        clear hz hc hz0 fin h0 h
        go_wp2
        go_round
        case rel => exact ⟨m, by omega, by go_num, HZ.out⟩
        case measure => simp only [intOf]; omega
      · have htop : top xs = m + 1 := top_eq xs (m + 1) (fun j h1 h2 => hz j h1 (by omega)) (.inr (by simpa using hz0))
        have HT : Hid (top xs = m + 1) := htop
        have hzb : (xs.getD m 0 == 0) = false := by simpa using hz0
        generalize xs.getD m 0 = x at *
        clear htop hz hc hz0 fin h0 h ht
        go_wp2
        go_ret
        exact ⟨ret_slice HT.out.symm rfl, rfl⟩

theorem val_snoc (B : Int) (xs : List Int) (y : Int) : val B (xs ++ [y]) = val B xs + B ^ xs.length * y := by rw [val_append]; simp [val]
theorem pow_D (i : Nat) : D16 ^ (4 * i) = B64 ^ i := by rw [Int.pow_mul, D16_4]
end Go.Proofs.Ytagljkbfgldlgaa
/-
  Contracts of the document's answer: a number of digits as limbs (Nat), two numbers as they stand (Same), and the law's own 'is'.
-/
namespace Go.Proofs.Ytagljkbfgldlgaa
open Go.RowKit
set_option linter.unusedVariables false
set_option linter.unusedSimpArgs false

/-- The number that n digits from place p on say. -/
def hi (ds : List Int) (p : Nat) : Nat → Int
  | 0 => 0
  | n + 1 => ds.getD p 0 + 65536 * hi ds (p + 1) n
theorem hi_range (ds : List Int) (hd : Dg D16 ds) : ∀ (n p : Nat), 0 ≤ hi ds p n ∧ hi ds p n < D16 ^ n
  | 0, p => by simp [hi]
  | n + 1, p => by
    have h := hi_range ds hd n (p + 1)
    have g := hd.getD D16_pos p
    rw [hi, Int.pow_succ]
    unfold D16 at *
    omega
theorem hi_low (ds : List Int) : ∀ (n p : Nat), low D16 ds (p + n) = low D16 ds p + D16 ^ p * hi ds p n
  | 0, p => by simp [hi]
  | n + 1, p => by
    have h := hi_low ds n (p + 1)
    rw [show p + (n + 1) = p + 1 + n by omega, h, hi, low_succ, Int.pow_succ]
    have : D16 = 65536 := rfl
    generalize D16 ^ p = q at *
    rw [this]
    grind
/-- A number that fills its digits has no zeros above. -/
theorem canon_of_ge {B : Int} (hB : 1 < B) {xs : List Int} (hd : Dg B xs) (n : Nat) (hl : xs.length = n + 1) (h : B ^ n ≤ val B xs) : Canon xs := by
  unfold Canon
  have ht := top_le xs
  by_cases e : top xs = xs.length
  · exact e
  · exfalso
    have a := val_lt (by omega) (hd.take (top xs))
    rw [val_take_top] at a
    have c : (xs.take (top xs)).length = top xs := by simp; omega
    rw [c] at a
    have d := pow_mono (B := B) (by omega) (show top xs ≤ n by omega)
    omega
/-- What Nat has gathered: m limbs. -/
def Nats (ds : List Int) (m : Nat) (outs : List Int) : Prop := outs.length = m ∧ Dg B64 outs ∧ val B64 outs = low D16 ds (4 * m)
theorem Nats.step {ds : List Int} {m : Nat} {outs : List Int} (hd : Dg D16 ds) (h : Nats ds m outs) : Nats ds (m + 1) (outs ++ [hi ds (4 * m) 4]) := by
  obtain ⟨h1, h2, h3⟩ := h
  have hr := hi_range ds hd 4 (4 * m)
  rw [D16_4] at hr
  refine ⟨by simp [h1], h2.append (Dg.cons hr (Dg.nil _)), ?_⟩
  rw [val_snoc, h3, h1, show 4 * (m + 1) = 4 * m + 4 by omega, hi_low, pow_D]
theorem Nats.done {ds : List Int} {m : Nat} {outs : List Int} (h : Nats ds m outs) (hd : Dg D16 ds) (hc : Canon ds) (h1 : ds.length ≤ 4 * m) (h2 : 4 * m < ds.length + 4) : val B64 outs = val D16 ds ∧ Canon outs := by
  obtain ⟨e1, e2, e3⟩ := h
  have hv : val B64 outs = val D16 ds := by rw [e3]; exact low_all _ _ _ (by unfold Canon at hc; omega)
  refine ⟨hv, ?_⟩
  cases m with
  | zero =>
    have : outs = [] := List.eq_nil_of_length_eq_zero e1
    rw [this]; exact Canon.nil
  | succ m =>
    refine canon_of_ge B64_one e2 m e1 ?_
    rw [hv, ← pow_D]
    have a := val_ge D16_pos hd (ds.length - 1) (by unfold Canon at hc; omega)
    have b := pow_mono (B := D16) (by decide) (show 4 * m ≤ ds.length - 1 by omega)
    omega

set_option maxHeartbeats 4000000 in
/-- the document's Nat. -/
theorem rNat_any (ao : Option Addr) (la ca : Nat) (ds : List Int) (w : World) (h : NumIn .i64 D16 w ao la ca ds) (hc : Canon ds) (hla : la ≤ 1000000) :
    Calls Try.prog 23 #[.slice ao la ca] w fun e w' => ∃ v, e = .returned v ∧ NumOut .u64 B64 w w' v (val D16 ds) la := by
  have hl := h.len
  go_enter Try.func23, Try.ntmps23
  go_wp2
  go_loopw [3, 4] (fun vo vi wr => ∃ (m : Nat) (outs : List Int), 4 * m < la + 4 ∧ vi = .int .i64 ((4 * m : Nat) : Int) ∧ Own 50 .u64 wr w.heap.size vo outs ∧ Nats ds m outs ∧ Below w.heap.size w wr) (fun _ vi _ => la + 4 - (intOf vi).toNat)
  case atStart => exact ⟨0, [], by omega, rfl, Own.nil _ _ _ _, ⟨rfl, Dg.nil _, by simp [val, low_zero]⟩, Below.refl _ _⟩
  case round =>
    obtain ⟨m, outs, hi0, rfl, hown, hns, hb⟩ := hrel
    by_cases hlt : 4 * m < la
    · have hx := h.lies.old hb
      obtain ⟨b, off, rfl, hblk, hcs⟩ := hx.at (by omega)
      have HC : Hid (∀ i, i < la → wr.cell? ⟨b, off + i, none⟩ = some (.int .i64 (ds.getD i 0))) := hcs
      have HN : Hid (Nats ds m outs) := hns
      have HOWN : Hid (Own 50 .u64 wr w.heap.size u3 outs) := hown
      have HB : Hid (Below w.heap.size w wr) := hb
      have HD : Hid (Dg D16 ds) := h.dg
      clear hns hown hb hcs hx h hc
      go_wp2
      go_loop [5, 6] (fun vx vk => ∃ (kk : Nat), kk ≤ 4 ∧ vk = .int .i64 ((kk : Int) - 1) ∧ vx = .int .u64 (hi ds (4 * m + kk) (4 - kk))) (fun _ vk => (intOf vk + 1).toNat)
      case atStart => exact ⟨4, by omega, rfl, rfl⟩
      case round =>
        obtain ⟨kk, hk, rfl, rfl⟩ := hrel
        by_cases hk0 : kk = 0
        · subst hk0
          have HS : Hid (Nats ds (m + 1) (outs ++ [hi ds (4 * m) 4])) := HN.out.step HD.out
          have hlen := HN.out.1
          have HLB : Hid (outs.length < 1073741824) := by unfold Hid; omega
          have hbs := HB.out.size
          have hbw := HB.out
          have how := HOWN.out
          rw [show 4 * m + 0 = 4 * m from rfl, show 4 - 0 = 4 from rfl]
          generalize hi ds (4 * m) 4 = x at *
          clear HN HB HOWN HC HD hlen
          go_wp2_with (at_builtin; refine wpList_append_one rfl _ _ 29 rfl 50 .u64 8 Try.underlying29 Try.infoU w.heap.size u3 outs x (by rfl) how (by rfl) HLB.out (by decide) w hbw hbs ?_)
          intro v' w' hown' hb'
          clear how hbw hbs
          go_wp2
          go_roundw
          case rel => exact ⟨m + 1, _, by omega, by go_num, hown', HS.out, hb'⟩
          case measure => simp [intOf]; omega
        · obtain ⟨k, rfl⟩ : ∃ k, kk = k + 1 := ⟨kk - 1, by omega⟩
          have hr := hi_range ds HD.out (4 - (k + 1)) (4 * m + (k + 1))
          have hp := pow_mono (B := D16) (by decide) (show 4 - (k + 1) ≤ 3 by omega)
          have e3 : D16 ^ 3 = 281474976710656 := by decide
          rw [e3] at hp
          have hx2 : hi ds (4 * m + (k + 1)) (4 - (k + 1)) < 281474976710656 := by omega
          have hx1 := hr.1
          have hg := HD.out.getD D16_pos (4 * m + k)
          have HE : Hid (hi ds (4 * m + k) (4 - k) = ds.getD (4 * m + k) 0 + 65536 * hi ds (4 * m + (k + 1)) (4 - (k + 1))) := by
            unfold Hid
            rw [show 4 - k = (4 - (k + 1)) + 1 by omega, hi]
            rfl
          clear hr hp e3
          unfold D16 at hg
          by_cases hin : 4 * m + k < la
          · have hcell := HC.out (4 * m + k) hin
            generalize hi ds (4 * m + (k + 1)) (4 - (k + 1)) = x at *
            generalize ds.getD (4 * m + k) 0 = y at *
            have ei : ((4 * m + k : Nat) : Int) = 4 * (m : Int) + (k : Int) := by omega
            clear HN HB HOWN HC HD
            go_wp2
            go_round
            case rel => exact ⟨k, by omega, by go_num, by rw [HE.out]; go_num⟩
            case measure => simp [intOf] <;> omega
          · have hz : ds.getD (4 * m + k) 0 = 0 := by simp [List.getD, List.getElem?_eq_none (show ds.length ≤ 4 * m + k by omega)]
            rw [hz] at HE
            generalize hi ds (4 * m + (k + 1)) (4 - (k + 1)) = x at *
            clear HN HB HOWN HC HD hz hg
            go_wp2
            go_round
            case rel => exact ⟨k, by omega, by go_num, by rw [HE.out]; go_num⟩
            case measure => simp [intOf] <;> omega
    · have hdn := hns.done h.dg hc (by omega) (by omega)
      have hlen := hns.1
      obtain ⟨a2, c2, hv, hnum⟩ := hown.num hns.2.1 (by omega)
      have HF : Hid (NumOut .u64 B64 w wr (.slice a2 outs.length c2) (val D16 ds) la) := ⟨_, _, _, _, rfl, hnum, hdn.2, hdn.1, by omega, hb⟩
      subst hv
      clear hown hns hnum hb hdn hlen hc h
      go_wp2
      go_ret
      exact ⟨_, rfl, HF.out⟩

set_option maxHeartbeats 1000000 in
/-- the document's Same, of two numbers that are the same. -/
theorem Same_yes (ao bo : Option Addr) (n ca cb : Nat) (xs : List Int) (w : World) (h : Lies .u64 w ao n xs) (h' : Lies .u64 w bo n xs) (hn : n ≤ 1073741824) :
    Calls Try.prog 15 #[.slice ao n ca, .slice bo n cb] w fun e w' => e = .returned (.bool true) ∧ Drew w w' := by
  go_enter Try.func15, Try.ntmps15
  go_wp2
  go_loopw [5] (fun vi wr => ∃ (i : Nat), i ≤ n ∧ vi = .int .i64 i ∧ Drew w wr) (fun vi _ => n - (intOf vi).toNat)
  case atStart => exact ⟨0, Nat.zero_le _, rfl, Drew.refl _⟩
  case round =>
    obtain ⟨i, hi, rfl, hdr⟩ := hrel
    by_cases hlt : i < n
    · obtain ⟨b, off, rfl, hb, hc⟩ := h.at (by omega)
      obtain ⟨b2, off2, rfl, hb2, hc2⟩ := h'.at (by omega)
      have hcell := (hdr.cell _).trans (hc i hlt)
      have hcell2 := (hdr.cell _).trans (hc2 i hlt)
      generalize xs.getD i 0 = x at *
      have HDR : Hid (Drew w wr) := hdr
      clear hc hc2 h h' hdr
      go_wp2
      go_quiet (fail)
      go_wp2
      go_roundw
      case rel => exact ⟨i + 1, by omega, by go_num, HDR.out.more _⟩
      case measure => simp [intOf]; omega
    · obtain rfl : i = n := by omega
      clear h h'
      go_wp2
      go_ret
      exact ⟨rfl, hdr⟩

end Go.Proofs.Ytagljkbfgldlgaa
/-
  Contracts of the document's answer: how many bits (Len), how one number stands to another (Cmp).
-/
namespace Go.Proofs.Ytagljkbfgldlgaa
open Go.RowKit
set_option linter.unusedVariables false
set_option linter.unusedSimpArgs false

theorem blen_split (L e m : Nat) (hL : L < 2 ^ m) (he : e ≠ 0) : blen (L + 2 ^ m * e) = m + blen e := by
  have b1 := blen_lt e
  have b2 := blen_ge e he
  have b3 := blen_pos e he
  have hp := Nat.two_pow_pos m
  obtain ⟨c, hc⟩ : ∃ c, blen e = c + 1 := ⟨blen e - 1, by omega⟩
  rw [hc] at b1 b2
  simp only [Nat.add_sub_cancel] at b2
  have := blen_eq (L + 2 ^ m * e) (m + c) (by
    rw [Nat.pow_add]
    have := Nat.mul_le_mul_left (2 ^ m) b2
    omega) (by
    rw [show m + c + 1 = m + (c + 1) by omega, Nat.pow_add]
    have := Nat.mul_le_mul_left (2 ^ m) (show e + 1 ≤ 2 ^ (c + 1) by omega)
    rw [Nat.mul_add] at this
    omega)
  omega
theorem blen_half (n : Nat) (h : 0 < n) : blen n = 1 + blen (n / 2) := by
  by_cases h1 : n = 1
  · subst h1; decide
  · have := blen_shift n 1 (by omega)
    simpa using this
theorem rlen_eq (ds : List Int) (hd : Dg D16 ds) (hc : Canon ds) (m : Nat) (hm : ds.length = m + 1) : 16 * m + blen (ds.getD m 0).toNat = blen (val D16 ds).toNat := by
  have ht : top ds = m + 1 := by unfold Canon at hc; omega
  have hh := top_hit ds (by omega)
  have hg := hd.getD D16_pos m
  rw [ht] at hh
  simp only [Nat.add_sub_cancel] at hh
  have hv : val D16 ds = low D16 ds m + D16 ^ m * ds.getD m 0 := by rw [← low_succ, ← hm, low_len]
  have l0 : 0 ≤ low D16 ds m := val_nonneg D16_pos (hd.take m)
  have l1 : low D16 ds m < D16 ^ m := by
    have a := val_lt D16_pos (hd.take m)
    have b : (ds.take m).length ≤ m := by simp; omega
    have c := pow_mono (B := D16) (by decide) b
    unfold low; omega
  generalize ds.getD m 0 = d at *
  generalize low D16 ds m = L at *
  obtain ⟨e, rfl⟩ := Int.eq_ofNat_of_zero_le hg.1
  obtain ⟨L, rfl⟩ := Int.eq_ofNat_of_zero_le l0
  have hB : D16 ^ m = ((2 ^ (16 * m) : Nat) : Int) := by rw [Int.natCast_pow, Int.pow_mul]; rfl
  rw [hB] at hv l1
  rw [hv, ← Int.natCast_mul, ← Int.natCast_add, Int.toNat_natCast, Int.toNat_natCast, blen_split L e (16 * m) (by omega) (by intro h0; rw [h0] at hh; exact hh rfl)]

set_option maxHeartbeats 1000000 in
/-- the document's Len. -/
theorem rLen_any (ao : Option Addr) (la ca : Nat) (ds : List Int) (w : World) (h : NumIn .i64 D16 w ao la ca ds) (hc : Canon ds) (hla : la ≤ 1000000) :
    Calls Try.prog 40 #[.slice ao la ca] w fun e w' => e = .returned (.int .i64 (blen (val D16 ds).toNat)) ∧ w' = w := by
  have hl := h.len
  by_cases h0 : la = 0
  · subst h0
    have hx : ds = [] := List.eq_nil_of_length_eq_zero hl
    subst hx
    clear h hc
    go_enter Try.func40, Try.ntmps40
    go_wp2
    go_ret
    exact ⟨ret_int (by simp [val, blen]), rfl⟩
  · obtain ⟨m, rfl⟩ : ∃ m, la = m + 1 := ⟨la - 1, by omega⟩
    obtain ⟨b, off, rfl, hb, hcs⟩ := h.lies.at (by omega)
    have hcell := hcs m (by omega)
    have HE : Hid (16 * m + blen (ds.getD m 0).toNat = blen (val D16 ds).toNat) := rlen_eq ds h.dg hc m hl
    have hg := h.dg.getD D16_pos m
    generalize ds.getD m 0 = d at *
    obtain ⟨d, rfl⟩ := Int.eq_ofNat_of_zero_le hg.1
    rw [Int.toNat_natCast] at HE
    have hd2 : d < 65536 := by unfold D16 at hg; omega
    have hbl := blen_le d 16 hd2
    clear hcs h hc hg h0 hl
    go_enter Try.func40, Try.ntmps40
    go_wp2
    go_loop [3, 4] (fun vn vx => ∃ (j x : Nat), j + blen x = blen d ∧ x ≤ d ∧ vn = .int .i64 ((16 * m + j : Nat) : Int) ∧ vx = .int .i64 (x : Int)) (fun _ vx => (intOf vx).toNat)
    case atStart => exact ⟨0, d, by omega, Nat.le_refl _, by go_num, rfl⟩
    case round =>
      obtain ⟨j, x, hj, hx, rfl, rfl⟩ := hrel
      by_cases h0 : x = 0
      · subst h0
        have HF : Hid (16 * m + j = blen (val D16 ds).toNat) := by unfold Hid; rw [← HE.out, ← hj, blen_zero]; omega
        clear HE hj
        rw [show ((0 : Nat) : Int) = 0 from rfl]
        go_wp2
        go_ret
        exact ⟨ret_int (by rw [← HF.out]; omega), rfl⟩
      · have HS : Hid ((j + 1) + blen (x / 2) = blen d) := by unfold Hid; rw [← hj, blen_half x (by omega)]; omega
        have hj2 : j ≤ 16 := by omega
        clear HE hj
        go_wp2
        go_round
        case rel => exact ⟨j + 1, x / 2, HS.out, by omega, by go_num, by go_num⟩
        case measure => simp [intOf] <;> omega

set_option maxHeartbeats 2000000 in
/-- the document's Cmp. -/
theorem rCmp_any (ao bo : Option Addr) (la ca lb cb : Nat) (xs ys : List Int) (w : World) (h : NumIn .i64 D16 w ao la ca xs) (h' : NumIn .i64 D16 w bo lb cb ys) (hx : Canon xs) (hy : Canon ys) (hla : la ≤ 1000000) (hlb : lb ≤ 1000000) :
    Calls Try.prog 34 #[.slice ao la ca, .slice bo lb cb] w fun e w' => e = .returned (.int .i64 (cmpI (val D16 xs) (val D16 ys))) ∧ Drew w w' := by
  have hl := h.len
  have hl' := h'.len
  unfold Canon at hx hy
  rcases Nat.lt_trichotomy la lb with hlt | heq | hlt
  · have HF : Hid (cmpI (val D16 xs) (val D16 ys) = -1) := cmpI_lt (top_lt_val D16_one h.dg h'.dg (by omega))
    have hne : ((la : Int) != (lb : Int)) = true := by simp; omega
    clear h h' hx hy
    go_enter Try.func34, Try.ntmps34
    go_wp2
    go_ret
    exact ⟨ret_int HF.out.symm, Drew.refl _⟩
  · subst heq
    clear hx hy
    go_enter Try.func34, Try.ntmps34
    go_wp2
    go_loopw [5] (fun vi wr => ∃ (k : Nat), k ≤ la ∧ vi = .int .i64 ((k : Int) - 1) ∧ (∀ j, k ≤ j → j < la → xs.getD j 0 = ys.getD j 0) ∧ Drew w wr) (fun vi _ => (intOf vi + 1).toNat)
    case atStart => exact ⟨la, Nat.le_refl _, by go_num, fun j h1 h2 => by omega, Drew.refl _⟩
    case round =>
      obtain ⟨k, hk, rfl, heq, hdr⟩ := hrel
      by_cases h0 : k = 0
      · subst h0
        have HF : Hid (cmpI (val D16 xs) (val D16 ys) = 0) := by
          refine cmpI_eq ?_
          congr 1
          apply List.ext_getElem
          · omega
          · intro i h1 h2
            have := heq i (by omega) (by omega)
            simp only [List.getD] at this
            rw [List.getElem?_eq_getElem h1, List.getElem?_eq_getElem h2] at this
            simpa using this
        clear heq h h'
        go_wp2
        go_ret
        exact ⟨ret_int HF.out.symm, hdr⟩
      · obtain ⟨p, rfl⟩ : ∃ p, k = p + 1 := ⟨k - 1, by omega⟩
        obtain ⟨b, off, rfl, hb, hc⟩ := h.lies.at (by omega)
        obtain ⟨b2, off2, rfl, hb2, hc2⟩ := h'.lies.at (by omega)
        have hcell := (hdr.cell _).trans (hc p (by omega))
        have hcell2 := (hdr.cell _).trans (hc2 p (by omega))
        have HL : Hid (xs.getD p 0 < ys.getD p 0 → val D16 xs < val D16 ys) := cmp_at D16 D16_one xs ys h.dg h'.dg la hl hl' p (by omega) (fun j h1 h2 => heq j (by omega) h2)
        have HG : Hid (ys.getD p 0 < xs.getD p 0 → val D16 ys < val D16 xs) := cmp_at D16 D16_one ys xs h'.dg h.dg la hl' hl p (by omega) (fun j h1 h2 => (heq j (by omega) h2).symm)
        have HE : Hid (xs.getD p 0 = ys.getD p 0 → ∀ j, p ≤ j → j < la → xs.getD j 0 = ys.getD j 0) := fun h0 j h1 h2 => by
          by_cases hj : j = p
          · rw [hj]; exact h0
          · exact heq j (by omega) h2
        have HDR : Hid (Drew w wr) := hdr
        generalize xs.getD p 0 = x at *
        generalize ys.getD p 0 = y at *
        clear hc hc2 heq h h' hdr
        rcases Int.lt_trichotomy x y with hxy | hxy | hxy
        · have HF : Hid (cmpI (val D16 xs) (val D16 ys) = -1) := cmpI_lt (HL.out hxy)
          clear HL HG HE
          go_wp2
          go_quiet (fail)
          go_wp2
          go_ret
          exact ⟨ret_int HF.out.symm, HDR.out.more _⟩
        · have HF : Hid (∀ j, p ≤ j → j < la → xs.getD j 0 = ys.getD j 0) := HE.out hxy
          subst hxy
          clear HL HG HE
          go_wp2
          go_quiet (fail)
          go_wp2
          go_quiet (fail)
          go_wp2
          go_roundw
          case rel => exact ⟨p, by omega, by go_num, HF.out, HDR.out.more _⟩
          case measure => simp [intOf] <;> omega
        · have HF : Hid (cmpI (val D16 xs) (val D16 ys) = 1) := cmpI_gt (HG.out hxy)
          clear HL HG HE
          go_wp2
          go_quiet (fail)
          go_wp2
          go_quiet (fail)
          go_wp2
          go_ret
          exact ⟨ret_int HF.out.symm, (HDR.out.more _).more _⟩
  · have HF : Hid (cmpI (val D16 xs) (val D16 ys) = 1) := cmpI_gt (top_lt_val D16_one h'.dg h.dg (by omega))
    have hne : ((la : Int) != (lb : Int)) = true := by simp; omega
    clear h h' hx hy
    go_enter Try.func34, Try.ntmps34
    go_wp2
    go_ret
    exact ⟨ret_int HF.out.symm, Drew.refl _⟩
end Go.Proofs.Ytagljkbfgldlgaa
/-
  Contracts for a number's bits: the document's Bit, nat.isSet, nat.Bits.
-/
namespace Go.Proofs.Ytagljkbfgldlgaa
open Go.RowKit
set_option linter.unusedVariables false
set_option linter.unusedSimpArgs false

/-- The bit of that place. -/
def bitAt (V : Int) (p : Nat) : Int := V / 2 ^ p % 2
theorem bitAt_01 (V : Int) (p : Nat) : bitAt V p = 0 ∨ bitAt V p = 1 := by unfold bitAt; omega
theorem bit_of_digit {B : Int} {m : Nat} (hB : B = 2 ^ m) (hm : 0 < m) (xs : List Int) (hd : Dg B xs) (p : Nat) : xs.getD (p / m) 0 / 2 ^ (p % m) % 2 = bitAt (val B xs) p := by
  have hB0 : 0 < B := by rw [hB]; exact Int.pow_pos (by decide)
  unfold bitAt
  rw [digit_at hB0 xs hd (p / m)]
  have hp : (0 : Int) < B ^ (p / m) := Int.pow_pos hB0
  have hq : (0 : Int) < 2 ^ (p % m) := Int.pow_pos (by decide)
  have e0 : (2 : Int) ^ p = B ^ (p / m) * 2 ^ (p % m) := by
    rw [hB, ← Int.pow_mul, ← Int.pow_add, Nat.div_add_mod]
  rw [e0, ← Int.ediv_ediv_of_nonneg (by omega)]
  generalize val B xs / B ^ (p / m) = Y
  have hlt : p % m < m := Nat.mod_lt _ hm
  have e : B = 2 ^ (p % m) * (2 * 2 ^ (m - 1 - p % m)) := by
    rw [Int.mul_comm 2, ← Int.pow_succ, ← Int.pow_add, show p % m + (m - 1 - p % m + 1) = m by omega]; exact hB
  rw [e]
  generalize (2 : Int) ^ (p % m) = q at *
  generalize (2 : Int) ^ (m - 1 - p % m) = s at *
  rw [Int.emod_def Y, show Y - q * (2 * s) * (Y / (q * (2 * s))) = Y + q * (-(2 * s * (Y / (q * (2 * s))))) by grind]
  rw [Int.add_mul_ediv_left _ _ (by omega)]
  rw [show Y / q + -(2 * s * (Y / (q * (2 * s)))) = Y / q + 2 * (-(s * (Y / (q * (2 * s))))) by grind, Int.add_mul_emod_self_left]

set_option maxHeartbeats 1000000 in
/-- the document's Bit. -/
theorem rBit_any (ao : Option Addr) (la ca : Nat) (ds : List Int) (i : Nat) (w : World) (h : NumIn .i64 D16 w ao la ca ds) (hi : i < 1000000000) :
    Calls Try.prog 41 #[.slice ao la ca, .int .i64 i] w fun e w' => e = .returned (.int .i64 (bitAt (val D16 ds) i)) ∧ w' = w := by
  have hl := h.len
  have HE : Hid (ds.getD (i / 16) 0 / 2 ^ (i % 16) % 2 = bitAt (val D16 ds) i) := bit_of_digit (m := 16) rfl (by decide) ds h.dg i
  have gx := h.dg.getD D16_pos (i / 16)
  obtain ⟨q, hq⟩ : ∃ q, i / 16 = q := ⟨_, rfl⟩
  obtain ⟨r, hr⟩ : ∃ r, i % 16 = r := ⟨_, rfl⟩
  have hqI : (i : Int) / 16 = (q : Int) := by omega
  have hrI : (i : Int) % 16 = (r : Int) := by omega
  have hr16 : r < 16 := by omega
  rw [hq, hr] at HE
  rw [hq] at gx
  by_cases hin : q < la
  · obtain ⟨b, off, rfl, hblk, hcs⟩ := h.lies.at (by omega)
    have hc := hcs q hin
    have x0 := gx.1
    have x1 : ds.getD q 0 < 65536 := gx.2
    generalize ds.getD q 0 = x at *
    clear hcs h hq hr gx
    go_enter Try.func41, Try.ntmps41
    go_wp2
    go_ret
    exact ⟨ret_int (by rw [← HE.out]; exact Int.tmod_eq_emod_of_nonneg (Int.ediv_nonneg x0 (Int.le_of_lt (Int.pow_pos (by decide))))), rfl⟩
  · have hz : ds.getD q 0 = 0 := by simp [List.getD, List.getElem?_eq_none (show ds.length ≤ q by omega)]
    rw [hz] at HE
    have HF : Hid (bitAt (val D16 ds) i = 0) := by unfold Hid; rw [← HE.out]; simp
    clear h hq hr gx hz HE
    go_enter Try.func41, Try.ntmps41
    go_wp2
    go_ret
    exact ⟨ret_int HF.out.symm, rfl⟩

theorem low_bit (a : Nat) (ha : a < 18446744073709551616) : bits .and .u64 (a : Int) 1 = ((a % 2 : Nat) : Int) := by
  have h := bits_and_u64_nat a 1 ha (by omega)
  rw [show a &&& 1 = a % 2 from Nat.and_two_pow_sub_one_eq_mod a 1] at h
  exact h

set_option maxHeartbeats 1000000 in
/-- nat.isSet. -/
theorem isSet_any (ao : Option Addr) (la ca : Nat) (xs : List Int) (i : Nat) (w : World) (h : NumIn .u64 B64 w ao la ca xs) (hi : i < 1000000000) :
    Calls Try.prog 81 #[.slice ao la ca, .int .i64 i] w fun e w' => e = .returned (.bool (bitAt (val B64 xs) i == 1)) ∧ w' = w := by
  have hl := h.len
  have hs := h.sm
  have HE : Hid (xs.getD (i / 64) 0 / 2 ^ (i % 64) % 2 = bitAt (val B64 xs) i) := bit_of_digit (m := 64) rfl (by decide) xs h.dg i
  have gx := h.dg.getD B64_pos (i / 64)
  have HL := limb_any ao la ca xs ((i : Int) / 64) w h.lies (by unfold maxLen; omega) (by omega)
  rw [show ((i : Int) / 64).toNat = i / 64 by omega] at HL
  obtain ⟨q, hq⟩ : ∃ q, i / 64 = q := ⟨_, rfl⟩
  obtain ⟨r, hr⟩ : ∃ r, i % 64 = r := ⟨_, rfl⟩
  have hqI : (i : Int) / 64 = (q : Int) := by omega
  have hrI : (i : Int) % 64 = (r : Int) := by omega
  have hr64 : r < 64 := by omega
  rw [hq, hr] at HE
  rw [hq] at gx HL
  rw [hqI] at HL
  obtain ⟨x, hx⟩ := Int.eq_ofNat_of_zero_le gx.1
  rw [hx] at HE gx HL
  have hx1 : x < 18446744073709551616 := by unfold B64 at gx; omega
  have ed : (x : Int) / 2 ^ r = ((x / 2 ^ r : Nat) : Int) := by rw [Int.natCast_ediv, Int.natCast_pow]; rfl
  have hdl : x / 2 ^ r < 18446744073709551616 := Nat.lt_of_le_of_lt (Nat.div_le_self _ _) hx1
  have hb := low_bit (x / 2 ^ r) hdl
  rw [← ed] at hb
  clear h hq hr gx hx ed
  go_enter Try.func81, Try.ntmps81
  go_wp2_with fail
  refine HL.mono ?_
  rintro e w' ⟨rfl, rfl⟩
  go_wp2
  go_ret
  exact ⟨by rw [← HE.out]; rfl, rfl⟩

theorem new_cell (W : World) (v : Value) (t : TypeId) : (W.alloc (.cells #[v] t)).cell? ⟨W.heap.size, 0, none⟩ = some v ∧ (W.alloc (.cells #[v] t)).frozen? ⟨W.heap.size, 0, none⟩ = false := ⟨by simp, by simp⟩
theorem more_cell {W : World} {a : Addr} {v : Value} (o : Obj) (h : W.cell? a = some v) : (W.alloc o).cell? a = some v := cell_kept h (World.grownBy_alloc W o none) (fun r e => by cases e)
theorem more_frozen {W : World} {a : Addr} {v : Value} (o : Obj) (h : W.cell? a = some v) (hf : W.frozen? a = false) : (W.alloc o).frozen? a = false := (frozen_kept h (World.grownBy_alloc W o none) (fun r e => by cases e)).trans hf

/-- What nat.Bits hands out: a closure over two cells: how many bits there are, and the limbs. -/
def BitsAt (w : World) (g3 g4 : Nat) (V : Int) (L : Nat) : Prop :=
  ∃ ao la ca xs, g3 < w.heap.size ∧ g4 < w.heap.size ∧ w.cell? ⟨g4, 0, none⟩ = some (.int .i64 L) ∧ w.cell? ⟨g3, 0, none⟩ = some (.slice ao la ca) ∧ NumIn .u64 B64 w ao la ca xs ∧ val B64 xs = V ∧ L ≤ 4480
theorem BitsAt.old {w w' : World} {g3 g4 : Nat} {V : Int} {L : Nat} (h : BitsAt w g3 g4 V L) (hb : Below w.heap.size w w') : BitsAt w' g3 g4 V L := by
  obtain ⟨ao, la, ca, xs, h1, h2, h3, h4, h5, h6, h7⟩ := h
  exact ⟨ao, la, ca, xs, Nat.lt_of_lt_of_le h1 hb.size, Nat.lt_of_lt_of_le h2 hb.size, (hb.cell (p := ⟨g4, 0, none⟩) h2).trans h3, (hb.cell (p := ⟨g3, 0, none⟩) h1).trans h4, h5.old hb, h6, h7⟩

set_option maxHeartbeats 1000000 in
/-- nat.Bits. -/
theorem Bits_new (ao : Option Addr) (la ca : Nat) (xs : List Int) (w : World) (h : NumIn .u64 B64 w ao la ca xs) (hla : la ≤ 70) :
    Calls Try.prog 66 #[.slice ao la ca] w fun e w' => ∃ g3 g4, e = .returned (.func (.func 80) #[] #[.pointer (some ⟨g4, 0, none⟩), .pointer (some ⟨g3, 0, none⟩)]) ∧ BitsAt w' g3 g4 (val B64 xs) (blen (val B64 xs).toNat) ∧ Below w.heap.size w w' ∧ w.heap.size ≤ g3 := by
  have HN := Norm_any ao la ca xs w h
  have hbl : blen (val B64 xs).toNat ≤ 4480 := by
    have h0 := val_nonneg B64_pos h.dg
    have h1 := val_lt B64_pos h.dg
    have h2 := pow_mono (B := B64) (by decide) (show xs.length ≤ 70 by have := h.len; omega)
    refine blen_le _ _ ?_
    have e : ((2 ^ 4480 : Nat) : Int) = B64 ^ 70 := by decide +kernel
    omega
  have HBL : Hid (blen (val B64 xs).toNat ≤ 4480) := hbl
  clear hbl h
  go_enter Try.func66, Try.ntmps66
  go_wp2_with fail
  refine HN.mono ?_
  rintro e w1 ⟨v, rfl, a1, l1, c1, ys, rfl, hy, hcy, hvy, hby, hb⟩
  have HB1 : Hid (Below w.heap.size w w1) := hb
  have HY : Hid (NumIn .u64 B64 w1 a1 l1 c1 ys ∧ val B64 ys = val B64 xs) := ⟨hy, hvy⟩
  clear hy hcy hvy hb HN
  go_wp2_with fail
  obtain ⟨w2, hw2⟩ : ∃ w2, w1.alloc (.cells #[.slice a1 l1 c1] 29) = w2 := ⟨_, rfl⟩
  have c3 := new_cell w1 (.slice a1 l1 c1) 29
  have hb2 : Below w1.heap.size w1 (w1.alloc (.cells #[.slice a1 l1 c1] 29)) := (Below.refl _ _).alloc (Nat.le_refl _) _
  have hs2 : (w1.alloc (.cells #[.slice a1 l1 c1] 29)).heap.size = w1.heap.size + 1 := World.size_alloc _ _
  have HL := Len_any a1 l1 c1 ys (w1.alloc (.cells #[.slice a1 l1 c1] 29)) (HY.out.1.old hb2)
  rw [show lenOf ys = blen (val B64 xs).toNat from by rw [lenOf_eq _ HY.out.1.dg, HY.out.2]] at HL
  rw [hw2] at HL c3 hb2 hs2 ⊢
  clear hw2
  refine HL.mono ?_
  rintro e w2' ⟨rfl, rfl⟩
  clear HL
  generalize hL : blen (val B64 xs).toNat = L at *
  have c4 := new_cell w2' (.int .i64 L) 3
  have hb3 : Below w2'.heap.size w2' (w2'.alloc (.cells #[.int .i64 L] 3)) := (Below.refl _ _).alloc (Nat.le_refl _) _
  have HF : Hid (BitsAt (w2'.alloc (.cells #[.int .i64 L] 3)) w1.heap.size w2'.heap.size (val B64 xs) L ∧ Below w.heap.size w (w2'.alloc (.cells #[.int .i64 L] 3)) ∧ w.heap.size ≤ w1.heap.size) := by
    refine ⟨⟨a1, l1, c1, ys, ?_, ?_, c4.1, ?_, (HY.out.1.old hb2).old hb3, HY.out.2, HBL.out⟩, ?_, HB1.out.size⟩
    · rw [World.size_alloc]; omega
    · rw [World.size_alloc]; omega
    · exact (hb3.cell (p := ⟨w1.heap.size, 0, none⟩) (by show w1.heap.size < _; omega)).trans c3.1
    · exact (HB1.out.trans (hb2.mono HB1.out.size)).trans (hb3.mono (by have := HB1.out.size; omega))
  have HS : Hid (w2'.heap.size = w1.heap.size + 1) := hs2
  have HLE : Hid (blen (val B64 xs).toNat = L) := hL
  clear c3 c4 hb2 hb3 HB1 HY HBL hs2 hL
  go_wp2
  go_ret
  exact ⟨_, _, rfl, by rw [HLE.out]; exact HF.out⟩
theorem Bits_any (ao : Option Addr) (la ca : Nat) (xs : List Int) (w : World) (h : NumIn .u64 B64 w ao la ca xs) (hla : la ≤ 70) :
    Calls Try.prog 66 #[.slice ao la ca] w fun e w' => ∃ g3 g4, e = .returned (.func (.func 80) #[] #[.pointer (some ⟨g4, 0, none⟩), .pointer (some ⟨g3, 0, none⟩)]) ∧ BitsAt w' g3 g4 (val B64 xs) (blen (val B64 xs).toNat) ∧ Below w.heap.size w w' := by
  refine (Bits_new ao la ca xs w h hla).mono ?_
  rintro e w' ⟨g3, g4, h1, h2, h3, _⟩
  exact ⟨g3, g4, h1, h2, h3⟩
end Go.Proofs.Ytagljkbfgldlgaa
/-
  The iterator that nat.Bits hands out: what it yields.
-/
namespace Go.Proofs.Ytagljkbfgldlgaa
open Go.RowKit Go.Shelf
set_option linter.unusedVariables false
set_option linter.unusedSimpArgs false
attribute [local go_sem] Oper.semAt_some

abbrev encB (p : Int × Bool) : Array Value := #[.int .i64 p.1, .bool p.2]
/-- A number's bits, from the greatest one on. -/
def bitOf (V : Int) (L i : Nat) : Int × Bool := (((L - 1 - i : Nat) : Int), bitAt V (L - 1 - i) == 1)
def bitsOf (V : Int) (L k : Nat) : List (Int × Bool) := (List.range k).map (bitOf V L)
theorem bitsOf_succ (V : Int) (L k : Nat) : bitsOf V L (k + 1) = bitsOf V L k ++ [bitOf V L k] := by simp [bitsOf, List.range_succ]
theorem bitsOf_len (V : Int) (L k : Nat) : (bitsOf V L k).length = k := by simp [bitsOf]
theorem bitsOf_pre (V : Int) (L k m : Nat) (h : k ≤ m) : bitsOf V L k <+: bitsOf V L m := by
  obtain ⟨d, rfl⟩ := Nat.le.dest h
  clear h
  induction d with
  | zero => exact List.prefix_refl _
  | succ d ih => rw [← Nat.add_assoc, bitsOf_succ]; exact ih.trans (List.prefix_append _ _)
theorem bitsOf_take (V : Int) (L : Nat) (pre : List (Int × Bool)) (x : Int × Bool) (h : pre ++ [x] <+: bitsOf V L L) : x = bitOf V L pre.length := by
  obtain ⟨t, ht⟩ := h
  have h1 : (bitsOf V L L)[pre.length]? = some x := by rw [← ht]; simp
  have h2 : pre.length < L := by
    have := congrArg List.length ht
    rw [bitsOf_len] at this
    simp at this
    omega
  rw [bitsOf, List.getElem?_map, List.getElem?_range h2] at h1
  simpa using h1.symm

set_option maxRecDepth 100000 in
set_option maxHeartbeats 2000000 in
theorem bits_stops (n : Nat) (hn : 1 ≤ n) (w0 : World) (g3 g4 : Nat) (V : Int) (L : Nat) (h : BitsAt w0 g3 g4 V L) :
    SeqStopsK Fence.wide n Try.prog 80 #[.pointer (some ⟨g4, 0, none⟩), .pointer (some ⟨g3, 0, none⟩)] encB (Below w0.heap.size) (fun xs => xs = bitsOf V L L) (fun pre => pre <+: bitsOf V L L) L w0 := fun l J Jx W hW hJ hJx hY h0 => by
  obtain ⟨ao, la, ca, xs, hg3, hg4, hc4, hc3, hnum, hv, hL⟩ := h
  have HW : Hid (Below w0.heap.size w0 W) := hW
  have HN : Hid (NumIn .u64 B64 w0 ao la ca xs ∧ val B64 xs = V) := ⟨hnum, hv⟩
  have HC : Hid (w0.cell? ⟨g4, 0, none⟩ = some (.int .i64 L) ∧ w0.cell? ⟨g3, 0, none⟩ = some (.slice ao la ca)) := ⟨hc4, hc3⟩
  have hcW := (hW.cell (p := ⟨g4, 0, none⟩) hg4).trans hc4
  clear hJ hJx hnum hv hc4 hc3 hW
  refine callsIn_of_wp Try.func80 rfl trivial ?_ rfl
  simp only [Try.ntmps80, List.size_toArray, List.length_cons, List.length_nil, Nat.reduceAdd, Nat.reduceSub, Array.replicate_succ, Array.replicate_zero, List.push_toArray, List.append_toArray, List.nil_append, List.cons_append]
  gi_wp2
  gi_loopw [4, 5, 7] (fun _ _ vi wr => ∃ (k : Nat), k ≤ L ∧ vi = .int .i64 k ∧ J (bitsOf V L k) wr ∧ Below w0.heap.size w0 wr) (fun _ _ vi _ => L - (intOf vi).toNat)
  case atStart => exact ⟨0, Nat.zero_le _, rfl, h0, HW.out⟩
  case round =>
    obtain ⟨k, hk, rfl, hJs, hb⟩ := hrel
    clear hcW HW h0
    by_cases hlt : k < L
    · have hc4 := (hb.cell (p := ⟨g4, 0, none⟩) hg4).trans HC.out.1
      have hc3 := (hb.cell (p := ⟨g3, 0, none⟩) hg3).trans HC.out.2
      obtain ⟨fn, tmps, assign, body, hy, hR⟩ := hY (bitsOf V L k) (bitOf V L k) wr hJs (by rw [bitsOf_len]; exact hlt)
      have HI := isSet_any ao la ca xs (L - 1 - k) wr (HN.out.1.old hb) (by omega)
      rw [HN.out.2] at HI
      dsimp only [encB, bitOf] at hy
      obtain ⟨p, hp⟩ : ∃ p, L - 1 - k = p := ⟨_, rfl⟩
      have ep : (L : Int) - 1 - (k : Int) = (p : Int) := by omega
      rw [hp] at hy HI
      clear hp
      have HB : Hid (Below w0.heap.size w0 wr) := hb
      have HP : Hid (bitsOf V L (k + 1) = bitsOf V L k ++ [bitOf V L k] ∧ bitsOf V L (k + 1) <+: bitsOf V L L) := ⟨bitsOf_succ V L k, bitsOf_pre V L _ _ (by omega)⟩
      clear hb hY
      generalize (bitAt V p == 1) = bb at *
      generalize bitOf V L k = bk at *
      gi_wp2_with (refine ⟨trivial, ?_⟩; gi_at_call 81; refine (callsIn_wide.2 HI).mono ?_; rintro e w' ⟨rfl, rfl⟩)
      refine hR.mono ?_
      rintro e W3 (⟨rfl, hJ3, hk3⟩ | ⟨rfl, hJx3⟩)
      · rw [← HP.out.1] at hJ3
        clear hR hy HI hc3 hc4 hJs
        gi_wp2
        go_roundw
        case rel => exact ⟨k + 1, by omega, by go_num, hJ3, HB.out.trans hk3⟩
        case measure => simp [intOf] <;> omega
      · rw [← HP.out.1] at hJx3
        clear hR hy HI hc3 hc4 hJs
        gi_wp2
        refine bodyPost_ret (results_none rfl _ _ _) rfl ?_
        exact ⟨⟨_, rfl⟩, .inr ⟨_, HP.out.2, hJx3⟩⟩
    · obtain rfl : k = L := by omega
      clear hY
      gi_wp2
      go_end0
      exact ⟨⟨_, rfl⟩, .inl ⟨_, rfl, hJs⟩⟩
end Go.Proofs.Ytagljkbfgldlgaa
/-
  Contracts of modular.Of, Add, Mul, Sub.
-/
namespace Go.Proofs.Ytagljkbfgldlgaa
open Go.RowKit
set_option linter.unusedVariables false
set_option linter.unusedSimpArgs false

/-- A number that is no greater has no more digits. -/
theorem len_fit {B : Int} (hB : 1 < B) {xs ys : List Int} (hx : Dg B xs) (cx : Canon xs) (hy : Dg B ys) (h : val B xs ≤ val B ys) : xs.length ≤ ys.length := by
  have h1 := top_mono hB hx hy h
  have h2 := top_le ys
  unfold Canon at cx
  omega
theorem NumOut.fit {k : IntKind} {B : Int} {w w' : World} {v : Value} {n : Int} {L : Nat} (h : NumOut k B w w' v n L) (hB : 1 < B) {ys : List Int} (hy : Dg B ys) (hn : n ≤ val B ys) : NumOut k B w w' v n ys.length := by
  obtain ⟨ao, len, cap, xs, rfl, h1, h2, h3, h4, h5⟩ := h
  exact ⟨ao, len, cap, xs, rfl, h1, h2, h3, by rw [← h1.len]; exact len_fit hB h1.dg h2 hy (by omega), h5⟩
theorem NumOut.from {k : IntKind} {B : Int} {w0 w w' : World} {v : Value} {n : Int} {L : Nat} (h : NumOut k B w w' v n L) (hb : Below w0.heap.size w0 w) : NumOut k B w0 w' v n L := by
  obtain ⟨ao, len, cap, xs, rfl, h1, h2, h3, h4, h5⟩ := h
  exact ⟨ao, len, cap, xs, rfl, h1, h2, h3, h4, hb.trans (h5.mono hb.size)⟩
theorem mod_range (x m : Int) (hm : 0 ≤ m) (h0 : m ≠ 0) : 0 ≤ x % m ∧ x % m < m := ⟨Int.emod_nonneg x h0, Int.emod_lt_of_pos x (by omega)⟩

set_option maxHeartbeats 400000 in
/-- modular.Of. -/
theorem mOf_any (ao mo : Option Addr) (la ca lm cm : Nat) (xs ms : List Int) (w : World) (h : NumIn .u64 B64 w ao la ca xs) (h' : NumIn .u64 B64 w mo lm cm ms) (h0 : val B64 ms ≠ 0) (hsm : la + lm < 1073740000) :
    Calls Try.prog 30 #[.slice ao la ca, .slice mo lm cm] w fun e w' => ∃ v, e = .returned (.tuple #[v, .int .i64 0]) ∧ NumOut .u64 B64 w w' v (val B64 xs % val B64 ms) lm := by
  have HD := Div_any ao mo la ca lm cm xs ms w h h' h0 hsm
  have hr := mod_range (val B64 xs) (val B64 ms) (val_nonneg B64_pos h'.dg) h0
  have HR : Hid (val B64 xs % val B64 ms ≤ val B64 ms ∧ Dg B64 ms ∧ ms.length = lm) := ⟨by omega, h'.dg, h'.len⟩
  clear h h' hr
  go_enter Try.func30, Try.ntmps30
  go_wp2_with fail
  refine HD.mono ?_
  rintro e w' ⟨q, r, rfl, hq, hr⟩
  have hr2 := hr.fit B64_one HR.out.2.1 HR.out.1
  rw [HR.out.2.2] at hr2
  obtain ⟨aq, lq, cq, xq, rfl, _, _, _, _, _⟩ := hq
  obtain ⟨ar, lr, cr, xr, rfl, n1, n2, n3, n4, n5⟩ := hr2
  have HN : Hid (NumOut .u64 B64 w w' (.slice ar lr cr) (val B64 xs % val B64 ms) lm) := ⟨ar, lr, cr, xr, rfl, n1, n2, n3, n4, n5⟩
  clear hr n1 n2 n3 n4 n5 HR HD
  go_wp2
  go_ret2
  exact ⟨_, rfl, HN.out⟩

set_option maxHeartbeats 400000 in
/-- modular.Of: of a modulus of 0. -/
theorem mOf_zero (ao mo : Option Addr) (la ca lm cm : Nat) (xs ms : List Int) (w : World) (h : NumIn .u64 B64 w ao la ca xs) (h' : NumIn .u64 B64 w mo lm cm ms) (h0 : val B64 ms = 0) :
    Calls Try.prog 30 #[.slice ao la ca, .slice mo lm cm] w fun e w' => e = .returned (.tuple #[.slice none 0 0, .int .i64 4]) ∧ w' = w := by
  have HD := Div_zero ao mo la ca lm cm xs ms w h h' h0
  clear h h' h0
  go_enter Try.func30, Try.ntmps30
  go_wp2_with fail
  refine HD.mono ?_
  rintro e w' ⟨rfl, rfl⟩
  go_wp2
  go_ret2
  exact ⟨rfl, rfl⟩

set_option maxHeartbeats 400000 in
/-- modular.Add. -/
theorem mAdd_any (ao bo mo : Option Addr) (la ca lb cb lm cm : Nat) (xs ys ms : List Int) (w : World) (h : NumIn .u64 B64 w ao la ca xs) (hb : NumIn .u64 B64 w bo lb cb ys) (h' : NumIn .u64 B64 w mo lm cm ms) (h0 : val B64 ms ≠ 0) (hsm : la + lb + lm < 1073730000) :
    Calls Try.prog 76 #[.slice ao la ca, .slice bo lb cb, .slice mo lm cm] w fun e w' => ∃ v, e = .returned (.tuple #[v, .int .i64 0]) ∧ NumOut .u64 B64 w w' v ((val B64 xs + val B64 ys) % val B64 ms) lm := by
  have HA := Add_any ao bo la ca lb cb xs ys w h hb (by omega)
  have HM : Hid (NumIn .u64 B64 w mo lm cm ms) := h'
  clear h hb h'
  go_enter Try.func76, Try.ntmps76
  go_wp2_with fail
  refine HA.mono ?_
  rintro e w1 ⟨v, rfl, a1, l1, c1, zs, rfl, n1, n2, n3, n4, n5⟩
  have HO := mOf_any a1 mo l1 c1 lm cm zs ms w1 n1 (HM.out.old n5) h0 (by omega)
  rw [n3] at HO
  have HB : Hid (Below w.heap.size w w1) := n5
  clear n1 n2 n3 n4 n5 HM HA
  go_wp2_with fail
  refine HO.mono ?_
  rintro e w2 ⟨v, rfl, hv⟩
  have HV : Hid (NumOut .u64 B64 w w2 v ((val B64 xs + val B64 ys) % val B64 ms) lm) := hv.from HB.out
  clear hv HB HO
  go_wp2
  go_ret2
  exact ⟨_, rfl, HV.out⟩

set_option maxHeartbeats 400000 in
/-- modular.Add: of a modulus of 0. -/
theorem mAdd_zero (ao bo mo : Option Addr) (la ca lb cb lm cm : Nat) (xs ys ms : List Int) (w : World) (h : NumIn .u64 B64 w ao la ca xs) (hb : NumIn .u64 B64 w bo lb cb ys) (h' : NumIn .u64 B64 w mo lm cm ms) (h0 : val B64 ms = 0) (hsm : la + lb + lm < 1073730000) :
    Calls Try.prog 76 #[.slice ao la ca, .slice bo lb cb, .slice mo lm cm] w fun e w' => e = .returned (.tuple #[.slice none 0 0, .int .i64 4]) ∧ Below w.heap.size w w' := by
  have HA := Add_any ao bo la ca lb cb xs ys w h hb (by omega)
  have HM : Hid (NumIn .u64 B64 w mo lm cm ms) := h'
  clear h hb h'
  go_enter Try.func76, Try.ntmps76
  go_wp2_with fail
  refine HA.mono ?_
  rintro e w1 ⟨v, rfl, a1, l1, c1, zs, rfl, n1, n2, n3, n4, n5⟩
  have HO := mOf_zero a1 mo l1 c1 lm cm zs ms w1 n1 (HM.out.old n5) h0
  have HB : Hid (Below w.heap.size w w1) := n5
  clear n1 n2 n3 n4 n5 HM HA h0
  go_wp2_with fail
  refine HO.mono ?_
  rintro e w2 ⟨rfl, rfl⟩
  go_wp2
  go_ret2
  exact ⟨rfl, HB.out⟩

set_option maxHeartbeats 400000 in
/-- modular.Mul. -/
theorem mMul_any (ao bo mo : Option Addr) (la ca lb cb lm cm : Nat) (xs ys ms : List Int) (w : World) (h : NumIn .u64 B64 w ao la ca xs) (hb : NumIn .u64 B64 w bo lb cb ys) (h' : NumIn .u64 B64 w mo lm cm ms) (h0 : val B64 ms ≠ 0) (hsm : la + lb + lm < 1073730000) :
    Calls Try.prog 28 #[.slice ao la ca, .slice bo lb cb, .slice mo lm cm] w fun e w' => ∃ v, e = .returned (.tuple #[v, .int .i64 0]) ∧ NumOut .u64 B64 w w' v ((val B64 xs * val B64 ys) % val B64 ms) lm := by
  have HA := Mul_any ao bo la ca lb cb xs ys w h hb (by omega)
  have HM : Hid (NumIn .u64 B64 w mo lm cm ms) := h'
  clear h hb h'
  go_enter Try.func28, Try.ntmps28
  go_wp2_with fail
  refine HA.mono ?_
  rintro e w1 ⟨v, rfl, a1, l1, c1, zs, rfl, n1, n2, n3, n4, n5⟩
  have HO := mOf_any a1 mo l1 c1 lm cm zs ms w1 n1 (HM.out.old n5) h0 (by omega)
  rw [n3] at HO
  have HB : Hid (Below w.heap.size w w1) := n5
  clear n1 n2 n3 n4 n5 HM HA
  go_wp2_with fail
  refine HO.mono ?_
  rintro e w2 ⟨v, rfl, hv⟩
  have HV : Hid (NumOut .u64 B64 w w2 v ((val B64 xs * val B64 ys) % val B64 ms) lm) := hv.from HB.out
  clear hv HB HO
  go_wp2
  go_ret2
  exact ⟨_, rfl, HV.out⟩

set_option maxHeartbeats 400000 in
/-- modular.Mul: of a modulus of 0. -/
theorem mMul_zero (ao bo mo : Option Addr) (la ca lb cb lm cm : Nat) (xs ys ms : List Int) (w : World) (h : NumIn .u64 B64 w ao la ca xs) (hb : NumIn .u64 B64 w bo lb cb ys) (h' : NumIn .u64 B64 w mo lm cm ms) (h0 : val B64 ms = 0) (hsm : la + lb + lm < 1073730000) :
    Calls Try.prog 28 #[.slice ao la ca, .slice bo lb cb, .slice mo lm cm] w fun e w' => e = .returned (.tuple #[.slice none 0 0, .int .i64 4]) ∧ Below w.heap.size w w' := by
  have HA := Mul_any ao bo la ca lb cb xs ys w h hb (by omega)
  have HM : Hid (NumIn .u64 B64 w mo lm cm ms) := h'
  clear h hb h'
  go_enter Try.func28, Try.ntmps28
  go_wp2_with fail
  refine HA.mono ?_
  rintro e w1 ⟨v, rfl, a1, l1, c1, zs, rfl, n1, n2, n3, n4, n5⟩
  have HO := mOf_zero a1 mo l1 c1 lm cm zs ms w1 n1 (HM.out.old n5) h0
  have HB : Hid (Below w.heap.size w w1) := n5
  clear n1 n2 n3 n4 n5 HM HA h0
  go_wp2_with fail
  refine HO.mono ?_
  rintro e w2 ⟨rfl, rfl⟩
  go_wp2
  go_ret2
  exact ⟨rfl, HB.out⟩

theorem sub_mod (a b m : Int) (h0 : 0 < m) : (a % m < b % m → a % m + m - b % m = (a - b) % m) ∧ (b % m ≤ a % m → a % m - b % m = (a - b) % m) := by
  have ra := mod_range a m (by omega) (by omega)
  have rb := mod_range b m (by omega) (by omega)
  have rc := mod_range (a - b) m (by omega) (by omega)
  have h1 : Cg m (a % m - b % m) ((a - b) % m) := ((Cg.mod m a).sub (Cg.mod m b)).trans (Cg.mod m (a - b)).symm
  refine ⟨fun hl => ?_, fun hl => ?_⟩
  · refine Cg.eq (M := m) ?_ (by omega) (by omega) rc.1 rc.2
    exact (show Cg m (a % m + m - b % m) (a % m - b % m) from ⟨1, by omega⟩).trans h1
  · exact h1.eq (by omega) (by omega) rc.1 rc.2

set_option maxHeartbeats 1000000 in
/-- modular.Sub. -/
theorem mSub_any (ao bo mo : Option Addr) (la ca lb cb lm cm : Nat) (xs ys ms : List Int) (w : World) (h : NumIn .u64 B64 w ao la ca xs) (hb : NumIn .u64 B64 w bo lb cb ys) (h' : NumIn .u64 B64 w mo lm cm ms) (h0 : val B64 ms ≠ 0) (hsm : la + lb + lm < 500000000) :
    Calls Try.prog 48 #[.slice ao la ca, .slice bo lb cb, .slice mo lm cm] w fun e w' => ∃ v, e = .returned (.tuple #[v, .int .i64 0]) ∧ NumOut .u64 B64 w w' v ((val B64 xs - val B64 ys) % val B64 ms) lm := by
  have hM := val_nonneg B64_pos h'.dg
  have HO := mOf_any ao mo la ca lm cm xs ms w h h' h0 (by omega)
  have HS := sub_mod (val B64 xs) (val B64 ys) (val B64 ms) (by omega)
  have HFIT : Hid ((val B64 xs - val B64 ys) % val B64 ms ≤ val B64 ms ∧ Dg B64 ms ∧ ms.length = lm) := ⟨by have := mod_range (val B64 xs - val B64 ys) (val B64 ms) hM h0; omega, h'.dg, h'.len⟩
  have HSM : Hid (la + lb + lm < 500000000) := hsm
  have HB : Hid (NumIn .u64 B64 w bo lb cb ys) := hb
  have HM : Hid (NumIn .u64 B64 w mo lm cm ms) := h'
  have HZ : Hid (val B64 ms ≠ 0) := h0
  clear h hb h' hM h0 hsm
  by_cases hlt : val B64 xs % val B64 ms < val B64 ys % val B64 ms
  · have HE : Hid (val B64 xs % val B64 ms + val B64 ms - val B64 ys % val B64 ms = (val B64 xs - val B64 ys) % val B64 ms) := HS.1 hlt
    have HCM : Hid (cmpI (val B64 xs % val B64 ms) (val B64 ys % val B64 ms) = -1) := cmpI_lt hlt
    have HLE : Hid (val B64 ys % val B64 ms ≤ val B64 xs % val B64 ms + val B64 ms) := by
      unfold Hid
      have hM := val_nonneg B64_pos HM.out.dg
      have a := mod_range (val B64 xs) _ hM HZ.out
      have b := mod_range (val B64 ys) _ hM HZ.out
      omega
    clear HS hlt
    go_enter Try.func48, Try.ntmps48
    go_wp2_with fail
    refine HO.mono ?_
    rintro e w1 ⟨v, rfl, a1, l1, c1, zs, rfl, n1, n2, n3, n4, n5⟩
    have HO2 := mOf_any bo mo lb cb lm cm ys ms w1 (HB.out.old n5) (HM.out.old n5) HZ.out (by have := HSM.out; omega)
    replace HM : Hid (NumIn .u64 B64 w1 mo lm cm ms) := HM.out.old n5
    have NX : Hid (NumIn .u64 B64 w1 a1 l1 c1 zs ∧ val B64 zs = val B64 xs % val B64 ms ∧ l1 ≤ lm) := ⟨n1, n3, n4⟩
    have BW : Hid (Below w.heap.size w w1) := n5
    clear n1 n2 n3 n4 n5 HB HO
    go_wp2_with fail
    refine HO2.mono ?_
    rintro e w2 ⟨v, rfl, a2, l2, c2, us, rfl, n1, n2, n3, n4, n5⟩
    replace HM : Hid (NumIn .u64 B64 w2 mo lm cm ms) := HM.out.old n5
    replace NX : Hid (NumIn .u64 B64 w2 a1 l1 c1 zs ∧ val B64 zs = val B64 xs % val B64 ms ∧ l1 ≤ lm) := ⟨NX.out.1.old n5, NX.out.2⟩
    have NY : Hid (NumIn .u64 B64 w2 a2 l2 c2 us ∧ val B64 us = val B64 ys % val B64 ms ∧ l2 ≤ lm) := ⟨n1, n3, n4⟩
    replace BW : Hid (Below w.heap.size w w2) := BW.out.trans (n5.mono BW.out.size)
    have HC := Cmp_any a1 a2 l1 c1 l2 c2 zs us w2 NX.out.1 NY.out.1
    rw [NX.out.2.1, NY.out.2.1, HCM.out] at HC
    clear n1 n2 n3 n4 n5 HO2
    go_wp2_with fail
    refine HC.mono ?_
    rintro e w3 ⟨rfl, hd⟩
    have n5 := hd.below w2.heap.size
    replace HM : Hid (NumIn .u64 B64 w3 mo lm cm ms) := HM.out.old n5
    replace NX : Hid (NumIn .u64 B64 w3 a1 l1 c1 zs ∧ val B64 zs = val B64 xs % val B64 ms ∧ l1 ≤ lm) := ⟨NX.out.1.old n5, NX.out.2⟩
    replace NY : Hid (NumIn .u64 B64 w3 a2 l2 c2 us ∧ val B64 us = val B64 ys % val B64 ms ∧ l2 ≤ lm) := ⟨NY.out.1.old n5, NY.out.2⟩
    replace BW : Hid (Below w.heap.size w w3) := BW.out.trans (n5.mono BW.out.size)
    have HA := Add_any a1 mo l1 c1 lm cm zs ms w3 NX.out.1 HM.out (by have := NX.out.2.2; have := HSM.out; omega)
    rw [NX.out.2.1] at HA
    clear hd n5 HC
    go_wp2_with fail
    refine HA.mono ?_
    rintro e w4 ⟨v, rfl, a4, l4, c4, ts, rfl, n1, n2, n3, n4, n5⟩
    replace BW : Hid (Below w.heap.size w w4) := BW.out.trans (n5.mono BW.out.size)
    have HU := Sub_yes a4 a2 l4 c4 l2 c2 ts us w4 n1 (NY.out.1.old n5) (by rw [n3, NY.out.2.1]; exact HLE.out)
    rw [n3, NY.out.2.1, HE.out] at HU
    clear n1 n2 n3 n4 n5 HA NX NY HM
    go_wp2_with fail
    refine HU.mono ?_
    rintro e w5 ⟨v, rfl, hv⟩
    have hv2 := (hv.fit B64_one HFIT.out.2.1 HFIT.out.1).from BW.out
    rw [HFIT.out.2.2] at hv2
    have HV : Hid (NumOut .u64 B64 w w5 v ((val B64 xs - val B64 ys) % val B64 ms) lm) := hv2
    clear hv hv2 HU
    go_wp2
    go_ret2
    exact ⟨_, rfl, HV.out⟩
  · have HE : Hid (val B64 xs % val B64 ms - val B64 ys % val B64 ms = (val B64 xs - val B64 ys) % val B64 ms) := HS.2 (by omega)
    have HCM : Hid ((cmpI (val B64 xs % val B64 ms) (val B64 ys % val B64 ms) < 0) = False) := by
      unfold Hid
      rcases Int.lt_or_eq_of_le (show val B64 ys % val B64 ms ≤ val B64 xs % val B64 ms by omega) with h | h
      · rw [cmpI_gt h]; decide
      · rw [cmpI_eq h.symm]; decide
    have HLE : Hid (val B64 ys % val B64 ms ≤ val B64 xs % val B64 ms) := by unfold Hid; omega
    clear HS hlt
    go_enter Try.func48, Try.ntmps48
    go_wp2_with fail
    refine HO.mono ?_
    rintro e w1 ⟨v, rfl, a1, l1, c1, zs, rfl, n1, n2, n3, n4, n5⟩
    have HO2 := mOf_any bo mo lb cb lm cm ys ms w1 (HB.out.old n5) (HM.out.old n5) HZ.out (by have := HSM.out; omega)
    have NX : Hid (NumIn .u64 B64 w1 a1 l1 c1 zs ∧ val B64 zs = val B64 xs % val B64 ms ∧ l1 ≤ lm) := ⟨n1, n3, n4⟩
    have BW : Hid (Below w.heap.size w w1) := n5
    clear n1 n2 n3 n4 n5 HB HO HM
    go_wp2_with fail
    refine HO2.mono ?_
    rintro e w2 ⟨v, rfl, a2, l2, c2, us, rfl, n1, n2, n3, n4, n5⟩
    replace NX : Hid (NumIn .u64 B64 w2 a1 l1 c1 zs ∧ val B64 zs = val B64 xs % val B64 ms ∧ l1 ≤ lm) := ⟨NX.out.1.old n5, NX.out.2⟩
    have NY : Hid (NumIn .u64 B64 w2 a2 l2 c2 us ∧ val B64 us = val B64 ys % val B64 ms ∧ l2 ≤ lm) := ⟨n1, n3, n4⟩
    replace BW : Hid (Below w.heap.size w w2) := BW.out.trans (n5.mono BW.out.size)
    have HC := Cmp_any a1 a2 l1 c1 l2 c2 zs us w2 NX.out.1 NY.out.1
    rw [NX.out.2.1, NY.out.2.1] at HC
    generalize cmpI (val B64 xs % val B64 ms) (val B64 ys % val B64 ms) = cc at HC HCM
    have hcc : ¬ cc < 0 := by rw [HCM.out]; exact not_false
    clear n1 n2 n3 n4 n5 HO2 HCM
    go_wp2_with fail
    refine HC.mono ?_
    rintro e w3 ⟨rfl, hd⟩
    have n5 := hd.below w2.heap.size
    replace BW : Hid (Below w.heap.size w w3) := BW.out.trans (n5.mono BW.out.size)
    have HU := Sub_yes a1 a2 l1 c1 l2 c2 zs us w3 (NX.out.1.old n5) (NY.out.1.old n5) (by rw [NX.out.2.1, NY.out.2.1]; exact HLE.out)
    rw [NX.out.2.1, NY.out.2.1, HE.out] at HU
    clear hd n5 HC NX NY
    go_wp2_with fail
    refine HU.mono ?_
    rintro e w5 ⟨v, rfl, hv⟩
    have hv2 := (hv.fit B64_one HFIT.out.2.1 HFIT.out.1).from BW.out
    rw [HFIT.out.2.2] at hv2
    have HV : Hid (NumOut .u64 B64 w w5 v ((val B64 xs - val B64 ys) % val B64 ms) lm) := hv2
    clear hv hv2 HU
    go_wp2
    go_ret2
    exact ⟨_, rfl, HV.out⟩

set_option maxHeartbeats 400000 in
/-- modular.Sub: of a modulus of 0. -/
theorem mSub_zero (ao bo mo : Option Addr) (la ca lb cb lm cm : Nat) (xs ms : List Int) (w : World) (h : NumIn .u64 B64 w ao la ca xs) (h' : NumIn .u64 B64 w mo lm cm ms) (h0 : val B64 ms = 0) :
    Calls Try.prog 48 #[.slice ao la ca, .slice bo lb cb, .slice mo lm cm] w fun e w' => e = .returned (.tuple #[.slice none 0 0, .int .i64 4]) ∧ w' = w := by
  have HO := mOf_zero ao mo la ca lm cm xs ms w h h' h0
  clear h h' h0
  go_enter Try.func48, Try.ntmps48
  go_wp2_with fail
  refine HO.mono ?_
  rintro e w2 ⟨rfl, rfl⟩
  go_wp2
  go_ret2
  exact ⟨rfl, rfl⟩
end Go.Proofs.Ytagljkbfgldlgaa
/-
  Contracts of modular.euclid, Inv.
-/
namespace Go.Proofs.Ytagljkbfgldlgaa
open Go.RowKit
set_option linter.unusedVariables false
set_option linter.unusedSimpArgs false

/-- The value v is that number, of at most L digits. -/
def Nm (k : IntKind) (B : Int) (w : World) (v : Value) (n : Int) (L : Nat) : Prop :=
  ∃ ao len cap xs, v = .slice ao len cap ∧ NumIn k B w ao len cap xs ∧ val B xs = n ∧ len ≤ L
theorem Nm.old {k : IntKind} {B : Int} {w w' : World} {v : Value} {n : Int} {L : Nat} (h : Nm k B w v n L) (hb : Below w.heap.size w w') : Nm k B w' v n L := by
  obtain ⟨ao, len, cap, xs, rfl, h1, h2, h3⟩ := h
  exact ⟨ao, len, cap, xs, rfl, h1.old hb, h2, h3⟩
theorem NumOut.nm {k : IntKind} {B : Int} {w w' : World} {v : Value} {n : Int} {L : Nat} (h : NumOut k B w w' v n L) : Nm k B w' v n L := by
  obtain ⟨ao, len, cap, xs, rfl, h1, h2, h3, h4, h5⟩ := h
  exact ⟨ao, len, cap, xs, rfl, h1, h3, h4⟩
theorem NumOut.bl {k : IntKind} {B : Int} {w w' : World} {v : Value} {n : Int} {L : Nat} (h : NumOut k B w w' v n L) : Below w.heap.size w w' := by
  obtain ⟨ao, len, cap, xs, rfl, h1, h2, h3, h4, h5⟩ := h
  exact h5
/-- The number that a slice says, read off the world. -/
def nval (B : Int) (w : World) (v : Value) : Nat :=
  match v with
  | .slice (some ⟨b, off, _⟩) len _ => (val B ((List.range len).map fun i => intOf ((w.cell? ⟨b, off + i, none⟩).getD undef))).toNat
  | _ => 0
theorem Nm.nval {k : IntKind} {B : Int} {w : World} {v : Value} {n : Int} {L : Nat} (h : Nm k B w v n L) : nval B w v = n.toNat := by
  obtain ⟨ao, len, cap, xs, rfl, h1, rfl, h3⟩ := h
  rcases h1.lies.2 with h0 | ⟨b, off, rfl, _, hc⟩
  · have hx : xs = [] := List.eq_nil_of_length_eq_zero (by rw [h1.len]; exact h0)
    subst hx; subst h0
    cases ao <;> simp [Go.Proofs.Ytagljkbfgldlgaa.nval, val]
  · have e : ((List.range len).map fun i => intOf ((w.cell? ⟨b, off + i, none⟩).getD undef)) = xs := by
      apply List.ext_getElem
      · simp [h1.len]
      · intro i g1 g2
        simp only [List.getElem_map, List.getElem_range]
        rw [hc i (by simpa using g1)]
        simp [intOf, List.getD, g2]
    simp only [Go.Proofs.Ytagljkbfgldlgaa.nval]
    rw [e]
theorem lenOf_zero {xs : List Int} (hd : Dg B64 xs) (h : val B64 xs = 0) : lenOf xs = 0 := by rw [lenOf_eq xs hd, h]; rfl
theorem lenOf_pos {xs : List Int} (hd : Dg B64 xs) (h : 0 < val B64 xs) : 0 < lenOf xs := by rw [lenOf_eq xs hd]; exact blen_pos _ (by omega)
theorem lenOf_le {xs : List Int} (hd : Dg B64 xs) (n : Nat) (hn : xs.length ≤ n) : lenOf xs ≤ 64 * n := by
  rw [lenOf_eq xs hd]
  refine blen_le _ _ ?_
  have h0 := val_nonneg B64_pos hd
  have h1 := val_lt B64_pos hd
  have h2 := pow_mono (B := B64) (by decide) hn
  have e : B64 ^ n = ((2 ^ (64 * n) : Nat) : Int) := by
    rw [Nat.pow_mul, Int.natCast_pow]; rfl
  omega

set_option maxHeartbeats 2000000 in
/-- modular.euclid. -/
theorem euclid_any (ao mo : Option Addr) (la ca lm cm : Nat) (xs ms : List Int) (w : World) (h : NumIn .u64 B64 w ao la ca xs) (h' : NumIn .u64 B64 w mo lm cm ms) (h0 : val B64 ms ≠ 0) (hlt : val B64 xs < val B64 ms) (hla : la ≤ lm) (hsm : lm < 100000000) :
    Calls Try.prog 47 #[.slice ao la ca, .slice mo lm cm] w fun e w' => ∃ vd vt b T, e = .returned (.tuple #[vd, vt, .bool b]) ∧ Nm .u64 B64 w' vd (gd (val B64 ms) (val B64 xs)) lm ∧ Nm .u64 B64 w' vt T lm ∧ Cg (val B64 ms) (gd (val B64 ms) (val B64 xs)) (bif b then -(T * val B64 xs) else T * val B64 xs) ∧ Below w.heap.size w w' := by
  have hM := val_nonneg B64_pos h'.dg
  have hA := val_nonneg B64_pos h.dg
  have HDM : Hid (Dg B64 ms ∧ ms.length = lm) := ⟨h'.dg, h'.len⟩
  have NA : Hid (Nm .u64 B64 w (.slice ao la ca) (val B64 xs) lm) := ⟨ao, la, ca, xs, rfl, h, rfl, hla⟩
  have NM : Hid (Nm .u64 B64 w (.slice mo lm cm) (val B64 ms) lm) := ⟨mo, lm, cm, ms, rfl, h', rfl, Nat.le_refl _⟩
  have HE : Hid (Euc (val B64 ms) (val B64 xs) (val B64 ms) (val B64 xs) 0 1 true) := Euc.start _ _ (by omega) hA hlt
  have HV : Hid (val B64 ms = val B64 ms) := rfl
  obtain ⟨M, hMv⟩ : ∃ M, val B64 ms = M := ⟨_, rfl⟩
  have HMV : Hid (val B64 ms = M ∧ 0 < M) := ⟨hMv, by omega⟩
  rw [hMv] at HE NM ⊢
  obtain ⟨A, hAv⟩ : ∃ A, val B64 xs = A := ⟨_, rfl⟩
  rw [hAv] at HE NA ⊢
  clear h h' hM hA h0 hlt hla HV hMv hAv
  go_enter Try.func47, Try.ntmps47
  go_wp2_with fail
  refine (Of_any 1 w (by decide) (by decide)).mono ?_
  rintro e w1 ⟨v1, rfl, hv1⟩
  have hv2 := hv1.fit B64_one HDM.out.1 (by have := HMV.out; omega)
  rw [HDM.out.2] at hv2
  have N1 : Hid (Nm .u64 B64 w1 v1 1 lm) := hv2.nm
  replace NA : Hid (Nm .u64 B64 w1 (.slice ao la ca) A lm) := NA.out.old hv1.bl
  replace NM : Hid (Nm .u64 B64 w1 (.slice mo lm cm) M lm) := NM.out.old hv1.bl
  have BW : Hid (Below w.heap.size w w1) := hv1.bl
  clear hv1 hv2
  go_wp2
  go_loopw [5, 6, 7, 8, 9] (fun t b l n m wr => ∃ (bb : Bool) (T N Lv Mo : Int), b = .bool bb ∧ Nm .u64 B64 wr t T lm ∧ Nm .u64 B64 wr l Lv lm ∧ Nm .u64 B64 wr n N lm ∧ Nm .u64 B64 wr m Mo lm ∧ Euc M A Lv N T Mo bb ∧ Below w.heap.size w wr) (fun t b l n m wr => nval B64 wr n)
  case atStart =>
    exact ⟨true, 0, A, M, 1, rfl, ⟨none, 0, 0, [], rfl, NumIn.nil, rfl, Nat.zero_le _⟩, NM.out, NA.out, N1.out, HE.out, BW.out⟩
  case round =>
    clear NA NM N1 BW HE
    obtain ⟨bb, T, N, Lv, Mo, rfl, nT, nL, nN, nM, hE, hB⟩ := hrel
    have HMS : Hid (nval B64 wr u8 = N.toNat) := nN.nval
    have n0 := hE.2.2.1
    obtain ⟨a8, l8, c8, x8, rfl, i8, v8, b8⟩ := nN
    have HLEN := Len_any a8 l8 c8 x8 wr i8
    by_cases hz : N = 0
    · subst hz
      rw [lenOf_zero i8.dg v8] at HLEN
      have HD : Hid (Lv = gd M A ∧ Cg M (gd M A) (bif bb then -(T * A) else T * A)) := hE.done
      obtain ⟨a7, l7, c7, x7, rfl, i7, v7, b7⟩ := nL
      have HL : Hid (Nm .u64 B64 wr (.slice a7 l7 c7) Lv lm) := ⟨a7, l7, c7, x7, rfl, i7, v7, b7⟩
      obtain ⟨a5, l5, c5, x5, rfl, i5, v5, b5⟩ := nT
      have HT : Hid (Nm .u64 B64 wr (.slice a5 l5 c5) T lm) := ⟨a5, l5, c5, x5, rfl, i5, v5, b5⟩
      have BW : Hid (Below w.heap.size w wr) := hB
      clear i8 v8 i7 v7 b7 i5 v5 b5 hE nM hB
      go_wp2_with fail
      refine HLEN.mono ?_
      rintro e wr2 ⟨rfl, rfl⟩
      go_wp2
      go_ret3
      exact ⟨_, _, _, T, rfl, by rw [← HD.out.1]; exact HL.out, HT.out, HD.out.2, BW.out⟩
    · have hpos : 0 < N := by omega
      have hlp := lenOf_pos i8.dg (by omega)
      have hle := lenOf_le i8.dg lm (by rw [i8.len]; exact b8)
      obtain ⟨a7, l7, c7, x7, rfl, i7, v7, b7⟩ := nL
      obtain ⟨a9, l9, c9, x9, rfl, i9, v9, b9⟩ := nM
      obtain ⟨a5, l5, c5, x5, rfl, i5, v5, b5⟩ := nT
      have HS : Hid (Euc M A N (Lv % N) Mo (T + Lv / N * Mo) (!bb)) := hE.step hpos
      have HDIV := Div_any a7 a8 l7 c7 l8 c8 x7 x8 wr i7 i8 (by omega) (by omega)
      rw [v7, v8] at HDIV
      have N8 : Hid (NumIn .u64 B64 wr a8 l8 c8 x8 ∧ val B64 x8 = N ∧ l8 ≤ lm) := ⟨i8, v8, b8⟩
      have N9 : Hid (NumIn .u64 B64 wr a9 l9 c9 x9 ∧ val B64 x9 = Mo ∧ l9 ≤ lm) := ⟨i9, v9, b9⟩
      have N5 : Hid (NumIn .u64 B64 wr a5 l5 c5 x5 ∧ val B64 x5 = T ∧ l5 ≤ lm) := ⟨i5, v5, b5⟩
      have L7 : Hid (l7 ≤ lm) := b7
      have BW : Hid (Below w.heap.size w wr) := hB
      have HP : Hid (0 < N) := hpos
      clear i8 v8 b8 i7 v7 b7 i5 v5 b5 i9 v9 b9 hE hB hpos hz n0
      generalize lenOf x8 = len8 at *
      go_wp2_with fail
      refine HLEN.mono ?_
      rintro e wr2 ⟨rfl, rfl⟩
      clear HLEN
      go_wp2_with fail
      refine HDIV.mono ?_
      rintro e w2 ⟨q, r, rfl, hq, hr⟩
      have HR := hr.fit B64_one HDM.out.1 (by have := HS.out.2.2.2.1; have := HMV.out; omega)
      rw [HDM.out.2] at HR
      have HR : Hid (Nm .u64 B64 w2 r (Lv % N) lm) := HR.nm
      have hbl := hr.bl
      obtain ⟨aq, lq, cq, xq, rfl, q1, q2, q3, q4, q5⟩ := hq
      obtain ⟨ar, lr, cr, xr, rfl, _, _, _, _, _⟩ := hr
      replace N8 : Hid (NumIn .u64 B64 w2 a8 l8 c8 x8 ∧ val B64 x8 = N ∧ l8 ≤ lm) := ⟨N8.out.1.old hbl, N8.out.2⟩
      replace N9 : Hid (NumIn .u64 B64 w2 a9 l9 c9 x9 ∧ val B64 x9 = Mo ∧ l9 ≤ lm) := ⟨N9.out.1.old hbl, N9.out.2⟩
      replace N5 : Hid (NumIn .u64 B64 w2 a5 l5 c5 x5 ∧ val B64 x5 = T ∧ l5 ≤ lm) := ⟨N5.out.1.old hbl, N5.out.2⟩
      replace BW : Hid (Below w.heap.size w w2) := BW.out.trans (hbl.mono BW.out.size)
      have HMUL := Mul_any aq a9 lq cq l9 c9 xq x9 w2 q1 N9.out.1 (by have := L7.out; have := N9.out.2.2; omega)
      rw [q3, N9.out.2.1] at HMUL
      have LQ : Hid (lq ≤ lm + 1) := by unfold Hid; have := L7.out; omega
      clear q1 q2 q3 q4 q5 hbl HDIV
      go_wp2_with fail
      refine HMUL.mono ?_
      rintro e w3 ⟨v, rfl, a3, l3, c3, x3, rfl, q1, q2, q3, q4, q5⟩
      replace HR : Hid (Nm .u64 B64 w3 (.slice ar lr cr) (Lv % N) lm) := HR.out.old q5
      replace N8 : Hid (NumIn .u64 B64 w3 a8 l8 c8 x8 ∧ val B64 x8 = N ∧ l8 ≤ lm) := ⟨N8.out.1.old q5, N8.out.2⟩
      replace N9 : Hid (NumIn .u64 B64 w3 a9 l9 c9 x9 ∧ val B64 x9 = Mo ∧ l9 ≤ lm) := ⟨N9.out.1.old q5, N9.out.2⟩
      replace BW : Hid (Below w.heap.size w w3) := BW.out.trans (q5.mono BW.out.size)
      have HADD := Add_any a5 a3 l5 c5 l3 c3 x5 x3 w3 (N5.out.1.old q5) q1 (by have := LQ.out; have := N9.out.2.2; have := N5.out.2.2; omega)
      rw [q3, N5.out.2.1] at HADD
      clear q1 q2 q3 q4 q5 N5 HMUL
      go_wp2_with fail
      refine HADD.mono ?_
      rintro e w4 ⟨v, rfl, hv⟩
      have HM2 := hv.fit B64_one HDM.out.1 (by have := HS.out.2.2.2.2.2.2.2.1; have := HMV.out; omega)
      rw [HDM.out.2] at HM2
      have HM2 : Hid (Nm .u64 B64 w4 v (T + Lv / N * Mo) lm) := HM2.nm
      replace HR : Hid (Nm .u64 B64 w4 (.slice ar lr cr) (Lv % N) lm) := HR.out.old hv.bl
      have N8' : Hid (Nm .u64 B64 w4 (.slice a8 l8 c8) N lm) := ⟨a8, l8, c8, x8, rfl, N8.out.1.old hv.bl, N8.out.2⟩
      have N9' : Hid (Nm .u64 B64 w4 (.slice a9 l9 c9) Mo lm) := ⟨a9, l9, c9, x9, rfl, N9.out.1.old hv.bl, N9.out.2⟩
      replace BW : Hid (Below w.heap.size w w4) := BW.out.trans (hv.bl.mono BW.out.size)
      clear hv HADD N8 N9 LQ L7
      go_wp2
      go_roundw
      case rel => exact ⟨!bb, Mo, Lv % N, N, T + Lv / N * Mo, rfl, N9'.out, N8'.out, HR.out, HM2.out, HS.out, BW.out⟩
      case measure =>
        rw [HMS.out, HR.out.nval]
        have := Int.emod_lt_of_pos Lv HP.out
        have := HP.out
        have := HS.out.2.2.1
        omega

set_option maxHeartbeats 1000000 in
/-- modular.Inv: nothing gives 1. -/
theorem mInv_no (ao mo : Option Addr) (la ca lm cm : Nat) (xs ms : List Int) (w : World) (h : NumIn .u64 B64 w ao la ca xs) (h' : NumIn .u64 B64 w mo lm cm ms) (h0 : val B64 ms ≠ 0) (hg : gd (val B64 ms) (val B64 xs % val B64 ms) ≠ 1) (hsm : la + lm < 100000000) :
    Calls Try.prog 27 #[.slice ao la ca, .slice mo lm cm] w fun e w' => e = .returned (.tuple #[.slice none 0 0, .int .i64 5]) ∧ Below w.heap.size w w' := by
  have HO := mOf_any ao mo la ca lm cm xs ms w h h' h0 (by omega)
  have hM := val_nonneg B64_pos h'.dg
  have hr := mod_range (val B64 xs) (val B64 ms) hM h0
  have HM : Hid (NumIn .u64 B64 w mo lm cm ms) := h'
  have HZ : Hid (val B64 ms ≠ 0) := h0
  have HR : Hid (val B64 xs % val B64 ms < val B64 ms) := hr.2
  have HG : Hid (gd (val B64 ms) (val B64 xs % val B64 ms) ≠ 1) := hg
  clear h h' h0 hM hr hg
  go_enter Try.func27, Try.ntmps27
  go_wp2_with fail
  refine HO.mono ?_
  rintro e w1 ⟨v, rfl, a1, l1, c1, zs, rfl, n1, n2, n3, n4, n5⟩
  have HEU := euclid_any a1 mo l1 c1 lm cm zs ms w1 n1 (HM.out.old n5) HZ.out (by rw [n3]; exact HR.out) n4 (by omega)
  rw [n3] at HEU
  replace HM : Hid (NumIn .u64 B64 w1 mo lm cm ms) := HM.out.old n5
  have BW : Hid (Below w.heap.size w w1) := n5
  clear n1 n2 n3 n4 n5 HO
  go_wp2_with fail
  refine HEU.mono ?_
  rintro e w2 ⟨vd, vt, b, T, rfl, ⟨ad, ld, cd, ds, rfl, d1, d2, d3⟩, ⟨at', lt, ct, ts, rfl, t1, t2, t3⟩, hcg, n5⟩
  replace HM : Hid (NumIn .u64 B64 w2 mo lm cm ms) := HM.out.old n5
  replace BW : Hid (Below w.heap.size w w2) := BW.out.trans (n5.mono BW.out.size)
  have ND : Hid (NumIn .u64 B64 w2 ad ld cd ds ∧ val B64 ds = gd (val B64 ms) (val B64 xs % val B64 ms)) := ⟨d1, d2⟩
  have NT : Hid (NumIn .u64 B64 w2 at' lt ct ts ∧ val B64 ts = T ∧ lt ≤ lm) := ⟨t1, t2, t3⟩
  have CG : Hid (Cg (val B64 ms) (gd (val B64 ms) (val B64 xs % val B64 ms)) (bif b then -(T * (val B64 xs % val B64 ms)) else T * (val B64 xs % val B64 ms))) := hcg
  clear d1 d2 d3 t1 t2 t3 hcg n5 HEU
  go_wp2_with fail
  refine (Of_any 1 w2 (by decide) (by decide)).mono ?_
  rintro e w3 ⟨v, rfl, a1, l1, c1, zs, rfl, n1, n2, n3, n4, n5⟩
  replace HM : Hid (NumIn .u64 B64 w3 mo lm cm ms) := HM.out.old n5
  replace BW : Hid (Below w.heap.size w w3) := BW.out.trans (n5.mono BW.out.size)
  replace NT : Hid (NumIn .u64 B64 w3 at' lt ct ts ∧ val B64 ts = T ∧ lt ≤ lm) := ⟨NT.out.1.old n5, NT.out.2⟩
  have HC := Cmp_any ad a1 ld cd l1 c1 ds zs w3 (ND.out.1.old n5) n1
  rw [n3, ND.out.2] at HC
  have hcc : (cmpI (gd (val B64 ms) (val B64 xs % val B64 ms)) 1 != 0) = true := by
    rcases Int.lt_trichotomy (gd (val B64 ms) (val B64 xs % val B64 ms)) 1 with g | g | g
    · rw [cmpI_lt g]; decide
    · exact absurd g HG.out
    · rw [cmpI_gt g]; decide
  generalize cmpI (gd (val B64 ms) (val B64 xs % val B64 ms)) 1 = cc at HC hcc
  clear n1 n2 n3 n4 n5 ND
  go_wp2_with fail
  refine HC.mono ?_
  rintro e w4 ⟨rfl, hd⟩
  have HF : Hid (Below w.heap.size w w4) := BW.out.trans (hd.below _)
  clear hd HC
  go_wp2
  go_ret2
  exact ⟨rfl, HF.out⟩

set_option maxHeartbeats 1000000 in
/-- modular.Inv: what gives 1. -/
theorem mInv_yes (ao mo : Option Addr) (la ca lm cm : Nat) (xs ms : List Int) (w : World) (h : NumIn .u64 B64 w ao la ca xs) (h' : NumIn .u64 B64 w mo lm cm ms) (h0 : val B64 ms ≠ 0) (hg : gd (val B64 ms) (val B64 xs % val B64 ms) = 1) (hsm : la + lm < 100000000) :
    Calls Try.prog 27 #[.slice ao la ca, .slice mo lm cm] w fun e w' => ∃ v n, e = .returned (.tuple #[v, .int .i64 0]) ∧ NumOut .u64 B64 w w' v n lm ∧ 0 ≤ n ∧ n < val B64 ms ∧ Cg (val B64 ms) (n * val B64 xs) 1 := by
  have HO := mOf_any ao mo la ca lm cm xs ms w h h' h0 (by omega)
  have hM := val_nonneg B64_pos h'.dg
  have hr := mod_range (val B64 xs) (val B64 ms) hM h0
  have HM : Hid (NumIn .u64 B64 w mo lm cm ms) := h'
  have HZ : Hid (val B64 ms ≠ 0) := h0
  have HR : Hid (val B64 xs % val B64 ms < val B64 ms) := hr.2
  have HG : Hid (gd (val B64 ms) (val B64 xs % val B64 ms) = 1) := hg
  clear h h' h0 hM hr hg
  go_enter Try.func27, Try.ntmps27
  go_wp2_with fail
  refine HO.mono ?_
  rintro e w1 ⟨v, rfl, a1, l1, c1, zs, rfl, n1, n2, n3, n4, n5⟩
  have HEU := euclid_any a1 mo l1 c1 lm cm zs ms w1 n1 (HM.out.old n5) HZ.out (by rw [n3]; exact HR.out) n4 (by omega)
  rw [n3] at HEU
  replace HM : Hid (NumIn .u64 B64 w1 mo lm cm ms) := HM.out.old n5
  have BW : Hid (Below w.heap.size w w1) := n5
  clear n1 n2 n3 n4 n5 HO
  go_wp2_with fail
  refine HEU.mono ?_
  rintro e w2 ⟨vd, vt, b, T, rfl, ⟨ad, ld, cd, ds, rfl, d1, d2, d3⟩, ⟨at', lt, ct, ts, rfl, t1, t2, t3⟩, hcg, n5⟩
  replace HM : Hid (NumIn .u64 B64 w2 mo lm cm ms) := HM.out.old n5
  replace BW : Hid (Below w.heap.size w w2) := BW.out.trans (n5.mono BW.out.size)
  have ND : Hid (NumIn .u64 B64 w2 ad ld cd ds ∧ val B64 ds = gd (val B64 ms) (val B64 xs % val B64 ms)) := ⟨d1, d2⟩
  have NT : Hid (NumIn .u64 B64 w2 at' lt ct ts ∧ val B64 ts = T ∧ lt ≤ lm) := ⟨t1, t2, t3⟩
  have CG : Hid (Cg (val B64 ms) (gd (val B64 ms) (val B64 xs % val B64 ms)) (bif b then -(T * (val B64 xs % val B64 ms)) else T * (val B64 xs % val B64 ms))) := hcg
  clear d1 d2 d3 t1 t2 t3 hcg n5 HEU
  go_wp2_with fail
  refine (Of_any 1 w2 (by decide) (by decide)).mono ?_
  rintro e w3 ⟨v, rfl, a1, l1, c1, zs, rfl, n1, n2, n3, n4, n5⟩
  replace HM : Hid (NumIn .u64 B64 w3 mo lm cm ms) := HM.out.old n5
  replace BW : Hid (Below w.heap.size w w3) := BW.out.trans (n5.mono BW.out.size)
  replace NT : Hid (NumIn .u64 B64 w3 at' lt ct ts ∧ val B64 ts = T ∧ lt ≤ lm) := ⟨NT.out.1.old n5, NT.out.2⟩
  have HC := Cmp_any ad a1 ld cd l1 c1 ds zs w3 (ND.out.1.old n5) n1
  rw [n3, ND.out.2] at HC
  rw [HG.out, cmpI_eq rfl] at HC
  rw [HG.out] at CG
  clear n1 n2 n3 n4 n5 ND
  go_wp2_with fail
  refine HC.mono ?_
  rintro e w4 ⟨rfl, hd⟩
  have n5 := hd.below w3.heap.size
  replace HM : Hid (NumIn .u64 B64 w4 mo lm cm ms) := HM.out.old n5
  replace BW : Hid (Below w.heap.size w w4) := BW.out.trans (n5.mono BW.out.size)
  replace NT : Hid (NumIn .u64 B64 w4 at' lt ct ts ∧ val B64 ts = T ∧ lt ≤ lm) := ⟨NT.out.1.old n5, NT.out.2⟩
  have hM := val_nonneg B64_pos HM.out.dg
  clear hd HC n5
  cases b with
  | true =>
    have HS := mSub_any none at' mo 0 0 lt ct lm cm [] ts ms w4 NumIn.nil NT.out.1 HM.out HZ.out (by have := NT.out.2.2; omega)
    rw [NT.out.2.1, val_nil] at HS
    have HRG : Hid (0 ≤ (0 - T) % val B64 ms ∧ (0 - T) % val B64 ms < val B64 ms) := mod_range _ _ hM HZ.out
    have HCG : Hid (Cg (val B64 ms) ((0 - T) % val B64 ms * val B64 xs) 1) := by
      have c1 := ((Cg.mod (val B64 ms) (0 - T)).mul (Cg.mod (val B64 ms) (val B64 xs)).symm)
      exact c1.trans ((Cg.of_eq (by simp only [cond_true]; grind)).trans CG.out.symm)
    clear NT CG hM
    go_wp2_with fail
    refine HS.mono ?_
    rintro e w5 ⟨v, rfl, hv⟩
    have HV : Hid (NumOut .u64 B64 w w5 v ((0 - T) % val B64 ms) lm) := hv.from BW.out
    clear hv HS
    go_wp2
    go_ret2
    exact ⟨_, _, rfl, HV.out, HRG.out.1, HRG.out.2, HCG.out⟩
  | false =>
    have HS := mOf_any at' mo lt ct lm cm ts ms w4 NT.out.1 HM.out HZ.out (by have := NT.out.2.2; omega)
    rw [NT.out.2.1] at HS
    have HRG : Hid (0 ≤ T % val B64 ms ∧ T % val B64 ms < val B64 ms) := mod_range _ _ hM HZ.out
    have HCG : Hid (Cg (val B64 ms) (T % val B64 ms * val B64 xs) 1) := by
      have c1 := ((Cg.mod (val B64 ms) T).mul (Cg.mod (val B64 ms) (val B64 xs)).symm)
      exact c1.trans ((Cg.of_eq (by simp only [cond_false])).trans CG.out.symm)
    clear NT CG hM
    go_wp2_with fail
    refine HS.mono ?_
    rintro e w5 ⟨v, rfl, hv⟩
    have HV : Hid (NumOut .u64 B64 w w5 v (T % val B64 ms) lm) := hv.from BW.out
    clear hv HS
    go_wp2
    go_ret2
    exact ⟨_, _, rfl, HV.out, HRG.out.1, HRG.out.2, HCG.out⟩

set_option maxHeartbeats 400000 in
/-- modular.Inv: of a modulus of 0. -/
theorem mInv_zero (ao mo : Option Addr) (la ca lm cm : Nat) (xs ms : List Int) (w : World) (h : NumIn .u64 B64 w ao la ca xs) (h' : NumIn .u64 B64 w mo lm cm ms) (h0 : val B64 ms = 0) :
    Calls Try.prog 27 #[.slice ao la ca, .slice mo lm cm] w fun e w' => e = .returned (.tuple #[.slice none 0 0, .int .i64 4]) ∧ w' = w := by
  have HO := mOf_zero ao mo la ca lm cm xs ms w h h' h0
  clear h h' h0
  go_enter Try.func27, Try.ntmps27
  go_wp2_with fail
  refine HO.mono ?_
  rintro e w2 ⟨rfl, rfl⟩
  go_wp2
  go_ret2
  exact ⟨rfl, rfl⟩
end Go.Proofs.Ytagljkbfgldlgaa
/-
  Cells of the call's own beside numbers; powers bit by bit.
-/
namespace Go.Proofs.Ytagljkbfgldlgaa
open Go.RowKit Go.Shelf
set_option linter.unusedVariables false
set_option linter.unusedSimpArgs false
attribute [local go_sem] Oper.semAt_some

/-- A cell of the call's own, with what it holds. -/
def Kc (W : World) (b : Nat) (v : Value) : Prop := W.cell? ⟨b, 0, none⟩ = some v ∧ W.frozen? ⟨b, 0, none⟩ = false
theorem Kc.lt {W : World} {b : Nat} {v : Value} (h : Kc W b v) : b < W.heap.size := World.block_lt_of_cell? W ⟨b, 0, none⟩ h.1
theorem Kc.kept {W W' : World} {b : Nat} {v : Value} {row : Option Nat} (h : Kc W b v) (hg : W.grownBy W' row) (hr : ∀ r, row = some r → ∃ o : Obj, W.heap[r]? = some o ∧ o.isCells = false) : Kc W' b v :=
  ⟨cell_kept h.1 hg hr, (frozen_kept h.1 hg hr).trans h.2⟩
theorem Kc.new (W : World) (v : Value) (t : TypeId) (b : Nat) (hb : b = W.heap.size) : Kc (W.alloc (.cells #[v] t)) b v := by subst hb; exact new_cell W v t
theorem Kc.alloc {W : World} {b : Nat} {v : Value} (h : Kc W b v) (o : Obj) : Kc (W.alloc o) b v := ⟨more_cell o h.1, more_frozen o h.1 h.2⟩
theorem Kc.set {W : World} {b : Nat} {v : Value} (h : Kc W b v) (u : Value) : Kc (W.setCell ⟨b, 0, none⟩ u) b u := ⟨World.cell?_setCell_same _ _ _ h.1, by rw [World.frozen?_setCell]; exact h.2⟩
theorem Kc.other {W : World} {b c : Nat} {v : Value} (h : Kc W b v) (hne : c ≠ b) (u : Value) : Kc (W.setCell ⟨c, 0, none⟩ u) b v := ⟨(World.cell?_setCell_other _ _ _ _ (by intro e; injection e with e; exact hne e)).trans h.1, by rw [World.frozen?_setCell]; exact h.2⟩
theorem Kc.old {W W' : World} {b : Nat} {v : Value} (h : Kc W b v) (hb : Below W.heap.size W W') : Kc W' b v :=
  ⟨(hb.cell (p := ⟨b, 0, none⟩) h.lt).trans h.1, (hb.frozen (p := ⟨b, 0, none⟩) h.lt).trans h.2⟩
/-- Two cells that hold other things are two. -/
theorem Kc.ne {W : World} {b c : Nat} {u v : Value} (h : Kc W b u) (h' : Kc W c v) (hne : u ≠ v) : b ≠ c := fun e => hne (by
  subst e
  have := h.1.symm.trans h'.1
  exact Option.some.inj this)

theorem NumIn.keptc {k : IntKind} {B : Int} {W W' : World} {ao : Option Addr} {len cap : Nat} {xs : List Int} (h : NumIn k B W ao len cap xs) {row : Option Nat} (hg : W.grownBy W' row) (hr : ∀ r, row = some r → ∃ o : Obj, W.heap[r]? = some o ∧ o.isCells = false) : NumIn k B W' ao len cap xs := by
  refine ⟨⟨h.len, ?_⟩, h.lc, h.cm, h.nn, h.dg, h.sm⟩
  by_cases h0 : len = 0
  · exact .inl h0
  · obtain ⟨b, off, e, hlt, hc⟩ := h.lies.at (by omega)
    have hc0 := cell_kept (hc 0 (by omega)) hg hr
    exact .inr ⟨b, off, e, World.block_lt_of_cell? W' ⟨b, off + 0, none⟩ hc0, fun i hi => cell_kept (hc i hi) hg hr⟩
/-- A store into a cell that holds a slice leaves numbers alone. -/
theorem NumIn.setSlice {k : IntKind} {B : Int} {W : World} {ao : Option Addr} {len cap : Nat} {xs : List Int} (h : NumIn k B W ao len cap xs) {b : Nat} {a : Option Addr} {l c : Nat} (hk : Kc W b (.slice a l c)) (u : Value) : NumIn k B (W.setCell ⟨b, 0, none⟩ u) ao len cap xs := by
  refine ⟨⟨h.len, ?_⟩, h.lc, h.cm, h.nn, h.dg, h.sm⟩
  by_cases h0 : len = 0
  · exact .inl h0
  · obtain ⟨b', off, e, hlt, hc⟩ := h.lies.at (by omega)
    refine .inr ⟨b', off, e, by rw [World.size_setCell]; exact hlt, fun i hi => ?_⟩
    refine (World.cell?_setCell_other _ _ _ _ ?_).trans (hc i hi)
    intro e2
    have h1 := hc i hi
    rw [← e2] at h1
    have h2 := hk.1.symm.trans h1
    cases h2
theorem KeepsOthers.of_below {W W' : World} (hb : Below W.heap.size W W') : KeepsOthers W W' :=
  ⟨hb.size, fun j o hj _ => (hb.block j (Array.getElem?_eq_some_iff.1 hj).1).trans hj⟩

theorem BitsAt.keptc {W W' : World} {g3 g4 : Nat} {V : Int} {L : Nat} (h : BitsAt W g3 g4 V L) {row : Option Nat} (hg : W.grownBy W' row) (hr : ∀ r, row = some r → ∃ o : Obj, W.heap[r]? = some o ∧ o.isCells = false) : BitsAt W' g3 g4 V L := by
  obtain ⟨ao, la, ca, xs, h1, h2, h3, h4, h5, h6, h7⟩ := h
  have c4 := cell_kept h3 hg hr
  have c3 := cell_kept h4 hg hr
  exact ⟨ao, la, ca, xs, World.block_lt_of_cell? W' _ c3, World.block_lt_of_cell? W' _ c4, c4, c3, h5.keptc hg hr, h6, h7⟩
theorem BitsAt.setSlice {W : World} {g3 g4 : Nat} {V : Int} {L : Nat} (h : BitsAt W g3 g4 V L) {b : Nat} {a : Option Addr} {l c : Nat} (hk : Kc W b (.slice a l c)) (hne : b ≠ g3) (u : Value) : BitsAt (W.setCell ⟨b, 0, none⟩ u) g3 g4 V L := by
  obtain ⟨ao, la, ca, xs, h1, h2, h3, h4, h5, h6, h7⟩ := h
  have hne4 : b ≠ g4 := fun e => by
    subst e
    have := hk.1.symm.trans h3
    cases this
  refine ⟨ao, la, ca, xs, by rw [World.size_setCell]; exact h1, by rw [World.size_setCell]; exact h2, ?_, ?_, h5.setSlice hk u, h6, h7⟩
  · exact (World.cell?_setCell_other _ _ _ _ (by intro e; injection e with e; exact hne4 e)).trans h3
  · exact (World.cell?_setCell_other _ _ _ _ (by intro e; injection e with e; exact hne e)).trans h4

set_option maxRecDepth 100000 in
set_option maxHeartbeats 2000000 in
/-- The iterator of nat.Bits, where the rounds keep just what it reads. -/
theorem bits_stopsI (n : Nat) (hn : 1 ≤ n) (w0 : World) (g3 g4 : Nat) (V : Int) (L : Nat) (h : BitsAt w0 g3 g4 V L) :
    SeqStopsK Fence.wide n Try.prog 80 #[.pointer (some ⟨g4, 0, none⟩), .pointer (some ⟨g3, 0, none⟩)] encB (fun A B => BitsAt A g3 g4 V L → BitsAt B g3 g4 V L) (fun xs => xs = bitsOf V L L) (fun pre => pre <+: bitsOf V L L) L w0 := fun l J Jx W hW hJ hJx hY h0 => by
  have HW : Hid (BitsAt W g3 g4 V L) := h.old hW
  obtain ⟨_, _, _, _, _, _, hcW, _, _, _, hL⟩ := HW.out
  clear hJ hJx hW h
  refine callsIn_of_wp Try.func80 rfl trivial ?_ rfl
  simp only [Try.ntmps80, List.size_toArray, List.length_cons, List.length_nil, Nat.reduceAdd, Nat.reduceSub, Array.replicate_succ, Array.replicate_zero, List.push_toArray, List.append_toArray, List.nil_append, List.cons_append]
  gi_wp2
  gi_loopw [4, 5, 7] (fun _ _ vi wr => ∃ (k : Nat), k ≤ L ∧ vi = .int .i64 k ∧ J (bitsOf V L k) wr ∧ BitsAt wr g3 g4 V L) (fun _ _ vi _ => L - (intOf vi).toNat)
  case atStart => exact ⟨0, Nat.zero_le _, rfl, h0, HW.out⟩
  case round =>
    obtain ⟨k, hk, rfl, hJs, hb⟩ := hrel
    clear hcW HW h0
    by_cases hlt : k < L
    · have HB : Hid (BitsAt wr g3 g4 V L) := hb
      obtain ⟨ao, la, ca, xs, _, _, hc4, hc3, hnum, hv, _⟩ := hb
      obtain ⟨fn, tmps, assign, body, hy, hR⟩ := hY (bitsOf V L k) (bitOf V L k) wr hJs (by rw [bitsOf_len]; exact hlt)
      have HI := isSet_any ao la ca xs (L - 1 - k) wr hnum (by omega)
      rw [hv] at HI
      dsimp only [encB, bitOf] at hy
      obtain ⟨p, hp⟩ : ∃ p, L - 1 - k = p := ⟨_, rfl⟩
      have ep : (L : Int) - 1 - (k : Int) = (p : Int) := by omega
      rw [hp] at hy HI
      clear hp hnum hv
      have HP : Hid (bitsOf V L (k + 1) = bitsOf V L k ++ [bitOf V L k] ∧ bitsOf V L (k + 1) <+: bitsOf V L L) := ⟨bitsOf_succ V L k, bitsOf_pre V L _ _ (by omega)⟩
      clear hY
      generalize (bitAt V p == 1) = bb at *
      generalize bitOf V L k = bk at *
      gi_wp2_with (refine ⟨trivial, ?_⟩; gi_at_call 81; refine (callsIn_wide.2 HI).mono ?_; rintro e w' ⟨rfl, rfl⟩)
      refine hR.mono ?_
      rintro e W3 (⟨rfl, hJ3, hk3⟩ | ⟨rfl, hJx3⟩)
      · rw [← HP.out.1] at hJ3
        have HB3 : Hid (BitsAt W3 g3 g4 V L) := hk3 HB.out
        clear hR hy HI hc3 hc4 hJs hk3
        gi_wp2
        go_roundw
        case rel => exact ⟨k + 1, by omega, by go_num, hJ3, HB3.out⟩
        case measure => simp [intOf] <;> omega
      · rw [← HP.out.1] at hJx3
        clear hR hy HI hc3 hc4 hJs
        gi_wp2
        refine bodyPost_ret (results_none rfl _ _ _) rfl ?_
        exact ⟨⟨_, rfl⟩, .inr ⟨_, HP.out.2, hJx3⟩⟩
    · obtain rfl : k = L := by omega
      clear hY hb
      gi_wp2
      go_end0
      exact ⟨⟨_, rfl⟩, .inl ⟨_, rfl, hJs⟩⟩

/-- The power that the bits that have come give. -/
def pstep (M X : Int) (p : Int) (x : Int × Bool) : Int := bif x.2 then p * p % M * X % M else p * p % M
def pfold (M X : Int) (pre : List (Int × Bool)) : Int := pre.foldl (pstep M X) (1 % M)
theorem pfold_nil (M X : Int) : pfold M X [] = 1 % M := rfl
theorem pfold_snoc (M X : Int) (pre : List (Int × Bool)) (x : Int × Bool) : pfold M X (pre ++ [x]) = pstep M X (pfold M X pre) x := by simp [pfold]
theorem pfold_cg (M X V : Int) (h0 : 0 ≤ V) (L : Nat) (hL : V < 2 ^ L) : ∀ k, k ≤ L → Cg M (pfold M (X % M) (bitsOf V L k)) (pws X V (L - k))
  | 0, _ => by
    rw [Nat.sub_zero, pws_top X V h0 L hL]
    exact Cg.mod M 1
  | k + 1, hk => by
    have ih := pfold_cg M X V h0 L hL k (by omega)
    rw [bitsOf_succ, pfold_snoc]
    have e : L - k = (L - (k + 1)) + 1 := by omega
    have e2 : L - 1 - k = L - (k + 1) := by omega
    rw [e] at ih
    have sq := (Cg.mod M _).trans (ih.mul ih)
    unfold pstep bitOf
    rw [e2]
    simp only
    rcases bitAt_01 V (L - (k + 1)) with hb | hb
    · rw [hb, pws_even X V h0 _ hb]
      exact sq
    · rw [hb, pws_odd X V h0 _ hb]
      exact (Cg.mod M _).trans (sq.mul (Cg.mod M X))
theorem pfold_all (M X V : Int) (h0 : 0 ≤ V) (hM : 0 < M) (L : Nat) (hL : V < 2 ^ L) (h : ∀ ys, 0 ≤ pfold M (X % M) ys ∧ pfold M (X % M) ys < M) : pfold M (X % M) (bitsOf V L L) = X ^ V.toNat % M := by
  have hc := pfold_cg M X V h0 L hL L (Nat.le_refl _)
  rw [Nat.sub_self, pws_zero] at hc
  have r := h (bitsOf V L L)
  rw [← hc.emod, Int.emod_eq_of_lt r.1 r.2]
theorem pfold_range (M X : Int) (hM : 0 < M) (ys : List (Int × Bool)) : 0 ≤ pfold M X ys ∧ pfold M X ys < M := by
  have h : ∀ (l : List (Int × Bool)) (p : Int), 0 ≤ p ∧ p < M → 0 ≤ l.foldl (pstep M X) p ∧ l.foldl (pstep M X) p < M := by
    intro l
    induction l with
    | nil => intro p hp; exact hp
    | cons x l ih =>
      intro p hp
      refine ih _ ?_
      unfold pstep
      cases x.2
      · exact mod_range _ _ (by omega) (by omega)
      · exact mod_range _ _ (by omega) (by omega)
  exact h ys _ (mod_range _ _ (by omega) (by omega))
end Go.Proofs.Ytagljkbfgldlgaa
