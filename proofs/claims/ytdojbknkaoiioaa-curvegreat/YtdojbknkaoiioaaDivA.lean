/-
  Contract of nat.Div.
-/
import Derived.Test.YtdojbknkaoiioaaDiv
namespace Go.Proofs.Ytdojbknkaoiioaa
open Go.RowKit
set_option linter.unusedVariables false
set_option linter.unusedSimpArgs false
attribute [local go_sem ↓] Go.wp_at_zero Go.wp_at_succ

set_option maxHeartbeats 1000000 in
/-- nat.Div by 0. -/
theorem Div_zero (ao bo : Option Addr) (la ca lb cb : Nat) (xs ys : List Int) (w : World) (h : NumIn .u64 B64 w ao la ca xs) (h' : NumIn .u64 B64 w bo lb cb ys) (h0 : val B64 ys = 0) :
    Calls Try.prog 95 #[.slice ao la ca, .slice bo lb cb] w fun e w' => e = .returned (.tuple #[.slice none 0 0, .slice none 0 0, .bool false]) ∧ w' = w := by
  have HX := trim_any ao la ca xs w h.lies h.lc h.cm h.nn
  have HY := trim_any bo lb cb ys w h'.lies h'.lc h'.cm h'.nn
  have hz : top ys = 0 := by
    by_cases ht : top ys = 0
    · exact ht
    · exfalso
      have := val_ge B64_pos h'.dg (top ys - 1) (by omega)
      have : (0 : Int) < B64 ^ (top ys - 1) := Int.pow_pos B64_pos
      omega
  rw [hz] at HY
  go_enter Try.func95, Try.ntmps95
  go_wp2_with fail
  refine HX.mono ?_
  rintro e w1 ⟨rfl, rfl⟩
  go_wp2_with fail
  refine HY.mono ?_
  rintro e w2 ⟨rfl, rfl⟩
  go_wp2
  go_ret3
  exact ⟨rfl, rfl⟩

/-- Both answers of Div. -/
def DivOut (w w' : World) (q r : Value) (x y : Int) (L : Nat) : Prop := NumOut .u64 B64 w w' q (x / y) L ∧ NumOut .u64 B64 w w' r (x % y) L

set_option maxHeartbeats 4000000 in
/-- nat.Div. -/
theorem Div_any (ao bo : Option Addr) (la ca lb cb : Nat) (xs0 ys0 : List Int) (w : World) (h0 : NumIn .u64 B64 w ao la ca xs0) (h0' : NumIn .u64 B64 w bo lb cb ys0) (hy0 : val B64 ys0 ≠ 0) (hsm : la + lb < 1073740000) :
    Calls Try.prog 95 #[.slice ao la ca, .slice bo lb cb] w fun e w' => ∃ q r, e = .returned (.tuple #[q, r, .bool true]) ∧ DivOut w w' q r (val B64 xs0) (val B64 ys0) (la + 1) := by
  have hl := h0.len
  have hl' := h0'.len
  have ht := top_le xs0
  have ht' := top_le ys0
  have h := h0.take (top xs0) (by omega)
  have h' := h0'.take (top ys0) (by omega)
  have HX := trim_any ao la ca xs0 w h0.lies h0.lc h0.cm h0.nn
  have HY := trim_any bo lb cb ys0 w h0'.lies h0'.lc h0'.cm h0'.nn
  have cx := canon_take_top xs0
  have cy := canon_take_top ys0
  rw [← val_take_top B64 ys0] at hy0
  rw [← val_take_top B64 xs0, ← val_take_top B64 ys0]
  have lx := h.len
  have ly := h'.len
  generalize xs0.take (top xs0) = xs at *
  generalize ys0.take (top ys0) = ys at *
  generalize top xs0 = n at *
  generalize htm : top ys0 = m1 at *
  have hm0 : m1 ≠ 0 := by
    intro hz
    apply hy0
    have : ys = [] := List.eq_nil_of_length_eq_zero (by omega)
    rw [this]; rfl
  obtain ⟨m, rfl⟩ : ∃ m, m1 = m + 1 := ⟨m1 - 1, by omega⟩
  have hnl : n ≤ la := by omega
  have hml : m + 1 ≤ lb := by omega
  clear h0 h0' ht ht' hl hl' htm hm0
  have hx0 := val_nonneg B64_pos h.dg
  have hyp : 0 < val B64 ys := by have := val_nonneg B64_pos h'.dg; omega
  by_cases hlt : n < m + 1
  · have hv : val B64 xs < val B64 ys := by
      apply top_lt_val B64_one h.dg h'.dg
      unfold Canon at cx cy
      omega
    have HN := Norm_any ao n ca xs w h
    have HFIN : Hid (∀ v w', NumOut .u64 B64 w w' v (val B64 xs) n → DivOut w w' (.slice none 0 0) v (val B64 xs) (val B64 ys) (la + 1)) := by
      rintro v w' ⟨a, b, c, d, rfl, e1, e2, e3, e4, e5⟩
      refine ⟨⟨none, 0, 0, [], rfl, NumIn.nil, Canon.nil, ?_, by omega, e5⟩, ⟨a, b, c, d, rfl, e1, e2, ?_, by omega, e5⟩⟩
      · rw [Int.ediv_eq_zero_of_lt hx0 hv]; rfl
      · rw [e3, Int.emod_eq_of_lt hx0 hv]
    clear hv h h' cx cy hx0 hyp hy0
    go_enter Try.func95, Try.ntmps95
    go_wp2_with fail
    refine HX.mono ?_
    rintro e w1 ⟨rfl, rfl⟩
    go_wp2_with fail
    refine HY.mono ?_
    rintro e w2 ⟨rfl, rfl⟩
    go_wp2_with (go_at_call 73; refine HN.mono ?_; rintro e w3 ⟨v, rfl, hv⟩)
    go_ret3
    exact ⟨_, _, rfl, HFIN.out _ _ (by assumption)⟩
  · obtain ⟨t, ht64, ebl, hbig, hsmall⟩ := norm_div ys h'.dg m ly cy
    obtain ⟨b, off, rfl, hblk, hc⟩ := h'.lies.at (by omega)
    have hcell := hc m (by omega)
    have gy := h'.dg.getD B64_pos m
    have HLZ := fun w => lead_any (ys.getD m 0) w gy.1 gy.2
    rw [ebl] at HLZ
    generalize ys.getD m 0 = yt at *
    have HSY := Shift_neg (some ⟨b, off, none⟩) (m + 1) cb ys t w h' ht64 (by omega)
    have hmn : m + 1 ≤ n := by omega
    clear hlt hc ebl gy
    go_enter Try.func95, Try.ntmps95
    go_wp2_with fail
    refine HX.mono ?_
    rintro e w1 ⟨rfl, rfl⟩
    go_wp2_with fail
    refine HY.mono ?_
    rintro e w2 ⟨rfl, rfl⟩
    go_wp2_with fail
    refine (HLZ _).mono ?_
    rintro e w3 ⟨rfl, rfl⟩
    go_wp2_with fail
    refine HSY.mono ?_
    rintro e w4 ⟨v, rfl, ad, ld, cd, ds, rfl, hdn, hdc, hdv, hdl, hbel⟩
    have hld : ld = m + 1 := by
      have hp : (0 : Int) < B64 ^ m := Int.pow_pos B64_pos
      rw [← hdn.len]
      exact canon_len hdn.dg hdc m (by rw [hdv]; omega) (by rw [hdv]; exact hsmall)
    subst hld
    have hDv : Dv w4 ad (m + 1) ds := by
      refine ⟨hdn.lies, hdn.dg, by omega, ?_⟩
      rw [Nat.add_sub_cancel, digit_at B64_pos ds hdn.dg m, hdv]
      have hp : (0 : Int) < B64 ^ m := Int.pow_pos B64_pos
      have a1 : 9223372036854775808 ≤ val B64 ys * 2 ^ t / B64 ^ m := (Int.le_ediv_iff_mul_le hp).2 hbig
      have a2 : val B64 ys * 2 ^ t / B64 ^ m < B64 := Int.ediv_lt_of_lt_mul hp (by rw [Int.mul_comm B64, ← Int.pow_succ]; exact hsmall)
      rw [Int.emod_eq_of_lt (by omega) a2]
      exact a1
    obtain ⟨b2, off2, rfl, hblk2, hc2⟩ := hdn.lies.at (by omega)
    obtain ⟨M, rfl⟩ : ∃ M, n = m + 1 + M := ⟨n - (m + 1), by omega⟩
    have h4 := h.old hbel
    have HBEL : Hid (Below w3.heap.size w3 w4) := hbel
    have HD0 : Hid (0 < val B64 ds ∧ val B64 ds < B64 ^ (m + 1)) := hDv.range
    have HX0 : Hid (val B64 xs * 2 ^ t < B64 ^ (M + 1) * val B64 ds) := by
      unfold Hid
      have a := val_lt B64_pos h.dg
      rw [lx] at a
      have hp : (0 : Int) < 2 ^ t := Int.pow_pos (by decide)
      have hp2 : (0 : Int) < B64 ^ (M + 1) := Int.pow_pos B64_pos
      have c1 := Int.mul_lt_mul_of_pos_right a hp
      have c2 : (2 : Int) ^ t ≤ 9223372036854775808 := pow_mono (B := 2) (by decide) (show t ≤ 63 by omega)
      have c3 : (0 : Int) < B64 ^ m := Int.pow_pos B64_pos
      have c4 : B64 ^ m * 2 ^ t ≤ B64 ^ m * 9223372036854775808 := Int.mul_le_mul_of_nonneg_left c2 (by omega)
      have c5 : B64 ^ (M + 1) * (B64 ^ m * 2 ^ t) ≤ B64 ^ (M + 1) * val B64 ds := Int.mul_le_mul_of_nonneg_left (by rw [hdv]; omega) (by omega)
      have c6 : B64 ^ (m + 1 + M) * 2 ^ t = B64 ^ (M + 1) * (B64 ^ m * 2 ^ t) := by rw [show m + 1 + M = (M + 1) + m by omega, Int.pow_add]; grind
      omega
    have HDV : Hid (val B64 ds = val B64 ys * 2 ^ t) := hdv
    have HLX : Hid (xs.length = m + 1 + M) := lx
    clear hsmall hbig hdv hdc HLZ hcell hbel cx cy hy0 hx0 hyp lx ly hc2 HX HY HSY h' hblk
    go_wp2_with (at_make; refine wpList_make_row _ rfl _ _ 27 rfl 34 .u64 8 Try.underlying27 Try.infoU _ _ _ _ (m + 1 + M + 1) rfl rfl (by omega) (by omega) (by omega) (by unfold maxLen; omega) ?_)
    intro w5 hrowl hbel5
    have HSX := Shift_neg ao (m + 1 + M) ca xs t w5 (h4.old hbel5) ht64 (by omega)
    go_wp2_with fail
    refine HSX.mono ?_
    rintro e w6 ⟨v, rfl, asx, ls, cs, sx, rfl, hsn, hsc, hsv, hsl, hbel6⟩
    have hrow6 := hrowl.below hbel6 hrowl.lt
    have hbel46 : Below w4.heap.size w4 w6 := hbel5.trans (hbel6.mono hbel5.size)
    have hlsx := hsn.len
    go_wp2_with (refine wpList_copy_row rfl _ _ 27 27 rfl 34 Try.underlying27 .u64 8 Try.infoU w4.heap.size asx _ _ _ _ rfl rfl _ sx hrow6 hsn.lies (by simp) ls (by omega) w4.heap.size w4 hbel46 (Nat.le_refl _) ?_)
    intro w7 hrow7 hbel7
    have HV7 : Hid (val B64 (sx.take ls ++ List.replicate (m + 1 + M + 1 - ls) 0) = val B64 xs * 2 ^ t ∧ Dg B64 (sx.take ls ++ List.replicate (m + 1 + M + 1 - ls) 0) ∧ (sx.take ls ++ List.replicate (m + 1 + M + 1 - ls) (0 : Int)).length = m + 1 + M + 1) := by
      refine ⟨?_, (hsn.dg.take _).append (Dg.zeros B64_pos _), ?_⟩
      · rw [val_append, List.take_of_length_le (by omega), hsv, val_replicate]; simp
      · simp; omega
    have HROW7 : Hid (Row 34 .u64 w7 w4.heap.size (sx.take ls ++ List.replicate (m + 1 + M + 1 - ls) 0)) := hrow7
    clear hrow7 hsv hsc hsl hsn hlsx hrow6 hbel46 hbel6 hbel5 hrowl HSX
    generalize sx.take ls ++ List.replicate (m + 1 + M + 1 - ls) 0 = cur0 at *
    go_wp2_with (at_make; refine wpList_make_row _ rfl _ _ 27 rfl 34 .u64 8 Try.underlying27 Try.infoU _ _ _ _ (M + 1) rfl rfl (by omega) (by omega) (by omega) (by unfold maxLen; omega) ?_)
    intro w8 hrowq hbel8
    have hrow8 := HROW7.out.below hbel8 HROW7.out.lt
    have hgq : w4.heap.size < w7.heap.size := HROW7.out.lt
    have hbel48 : Below w4.heap.size w4 w8 := hbel7.trans (hbel8.mono hbel7.size)
    have HINI : Hid (Dvs (val B64 xs * 2 ^ t) (val B64 ds) (m + 1 + M) (M + 1) (M + 1) cur0 (List.replicate (M + 1) 0)) := by
      refine ⟨HV7.out.2.2, HV7.out.2.1, by simp, Dg.zeros B64_pos _, by rw [HV7.out.1]; exact HX0.out, ?_⟩
      rw [HV7.out.1, List.drop_eq_nil_of_le (by simp)]
      simp [val]
    clear HROW7 hbel7 hbel8
    go_wp2
    go_loopw [58] (fun v wr => ∃ (i : Nat) (cur qs : List Int), i ≤ M + 1 ∧ v = .int .i64 i ∧ Row 34 .u64 wr w4.heap.size cur ∧ Row 34 .u64 wr w7.heap.size qs ∧ Dvs (val B64 xs * 2 ^ t) (val B64 ds) (m + 1 + M) (M + 1) (M + 1 - i) cur qs ∧ Below w4.heap.size w4 wr) (fun v _ => M + 1 - (intOf v).toNat)
    case atStart => exact ⟨0, _, _, Nat.zero_le _, rfl, hrow8, hrowq, HINI.out, hbel48⟩
    case round =>
      obtain ⟨i, cur, qs, hi, rfl, hrl, hrq, hdv, hbw⟩ := hrel
      by_cases hlt : i < M + 1
      · obtain ⟨k, hk⟩ : ∃ k : Nat, (M : Int) - i = k := ⟨M - i, by omega⟩
        have hkM : k < M + 1 := by omega
        rw [show M + 1 - i = k + 1 by omega] at hdv
        have hpre := hdv.pre (n := m + 1) (by omega) HD0.out.2 HD0.out.1
        have hlc := hdv.1
        have hDw : Dv wr (some ⟨b2, off2, none⟩) (m + 1) ds := ⟨hDv.lies.old hbw, hDv.dg, hDv.pos, hDv.big⟩
        have HDL := divLimb_any 34 w4.heap.size k m (m + 1 + M + 1 - k) cd (some ⟨b2, off2, none⟩) cur ds wr hrl hdv.2.1 hDw (fun b' off' s hb' => by injection hb' with hb'; injection hb' with hb'; omega) (by omega) (by omega) _ _ rfl rfl hpre.2
        have HST : Hid (∀ cur' G, cur'.length = cur.length → Dg B64 cur' → (∀ j, j < k ∨ k + (m + 1) < j → cur'.getD j 0 = cur.getD j 0) → G = val B64 (seg cur k (m + 1 + 1)) / val B64 ds → val B64 (seg cur' k (m + 1 + 1)) = val B64 (seg cur k (m + 1 + 1)) % val B64 ds →
            (0 ≤ G ∧ G < 18446744073709551616) ∧ Dvs (val B64 xs * 2 ^ t) (val B64 ds) (m + 1 + M) (M + 1) k cur' (qs.set k G)) := fun cur' G a b c d e => hdv.step (n := m + 1) (by omega) hkM HD0.out.2 HD0.out.1 a b c d e
        have hlq := hdv.2.2.1
        have HRQ : Hid (Row 34 .u64 wr w7.heap.size qs) := hrq
        have HBW : Hid (Below w4.heap.size w4 wr) := hbw
        have HKI : Hid (M + 1 - (i + 1) = k) := by unfold Hid; omega
        have hke : k + (m + 1 + 1) ≤ m + 1 + M + 1 := by omega
        clear hdv hpre hrl hrq hbw hrow8 hrowq hbel48 hDw HINI HV7
        go_wp2_with fail
        rw [show k + (m + 1) + 1 - k = m + 1 + 1 by omega]
        refine HDL.mono ?_
        rintro e w9 ⟨G, rfl, cur', hrl', c1, c2, c3, eG, eR, hgr⟩
        have hst := HST.out cur' G c1 c2 c3 eG eR
        have hrq9 := HRQ.out.kept hgr (by simp; omega)
        have hfr := hrq9.frozen k
        have hcl := hrq9.cell k (by omega)
        have HRL : Hid (Row 34 .u64 (w9.setCell ⟨w7.heap.size, k, none⟩ (.int .u64 G)) w4.heap.size cur') := hrl'.kept (grown_set _ _ _ _) (by simp; omega)
        have HRQ9 : Hid (Row 34 .u64 (w9.setCell ⟨w7.heap.size, k, none⟩ (.int .u64 G)) w7.heap.size (qs.set k G)) := hrq9.set k G
        have HB9 : Hid (Below w4.heap.size w4 (w9.setCell ⟨w7.heap.size, k, none⟩ (.int .u64 G))) := (HBW.out.grown hgr HBW.out.size (fun j hj => by injection hj with hj; omega)).setCell (p := ⟨w7.heap.size, k, none⟩) (by show w4.heap.size ≤ w7.heap.size; omega) _
        have HDS : Hid (Dvs _ _ _ _ _ _ _) := hst.2
        clear hst hrq9 hrl' c1 c2 c3 eG eR hgr HST HDL HRQ HBW
        go_wp2
        go_roundw
        case rel => exact ⟨i + 1, cur', _, by omega, by go_num, HRL.out, HRQ9.out, by rw [HKI.out]; exact HDS.out, HB9.out⟩
        case measure => simp [intOf]; omega
      · obtain rfl : i = M + 1 := by omega
        rw [Nat.sub_self] at hdv
        have hdone := hdv.done HDV.out HD0.out.1
        have hlc := hdv.1
        have hlq := hdv.2.2.1
        have hnq := hrq.num hdv.2.2.2.1 (by omega)
        have hnl' := hrl.num hdv.2.1 (by omega)
        rw [hlq] at hnq
        rw [hlc] at hnl'
        have HSH := Shift_down (some ⟨w4.heap.size, 0, none⟩) (m + 1 + M + 1) (m + 1 + M + 1) cur t wr hnl' (by omega)
        rw [hdone.2] at HSH
        have HQV : Hid (val B64 qs = val B64 xs / val B64 ys) := hdone.1
        have HNQ : Hid (NumIn _ _ _ _ _ _ _) := hnq
        have HB : Hid (Below w3.heap.size w3 wr) := HBEL.out.trans (hbw.mono HBEL.out.size)
        clear hdv hdone hrl hrq hnq hnl' hbw hrow8 hrowq hbel48 HINI HV7 hlc hlq h h4 hdn hDv HX0 HD0 HDV
        go_wp2_with fail
        refine (trim_any _ _ _ _ _ HNQ.out.lies HNQ.out.lc HNQ.out.cm HNQ.out.nn).mono ?_
        rintro e w10 ⟨rfl, rfl⟩
        go_wp2_with fail
        refine HSH.mono ?_
        rintro e w11 ⟨v, rfl, ar, lr, cr, rs, rfl, r1, r2, r3, r4, r5⟩
        have HF : Hid (DivOut w3 w11 (.slice (some ⟨w7.heap.size, 0, none⟩) (top qs) (M + 1)) (.slice ar lr cr) (val B64 xs) (val B64 ys) (la + 1)) := by
          have hbb : Below w3.heap.size w3 w11 := HB.out.trans (r5.mono HB.out.size)
          refine ⟨(HNQ.out.old r5).out hbb _ HQV.out _ (by omega), ⟨ar, lr, cr, rs, rfl, r1, r2, r3, by omega, hbb⟩⟩
        clear r1 r2 r3 r4 r5 HB HNQ HQV
        go_wp2
        go_ret3
        exact ⟨_, _, rfl, HF.out⟩
end Go.Proofs.Ytdojbknkaoiioaa
