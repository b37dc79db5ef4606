import Derived.Test.YtnacgkkklmlhaaaK04
import Derived.Test.YtnacgkkklmlhaaaK02
/-
  The contract of the document's Div.
-/
namespace Go.Proofs.Ytnacgkkklmlhaaa
open Go.RowKit
set_option linter.unusedVariables false
set_option linter.unusedSimpArgs false

set_option maxHeartbeats 1000000 in
/-- the document's Div, of a divisor that isn't 0. -/
theorem rDiv_any (ao bo : Option Addr) (la ca lb cb : Nat) (xs ys : List Int) (w : World) (h : NumIn .i64 D16 w ao la ca xs) (h' : NumIn .i64 D16 w bo lb cb ys) (hy : Canon ys) (hb0 : 0 < lb) (hla : la ≤ 100000) (hlb : lb ≤ 100000) :
    Calls Try.prog 66 #[.slice ao la ca, .slice bo lb cb] w fun e w' => ∃ vq vr, e = .returned (.tuple #[vq, vr]) ∧ NumOut .i64 D16 w w' vq (val D16 xs / val D16 ys) la ∧ NumOut .i64 D16 w w' vr (val D16 xs % val D16 ys) lb := by
  have hl := h.len
  have hl' := h'.len
  have hYp : 0 < val D16 ys := by
    have a := val_ge D16_pos h'.dg (lb - 1) (by unfold Canon at hy; omega)
    have b : 0 < D16 ^ (lb - 1) := Int.pow_pos D16_pos
    omega
  have HYP : Hid (0 < val D16 ys) := hYp
  clear hYp
  go_enter Try.func66, Try.ntmps66
  go_wp2_with (at_make; refine wpList_make_row _ rfl _ _ 41 rfl 3 .i64 8 Try.underlying41 Try.infoI _ _ _ _ la rfl rfl rfl rfl (by omega) (by unfold maxLen; omega) ?_)
  intro w3 hrow hbel
  have hsz3 : w.heap.size < w3.heap.size := hrow.lt
  go_wp2
  go_loopw [7, 9, 10, 11] (fun vr vi _ _ wr => ∃ (kk : Nat) (q : List Int) (R : Int), kk ≤ la ∧ vi = .int .i64 ((kk : Int) - 1) ∧ Row 3 .i64 wr w.heap.size q ∧ RDivs xs ys kk q R ∧ Rem wr w.heap.size vr R lb ∧ Below w.heap.size w wr) (fun _ vi _ _ _ => (intOf vi + 1).toNat)
  case atStart =>
    have hb4 : Below w3.heap.size w3 (w3.alloc (.cells #[] 3)) := (Below.refl _ _).alloc (Nat.le_refl _) _
    refine ⟨la, List.replicate la 0, 0, Nat.le_refl _, by go_num, hrow.below hb4 hsz3, ⟨by simp [hl], Dg.zeros D16_pos _, fun j _ => getD_zeros _ j, by decide, HYP.out, ?_⟩, ?_, hbel.trans (hb4.mono (by omega))⟩
    · rw [List.drop_of_length_le (by omega), List.drop_of_length_le (by simp)]; simp [val]
    · refine ⟨some ⟨w3.heap.size, 0, none⟩, 0, 0, [], rfl, ⟨Lies.empty _ _ _, Nat.le_refl _, by simp [maxLen], fun h => (by cases h), Dg.nil _, by omega⟩, Canon.nil, rfl, by omega, ?_⟩
      intro b off s e
      injection e with e
      injection e with e
      omega
  case round =>
    obtain ⟨kk, q0, R0, hkk, rfl, hrw0, hd0, ⟨a_r, l_r, c_r, rs, rfl, hr, hcr, hvr, hlr, hfr⟩, hb1⟩ := hrel
    clear hrow hbel hsz3
    by_cases hk0 : kk = 0
    · subst hk0
      have hqR := hd0.done
      have hqlen := hd0.1
      have HQ : Hid (NumIn .i64 D16 wr (some ⟨w.heap.size, 0, none⟩) la la q0) := by have := hrw0.num hd0.2.1 (by omega); rw [hqlen, hl] at this; exact this
      have HV : Hid (val D16 q0 = val D16 xs / val D16 ys) := hqR.1
      have HR : Hid (NumOut .i64 D16 w wr (.slice a_r l_r c_r) (val D16 xs % val D16 ys) lb) := ⟨a_r, l_r, c_r, rs, rfl, hr, hcr, by rw [hvr]; exact hqR.2, hlr, hb1⟩
      have HB : Hid (Below w.heap.size w wr) := hb1
      clear hqR hqlen hd0 hrw0 hr hcr hvr hlr hfr hb1 h h' hy HYP
      go_wp2_with fail
      refine (rtrim_any (some ⟨w.heap.size, 0, none⟩) la la q0 wr HQ.out).mono ?_
      rintro e w4 ⟨rfl, rfl⟩
      go_wp2
      go_ret2
      exact ⟨_, _, rfl, HQ.out.out HB.out _ HV.out _ (Nat.le_refl _), HR.out⟩
    · obtain ⟨i, rfl⟩ : ∃ i, kk = i + 1 := ⟨kk - 1, by omega⟩
      obtain ⟨b, off, rfl, hblk, hcs⟩ := (h.lies.old hb1).at (by omega)
      have hcx := hcs i (by omega)
      have gx := h.dg.getD D16_pos i
      have HEN : Hid (RDivIn xs ys i (xs.getD i 0 + D16 * R0) q0 q0 0 (xs.getD i 0 + D16 * R0)) := hd0.enter h.dg
      have HTOP : Hid (xs.getD i 0 + D16 * R0 < D16 * val D16 ys) := hd0.top h.dg
      have HD0 : Hid (RDivs xs ys (i + 1) q0 R0) := hd0
      have HROW0 : Hid (Row 3 .i64 wr w.heap.size q0) := hrw0
      have HB1 : Hid (Below w.heap.size w wr) := hb1
      have hgs := hrw0.lt
      have hown0 := (row_alloc wr 3 .i64 (xs.getD i 0)).own (base := wr.heap.size) (Nat.le_refl _) (by simp)
      have hba : Below wr.heap.size wr (wr.alloc (.cells #[.int .i64 (xs.getD i 0)] 3)) := (Below.refl _ _).alloc (Nat.le_refl _) _
      have hlr2 := hr.lies.old hba
      have hnn := hr.nn
      have HR : Hid (NumIn .i64 D16 wr a_r l_r c_r rs ∧ val D16 rs = R0) := ⟨hr, hvr⟩
      have HX : Hid (0 ≤ xs.getD i 0 ∧ xs.getD i 0 < D16) := gx
      obtain ⟨T, HT⟩ : ∃ T, Hid (xs.getD i 0 + D16 * R0 = T) := ⟨_, rfl⟩
      rw [HT.out] at HEN HTOP
      have HT2 : Hid (T = xs.getD i 0 + D16 * R0) := HT.out.symm
      have HLV : Hid (∀ q t R, RDivIn xs ys i T q0 q t R → R < val D16 ys → RDivs xs ys i q R) := fun q t R h1 h2 => h1.leave HD0.out (by omega) HT2.out h2
      generalize xs.getD i 0 = x at *
      clear hcs hd0 hrw0 hb1 hr hcr hvr hfr gx HT
      have hbasz := hba.size
      go_wp2_with (at_builtin; refine wpList_append_nums rfl _ _ 41 rfl 3 .i64 8 Try.underlying41 Try.infoI wr.heap.size (.slice (some ⟨wr.heap.size, 0, none⟩) 1 1) [x] (by rfl) hown0 a_r l_r c_r rs (by rfl) hlr2 hnn (by simp; omega) (by decide) wr hba hbasz ?_)
      intro v2 w4 hown hb4 _ _
      replace hown : Own 3 .i64 w4 wr.heap.size v2 (x :: rs) := hown
      have hlen4 : (x :: rs).length = l_r + 1 := by simp [HR.out.1.len]
      have hdg4 : Dg D16 (x :: rs) := Dg.cons HX.out HR.out.1.dg
      obtain ⟨a4, c4, hv4, hnum4⟩ := hown.num hdg4 (by omega)
      subst hv4
      have hfr4 := hown.fresh
      rw [hlen4] at hnum4 ⊢
      have HN4 : Hid (NumIn .i64 D16 w4 a4 (l_r + 1) c4 (x :: rs)) := hnum4
      have HV4 : Hid (val D16 (x :: rs) = T) := by unfold Hid; rw [val_cons, HR.out.2, HT2.out]
      have HREM : Hid (Rem w4 w.heap.size (.slice a4 (top (x :: rs)) c4) T (lb + 1)) := by
        have ht := top_le (x :: rs)
        exact ⟨a4, _, c4, (x :: rs).take (top (x :: rs)), rfl, hnum4.take _ (by omega), canon_take_top _, by rw [val_take_top, HV4.out], by omega, fun b off s e => by have := hfr4 b off s e; omega⟩
      have HROW4 : Hid (Row 3 .i64 w4 w.heap.size q0) := HROW0.out.below hb4 hgs
      have HB4 : Hid (Below w.heap.size w w4) := HB1.out.trans (hb4.mono HB1.out.size)
      clear hown0 hba hlr2 hnn hbasz hown hb4 hlen4 hdg4 hnum4 hfr4 HROW0 HB1 hgs HV4 HR HX
      go_wp2_with fail
      refine (rtrim_any a4 (l_r + 1) c4 (x :: rs) w4 HN4.out).mono ?_
      rintro e w5 ⟨rfl, rfl⟩
      generalize top (x :: rs) = l4 at *
      clear HN4
      go_wp2
      go_loopw [7, 10, 11] (fun vr _ _ wr => ∃ (q : List Int) (t R : Int), Row 3 .i64 wr w.heap.size q ∧ RDivIn xs ys i T q0 q t R ∧ Rem wr w.heap.size vr R (lb + 1) ∧ Below w.heap.size w wr) (fun _ _ _ wr => 65536 - cellNat wr ⟨w.heap.size, i, none⟩)
      case atStart => exact ⟨q0, 0, T, HROW4.out, HEN.out, HREM.out, HB4.out⟩
      case round =>
        obtain ⟨q, t, R, hrw, hin, ⟨a_s, l_s, c_s, rs2, rfl, hr, hcr, hvr, hlr, hfr⟩, hb⟩ := hrel
        clear HROW4 HEN HREM HB4
        have HC := rCmp_any a_s bo l_s c_s lb cb rs2 ys wr hr (h'.old hb) hcr hy (by omega) (by omega)
        have hqlen : q.length = la := by rw [hin.1]; simp [HD0.out.1, hl]
        by_cases hge : val D16 ys ≤ R
        · obtain ⟨m, hm⟩ : ∃ m, lb = m + 1 := ⟨lb - 1, by omega⟩
          have em : (lb : Int) - 1 = (m : Int) := by omega
          have hll : lb ≤ l_s := by
            have h1 := top_mono D16_one h'.dg hr.dg (by omega)
            have h2 := hr.len
            unfold Canon at hy hcr
            omega
          obtain ⟨cv, hcv⟩ : ∃ c, cmpI (val D16 rs2) (val D16 ys) = c := ⟨_, rfl⟩
          have hcv0 : 0 ≤ cv := by
            rw [← hcv, hvr]
            rcases Int.lt_or_eq_of_le hge with h1 | h1
            · rw [cmpI_gt h1]; decide
            · rw [cmpI_eq h1.symm]; decide
          rw [hcv] at HC
          obtain ⟨b2, off2, rfl, hblk2, hcs2⟩ := hr.lies.at (by omega)
          obtain ⟨b3, off3, rfl, hblk3, hcs3⟩ := (h'.lies.old hb).at (by omega)
          have HCS : Hid (∀ j, j < l_s → wr.cell? ⟨b2, off2 + j, none⟩ = some (.int .i64 (rs2.getD j 0))) := hcs2
          have hcy := hcs3 m (by omega)
          have hcr0 := hcs2 m (by omega)
          have HSTEP : Hid (∀ s, 1 ≤ s → s * val D16 ys ≤ R → RDivIn xs ys i T q0 (q.set i (t + s)) (t + s) (R - s * val D16 ys)) := fun s h1 h2 => hin.step HTOP.out HYP.out h1 h2
          have HOK : Hid (∀ s, 0 ≤ s → s * (ys.getD m 0 + 1) ≤ rs2.getD m 0 + 65536 * rs2.getD lb 0 → s * val D16 ys ≤ R) := fun s h1 h2 => by rw [← hvr]; exact times_ok rs2 ys hr.dg h'.dg m (by omega) s h1 (by rw [← hm]; exact h2)
          have gy := h'.dg.getD D16_pos m
          have g0 := hr.dg.getD D16_pos m
          have g1 := hr.dg.getD D16_pos lb
          have y0 := gy.1
          have y1 : ys.getD m 0 < 65536 := gy.2
          have r0 := g0.1
          have r1 : rs2.getD m 0 < 65536 := g0.2
          have s0 := g1.1
          have s1 : rs2.getD lb 0 < 65536 := g1.2
          have HR : Hid (NumIn .i64 D16 wr (some ⟨b2, off2, none⟩) l_s c_s rs2 ∧ Canon rs2 ∧ val D16 rs2 = R) := ⟨hr, hcr, hvr⟩
          have HROW : Hid (Row 3 .i64 wr w.heap.size q) := hrw
          have HB : Hid (Below w.heap.size w wr) := hb
          have HIN : Hid (RDivIn xs ys i T q0 q t R) := hin
          have hout : l_s = lb → rs2.getD lb 0 = 0 := fun e => by have := hr.len; simp [List.getD, List.getElem?_eq_none (show rs2.length ≤ lb by omega)]
          have hcin : lb < l_s → wr.cell? ⟨b2, off2 + lb, none⟩ = some (.int .i64 (rs2.getD lb 0)) := fun e => hcs2 lb e
          have HY : Hid (NumIn .i64 D16 w (some ⟨b3, off3, none⟩) lb cb ys ∧ Canon ys) := ⟨h', hy⟩
          have HFR : Hid (w.heap.size < b2) := hfr b2 off2 none rfl
          have hmlb : (m : Int) < (lb : Int) := by omega
          have hmls : (m : Int) < (l_s : Int) := by omega
          have hlI : (lb : Int) ≤ 100000 := by omega
          clear hcs2 hcs3 hin hr hcr hvr hfr hrw hb hcv gy g0 g1 h h' hy hm hl'
          generalize ys.getD m 0 = y at *
          generalize rs2.getD m 0 = x0 at *
          generalize rs2.getD lb 0 = x1 at *
          go_wp2_with fail
          refine HC.mono ?_
          rintro e w6 ⟨rfl, hdr⟩
          have hcy6 := (hdr.cell _).trans hcy
          have hcr6 := (hdr.cell _).trans hcr0
          clear hcy hcr0
          by_cases hmore : lb < l_s
          · have hc16 := (hdr.cell _).trans (hcin hmore)
            clear hout hcin
            go_wp2_with fail
            clear hc16
            obtain ⟨tm, htm⟩ : ∃ tm, max ((x0 + 65536 * x1) / (y + 1)) 1 = tm := ⟨_, rfl⟩
            have hs0 : 0 ≤ (x0 + 65536 * x1) / (y + 1) := Int.ediv_nonneg (by omega) (by omega)
            have hsmul : (x0 + 65536 * x1) / (y + 1) * (y + 1) ≤ x0 + 65536 * x1 := Int.ediv_mul_le _ (by omega)
            have hsle : (x0 + 65536 * x1) / (y + 1) ≤ x0 + 65536 * x1 := Int.ediv_le_self _ (by omega)
            have htm1 : 1 ≤ tm := by rw [← htm]; exact Int.le_max_right _ _
            have htmR : tm * val D16 ys ≤ R := by
              rcases Int.le_total ((x0 + 65536 * x1) / (y + 1)) 1 with h1 | h1
              · have e : tm = 1 := by rw [← htm]; exact Int.max_eq_right h1
                rw [e, Int.one_mul]; exact hge
              · have e : tm = (x0 + 65536 * x1) / (y + 1) := by rw [← htm]; exact Int.max_eq_left h1
                rw [e]
                exact HOK.out _ hs0 (by omega)
            have htm2 : tm ≤ 4294967296 := by
              rcases Int.le_total ((x0 + 65536 * x1) / (y + 1)) 1 with h1 | h1
              · have e : tm = 1 := by rw [← htm]; exact Int.max_eq_right h1
                omega
              · have e : tm = (x0 + 65536 * x1) / (y + 1) := by rw [← htm]; exact Int.max_eq_left h1
                omega
            rw [htm]
            have HS : Hid (RDivIn xs ys i T q0 (q.set i (t + tm)) (t + tm) (R - tm * val D16 ys)) := HSTEP.out tm htm1 htmR
            have HTR : Hid (tm * val D16 ys ≤ R) := htmR
            clear htm hs0 hsmul hsle HOK HSTEP htmR hge hcr6 hcy6
            refine (rSmall_any tm w6 (by omega) (by omega)).mono ?_
            rintro e w7 ⟨v, rfl, a_m, l_m, c_m, s_m, rfl, n_m, k_m, v_m, b_m, hb7⟩
            have HB7 : Hid (Below wr.heap.size wr w7) := (hdr.below _).trans (by rw [hdr.size] at hb7; exact hb7)
            have HNM : Hid (NumIn .i64 D16 w7 a_m l_m c_m s_m ∧ val D16 s_m = tm) := ⟨n_m, v_m⟩
            clear n_m k_m v_m hb7 hdr
            have HY7 : Hid (NumIn .i64 D16 w7 (some ⟨b3, off3, none⟩) lb cb ys) := HY.out.1.old (HB.out.trans (HB7.out.mono HB.out.size))
            go_wp2_with fail
            refine (rMul_any (some ⟨b3, off3, none⟩) a_m lb cb l_m c_m ys s_m w7 HY7.out HNM.out.1 (by omega) (by omega)).mono ?_
            rintro e w8 ⟨v, rfl, a_p, l_p, c_p, s_p, rfl, n_p, k_p, v_p, b_p, hb8⟩
            have HB8 : Hid (Below wr.heap.size wr w8) := HB7.out.trans (hb8.mono HB7.out.size)
            have HNP : Hid (NumIn .i64 D16 w8 a_p l_p c_p s_p ∧ Canon s_p ∧ val D16 s_p = tm * val D16 ys) := ⟨n_p, k_p, by rw [v_p, HNM.out.2, Int.mul_comm]⟩
            have HR8 : Hid (NumIn .i64 D16 w8 (some ⟨b2, off2, none⟩) l_s c_s rs2) := HR.out.1.old HB8.out
            clear n_p k_p v_p hb8 HNM HY7
            go_wp2_with fail
            refine (rSub_new (some ⟨b2, off2, none⟩) a_p l_s c_s l_p c_p rs2 s_p w8 HR8.out HNP.out.1 HR.out.2.1 HNP.out.2.1 (by rw [HNP.out.2.2, HR.out.2.2]; exact HTR.out) (by omega) (by omega)).mono ?_
            rintro e w9 ⟨v, rfl, a_n, l_n, c_n, s_n, rfl, n_n, k_n, v_n, b_n, hb9, f_n⟩
            have hlt8 : w.heap.size < w8.heap.size := Nat.lt_of_lt_of_le HROW.out.lt HB8.out.size
            have HB9 : Hid (Below wr.heap.size wr w9) := HB8.out.trans (hb9.mono HB8.out.size)
            have hrow9 := HROW.out.below HB9.out HROW.out.lt
            have hqi : q.getD i 0 = t := by
              rw [HIN.out.1, getD_set _ _ _ _ (by have := HD0.out.1; omega), if_pos rfl]
            have hcq := hrow9.cell i (by omega)
            have hfz := hrow9.frozen i
            rw [hqi] at hcq
            have ht0 := HIN.out.2.1
            have ht1 := HIN.out.2.2.1
            have HROW' : Hid (Row 3 .i64 (w9.setCell ⟨w.heap.size, i, none⟩ (.int .i64 (t + tm))) w.heap.size (q.set i (t + tm))) := hrow9.set i (t + tm)
            have HREM' : Hid (Rem (w9.setCell ⟨w.heap.size, i, none⟩ (.int .i64 (t + tm))) w.heap.size (.slice a_n l_n c_n) (R - tm * val D16 ys) (lb + 1)) :=
              ⟨a_n, l_n, c_n, s_n, rfl, n_n.kept (grown_set _ _ _ _) (fun b off s e => by have := f_n b off s e; intro h0; injection h0 with h0; omega), k_n, by rw [v_n, HNP.out.2.2, HR.out.2.2], by omega, fun b off s e => by have := f_n b off s e; omega⟩
            have HB' : Hid (Below w.heap.size w (w9.setCell ⟨w.heap.size, i, none⟩ (.int .i64 (t + tm)))) := (HB.out.trans (HB9.out.mono HB.out.size)).setCell (Nat.le_refl _) _
            have HMS : Hid (65536 - cellNat (w9.setCell ⟨w.heap.size, i, none⟩ (.int .i64 (t + tm))) ⟨w.heap.size, i, none⟩ < 65536 - cellNat wr ⟨w.heap.size, i, none⟩) := by
              unfold Hid
              rw [cellNat_row HROW'.out i (by simp; omega), cellNat_row HROW.out i (by omega), hqi, getD_set _ _ _ _ (by omega), if_pos rfl]
              have := HS.out.2.2.1
              omega
            clear hrow9 hqi n_n k_n v_n f_n hb9 HB9 HB8 HB7 HR8 HNP HR HROW HB HIN HY HD0 HYP HTOP
            go_wp2
            go_roundw
            case rel => exact ⟨_, _, _, HROW'.out, HS.out, HREM'.out, HB'.out⟩
            case measure => exact HMS.out
          · obtain rfl := hout (by omega)
            clear hout hcin s0 s1
            go_wp2_with fail
            obtain ⟨tm, htm⟩ : ∃ tm, max ((x0) / (y + 1)) 1 = tm := ⟨_, rfl⟩
            have hs0 : 0 ≤ (x0) / (y + 1) := Int.ediv_nonneg (by omega) (by omega)
            have hsmul : (x0) / (y + 1) * (y + 1) ≤ x0 := Int.ediv_mul_le _ (by omega)
            have hsle : (x0) / (y + 1) ≤ x0 := Int.ediv_le_self _ (by omega)
            have htm1 : 1 ≤ tm := by rw [← htm]; exact Int.le_max_right _ _
            have htmR : tm * val D16 ys ≤ R := by
              rcases Int.le_total ((x0) / (y + 1)) 1 with h1 | h1
              · have e : tm = 1 := by rw [← htm]; exact Int.max_eq_right h1
                rw [e, Int.one_mul]; exact hge
              · have e : tm = (x0) / (y + 1) := by rw [← htm]; exact Int.max_eq_left h1
                rw [e]
                exact HOK.out _ hs0 (by omega)
            have htm2 : tm ≤ 4294967296 := by
              rcases Int.le_total ((x0) / (y + 1)) 1 with h1 | h1
              · have e : tm = 1 := by rw [← htm]; exact Int.max_eq_right h1
                omega
              · have e : tm = (x0) / (y + 1) := by rw [← htm]; exact Int.max_eq_left h1
                omega
            rw [htm]
            have HS : Hid (RDivIn xs ys i T q0 (q.set i (t + tm)) (t + tm) (R - tm * val D16 ys)) := HSTEP.out tm htm1 htmR
            have HTR : Hid (tm * val D16 ys ≤ R) := htmR
            clear htm hs0 hsmul hsle HOK HSTEP htmR hge hcr6 hcy6
            refine (rSmall_any tm w6 (by omega) (by omega)).mono ?_
            rintro e w7 ⟨v, rfl, a_m, l_m, c_m, s_m, rfl, n_m, k_m, v_m, b_m, hb7⟩
            have HB7 : Hid (Below wr.heap.size wr w7) := (hdr.below _).trans (by rw [hdr.size] at hb7; exact hb7)
            have HNM : Hid (NumIn .i64 D16 w7 a_m l_m c_m s_m ∧ val D16 s_m = tm) := ⟨n_m, v_m⟩
            clear n_m k_m v_m hb7 hdr
            have HY7 : Hid (NumIn .i64 D16 w7 (some ⟨b3, off3, none⟩) lb cb ys) := HY.out.1.old (HB.out.trans (HB7.out.mono HB.out.size))
            go_wp2_with fail
            refine (rMul_any (some ⟨b3, off3, none⟩) a_m lb cb l_m c_m ys s_m w7 HY7.out HNM.out.1 (by omega) (by omega)).mono ?_
            rintro e w8 ⟨v, rfl, a_p, l_p, c_p, s_p, rfl, n_p, k_p, v_p, b_p, hb8⟩
            have HB8 : Hid (Below wr.heap.size wr w8) := HB7.out.trans (hb8.mono HB7.out.size)
            have HNP : Hid (NumIn .i64 D16 w8 a_p l_p c_p s_p ∧ Canon s_p ∧ val D16 s_p = tm * val D16 ys) := ⟨n_p, k_p, by rw [v_p, HNM.out.2, Int.mul_comm]⟩
            have HR8 : Hid (NumIn .i64 D16 w8 (some ⟨b2, off2, none⟩) l_s c_s rs2) := HR.out.1.old HB8.out
            clear n_p k_p v_p hb8 HNM HY7
            go_wp2_with fail
            refine (rSub_new (some ⟨b2, off2, none⟩) a_p l_s c_s l_p c_p rs2 s_p w8 HR8.out HNP.out.1 HR.out.2.1 HNP.out.2.1 (by rw [HNP.out.2.2, HR.out.2.2]; exact HTR.out) (by omega) (by omega)).mono ?_
            rintro e w9 ⟨v, rfl, a_n, l_n, c_n, s_n, rfl, n_n, k_n, v_n, b_n, hb9, f_n⟩
            have hlt8 : w.heap.size < w8.heap.size := Nat.lt_of_lt_of_le HROW.out.lt HB8.out.size
            have HB9 : Hid (Below wr.heap.size wr w9) := HB8.out.trans (hb9.mono HB8.out.size)
            have hrow9 := HROW.out.below HB9.out HROW.out.lt
            have hqi : q.getD i 0 = t := by
              rw [HIN.out.1, getD_set _ _ _ _ (by have := HD0.out.1; omega), if_pos rfl]
            have hcq := hrow9.cell i (by omega)
            have hfz := hrow9.frozen i
            rw [hqi] at hcq
            have ht0 := HIN.out.2.1
            have ht1 := HIN.out.2.2.1
            have HROW' : Hid (Row 3 .i64 (w9.setCell ⟨w.heap.size, i, none⟩ (.int .i64 (t + tm))) w.heap.size (q.set i (t + tm))) := hrow9.set i (t + tm)
            have HREM' : Hid (Rem (w9.setCell ⟨w.heap.size, i, none⟩ (.int .i64 (t + tm))) w.heap.size (.slice a_n l_n c_n) (R - tm * val D16 ys) (lb + 1)) :=
              ⟨a_n, l_n, c_n, s_n, rfl, n_n.kept (grown_set _ _ _ _) (fun b off s e => by have := f_n b off s e; intro h0; injection h0 with h0; omega), k_n, by rw [v_n, HNP.out.2.2, HR.out.2.2], by omega, fun b off s e => by have := f_n b off s e; omega⟩
            have HB' : Hid (Below w.heap.size w (w9.setCell ⟨w.heap.size, i, none⟩ (.int .i64 (t + tm)))) := (HB.out.trans (HB9.out.mono HB.out.size)).setCell (Nat.le_refl _) _
            have HMS : Hid (65536 - cellNat (w9.setCell ⟨w.heap.size, i, none⟩ (.int .i64 (t + tm))) ⟨w.heap.size, i, none⟩ < 65536 - cellNat wr ⟨w.heap.size, i, none⟩) := by
              unfold Hid
              rw [cellNat_row HROW'.out i (by simp; omega), cellNat_row HROW.out i (by omega), hqi, getD_set _ _ _ _ (by omega), if_pos rfl]
              have := HS.out.2.2.1
              omega
            clear hrow9 hqi n_n k_n v_n f_n hb9 HB9 HB8 HB7 HR8 HNP HR HROW HB HIN HY HD0 HYP HTOP
            go_wp2
            go_roundw
            case rel => exact ⟨_, _, _, HROW'.out, HS.out, HREM'.out, HB'.out⟩
            case measure => exact HMS.out
        · have hRl : R < val D16 ys := by omega
          rw [show cmpI (val D16 rs2) (val D16 ys) = -1 from cmpI_lt (by rw [hvr]; exact hRl)] at HC
          have HD : Hid (RDivs xs ys i q R) := HLV.out q t R hin hRl
          have HREM : Hid (Rem wr w.heap.size (.slice a_s l_s c_s) R lb) := by
            have h1 : Rem wr w.heap.size (.slice a_s l_s c_s) R (lb + 1) := ⟨a_s, l_s, c_s, rs2, rfl, hr, hcr, hvr, hlr, hfr⟩
            have := h1.len h'.dg hRl
            rw [hl'] at this
            exact this
          have HROW : Hid (Row 3 .i64 wr w.heap.size q) := hrw
          have HB : Hid (Below w.heap.size w wr) := hb
          clear hin hr hcr hvr hlr hfr hrw hb hge hRl h h' hy HYP HTOP HD0 HT2 HLV
          go_wp2_with fail
          refine HC.mono ?_
          rintro e w6 ⟨rfl, n6, rfl⟩
          clear HC
          go_wp2
          go_roundw
          case rel => exact ⟨i, q, R, by omega, by go_num, HROW.out.drewN _, HD.out, HREM.out.old (Drew.below ⟨_, rfl⟩ _), HB.out.trans (Drew.below ⟨_, rfl⟩ _)⟩
          case measure => simp [intOf] <;> omega
end Go.Proofs.Ytnacgkkklmlhaaa
/-
  Contracts of the document's Mod, Pow, Gcd.
-/
namespace Go.Proofs.Ytnacgkkklmlhaaa
open Go.RowKit
set_option linter.unusedVariables false
set_option linter.unusedSimpArgs false

set_option maxHeartbeats 400000 in
/-- the document's Mod. -/
theorem rMod_any (ao bo : Option Addr) (la ca lb cb : Nat) (xs ys : List Int) (w : World) (h : NumIn .i64 D16 w ao la ca xs) (h' : NumIn .i64 D16 w bo lb cb ys) (hy : Canon ys) (h0 : val D16 ys ≠ 0) (hla : la ≤ 100000) (hlb : lb ≤ 100000) :
    Calls Try.prog 48 #[.slice ao la ca, .slice bo lb cb] w fun e w' => ∃ v, e = .returned v ∧ NumOut .i64 D16 w w' v (val D16 xs % val D16 ys) lb := by
  have hb0 : 0 < lb := by
    rcases Nat.eq_zero_or_pos lb with e | e
    · have hl := h'.len
      have : ys = [] := List.eq_nil_of_length_eq_zero (by omega)
      rw [this] at h0
      exact absurd rfl h0
    · exact e
  have HD := rDiv_any ao bo la ca lb cb xs ys w h h' hy hb0 hla hlb
  clear h h' h0 hb0
  go_enter Try.func48, Try.ntmps48
  go_wp2_with fail
  refine HD.mono ?_
  rintro e w' ⟨q, r, rfl, hq, hr⟩
  obtain ⟨aq, lq, cq, xq, rfl, _, _, _, _, _⟩ := hq
  obtain ⟨ar, lr, cr, xr, rfl, n1, n2, n3, n4, n5⟩ := hr
  have HN : Hid (NumOut .i64 D16 w w' (.slice ar lr cr) (val D16 xs % val D16 ys) lb) := ⟨ar, lr, cr, xr, rfl, n1, n2, n3, n4, n5⟩
  clear n1 n2 n3 n4 n5 HD
  go_wp2
  go_ret
  exact ⟨_, rfl, HN.out⟩


set_option maxHeartbeats 2000000 in
/-- the document's Pow. -/
theorem rPow_any (ao no mo : Option Addr) (la ca ln cn lm cm : Nat) (xs ns ms : List Int) (w : World) (h : NumIn .i64 D16 w ao la ca xs) (hn : NumIn .i64 D16 w no ln cn ns) (h' : NumIn .i64 D16 w mo lm cm ms) (hx : Canon xs) (hcn : Canon ns) (hm : Canon ms) (h0 : val D16 ms ≠ 0) (hla : la ≤ 1000) (hln : ln ≤ 1000) (hlm : lm ≤ 1000) :
    Calls Try.prog 23 #[.slice ao la ca, .slice no ln cn, .slice mo lm cm] w fun e w' => ∃ v, e = .returned v ∧ NumOut .i64 D16 w w' v (val D16 xs ^ (val D16 ns).toNat % val D16 ms) lm := by
  have hM := val_nonneg D16_pos h'.dg
  have hV := val_nonneg D16_pos hn.dg
  have NX : Hid (NumIn .i64 D16 w ao la ca xs ∧ Canon xs) := ⟨h, hx⟩
  have NN : Hid (NumIn .i64 D16 w no ln cn ns ∧ Canon ns) := ⟨hn, hcn⟩
  have NM : Hid (NumIn .i64 D16 w mo lm cm ms ∧ Canon ms) := ⟨h', hm⟩
  have HLb : Hid (blen (val D16 ns).toNat ≤ 16 * ln) := by
    unfold Hid
    refine blen_le _ _ ?_
    have h1 := val_lt D16_pos hn.dg
    rw [hn.len] at h1
    have e : D16 ^ ln = ((2 ^ (16 * ln) : Nat) : Int) := by rw [Nat.pow_mul, Int.natCast_pow]; rfl
    omega
  have HVL : Hid (val D16 ns < 2 ^ blen (val D16 ns).toNat) := by
    unfold Hid
    have h1 := blen_lt (val D16 ns).toNat
    have e : ((2 ^ blen (val D16 ns).toNat : Nat) : Int) = 2 ^ blen (val D16 ns).toNat := by rw [Int.natCast_pow]; rfl
    omega
  have HL := fun w1 (hb : Below w.heap.size w w1) => rLen_any no ln cn ns w1 (hn.old hb) hcn (by omega)
  obtain ⟨M, hMv⟩ : ∃ M, val D16 ms = M := ⟨_, rfl⟩
  obtain ⟨V, hVv⟩ : ∃ V, val D16 ns = V := ⟨_, rfl⟩
  obtain ⟨X, hXv⟩ : ∃ X, val D16 xs = X := ⟨_, rfl⟩
  have HV : Hid (val D16 ms = M ∧ val D16 ns = V ∧ val D16 xs = X) := ⟨hMv, hVv, hXv⟩
  rw [hMv] at hM h0 ⊢
  rw [hVv] at hV HLb HVL HL ⊢
  rw [hXv]
  have HMP : Hid (M ≠ 0 ∧ 0 < M) := ⟨h0, by omega⟩
  have HVP : Hid (0 ≤ V) := hV
  obtain ⟨L, hL⟩ : ∃ L, blen V.toNat = L := ⟨_, rfl⟩
  rw [hL] at HLb HVL HL
  have hL2 : L ≤ 16000 := by have := HLb.out; omega
  clear h hn h' hx hcn hm hM hV h0 hMv hVv hXv hL HLb
  go_enter Try.func23, Try.ntmps23
  go_wp2_with fail
  refine (rSmall_any 1 w (by decide) (by decide)).mono ?_
  rintro e w1 ⟨v, rfl, a1, l1, c1, s1, rfl, q1, q2, q3, q4, q5⟩
  have HM := rMod_any a1 mo l1 c1 lm cm s1 ms w1 q1 (NM.out.1.old q5) NM.out.2 (by rw [HV.out.1]; exact HMP.out.1) (by omega) (by omega)
  rw [q3, HV.out.1] at HM
  have BW : Hid (Below w.heap.size w w1) := q5
  clear q1 q2 q3 q4 q5
  go_wp2_with fail
  refine HM.mono ?_
  rintro e w2 ⟨v, rfl, hv⟩
  have N0 : Hid (NumOut .i64 D16 w w2 v (1 % M) lm) := hv.from BW.out
  have HL2 := HL w2 N0.out.bl
  clear hv HM BW HL
  go_wp2_with fail
  refine HL2.mono ?_
  rintro e w3 ⟨rfl, rfl⟩
  clear HL2
  go_wp2
  go_loopw [7, 8] (fun vo vi wr => ∃ (i P : Int), vi = .int .i64 i ∧ -1 ≤ i ∧ i < L ∧ NumOut .i64 D16 w wr vo P lm ∧ 0 ≤ P ∧ P < M ∧ Cg M P (pws X V (i + 1).toNat)) (fun vo vi wr => (intOf vi + 1).toNat)
  case atStart =>
    have r := mod_range 1 M (Int.le_of_lt HMP.out.2) HMP.out.1
    refine ⟨(L : Int) - 1, 1 % M, rfl, by omega, by omega, N0.out, r.1, r.2, ?_⟩
    rw [show ((L : Int) - 1 + 1).toNat = L by omega, pws_top X V HVP.out L HVL.out]
    exact Cg.mod M 1
  case round =>
    clear N0
    obtain ⟨i, P, rfl, hi0, hi1, nP, hP0, hP1, hcg⟩ := hrel
    by_cases hneg : i < 0
    · obtain rfl : i = -1 := by omega
      have HF : Hid (P = X ^ V.toNat % M) := by
        unfold Hid
        rw [show ((-1 : Int) + 1).toNat = 0 by decide, pws_zero] at hcg
        rw [← hcg.emod, Int.emod_eq_of_lt hP0 hP1]
      obtain ⟨ap, lp, cp, sp, rfl, q1, q2, q3, q4, q5⟩ := nP
      have HN : Hid (NumOut .i64 D16 w wr (.slice ap lp cp) (X ^ V.toNat % M) lm) := ⟨ap, lp, cp, sp, rfl, q1, q2, by rw [q3]; exact HF.out, q4, q5⟩
      clear q1 q2 q3 q4 q5 hcg hP0 hP1
      go_wp2
      go_ret
      exact ⟨_, rfl, HN.out⟩
    · obtain ⟨p, rfl⟩ := Int.eq_ofNat_of_zero_le (show 0 ≤ i by omega)
      obtain ⟨ap, lp, cp, sp, rfl, q1, q2, q3, q4, q5⟩ := nP
      have BW : Hid (Below w.heap.size w wr) := q5
      have HCG : Hid (Cg M P (pws X V (p + 1))) := by
        unfold Hid
        rw [show ((p : Int) + 1).toNat = p + 1 by omega] at hcg
        exact hcg
      have HSQ := rMul_any ap ap lp cp lp cp sp sp wr q1 q1 (by omega) (by omega)
      rw [q3] at HSQ
      have LP : Hid (lp ≤ lm) := q4
      have hp1 : p < 16000 := by omega
      have hpL : p < L := by omega
      clear q1 q2 q3 q4 q5 hcg hP0 hP1 hi0 hi1 hneg
      go_wp2_with fail
      refine HSQ.mono ?_
      rintro e w4 ⟨v, rfl, a4, l4, c4, s4, rfl, q1, q2, q3, q4, q5⟩
      replace BW : Hid (Below w.heap.size w w4) := BW.out.trans (q5.mono BW.out.size)
      have HM := rMod_any a4 mo l4 c4 lm cm s4 ms w4 q1 (NM.out.1.old BW.out) NM.out.2 (by rw [HV.out.1]; exact HMP.out.1) (by have := LP.out; omega) (by omega)
      rw [q3, HV.out.1] at HM
      clear q1 q2 q3 q4 q5 HSQ
      go_wp2_with fail
      refine HM.mono ?_
      rintro e w5 ⟨v, rfl, a5, l5, c5, s5, rfl, q1, q2, q3, q4, q5⟩
      replace BW : Hid (Below w.heap.size w w5) := BW.out.trans (q5.mono BW.out.size)
      have N5 : Hid (NumIn .i64 D16 w5 a5 l5 c5 s5 ∧ Canon s5 ∧ val D16 s5 = P * P % M ∧ l5 ≤ lm) := ⟨q1, q2, q3, q4⟩
      have C5 : Hid (Cg M (P * P % M) (pws X V (p + 1) * pws X V (p + 1))) := (Cg.mod M _).trans (HCG.out.mul HCG.out)
      have HB := rBit_any no ln cn ns p w5 (NN.out.1.old BW.out) (by omega)
      rw [HV.out.2.1] at HB
      clear q1 q2 q3 q4 q5 HM
      rcases bitAt_01 V p with hb | hb
      · rw [hb] at HB
        have HFIN : Hid (Cg M (P * P % M) (pws X V p)) := by unfold Hid; rw [pws_even X V HVP.out p hb]; exact C5.out
        have HR : Hid (0 ≤ P * P % M ∧ P * P % M < M) := mod_range _ _ (Int.le_of_lt HMP.out.2) HMP.out.1
        clear hb C5 HCG
        go_wp2_with fail
        refine HB.mono ?_
        rintro e w6 ⟨rfl, rfl⟩
        clear HB
        go_wp2
        go_roundw
        case rel => exact ⟨(p : Int) - 1, P * P % M, by go_num, by omega, by omega, ⟨a5, l5, c5, s5, rfl, N5.out.1, N5.out.2.1, N5.out.2.2.1, N5.out.2.2.2, BW.out⟩, HR.out.1, HR.out.2, by rw [show ((p : Int) - 1 + 1).toNat = p by omega]; exact HFIN.out⟩
        case measure => simp [intOf] <;> omega
      · rw [hb] at HB
        have HFIN : Hid (Cg M (P * P % M * X % M) (pws X V p)) := by unfold Hid; rw [pws_odd X V HVP.out p hb]; exact (Cg.mod M _).trans (C5.out.mul (Cg.refl M X))
        have HR : Hid (0 ≤ P * P % M * X % M ∧ P * P % M * X % M < M) := mod_range _ _ (Int.le_of_lt HMP.out.2) HMP.out.1
        clear hb C5 HCG
        go_wp2_with fail
        refine HB.mono ?_
        rintro e w6 ⟨rfl, rfl⟩
        clear HB
        have HMU := rMul_any a5 ao l5 c5 la ca s5 xs w6 N5.out.1 (NX.out.1.old BW.out) (by have := N5.out.2.2.2; omega) (by omega)
        rw [N5.out.2.2.1, HV.out.2.2] at HMU
        go_wp2_with fail
        refine HMU.mono ?_
        rintro e w7 ⟨v, rfl, a7, l7, c7, s7, rfl, q1, q2, q3, q4, q5⟩
        replace BW : Hid (Below w.heap.size w w7) := BW.out.trans (q5.mono BW.out.size)
        have HM := rMod_any a7 mo l7 c7 lm cm s7 ms w7 q1 (NM.out.1.old BW.out) NM.out.2 (by rw [HV.out.1]; exact HMP.out.1) (by have := N5.out.2.2.2; omega) (by omega)
        rw [q3, HV.out.1] at HM
        clear q1 q2 q3 q4 q5 HMU N5
        go_wp2_with fail
        refine HM.mono ?_
        rintro e w8 ⟨v, rfl, hv⟩
        have NF : Hid (NumOut .i64 D16 w w8 v (P * P % M * X % M) lm) := hv.from BW.out
        clear hv HM
        go_wp2
        go_roundw
        case rel => exact ⟨(p : Int) - 1, P * P % M * X % M, by go_num, by omega, by omega, NF.out, HR.out.1, HR.out.2, by rw [show ((p : Int) - 1 + 1).toNat = p by omega]; exact HFIN.out⟩
        case measure => simp [intOf] <;> omega
end Go.Proofs.Ytnacgkkklmlhaaa
/-
  rsa's Size, isOdd, isExponent, Check; the document's Size.
-/
namespace Go.Proofs.Ytnacgkkklmlhaaa
open Go.Shelf Go.RowKit
set_option linter.unusedVariables false
set_option linter.unusedSimpArgs false

/-- A key that lies in memory: its numbers. -/
def Kv (w : World) (v : Value) (n e : Int) (L : Nat) : Prop := ∃ vn ve, v = .agg #[vn, ve] ∧ Nv w vn n L ∧ Nv w ve e L
theorem Kv.old {w w' : World} {v : Value} {n e : Int} {L : Nat} (h : Kv w v n e L) (hb : Below w.heap.size w w') : Kv w' v n e L := by
  obtain ⟨vn, ve, rfl, h1, h2⟩ := h
  exact ⟨vn, ve, rfl, h1.old hb, h2.old hb⟩
/-- A number of the document's. -/
def Rv (w : World) (v : Value) (n : Int) (L : Nat) : Prop := ∃ ao l c xs, v = .slice ao l c ∧ NumIn .i64 D16 w ao l c xs ∧ Canon xs ∧ val D16 xs = n ∧ l ≤ L
theorem Rv.old {w w' : World} {v : Value} {n : Int} {L : Nat} (h : Rv w v n L) (hb : Below w.heap.size w w') : Rv w' v n L := by
  obtain ⟨ao, l, c, xs, rfl, h1, h2⟩ := h
  exact ⟨ao, l, c, xs, rfl, h1.old hb, h2⟩
def Fk.rv (n : Int) (L : Nat) : Fk := Fk.gen (fun vs W => Rv W (vs.getD 0 undef) n L) fun vs w w' hb h => h.old hb
def szZ (n : Int) : Int := ((blen n.toNat + 7) / 8 : Nat)
def expB (n e : Int) : Bool := decide (e % 2 = 1) && (decide (3 ≤ e) && decide (e < n))
/-- Is it a key? -/
def keyB (n e : Int) : Bool := (decide (62 ≤ szZ n) && decide (szZ n ≤ 256)) && (decide (n % 2 = 1) && expB n e)

theorem and_one (x : Int) (h0 : 0 ≤ x) (h1 : x < B64) : bits .and .u64 x 1 = x % 2 := by
  obtain ⟨m, rfl⟩ := Int.eq_ofNat_of_zero_le h0
  unfold B64 at h1
  show IntKind.u64.wrap ((BitVec.ofInt 64 (m : Int) &&& BitVec.ofInt 64 1).toNat : Int) = _
  have e1 : (BitVec.ofInt 64 (m : Int) &&& BitVec.ofInt 64 1).toNat = m % 2 := by
    rw [BitVec.toNat_and, show BitVec.ofInt 64 1 = 1#64 by decide, show BitVec.ofInt 64 (m : Int) = BitVec.ofNat 64 m from BitVec.ofInt_natCast 64 m, BitVec.toNat_ofNat, Nat.mod_eq_of_lt (by omega)]
    show m &&& 1 = m % 2
    exact Nat.and_one_is_mod m
  rw [e1]
  simp [IntKind.wrap, IntKind.bits, IntKind.signed]
  omega
set_option maxRecDepth 100000 in
set_option maxHeartbeats 2000000 in
theorem isodd_any (v : Value) (n : Int) (L : Nat) (w : World) (hv : Nv w v n L) :
    Calls Try.prog 36 #[v] w fun e w' => e = .returned (.bool (decide (n % 2 = 1))) ∧ Below w.heap.size w w' := by
  obtain ⟨a1, a2, a3, a4, rfl, a5, a6, a7⟩ := hv
  have hlen := a5.len
  by_cases h0 : a2 = 0
  · have hn : n = 0 := by
      have : a4 = [] := List.eq_nil_of_length_eq_zero (by omega)
      rw [← a6, this]; rfl
    subst h0
    rw [hn]
    go_enter Try.func36, Try.ntmps36
    go_wp2
    go_ret
    exact ⟨rfl, Below.refl _ _⟩
  · obtain ⟨b', off, rfl, hlt, hc⟩ := a5.lies.at (by omega)
    match a4, hlen, a6, hc, a5 with
    | [], hlen, _, _, _ => exact absurd hlen.symm h0
    | x :: xs, hlen, a6, hc, a5 =>
      have hc0 : w.cell? ⟨b', off, none⟩ = some (.int .u64 x) := by
        have := hc 0 (by omega)
        simpa using this
      have hx := a5.dg x (by simp)
      have hd : decide (n % 2 = 1) = decide (x % 2 = 1) := by
        have : n % 2 = x % 2 := by
          rw [← a6, val_cons, show B64 = 2 * 9223372036854775808 by decide, Int.mul_assoc, Int.add_mul_emod_self_left]
        rw [this]
      have hbt := and_one x hx.1 hx.2
      have hpos : (0 : Int) < (a2 : Int) := by omega
      have hsm := a5.sm
      rw [hd]
      clear hd a6 a5 hc hlen a7
      rcases Int.emod_two_eq x with hm | hm
      · rw [hm] at hbt ⊢
        clear hx hm
        go_enter Try.func36, Try.ntmps36
        go_wp2
        go_ret
        exact ⟨rfl, Below.refl _ _⟩
      · rw [hm] at hbt ⊢
        clear hx hm
        go_enter Try.func36, Try.ntmps36
        go_wp2
        go_ret
        exact ⟨rfl, Below.refl _ _⟩
set_option maxRecDepth 100000 in
set_option maxHeartbeats 2000000 in
theorem size_any (k : Value) (n e : Int) (L : Nat) (w : World) (hk : Kv w k n e L) (hL : L ≤ 1000) :
    Calls Try.prog 14 #[k] w fun r w' => r = .returned (.int .i64 (szZ n)) ∧ Below w.heap.size w w' := by
  obtain ⟨_, _, rfl, ⟨a1, a2, a3, a4, rfl, a5, a6, a7⟩, ⟨b1, b2, b3, b4, rfl, b5, b6, b7⟩⟩ := hk
  have b0 := (Below.refl w.heap.size w).alloc (Nat.le_refl _) (.cells #[.slice a1 a2 a3, .slice b1 b2 b3] 25)
  have HL := Len_any a1 a2 a3 a4 _ (a5.old b0)
  have hbl : lenOf a4 ≤ 64000 := lenOf_le a5.dg 1000 (by have := a5.len; omega)
  rw [lenOf_eq a4 a5.dg, a6] at HL hbl
  unfold szZ
  generalize blen n.toNat = N at *
  have hq : ((N : Int) + 7).tdiv 8 = (((N + 7) / 8 : Nat) : Int) := by rw [Int.tdiv_eq_ediv_of_nonneg (by omega)]; omega
  clear a5 b5
  go_enter Try.func14, Try.ntmps14
  go_wp2_with (go_at_call 38; refine HL.mono ?_; rintro e w1 ⟨rfl, rfl⟩)
  go_ret
  exact ⟨ret_int (by omega), b0⟩
theorem nv_of {w w' : World} {v : Value} {n : Int} {L : Nat} (h : NumOut .u64 B64 w w' v n L) : Nv w' v n L ∧ Below w.heap.size w w' := by
  obtain ⟨ao, l, c, xs, rfl, h1, _, h3, h4, h5⟩ := h
  exact ⟨⟨ao, l, c, xs, rfl, h1, h3, h4⟩, h5⟩
theorem cmp_kv (a b : Value) (x y : Int) (L L' : Nat) (w : World) (ha : Nv w a x L) (hb : Nv w b y L') :
    Calls Try.prog 45 #[a, b] w fun e w' => e = .returned (.int .i64 (cmpI x y)) ∧ Below w.heap.size w w' := by
  obtain ⟨a1, a2, a3, a4, rfl, a5, a6, a7⟩ := ha
  obtain ⟨b1, b2, b3, b4, rfl, b5, b6, b7⟩ := hb
  refine (Cmp_any a1 b1 a2 a3 b2 b3 a4 b4 w a5 b5).mono ?_
  rintro e w' ⟨rfl, hd⟩
  rw [a6, b6]
  exact ⟨rfl, hd.below _⟩
theorem cmpI_ge (a b : Int) : 0 ≤ cmpI a b ↔ b ≤ a := by unfold cmpI; split <;> (try split) <;> omega
theorem cmpI_ltz (a b : Int) : cmpI a b < 0 ↔ a < b := by unfold cmpI; split <;> (try split) <;> omega
theorem cmpI_z (a b : Int) : cmpI a b = 0 ↔ a = b := by unfold cmpI; split <;> (try split) <;> omega
set_option maxRecDepth 100000 in
set_option maxHeartbeats 4000000 in
theorem expo_any (ve vn : Value) (e n : Int) (L : Nat) (w : World) (he : Nv w ve e L) (hn : Nv w vn n L) :
    Calls Try.prog 37 #[ve, vn] w fun r w' => r = .returned (.bool (expB n e)) ∧ Below w.heap.size w w' := by
  have H1 := isodd_any ve e L w he
  have H2 := fun W => Of_any 3 W (by decide) (by decide)
  have H3 := fun (W : World) (v : Value) (hb : Below w.heap.size w W) (hv : Nv W v 3 1) => cmp_kv ve v e 3 L 1 W (he.old hb) hv
  have H4 := fun (W : World) (hb : Below w.heap.size w W) => cmp_kv ve vn e n L L W (he.old hb) (hn.old hb)
  have q1 := cmpI_ge e 3
  have q2 := cmpI_ltz e n
  obtain ⟨a1, a2, a3, a4, rfl, -⟩ := he
  obtain ⟨b1, b2, b3, b4, rfl, -⟩ := hn
  generalize cmpI e 3 = c1 at *
  generalize cmpI e n = c2 at *
  unfold expB
  by_cases h1 : e % 2 = 1
  · rw [show decide (e % 2 = 1) = true by simp [h1]] at *
    by_cases h2 : 3 ≤ e
    · have h2' := q1.2 h2
      rw [show decide (3 ≤ e) = true by simp [h2]]
      by_cases h3 : e < n
      · have h3' := q2.2 h3
        rw [show decide (e < n) = true by simp [h3]]
        clear h1 h2 h3 q1 q2
        go_enter Try.func37, Try.ntmps37
        go_wp2_with fail
        refine H1.mono ?_
        rintro r w1 ⟨rfl, d1⟩
        go_wp2_with fail
        refine (H2 w1).mono ?_
        rintro r w2 ⟨v, rfl, hv⟩
        obtain ⟨hv1, hv2⟩ := nv_of hv
        have d2 := d1.trans (hv2.mono d1.size)
        have H3' := H3 w2 v d2 hv1
        obtain ⟨v1, v2, v3, v4, rfl, -⟩ := hv1
        go_wp2_with fail
        refine H3'.mono ?_
        rintro r w3 ⟨rfl, hd3⟩
        have d3 := d2.trans (hd3.mono d2.size)
        have H4' := H4 w3 d3
        go_wp2_with fail
        refine H4'.mono ?_
        rintro r w4 ⟨rfl, hd4⟩
        go_wp2
        go_ret
        exact ⟨rfl, d3.trans (hd4.mono d3.size)⟩
      · have h3' : ¬ c2 < 0 := fun h => h3 (q2.1 h)
        rw [show decide (e < n) = false by simp [h3]]
        clear h1 h2 h3 q1 q2
        go_enter Try.func37, Try.ntmps37
        go_wp2_with fail
        refine H1.mono ?_
        rintro r w1 ⟨rfl, d1⟩
        go_wp2_with fail
        refine (H2 w1).mono ?_
        rintro r w2 ⟨v, rfl, hv⟩
        obtain ⟨hv1, hv2⟩ := nv_of hv
        have d2 := d1.trans (hv2.mono d1.size)
        have H3' := H3 w2 v d2 hv1
        obtain ⟨v1, v2, v3, v4, rfl, -⟩ := hv1
        go_wp2_with fail
        refine H3'.mono ?_
        rintro r w3 ⟨rfl, hd3⟩
        have d3 := d2.trans (hd3.mono d2.size)
        have H4' := H4 w3 d3
        go_wp2_with fail
        refine H4'.mono ?_
        rintro r w4 ⟨rfl, hd4⟩
        go_wp2
        go_ret
        refine ⟨?_, d3.trans (hd4.mono d3.size)⟩
        show Ending.returned (Value.bool (decide (c2 < 0))) = _
        rw [decide_eq_false (show ¬ c2 < 0 by omega)]
        rfl
    · have h2' : ¬ 0 ≤ c1 := fun h => h2 (q1.1 h)
      rw [show decide (3 ≤ e) = false by simp [h2]]
      clear h1 h2 q1 q2
      go_enter Try.func37, Try.ntmps37
      go_wp2_with fail
      refine H1.mono ?_
      rintro r w1 ⟨rfl, d1⟩
      go_wp2_with fail
      refine (H2 w1).mono ?_
      rintro r w2 ⟨v, rfl, hv⟩
      obtain ⟨hv1, hv2⟩ := nv_of hv
      have d2 := d1.trans (hv2.mono d1.size)
      have H3' := H3 w2 v d2 hv1
      obtain ⟨v1, v2, v3, v4, rfl, -⟩ := hv1
      go_wp2_with fail
      refine H3'.mono ?_
      rintro r w3 ⟨rfl, hd3⟩
      go_wp2
      go_ret
      exact ⟨rfl, d2.trans (hd3.mono d2.size)⟩
  · rw [show decide (e % 2 = 1) = false by simp [h1]] at *
    clear h1 q1 q2
    go_enter Try.func37, Try.ntmps37
    go_wp2_with fail
    refine H1.mono ?_
    rintro r w1 ⟨rfl, d1⟩
    go_wp2
    go_ret
    exact ⟨rfl, d1⟩
end Go.Proofs.Ytnacgkkklmlhaaa
/-
  rsa's Check; the document's Size and Rsa.
-/
namespace Go.Proofs.Ytnacgkkklmlhaaa
open Go.Shelf Go.RowKit
set_option linter.unusedVariables false
set_option linter.unusedSimpArgs false

theorem cells2 {W : World} {g : Nat} {c0 c1 : Value} {t : TypeId} (h : W.heap[g]? = some (.cells #[c0, c1] t (0, 0))) : W.cell? ⟨g, 0, none⟩ = some c0 ∧ W.cell? ⟨g, 1, none⟩ = some c1 := ⟨by rw [cell_of_row _ _ _ _ _ _ h]; rfl, by rw [cell_of_row _ _ _ _ _ _ h]; rfl⟩
set_option maxRecDepth 100000 in
set_option maxHeartbeats 4000000 in
theorem check_any (k : Value) (n e : Int) (L : Nat) (w : World) (hk : Kv w k n e L) (hL : L ≤ 1000) :
    Calls Try.prog 13 #[k] w fun r w' => r = .returned (.int .i64 (if keyB n e = true then 0 else 41)) ∧ Below w.heap.size w w' := by
  have H1 := fun W (hb : Below w.heap.size w W) => size_any k n e L W (hk.old hb) hL
  have hk2 := hk
  obtain ⟨vn, ve, rfl, hn, he⟩ := hk2
  have H2 := fun W (hb : Below w.heap.size w W) => isodd_any vn n L W (hn.old hb)
  have H3 := fun W (hb : Below w.heap.size w W) => expo_any ve vn e n L W (he.old hb) (hn.old hb)
  obtain ⟨a1, a2, a3, a4, rfl, -⟩ := hn
  obtain ⟨e1, e2, e3, e4, rfl, -⟩ := he
  have b0 := (Below.refl w.heap.size w).alloc (Nat.le_refl _) (.cells #[.slice a1 a2 a3, .slice e1 e2 e3] 25)
  have HC : Hid (∀ W, Below (w.alloc (.cells #[.slice a1 a2 a3, .slice e1 e2 e3] 25)).heap.size (w.alloc (.cells #[.slice a1 a2 a3, .slice e1 e2 e3] 25)) W → W.cell? ⟨w.heap.size, 0, none⟩ = some (.slice a1 a2 a3) ∧ W.cell? ⟨w.heap.size, 1, none⟩ = some (.slice e1 e2 e3)) := fun W hb => cells2 (t := 25) (by rw [hb.block _ (by rw [alloc_sz7]; omega)]; exact heap_alloc_new w _)
  have hsz0 : 0 ≤ szZ n := by unfold szZ; omega
  unfold keyB
  generalize szZ n = s at *
  generalize expB n e = B3 at *
  generalize decide (n % 2 = 1) = B2 at *
  clear hk
  by_cases h1 : s < 62
  · rw [show decide (62 ≤ s) = false by simp; omega, Bool.false_and, Bool.false_and, if_neg (by decide)]
    have h1' : ¬ (62 ≤ s) := by omega
    go_enter Try.func13, Try.ntmps13
    go_wp2_with fail
    refine (H1 _ b0).mono ?_
    rintro r w1 ⟨rfl, d1⟩
    have D1 := b0.trans (d1.mono b0.size)
    obtain ⟨x0, x1⟩ := HC.out w1 (d1.mono (Nat.le_refl _))
    go_wp2
    go_ret
    exact ⟨rfl, D1⟩
  by_cases h2 : 256 < s
  · rw [show decide (62 ≤ s) = true by simp; omega, show decide (s ≤ 256) = false by simp; omega, Bool.true_and, Bool.false_and, if_neg (by decide)]
    go_enter Try.func13, Try.ntmps13
    go_wp2_with fail
    refine (H1 _ b0).mono ?_
    rintro r w1 ⟨rfl, d1⟩
    have D1 := b0.trans (d1.mono b0.size)
    obtain ⟨x0, x1⟩ := HC.out w1 (d1.mono (Nat.le_refl _))
    go_wp2
    go_ret
    exact ⟨rfl, D1⟩
  rw [show decide (62 ≤ s) = true by simp; omega, show decide (s ≤ 256) = true by simp; omega, Bool.true_and, Bool.true_and]
  cases B2 with
  | false =>
    rw [Bool.false_and, if_neg (by decide)]
    go_enter Try.func13, Try.ntmps13
    go_wp2_with fail
    refine (H1 _ b0).mono ?_
    rintro r w1 ⟨rfl, d1⟩
    have D1 := b0.trans (d1.mono b0.size)
    obtain ⟨x0, x1⟩ := HC.out w1 (d1.mono (Nat.le_refl _))
    go_wp2_with fail
    refine (H2 w1 D1).mono ?_
    rintro r w2 ⟨rfl, d2⟩
    have D2 := D1.trans (d2.mono D1.size)
    clear x0 x1
    obtain ⟨x0, x1⟩ := HC.out w2 (d1.trans (d2.mono d1.size))
    go_wp2
    go_ret
    exact ⟨rfl, D2⟩
  | true =>
    rw [Bool.true_and]
    cases B3 with
    | false =>
      rw [if_neg (by decide)]
      go_enter Try.func13, Try.ntmps13
      go_wp2_with fail
      refine (H1 _ b0).mono ?_
      rintro r w1 ⟨rfl, d1⟩
      have D1 := b0.trans (d1.mono b0.size)
      obtain ⟨x0, x1⟩ := HC.out w1 (d1.mono (Nat.le_refl _))
      go_wp2_with fail
      refine (H2 w1 D1).mono ?_
      rintro r w2 ⟨rfl, d2⟩
      have D2 := D1.trans (d2.mono D1.size)
      clear x0 x1
      obtain ⟨x0, x1⟩ := HC.out w2 (d1.trans (d2.mono d1.size))
      go_wp2_with fail
      refine (H3 w2 D2).mono ?_
      rintro r w3 ⟨rfl, d3⟩
      have D3 := D2.trans (d3.mono D2.size)
      clear x0 x1
      go_wp2
      go_ret
      exact ⟨rfl, D3⟩
    | true =>
      rw [if_pos rfl]
      go_enter Try.func13, Try.ntmps13
      go_wp2_with fail
      refine (H1 _ b0).mono ?_
      rintro r w1 ⟨rfl, d1⟩
      have D1 := b0.trans (d1.mono b0.size)
      obtain ⟨x0, x1⟩ := HC.out w1 (d1.mono (Nat.le_refl _))
      go_wp2_with fail
      refine (H2 w1 D1).mono ?_
      rintro r w2 ⟨rfl, d2⟩
      have D2 := D1.trans (d2.mono D1.size)
      clear x0 x1
      obtain ⟨x0, x1⟩ := HC.out w2 (d1.trans (d2.mono d1.size))
      go_wp2_with fail
      refine (H3 w2 D2).mono ?_
      rintro r w3 ⟨rfl, d3⟩
      have D3 := D2.trans (d3.mono D2.size)
      clear x0 x1
      go_wp2
      go_ret
      exact ⟨rfl, D3⟩

set_option maxRecDepth 100000 in
set_option maxHeartbeats 2000000 in
theorem rsize_any (k : Value) (n e : Int) (L : Nat) (w : World) (hk : Kv w k n e L) (hL : L ≤ 1000) :
    Calls Try.prog 15 #[k] w fun r w' => r = .returned (.int .i64 (szZ n)) ∧ Below w.heap.size w w' := by
  obtain ⟨_, _, rfl, ⟨a1, a2, a3, a4, rfl, a5, a6, a7⟩, ⟨b1, b2, b3, b4, rfl, b5, b6, b7⟩⟩ := hk
  have b0 := (Below.refl w.heap.size w).alloc (Nat.le_refl _) (.cells #[.slice a1 a2 a3, .slice b1 b2 b3] 25)
  have HO := rOf_any a1 a2 a3 a4 _ (a5.old b0) (by omega)
  have hbl : lenOf a4 ≤ 64000 := lenOf_le a5.dg 1000 (by have := a5.len; omega)
  rw [lenOf_eq a4 a5.dg, a6] at hbl
  rw [a6] at HO
  unfold szZ
  have hq : ((blen n.toNat : Int) + 7).tdiv 8 = (((blen n.toNat + 7) / 8 : Nat) : Int) := by rw [Int.tdiv_eq_ediv_of_nonneg (by omega)]; omega
  obtain ⟨N, hN⟩ : ∃ N, blen n.toNat = N := ⟨_, rfl⟩
  rw [hN] at hq hbl ⊢
  have HN : Hid (blen n.toNat = N) := hN
  clear a5 b5 hN
  go_enter Try.func15, Try.ntmps15
  go_wp2_with fail
  refine HO.mono ?_
  rintro r w1 ⟨v, rfl, q1, q2, q3, q4, rfl, hq4, hqc, hqv, hql, hb1⟩
  have HL := rLen_any q1 q2 q3 q4 w1 hq4 hqc (by omega)
  rw [hqv, HN.out] at HL
  clear HO hq4 hqc hqv a6
  go_wp2_with fail
  refine HL.mono ?_
  rintro r w2 ⟨rfl, rfl⟩
  go_wp2
  go_ret
  exact ⟨ret_int (by omega), b0.trans (hb1.mono b0.size)⟩
theorem rOf_rv (v : Value) (n : Int) (L : Nat) (w : World) (h : Nv w v n L) (hL : L ≤ 1000) :
    Calls Try.prog 11 #[v] w fun e w' => ∃ r, e = .returned r ∧ Rv w' r n (4 * L) ∧ Below w.heap.size w w' := by
  obtain ⟨a1, a2, a3, a4, rfl, a5, a6, a7⟩ := h
  refine (rOf_any a1 a2 a3 a4 w a5 (by omega)).mono ?_
  rintro e w' ⟨v, rfl, q1, q2, q3, q4, rfl, h1, h2, h3, h4, h5⟩
  exact ⟨_, rfl, ⟨q1, q2, q3, q4, rfl, h1, h2, by rw [h3, a6], by omega⟩, h5⟩
theorem rCmp_rv (a b : Value) (x y : Int) (L L' : Nat) (w : World) (ha : Rv w a x L) (hb : Rv w b y L') (hL : L ≤ 1000000) (hL' : L' ≤ 1000000) :
    Calls Try.prog 35 #[a, b] w fun e w' => e = .returned (.int .i64 (cmpI x y)) ∧ Below w.heap.size w w' := by
  obtain ⟨a1, a2, a3, a4, rfl, a5, a6, a7, a8⟩ := ha
  obtain ⟨b1, b2, b3, b4, rfl, b5, b6, b7, b8⟩ := hb
  refine (rCmp_any a1 b1 a2 a3 b2 b3 a4 b4 w a5 b5 a6 b6 (by omega) (by omega)).mono ?_
  rintro e w' ⟨rfl, hd⟩
  rw [a7, b7]
  exact ⟨rfl, hd.below _⟩
theorem rv_of {w w' : World} {v : Value} {n : Int} {L : Nat} (h : NumOut .i64 D16 w w' v n L) : Rv w' v n L ∧ Below w.heap.size w w' := by
  obtain ⟨ao, l, c, xs, rfl, h1, h2, h3, h4, h5⟩ := h
  exact ⟨⟨ao, l, c, xs, rfl, h1, h2, h3, h4⟩, h5⟩
end Go.Proofs.Ytnacgkkklmlhaaa
/-
  The document's Rsa.
-/
namespace Go.Proofs.Ytnacgkkklmlhaaa
open Go.Shelf Go.RowKit
set_option linter.unusedVariables false
set_option linter.unusedSimpArgs false
/-- The first digit of a number that isn't 0. -/
theorem Rv.first {w : World} {v : Value} {n : Int} {L : Nat} (h : Rv w v n L) (hn : 0 < n) : ∃ b o l c x, v = .slice (some ⟨b, o, none⟩) l c ∧ 0 < l ∧ l ≤ L ∧ w.cell? ⟨b, o, none⟩ = some (.int .i64 x) ∧ 0 ≤ x ∧ x % 2 = n % 2 ∧ b < w.heap.size := by
  obtain ⟨a1, a2, a3, a4, rfl, a5, a6, a7, a8⟩ := h
  have hlen := a5.len
  have h0 : 0 < a2 := by
    rcases Nat.eq_zero_or_pos a2 with h | h
    · exfalso
      have : a4 = [] := List.eq_nil_of_length_eq_zero (by omega)
      rw [this] at a7
      simp [val] at a7
      omega
    · exact h
  obtain ⟨b', off, rfl, hlt, hc⟩ := a5.lies.at h0
  match a4, hlen, a7, hc, a5 with
  | [], hlen, _, _, _ => simp at hlen; omega
  | x :: xs, hlen, a7, hc, a5 =>
    have hc0 : w.cell? ⟨b', off, none⟩ = some (.int .i64 x) := by
      have := hc 0 h0
      simpa using this
    have hx := a5.dg x (by simp)
    refine ⟨b', off, a2, a3, x, rfl, h0, a8, hc0, hx.1, ?_, hlt⟩
    rw [← a7, val_cons, show D16 = 2 * 32768 by decide, Int.mul_assoc, Int.add_mul_emod_self_left]
set_option maxRecDepth 100000 in
set_option maxHeartbeats 8000000 in
theorem rrsa_any (k : Value) (n e : Int) (L : Nat) (w : World) (hk : Kv w k n e L) (hL : L ≤ 1000) (hn0 : 0 < n) (he0 : 0 < e) :
    Calls Try.prog 12 #[k] w fun r w' => r = .returned (.bool (keyB n e)) ∧ Below w.heap.size w w' := by
  have H1 := fun W (hb : Below w.heap.size w W) => rsize_any k n e L W (hk.old hb) hL
  have hk2 := hk
  obtain ⟨vn, ve, rfl, hn, he⟩ := hk2
  have H2 := fun W (hb : Below w.heap.size w W) => rOf_rv vn n L W (hn.old hb) hL
  have H3 := fun W (hb : Below w.heap.size w W) => rOf_rv ve e L W (he.old hb) hL
  obtain ⟨a1, a2, a3, a4, rfl, -⟩ := hn
  obtain ⟨e1, e2, e3, e4, rfl, -⟩ := he
  obtain ⟨W0, hW0⟩ : ∃ W0, w.alloc (.cells #[.slice a1 a2 a3, .slice e1 e2 e3] 25) = W0 := ⟨_, rfl⟩
  have b0 : Below w.heap.size w W0 := by rw [← hW0]; exact (Below.refl w.heap.size w).alloc (Nat.le_refl _) _
  have HC : Hid (W0.heap[w.heap.size]? = some (.cells #[.slice a1 a2 a3, .slice e1 e2 e3] 25 (0, 0))) := by unfold Hid; rw [← hW0]; exact heap_alloc_new w _
  have HLT : Hid (w.heap.size < W0.heap.size) := (Array.getElem?_eq_some_iff.1 HC.out).1
  have HW0 : Hid (Below w.heap.size w W0) := b0
  clear b0 hk
  obtain ⟨BB, hBB⟩ : ∃ BB, keyB n e = BB := ⟨_, rfl⟩
  rw [hBB]
  unfold keyB expB at hBB
  have HKB : Hid (((decide (62 ≤ szZ n) && decide (szZ n ≤ 256)) && (decide (n % 2 = 1) && (decide (e % 2 = 1) && (decide (3 ≤ e) && decide (e < n))))) = BB) := hBB
  clear hBB
  go_enter Try.func12, Try.ntmps12
  go_wp2_with fail
  clear hW0
--@region 1
  refine wp_region_frames 15 [[5], [6], [7], [8], [9], [10], [3, 7], [4, 10]] (([.eq (Value.pointer (some { block := w.heap.size, off := 0 })), .eq (Value.slice a1 a2 a3), .rv n (4 * L), .eq (Value.pointer (some { block := w.heap.size, off := 1 })), .eq (Value.slice e1 e2 e3), .rv e (4 * L), .same, .same] : List Fk).map Fk.sem) [0, 1, 2, 3, 4, 5, 6, 7] (by kernel_rfl) (by kernel_rfl) (by kernel_rfl) ?step ?done
  case step =>
    intro i o ho listed a wx hI hli hne KK hK
    have hlt : i < 8 := (Array.getElem?_eq_some_iff.1 ho).1
    have hsz : Hid (a.tmps.size = 50) := hI.slots
    have hbw : Below W0.heap.size W0 wx := (Below.refl _ _).drew.trans hI.below
    obtain rfl | rfl | rfl | rfl | rfl | rfl | rfl | rfl : i = 0 ∨ i = 1 ∨ i = 2 ∨ i = 3 ∨ i = 4 ∨ i = 5 ∨ i = 6 ∨ i = 7 := by omega
    · simp only [List.getElem?_toArray, List.getElem?_cons_succ, List.getElem?_cons_zero, Option.some.injEq] at ho
      subst ho
      rw [if_pos (by rfl)]
      have eH1 : a.tmps.getD 1 undef = Value.pointer (some { block := w.heap.size, off := 0 }) := hI.stays hli 15 1 (by decide +kernel)
      go_simp
      exact hI.grow hK _ _ (Below.refl _ _) (put_self _ _ _ (by rw [hsz.out]; decide))
    · simp only [List.getElem?_toArray, List.getElem?_cons_succ, List.getElem?_cons_zero, Option.some.injEq] at ho
      subst ho
      rw [if_pos (by rfl)]
      have eH5 : a.tmps.getD 5 undef = (Value.pointer (some { block := w.heap.size, off := 0 })) := hI.deep hne 0 0 (by decide +kernel)
      obtain ⟨x0, x1⟩ := cells2 (by rw [hbw.block _ HLT.out]; exact HC.out)
      go_simp
      exact hI.grow hK _ _ (Below.refl _ _) (put_self _ _ _ (by rw [hsz.out]; decide))
    · simp only [List.getElem?_toArray, List.getElem?_cons_succ, List.getElem?_cons_zero, Option.some.injEq] at ho
      subst ho
      rw [if_pos (by rfl)]
      have eH6 : a.tmps.getD 6 undef = (Value.slice a1 a2 a3) := hI.deep hne 0 1 (by decide +kernel)
      go_simp
      go_at_call 11
      refine (H2 wx (HW0.out.trans (hbw.mono HW0.out.size))).mono ?_
      rintro r w5 ⟨v5, rfl, hv5, hb5⟩
      exact hI.grow hK _ _ hb5 (by have hp := put_self a 7 v5 (by rw [hsz.out]; decide); show Rv w5 ((a.put (some 7) v5).tmps.getD 7 undef) _ _; rw [hp]; exact hv5)
    · simp only [List.getElem?_toArray, List.getElem?_cons_succ, List.getElem?_cons_zero, Option.some.injEq] at ho
      subst ho
      rw [if_pos (by rfl)]
      have eH1 : a.tmps.getD 1 undef = Value.pointer (some { block := w.heap.size, off := 0 }) := hI.stays hli 15 1 (by decide +kernel)
      go_simp
      exact hI.grow hK _ _ (Below.refl _ _) (put_self _ _ _ (by rw [hsz.out]; decide))
    · simp only [List.getElem?_toArray, List.getElem?_cons_succ, List.getElem?_cons_zero, Option.some.injEq] at ho
      subst ho
      rw [if_pos (by rfl)]
      have eH8 : a.tmps.getD 8 undef = (Value.pointer (some { block := w.heap.size, off := 1 })) := hI.deep hne 0 3 (by decide +kernel)
      obtain ⟨x0, x1⟩ := cells2 (by rw [hbw.block _ HLT.out]; exact HC.out)
      go_simp
      exact hI.grow hK _ _ (Below.refl _ _) (put_self _ _ _ (by rw [hsz.out]; decide))
    · simp only [List.getElem?_toArray, List.getElem?_cons_succ, List.getElem?_cons_zero, Option.some.injEq] at ho
      subst ho
      rw [if_pos (by rfl)]
      have eH9 : a.tmps.getD 9 undef = (Value.slice e1 e2 e3) := hI.deep hne 0 4 (by decide +kernel)
      go_simp
      go_at_call 11
      refine (H3 wx (HW0.out.trans (hbw.mono HW0.out.size))).mono ?_
      rintro r w5 ⟨v5, rfl, hv5, hb5⟩
      exact hI.grow hK _ _ hb5 (by have hp := put_self a 10 v5 (by rw [hsz.out]; decide); show Rv w5 ((a.put (some 10) v5).tmps.getD 10 undef) _ _; rw [hp]; exact hv5)
    · simp only [List.getElem?_toArray, List.getElem?_cons_succ, List.getElem?_cons_zero, Option.some.injEq] at ho
      subst ho
      rw [if_pos (by rfl)]
      have fA2 : Fk.sem (.rv n (4 * L)) [a.tmps.getD 7 undef] wx := hI.deep hne 0 2 (by decide +kernel)
      obtain ⟨zX7, eH7⟩ : ∃ x, a.tmps.getD 7 undef = x := ⟨_, rfl⟩
      simp only [eH7] at fA2
      have eK7 := eH7
      rw [Array.getD_eq_getD_getElem?] at eK7
      go_simp
      exact hI.grow hK _ _ (Below.refl _ _) ((put_self _ _ _ (by rw [hsz.out]; decide)).trans ((put_get _ _ _ _ (by decide)).trans eH7).symm)
    · simp only [List.getElem?_toArray, List.getElem?_cons_succ, List.getElem?_cons_zero, Option.some.injEq] at ho
      subst ho
      rw [if_pos (by rfl)]
      have fA5 : Fk.sem (.rv e (4 * L)) [a.tmps.getD 10 undef] wx := hI.deep hne 0 5 (by decide +kernel)
      obtain ⟨zX10, eH10⟩ : ∃ x, a.tmps.getD 10 undef = x := ⟨_, rfl⟩
      simp only [eH10] at fA5
      have eK10 := eH10
      rw [Array.getD_eq_getD_getElem?] at eK10
      go_simp
      exact hI.grow hK _ _ (Below.refl _ _) ((put_self _ _ _ (by rw [hsz.out]; decide)).trans ((put_get _ _ _ _ (by decide)).trans eH10).symm)
  case done =>
    intro listed a W hI hall
    obtain ⟨tm, df⟩ := a
    have hdf : df = [] := hI.defers
    subst hdf
    have hTM : tm = #[tm.getD 0 undef, tm.getD 1 undef, tm.getD 2 undef, tm.getD 3 undef, tm.getD 4 undef, tm.getD 5 undef, tm.getD 6 undef, tm.getD 7 undef, tm.getD 8 undef, tm.getD 9 undef, tm.getD 10 undef, tm.getD 11 undef, tm.getD 12 undef, tm.getD 13 undef, tm.getD 14 undef, tm.getD 15 undef, tm.getD 16 undef, tm.getD 17 undef, tm.getD 18 undef, tm.getD 19 undef, tm.getD 20 undef, tm.getD 21 undef, tm.getD 22 undef, tm.getD 23 undef, tm.getD 24 undef, tm.getD 25 undef, tm.getD 26 undef, tm.getD 27 undef, tm.getD 28 undef, tm.getD 29 undef, tm.getD 30 undef, tm.getD 31 undef, tm.getD 32 undef, tm.getD 33 undef, tm.getD 34 undef, tm.getD 35 undef, tm.getD 36 undef, tm.getD 37 undef, tm.getD 38 undef, tm.getD 39 undef, tm.getD 40 undef, tm.getD 41 undef, tm.getD 42 undef, tm.getD 43 undef, tm.getD 44 undef, tm.getD 45 undef, tm.getD 46 undef, tm.getD 47 undef, tm.getD 48 undef, tm.getD 49 undef] := arr_of tm 50 hI.slots
    have oS0 : tm.getD 0 undef = Value.agg #[Value.slice a1 a2 a3, Value.slice e1 e2 e3] := hI.kept 0 (by decide +kernel)
    have oS1 : tm.getD 1 undef = Value.pointer (some { block := w.heap.size, off := 0 }) := hI.kept 1 (by decide +kernel)
    have oS2 : tm.getD 2 undef = Value.bool false := hI.kept 2 (by decide +kernel)
    have oS11 : tm.getD 11 undef = undef := hI.kept 11 (by decide +kernel)
    have oS12 : tm.getD 12 undef = undef := hI.kept 12 (by decide +kernel)
    have oS13 : tm.getD 13 undef = undef := hI.kept 13 (by decide +kernel)
    have oS14 : tm.getD 14 undef = undef := hI.kept 14 (by decide +kernel)
    have oS15 : tm.getD 15 undef = undef := hI.kept 15 (by decide +kernel)
    have oS16 : tm.getD 16 undef = undef := hI.kept 16 (by decide +kernel)
    have oS17 : tm.getD 17 undef = undef := hI.kept 17 (by decide +kernel)
    have oS18 : tm.getD 18 undef = undef := hI.kept 18 (by decide +kernel)
    have oS19 : tm.getD 19 undef = undef := hI.kept 19 (by decide +kernel)
    have oS20 : tm.getD 20 undef = undef := hI.kept 20 (by decide +kernel)
    have oS21 : tm.getD 21 undef = undef := hI.kept 21 (by decide +kernel)
    have oS22 : tm.getD 22 undef = undef := hI.kept 22 (by decide +kernel)
    have oS23 : tm.getD 23 undef = undef := hI.kept 23 (by decide +kernel)
    have oS24 : tm.getD 24 undef = undef := hI.kept 24 (by decide +kernel)
    have oS25 : tm.getD 25 undef = undef := hI.kept 25 (by decide +kernel)
    have oS26 : tm.getD 26 undef = undef := hI.kept 26 (by decide +kernel)
    have oS27 : tm.getD 27 undef = undef := hI.kept 27 (by decide +kernel)
    have oS28 : tm.getD 28 undef = undef := hI.kept 28 (by decide +kernel)
    have oS29 : tm.getD 29 undef = undef := hI.kept 29 (by decide +kernel)
    have oS30 : tm.getD 30 undef = undef := hI.kept 30 (by decide +kernel)
    have oS31 : tm.getD 31 undef = undef := hI.kept 31 (by decide +kernel)
    have oS32 : tm.getD 32 undef = undef := hI.kept 32 (by decide +kernel)
    have oS33 : tm.getD 33 undef = undef := hI.kept 33 (by decide +kernel)
    have oS34 : tm.getD 34 undef = undef := hI.kept 34 (by decide +kernel)
    have oS35 : tm.getD 35 undef = undef := hI.kept 35 (by decide +kernel)
    have oS36 : tm.getD 36 undef = undef := hI.kept 36 (by decide +kernel)
    have oS37 : tm.getD 37 undef = undef := hI.kept 37 (by decide +kernel)
    have oS38 : tm.getD 38 undef = undef := hI.kept 38 (by decide +kernel)
    have oS39 : tm.getD 39 undef = undef := hI.kept 39 (by decide +kernel)
    have oS40 : tm.getD 40 undef = undef := hI.kept 40 (by decide +kernel)
    have oS41 : tm.getD 41 undef = undef := hI.kept 41 (by decide +kernel)
    have oS42 : tm.getD 42 undef = undef := hI.kept 42 (by decide +kernel)
    have oS43 : tm.getD 43 undef = undef := hI.kept 43 (by decide +kernel)
    have oS44 : tm.getD 44 undef = undef := hI.kept 44 (by decide +kernel)
    have oS45 : tm.getD 45 undef = undef := hI.kept 45 (by decide +kernel)
    have oS46 : tm.getD 46 undef = undef := hI.kept 46 (by decide +kernel)
    have oS47 : tm.getD 47 undef = undef := hI.kept 47 (by decide +kernel)
    have oS48 : tm.getD 48 undef = undef := hI.kept 48 (by decide +kernel)
    have oS49 : tm.getD 49 undef = undef := hI.kept 49 (by decide +kernel)
    have fA2 : Fk.sem (.rv n (4 * L)) [tm.getD 7 undef] W := hI.facts 2 (hall 2 (by decide))
    have fA5 : Fk.sem (.rv e (4 * L)) [tm.getD 10 undef] W := hI.facts 5 (hall 5 (by decide))
    have fA6 : Fk.sem (.same) [tm.getD 3 undef, tm.getD 7 undef] W := hI.facts 6 (hall 6 (by decide))
    have fA7 : Fk.sem (.same) [tm.getD 4 undef, tm.getD 10 undef] W := hI.facts 7 (hall 7 (by decide))
    have fA0 : tm.getD 5 undef = (Value.pointer (some { block := w.heap.size, off := 0 })) := hI.facts 0 (hall 0 (by decide))
    have fA1 : tm.getD 6 undef = (Value.slice a1 a2 a3) := hI.facts 1 (hall 1 (by decide))
    have fA3 : tm.getD 8 undef = (Value.pointer (some { block := w.heap.size, off := 1 })) := hI.facts 3 (hall 3 (by decide))
    have fA4 : tm.getD 9 undef = (Value.slice e1 e2 e3) := hI.facts 4 (hall 4 (by decide))
    have hbw : Below W0.heap.size W0 W := (Below.refl _ _).drew.trans hI.below
    clear hI hall listed
    simp only [oS0, oS1, oS2, oS11, oS12, oS13, oS14, oS15, oS16, oS17, oS18, oS19, oS20, oS21, oS22, oS23, oS24, oS25, oS26, oS27, oS28, oS29, oS30, oS31, oS32, oS33, oS34, oS35, oS36, oS37, oS38, oS39, oS40, oS41, oS42, oS43, oS44, oS45, oS46, oS47, oS48, oS49, fA0, fA1, fA3, fA4] at hTM
    clear oS0 oS1 oS2 oS11 oS12 oS13 oS14 oS15 oS16 oS17 oS18 oS19 oS20 oS21 oS22 oS23 oS24 oS25 oS26 oS27 oS28 oS29 oS30 oS31 oS32 oS33 oS34 oS35 oS36 oS37 oS38 oS39 oS40 oS41 oS42 oS43 oS44 oS45 oS46 oS47 oS48 oS49 fA0 fA1 fA3 fA4
    generalize tm.getD 3 undef = zX3 at hTM fA6
    generalize tm.getD 4 undef = zX4 at hTM fA7
    generalize tm.getD 7 undef = zX7 at hTM fA2 fA6
    generalize tm.getD 10 undef = zX10 at hTM fA5 fA7
    subst hTM
    have g3 : zX3 = zX7 := fA6
    have g4 : zX4 = zX10 := fA7
    have r7 : Rv W zX7 n (4 * L) := fA2
    have r10 : Rv W zX10 e (4 * L) := fA5
    clear fA2 fA5 fA6 fA7
    subst g3
    subst g4
    have HN : Hid (Rv W zX3 n (4 * L) ∧ Rv W zX4 e (4 * L) ∧ Below w.heap.size w W ∧ Below W0.heap.size W0 W) := ⟨r7, r10, HW0.out.trans (hbw.mono HW0.out.size), hbw⟩
    have h35 := fun W' => rSmall_any 3 W' (by decide) (by decide)
    have hc4 := cmpI_ge e 3
    have hc6 := cmpI_ltz e n
    have HCM := fun (W' : World) (v' : Value) (hb' : Below W.heap.size W W') (hv : Rv W' v' 3 4) => rCmp_rv zX4 v' e 3 (4 * L) 4 W' (HN.out.2.1.old hb') hv (by omega) (by omega)
    have HCN := fun (W' : World) (hb' : Below W.heap.size W W') => rCmp_rv zX4 zX3 e n (4 * L) (4 * L) W' (HN.out.2.1.old hb') (HN.out.1.old hb') (by omega) (by omega)
    have HX : Hid (∀ W', Below W.heap.size W W' → W'.cell? ⟨w.heap.size, 0, none⟩ = some (.slice a1 a2 a3) ∧ W'.cell? ⟨w.heap.size, 1, none⟩ = some (.slice e1 e2 e3)) := fun W' hb' => cells2 (t := 25) (by rw [hb'.block _ (Nat.lt_of_lt_of_le HLT.out hbw.size), hbw.block _ HLT.out]; exact HC.out)
    obtain ⟨nb, no, nl, nc, nx, rfl, nl0, nlL, ncell, nx0, nx2, nlt⟩ := r7.first hn0
    obtain ⟨eb, eo, el, ec, ex, rfl, el0, elL, ecell, ex0, ex2, elt⟩ := r10.first he0
    have HCL : Hid (∀ W', Below W.heap.size W W' → W'.cell? ⟨nb, no, none⟩ = some (.int .i64 nx) ∧ W'.cell? ⟨eb, eo, none⟩ = some (.int .i64 ex)) := fun W' hb' => ⟨by rw [hb'.cell nlt]; exact ncell, by rw [hb'.cell elt]; exact ecell⟩
    have hpn : (0 : Int) < (nl : Int) := by omega
    have hpe : (0 : Int) < (el : Int) := by omega
    have hnt : nx.tmod 2 = n % 2 := by rw [Int.tmod_eq_emod_of_nonneg nx0, nx2]
    have het : ex.tmod 2 = e % 2 := by rw [Int.tmod_eq_emod_of_nonneg ex0, ex2]
    have hsz0 : 0 ≤ szZ n := by unfold szZ; omega
    have HB : Hid (Below w.heap.size w W) := HN.out.2.2.1
    have hn2 : n % 2 = 0 ∨ n % 2 = 1 := Int.emod_two_eq n
    have he2 : e % 2 = 0 ∨ e % 2 = 1 := Int.emod_two_eq e
    generalize szZ n = s at *
    generalize n % 2 = n2 at *
    generalize e % 2 = ee2 at *
    generalize cmpI e 3 = k1 at *
    generalize cmpI e n = k2 at *
    clear hbw r7 r10 ncell ecell nx0 ex0 nx2 ex2 HN HC HLT HW0 H2 H3 nlt elt
    obtain ⟨x0, x1⟩ := HX.out W (Below.refl _ _)
    by_cases c1 : s < 62
    · have hB' : BB = false := by rw [← HKB.out]; simp; omega
      clear HKB
      subst hB'
      go_wp2_with fail
      refine (H1 W HB.out).mono ?_
      rintro r w1 ⟨rfl, d1⟩
      have D1 := d1
      clear x0 x1
      obtain ⟨x0, x1⟩ := HX.out w1 D1
      go_wp2
      go_ret
      refine ⟨?_, HB.out.trans (D1.mono HB.out.size)⟩
      first | rfl | (simp; omega) | (simp)
    have c1' : 62 ≤ s := by omega
    by_cases c2 : 256 < s
    · have hB' : BB = false := by rw [← HKB.out]; simp; omega
      clear HKB
      subst hB'
      go_wp2_with fail
      refine (H1 W HB.out).mono ?_
      rintro r w1 ⟨rfl, d1⟩
      have D1 := d1
      clear x0 x1
      obtain ⟨x0, x1⟩ := HX.out w1 D1
      go_wp2_with fail
      refine (H1 w1 (HB.out.trans (D1.mono HB.out.size))).mono ?_
      rintro r w2 ⟨rfl, d2⟩
      have D2 := D1.trans (d2.mono D1.size)
      clear x0 x1
      obtain ⟨x0, x1⟩ := HX.out w2 D2
      obtain ⟨y0, y1⟩ := HCL.out w2 D2
      go_wp2
      go_ret
      refine ⟨?_, HB.out.trans (D2.mono HB.out.size)⟩
      first | rfl | (simp; omega) | (simp)
    have c2' : s ≤ 256 := by omega
    rcases hn2 with rfl | rfl
    · have hB' : BB = false := by rw [← HKB.out]; simp
      clear HKB
      subst hB'
      go_wp2_with fail
      refine (H1 W HB.out).mono ?_
      rintro r w1 ⟨rfl, d1⟩
      have D1 := d1
      clear x0 x1
      obtain ⟨x0, x1⟩ := HX.out w1 D1
      go_wp2_with fail
      refine (H1 w1 (HB.out.trans (D1.mono HB.out.size))).mono ?_
      rintro r w2 ⟨rfl, d2⟩
      have D2 := D1.trans (d2.mono D1.size)
      clear x0 x1
      obtain ⟨x0, x1⟩ := HX.out w2 D2
      obtain ⟨y0, y1⟩ := HCL.out w2 D2
      go_wp2
      go_ret
      refine ⟨?_, HB.out.trans (D2.mono HB.out.size)⟩
      first | rfl | (simp; omega) | (simp)
    by_cases c4 : 3 ≤ e
    rotate_left
    · have hB' : BB = false := by rw [← HKB.out]; simp [c4]
      clear HKB
      subst hB'
      have c4' : ¬ 0 ≤ k1 := fun h => c4 (hc4.1 h)
      clear hc4 hc6
      go_wp2_with fail
      refine (H1 W HB.out).mono ?_
      rintro r w1 ⟨rfl, d1⟩
      have D1 := d1
      clear x0 x1
      obtain ⟨x0, x1⟩ := HX.out w1 D1
      go_wp2_with fail
      refine (H1 w1 (HB.out.trans (D1.mono HB.out.size))).mono ?_
      rintro r w2 ⟨rfl, d2⟩
      have D2 := D1.trans (d2.mono D1.size)
      clear x0 x1
      obtain ⟨x0, x1⟩ := HX.out w2 D2
      obtain ⟨y0, y1⟩ := HCL.out w2 D2
      go_wp2_with fail
      refine (h35 w2).mono ?_
      rintro r w3 ⟨v3, rfl, hv3⟩
      obtain ⟨hv3, d3⟩ := rv_of hv3
      have D3 := D2.trans (d3.mono D2.size)
      have H7 := HCM w3 v3 D3 hv3
      obtain ⟨s1, s2, s3, s4, rfl, -⟩ := hv3
      clear x0 x1 y0 y1
      obtain ⟨y0, y1⟩ := HCL.out w3 D3
      go_wp2_with fail
      refine H7.mono ?_
      rintro r w4 ⟨rfl, d4⟩
      have D4 := D3.trans (d4.mono D3.size)
      clear y0 y1
      obtain ⟨y0, y1⟩ := HCL.out w4 D4
      go_wp2
      go_ret
      refine ⟨?_, HB.out.trans (D4.mono HB.out.size)⟩
      first | rfl | (simp; omega) | (simp)
    have c4' := hc4.2 c4
    rcases he2 with rfl | rfl
    · have hB' : BB = false := by rw [← HKB.out]; simp
      clear HKB
      subst hB'
      clear hc4 hc6
      go_wp2_with fail
      refine (H1 W HB.out).mono ?_
      rintro r w1 ⟨rfl, d1⟩
      have D1 := d1
      clear x0 x1
      obtain ⟨x0, x1⟩ := HX.out w1 D1
      go_wp2_with fail
      refine (H1 w1 (HB.out.trans (D1.mono HB.out.size))).mono ?_
      rintro r w2 ⟨rfl, d2⟩
      have D2 := D1.trans (d2.mono D1.size)
      clear x0 x1
      obtain ⟨x0, x1⟩ := HX.out w2 D2
      obtain ⟨y0, y1⟩ := HCL.out w2 D2
      go_wp2_with fail
      refine (h35 w2).mono ?_
      rintro r w3 ⟨v3, rfl, hv3⟩
      obtain ⟨hv3, d3⟩ := rv_of hv3
      have D3 := D2.trans (d3.mono D2.size)
      have H7 := HCM w3 v3 D3 hv3
      obtain ⟨s1, s2, s3, s4, rfl, -⟩ := hv3
      clear x0 x1 y0 y1
      obtain ⟨y0, y1⟩ := HCL.out w3 D3
      go_wp2_with fail
      refine H7.mono ?_
      rintro r w4 ⟨rfl, d4⟩
      have D4 := D3.trans (d4.mono D3.size)
      clear y0 y1
      obtain ⟨y0, y1⟩ := HCL.out w4 D4
      go_wp2
      go_ret
      refine ⟨?_, HB.out.trans (D4.mono HB.out.size)⟩
      first | rfl | (simp; omega) | (simp)
    by_cases c6 : e < n
    · have hB' : BB = true := by rw [← HKB.out]; simp [c1', c2', c4, c6]
      clear HKB
      subst hB'
      have c6' := hc6.2 c6
      clear hc4 hc6 c6
      go_wp2_with fail
      refine (H1 W HB.out).mono ?_
      rintro r w1 ⟨rfl, d1⟩
      have D1 := d1
      clear x0 x1
      obtain ⟨x0, x1⟩ := HX.out w1 D1
      go_wp2_with fail
      refine (H1 w1 (HB.out.trans (D1.mono HB.out.size))).mono ?_
      rintro r w2 ⟨rfl, d2⟩
      have D2 := D1.trans (d2.mono D1.size)
      clear x0 x1
      obtain ⟨x0, x1⟩ := HX.out w2 D2
      obtain ⟨y0, y1⟩ := HCL.out w2 D2
      go_wp2_with fail
      refine (h35 w2).mono ?_
      rintro r w3 ⟨v3, rfl, hv3⟩
      obtain ⟨hv3, d3⟩ := rv_of hv3
      have D3 := D2.trans (d3.mono D2.size)
      have H7 := HCM w3 v3 D3 hv3
      obtain ⟨s1, s2, s3, s4, rfl, -⟩ := hv3
      clear x0 x1 y0 y1
      obtain ⟨y0, y1⟩ := HCL.out w3 D3
      go_wp2_with fail
      refine H7.mono ?_
      rintro r w4 ⟨rfl, d4⟩
      have D4 := D3.trans (d4.mono D3.size)
      clear y0 y1
      obtain ⟨y0, y1⟩ := HCL.out w4 D4
      go_wp2_with fail
      refine (HCN w4 D4).mono ?_
      rintro r w5 ⟨rfl, d5⟩
      have D5 := D4.trans (d5.mono D4.size)
      go_wp2
      go_ret
      refine ⟨?_, HB.out.trans (D5.mono HB.out.size)⟩
      first | rfl | (simp; omega) | (simp)
    · have hB' : BB = false := by rw [← HKB.out]; simp [c6]
      clear HKB
      subst hB'
      have c6' : ¬ k2 < 0 := fun h => c6 (hc6.1 h)
      clear hc4 hc6 c6
      go_wp2_with fail
      refine (H1 W HB.out).mono ?_
      rintro r w1 ⟨rfl, d1⟩
      have D1 := d1
      clear x0 x1
      obtain ⟨x0, x1⟩ := HX.out w1 D1
      go_wp2_with fail
      refine (H1 w1 (HB.out.trans (D1.mono HB.out.size))).mono ?_
      rintro r w2 ⟨rfl, d2⟩
      have D2 := D1.trans (d2.mono D1.size)
      clear x0 x1
      obtain ⟨x0, x1⟩ := HX.out w2 D2
      obtain ⟨y0, y1⟩ := HCL.out w2 D2
      go_wp2_with fail
      refine (h35 w2).mono ?_
      rintro r w3 ⟨v3, rfl, hv3⟩
      obtain ⟨hv3, d3⟩ := rv_of hv3
      have D3 := D2.trans (d3.mono D2.size)
      have H7 := HCM w3 v3 D3 hv3
      obtain ⟨s1, s2, s3, s4, rfl, -⟩ := hv3
      clear x0 x1 y0 y1
      obtain ⟨y0, y1⟩ := HCL.out w3 D3
      go_wp2_with fail
      refine H7.mono ?_
      rintro r w4 ⟨rfl, d4⟩
      have D4 := D3.trans (d4.mono D3.size)
      clear y0 y1
      obtain ⟨y0, y1⟩ := HCL.out w4 D4
      go_wp2_with fail
      refine (HCN w4 D4).mono ?_
      rintro r w5 ⟨rfl, d5⟩
      have D5 := D4.trans (d5.mono D4.size)
      go_wp2
      go_ret
      refine ⟨?_, HB.out.trans (D5.mono HB.out.size)⟩
      first | rfl | (simp; omega) | (simp)
end Go.Proofs.Ytnacgkkklmlhaaa
/-
  Contracts of the document's mul and root (its table).
-/
namespace Go.Proofs.Ytnacgkkklmlhaaa
open Go.RowKit
set_option linter.unusedVariables false
set_option linter.unusedSimpArgs false

/-- Nothing stands above yet. -/
def Zr (m : Nat) (cur : List Int) : Prop := ∀ j, m ≤ j → cur.getD j 0 = 0
theorem Zr.zero (n : Nat) (m : Nat) : Zr m (List.replicate n 0) := fun j _ => getD_zeros n j
theorem Zr.set {m j : Nat} {cur : List Int} (h : Zr m cur) (hj : j < m) (y : Int) : Zr m (cur.set j y) := fun i hi => by
  have : (cur.set j y).getD i 0 = cur.getD i 0 := by simp [List.getD, List.getElem?_set_ne (show j ≠ i by omega)]
  rw [this]; exact h i hi
theorem Zr.up {m : Nat} {cur : List Int} (h : Zr m cur) (y : Int) : Zr (m + 1) (cur.set m y) := fun i hi => by
  have : (cur.set m y).getD i 0 = cur.getD i 0 := by simp [List.getD, List.getElem?_set_ne (show m ≠ i by omega)]
  rw [this]; exact h i (by omega)

set_option maxHeartbeats 4000000 in
/-- the document's mul. -/
theorem sMul_any (ao bo : Option Addr) (la ca lb cb : Nat) (xs ys : List Int) (w : World) (h : NumIn .i64 D16 w ao la ca xs) (h' : NumIn .i64 D16 w bo lb cb ys) (hla : la ≤ 1000) (hlb : lb ≤ 1000) :
    Calls Try.prog 78 #[.slice ao la ca, .slice bo lb cb] w fun e w' => ∃ v, e = .returned v ∧ Nb w w' v (val D16 xs * val D16 ys) (la + lb) := by
  have hl := h.len
  have hl' := h'.len
  obtain ⟨N, hN⟩ : ∃ N, la + lb = N := ⟨_, rfl⟩
  have hNI : (la : Int) + (lb : Int) = (N : Int) := by omega
  have hN2 : N ≤ 2000 := by omega
  rw [hN]
  go_enter Try.func78, Try.ntmps78
  go_wp2_with (at_make; refine wpList_make_row _ rfl _ _ 40 rfl 3 .i64 8 Try.underlying40 Try.infoI _ _ _ _ N rfl rfl (by omega) (by omega) (by omega) (by unfold maxLen; omega) ?_; intro w3 hrow hbel)
  have HH : Hid (NumIn .i64 D16 w ao la ca xs ∧ NumIn .i64 D16 w bo lb cb ys ∧ xs.length = la ∧ ys.length = lb) := ⟨h, h', hl, hl'⟩
  clear h h' hl hl'
  go_loopw [6] (fun vi wr => ∃ (i : Nat) (cur : List Int), i ≤ la ∧ vi = .int .i64 i ∧ Row 3 .i64 wr w.heap.size cur ∧ RMuls xs ys N i 0 cur 0 ∧ Zr (i + lb) cur ∧ Below w.heap.size w wr) (fun vi _ => la - (intOf vi).toNat)
  case atStart => exact ⟨0, _, Nat.zero_le _, rfl, hrow, RMuls.zero _ _ _, Zr.zero _ _, hbel⟩
  case round =>
    obtain ⟨i, cur0, hi, rfl, hrw0, hm0, hz0, hb0⟩ := hrel
    clear hrow hbel
    by_cases hlt : i < la
    · have H0 : Hid (Row 3 .i64 wr w.heap.size cur0 ∧ RMuls xs ys N i 0 cur0 0 ∧ Zr (i + lb) cur0 ∧ Below w.heap.size w wr) := ⟨hrw0, hm0, hz0, hb0⟩
      clear hrw0 hm0 hz0 hb0
      go_wp2
      go_loopw [7, 8] (fun vc vk wr => ∃ (k : Nat) (c : Int) (cur : List Int), k ≤ lb ∧ vk = .int .i64 k ∧ vc = .int .i64 c ∧ Row 3 .i64 wr w.heap.size cur ∧ RMuls xs ys N i k cur c ∧ Zr (i + lb) cur ∧ Below w.heap.size w wr) (fun _ vk _ => lb - (intOf vk).toNat)
      case atStart => exact ⟨0, 0, cur0, by omega, rfl, rfl, H0.out⟩
      case round =>
        obtain ⟨k, c, cur, hk, rfl, rfl, hrw, hm, hz, hb⟩ := hrel
        clear H0
        have hc0 := hm.2.2.1
        have hc1 := hm.2.2.2.1
        by_cases hkl : k < lb
        · have hlen := hm.1
          obtain ⟨b, off, rfl, hblk, hcs⟩ := (HH.out.1.lies.old hb).at (by omega)
          have hcx := hcs i hlt
          obtain ⟨b2, off2, rfl, hblk2, hcs2⟩ := (HH.out.2.1.lies.old hb).at (by omega)
          have hcy := hcs2 k hkl
          have hfr := hrw.frozen (i + k)
          have hcl := hrw.cell (i + k) (by omega)
          have gx := HH.out.1.dg.getD D16_pos i
          have gy := HH.out.2.1.dg.getD D16_pos k
          have gz := hm.2.1.getD D16_pos (i + k)
          have HS : Hid (RMuls xs ys N i (k + 1) (cur.set (i + k) ((cur.getD (i + k) 0 + xs.getD i 0 * ys.getD k 0 + c) % 65536)) ((cur.getD (i + k) 0 + xs.getD i 0 * ys.getD k 0 + c) / 65536)) := by
            have := hm.step HH.out.1.dg HH.out.2.1.dg (by omega)
            rw [show cur.getD (i + k) 0 + c + xs.getD i 0 * ys.getD k 0 = cur.getD (i + k) 0 + xs.getD i 0 * ys.getD k 0 + c by omega] at this
            exact this
          have HZ : Hid (∀ y, Zr (i + lb) (cur.set (i + k) y)) := fun y => hz.set (by omega) y
          have HB : Hid (Row 3 .i64 wr w.heap.size cur ∧ Below w.heap.size w wr) := ⟨hrw, hb⟩
          have hp := prod16 (xs.getD i 0) (ys.getD k 0) gx gy
          have hp1 := hp.1
          have hp2 := hp.2
          have gz1 := gz.1
          have gz2 : cur.getD (i + k) 0 < 65536 := gz.2
          generalize cur.getD (i + k) 0 = z at *
          generalize xs.getD i 0 = x at *
          generalize ys.getD k 0 = y at *
          have hmul : IntKind.i64.wrap (x * y) = x * y := IntWalk.i64_in _ (by omega)
          clear hrw hm hb hcs hcs2 gx gy gz hp hz
          go_wp2
          go_quiet (fail)
          go_wp2
          go_roundw
          case rel => exact ⟨k + 1, _, _, by omega, by go_num, rfl, (HB.out.1.drewN _).set _ _, HS.out, HZ.out _, (HB.out.2.trans (Drew.below ⟨_, rfl⟩ _)).setCell (Nat.le_refl _) _⟩
          case measure => simp [intOf] <;> omega
        · obtain rfl : k = lb := by omega
          have hlen := hm.1
          have hfr := hrw.frozen (i + k)
          have hcl := hrw.cell (i + k) (by omega)
          have HS : Hid (RMuls xs ys N (i + 1) 0 (cur.set (i + k) c) 0) := by
            have := hm.step HH.out.1.dg HH.out.2.1.dg (by omega)
            rw [hz (i + k) (Nat.le_refl _), getD_over ys k (by have := HH.out; omega)] at this
            rw [show (0 + c + xs.getD i 0 * 0) % 65536 = c by omega, show (0 + c + xs.getD i 0 * 0) / 65536 = 0 by omega] at this
            exact this.next (by have := HH.out; omega)
          have HZ : Hid (Zr (i + 1 + k) (cur.set (i + k) c)) := by
            have := hz.up c
            rw [show i + 1 + k = i + k + 1 by omega]
            exact this
          have HB : Hid (Row 3 .i64 wr w.heap.size cur ∧ Below w.heap.size w wr) := ⟨hrw, hb⟩
          clear hrw hm hb hz
          go_wp2
          go_roundw
          case rel => exact ⟨i + 1, _, by omega, by go_num, HB.out.1.set _ _, HS.out, HZ.out, HB.out.2.setCell (Nat.le_refl _) _⟩
          case measure => simp [intOf] <;> omega
    · obtain rfl : i = la := by omega
      have hlen := hm0.1
      have HV : Hid (val D16 cur0 = val D16 xs * val D16 ys) := by have := hm0; rw [← HH.out.2.2.1] at this; exact this.done (k := 0)
      have HR : Hid (NumIn .i64 D16 wr (some ⟨w.heap.size, 0, none⟩) N N cur0 ∧ Below w.heap.size w wr) := ⟨by have := hrw0.num hm0.2.1 (by omega); rw [hlen] at this; exact this, hb0⟩
      clear hm0 hb0 hrw0 hz0
      go_wp2
      go_ret
      exact ⟨_, rfl, _, _, _, cur0, rfl, HR.out.1, HV.out, Nat.le_refl _, HR.out.2⟩
end Go.Proofs.Ytnacgkkklmlhaaa
/-
  Contract of the document's root.
-/
namespace Go.Proofs.Ytnacgkkklmlhaaa
open Go.RowKit
set_option linter.unusedVariables false
set_option linter.unusedSimpArgs false

/-- The root, found bit by bit, i bits of 41. -/
def rtAt (p : Int) (t : Nat) : Nat → Int
  | 0 => 0
  | i + 1 => if (rtAt p t i + 2 ^ (40 - i)) ^ t ≤ p * D16 ^ (2 * t) then rtAt p t i + 2 ^ (40 - i) else rtAt p t i
theorem rtAt_mult (p : Int) (t : Nat) : ∀ i, i ≤ 41 → rtAt p t i % 2 ^ (41 - i) = 0
  | 0, _ => by simp [rtAt]
  | i + 1, h => by
    have ih := rtAt_mult p t i (by omega)
    have e : (2 : Int) ^ (41 - i) = 2 ^ (41 - (i + 1)) * 2 := by rw [← Int.pow_succ]; congr 1; omega
    have e2 : (2 : Int) ^ (40 - i) = 2 ^ (41 - (i + 1)) := by congr 1; omega
    rw [e] at ih
    have hp : (0 : Int) < 2 ^ (41 - (i + 1)) := Int.pow_pos (by decide)
    have ih2 : rtAt p t i % 2 ^ (41 - (i + 1)) = 0 := by
      have := Int.emod_emod_of_dvd (rtAt p t i) (Int.dvd_mul_right (2 ^ (41 - (i + 1))) 2)
      rw [ih] at this
      simpa using this.symm
    rw [rtAt]
    split
    · rw [e2, Int.add_emod, ih2]; simp
    · exact ih2
theorem K_ref : (plI 312).map (fun p => rtAt p 3 41 % 4294967296) = KS := by decide +kernel
theorem H_ref : (plI 20).map (fun p => rtAt p 2 41 % 4294967296) = HS := by decide +kernel

/-- The number at a slice, whatever base world. -/
def NbI (w wr : World) (v : Value) (n : Int) (L : Nat) : Prop := Nb w wr v n L
theorem Nb.more {w w1 w2 : World} {v : Value} {n : Int} {L : Nat} (h : Nb w w1 v n L) (hb : Below w1.heap.size w1 w2) : Nb w w2 v n L := by
  obtain ⟨ao, len, cap, xs, rfl, h1, h2, h3, h4⟩ := h
  exact ⟨ao, len, cap, xs, rfl, h1.old hb, h2, h3, h4.trans (hb.mono h4.size)⟩
theorem Nb.base {w w1 w2 : World} {v : Value} {n : Int} {L : Nat} (h : Nb w1 w2 v n L) (hb : Below w.heap.size w w1) : Nb w w2 v n L := by
  obtain ⟨ao, len, cap, xs, rfl, h1, h2, h3, h4⟩ := h
  exact ⟨ao, len, cap, xs, rfl, h1, h2, h3, hb.trans (h4.mono hb.size)⟩
theorem Nb.below {w w1 : World} {v : Value} {n : Int} {L : Nat} (h : Nb w w1 v n L) : Below w.heap.size w w1 := by
  obtain ⟨ao, len, cap, xs, rfl, h1, h2, h3, h4⟩ := h
  exact h4
theorem Nb.wide {w w1 : World} {v : Value} {n : Int} {L L' : Nat} (h : Nb w w1 v n L) (hL : L ≤ L') : Nb w w1 v n L' := by
  obtain ⟨ao, len, cap, xs, rfl, h1, h2, h3, h4⟩ := h
  exact ⟨ao, len, cap, xs, rfl, h1, h2, by omega, h4⟩
/-- mul of numbers in memory. -/
theorem sMul_nb {w wr : World} {v u : Value} {n m : Int} {L M : Nat} (h : Nb w wr v n L) (h' : Nb w wr u m M) (hL : L ≤ 1000) (hM : M ≤ 1000) :
    Calls Try.prog 78 #[v, u] wr fun e w' => ∃ x, e = .returned x ∧ Nb w w' x (n * m) (L + M) ∧ Below wr.heap.size wr w' := by
  obtain ⟨ao, la, ca, xs, rfl, h1, rfl, h3, h4⟩ := h
  obtain ⟨bo, lb, cb, ys, rfl, g1, rfl, g3, g4⟩ := h'
  refine (sMul_any ao bo la ca lb cb xs ys wr h1 g1 (by omega) (by omega)).mono ?_
  rintro e w' ⟨x, rfl, hx⟩
  exact ⟨x, rfl, (hx.base h4).wide (by omega), hx.below⟩
theorem sAdd_nb {w wr : World} {v : Value} {n : Int} (bit : Nat) (h : Nb w wr v n 3) (hbit : bit ≤ 40) (hm : n % 2 ^ (bit + 1) = 0) :
    Calls Try.prog 77 #[v, .int .i64 bit] wr fun e w' => ∃ x, e = .returned x ∧ Nb w w' x (n + 2 ^ bit) 3 ∧ Below wr.heap.size wr w' := by
  obtain ⟨ao, la, ca, xs, rfl, h1, rfl, h3, h4⟩ := h
  refine (sAdd_any ao la ca xs bit wr h1 hbit h3 hm).mono ?_
  rintro e w' ⟨x, rfl, hx⟩
  exact ⟨x, rfl, hx.base h4, hx.below⟩
theorem sCmp_nb {w wr : World} {v u : Value} {n m : Int} {L M : Nat} (h : Nb w wr v n L) (h' : Nb w wr u m M) (hL : L ≤ 1000) (hM : M ≤ 1000) :
    Calls Try.prog 79 #[v, u] wr fun e w' => e = .returned (.int .i64 (cmpI n m)) ∧ w' = wr := by
  obtain ⟨ao, la, ca, xs, rfl, h1, rfl, h3, h4⟩ := h
  obtain ⟨bo, lb, cb, ys, rfl, g1, rfl, g3, g4⟩ := h'
  exact sCmp_any ao bo la ca lb cb xs ys wr h1 g1 (by omega) (by omega)

/-- The two lowest digits, put together. -/
theorem low_two (xs : List Int) (hd : Dg D16 xs) : xs.getD 1 0 * 65536 + xs.getD 0 0 = val D16 xs % 4294967296 := by
  match xs, hd with
  | [], _ => simp [val]
  | [x], hd => have := hd x (by simp); have hD : D16 = 65536 := rfl; rw [hD] at this; simp [val]; omega
  | x :: y :: l, hd =>
    have hx := hd x (by simp)
    have hy := hd y (by simp)
    have hD : D16 = 65536 := rfl
    rw [hD] at hx hy
    simp only [val, hD, List.getD, List.getElem?_cons_succ, List.getElem?_cons_zero, Option.getD_some]
    omega

theorem cmpI_le (a b : Int) : cmpI a b ≤ 0 ↔ a ≤ b := by
  unfold cmpI
  split
  · omega
  · split <;> omega

set_option maxHeartbeats 4000000 in
/-- the document's root. -/
theorem sRoot_any (p : Int) (t : Nat) (w : World) (hp0 : 0 ≤ p) (hp1 : p < 65536) (ht1 : 1 ≤ t) (ht : t ≤ 3) :
    Calls Try.prog 68 #[.int .i64 p, .int .i64 t] w fun e w' => e = .returned (.int .u32 (rtAt p t 41 % 4294967296)) ∧ Below w.heap.size w w' := by
  go_enter Try.func68, Try.ntmps68
  go_wp2
  go_loopw [5, 6] (fun vx vb wr => ∃ (i : Nat), i ≤ 41 ∧ vb = .int .i64 (40 - (i : Int)) ∧ Nb w wr vx (rtAt p t i) 3) (fun _ vb _ => (intOf vb + 1).toNat)
  case atStart => exact ⟨0, by omega, rfl, some ⟨w.heap.size, 0, none⟩, 0, 0, [], rfl, ⟨Lies.empty _ _ _, Nat.le_refl _, by simp [maxLen], (fun h => by cases h), Dg.nil _, by omega⟩, rfl, by omega, below_alloc w _⟩
  case round =>
    obtain ⟨i, hi, rfl, hx⟩ := hrel
    by_cases hlt : i < 41
    · obtain ⟨bit, hbit⟩ : ∃ bit, 40 - i = bit := ⟨_, rfl⟩
      have hbI : (40 : Int) - (i : Int) = (bit : Int) := by omega
      have hb40 : bit ≤ 40 := by omega
      have hmul := rtAt_mult p t i hi
      rw [show 41 - i = bit + 1 by omega] at hmul
      have HNX : Hid (rtAt p t (i + 1) = if (rtAt p t i + 2 ^ bit) ^ t ≤ p * D16 ^ (2 * t) then rtAt p t i + 2 ^ bit else rtAt p t i) := by unfold Hid; rw [← hbit]; rfl
      have HA := sAdd_nb bit hx hb40 hmul
      have HX : Hid (Nb w wr u5 (rtAt p t i) 3) := hx
      generalize rtAt p t i = X at *
      clear hmul hx hbit
      rw [hbI]
      go_wp2_with fail
      refine HA.mono ?_
      rintro e w1 ⟨vy, rfl, hy, hb1⟩
      have HY : Hid (Nb w w1 vy (X + 2 ^ bit) 3 ∧ Nb w w1 u5 X 3) := ⟨hy, HX.out.more hb1⟩
      clear HA HX hy hb1
      go_wp2
      go_loopw [8, 9] (fun vz vi wr => ∃ (j : Nat), 1 ≤ j ∧ j ≤ t ∧ vi = .int .i64 j ∧ Nb w wr vz ((X + 2 ^ bit) ^ j) (3 * j) ∧ Nb w wr vy (X + 2 ^ bit) 3 ∧ Nb w wr u5 X 3) (fun _ vi _ => t - (intOf vi).toNat)
      case atStart => exact ⟨1, by omega, ht1, rfl, by rw [Int.pow_one]; exact HY.out.1, HY.out⟩
      case round =>
        obtain ⟨j, hj1, hjt, rfl, hz, hy, hx⟩ := hrel
        clear HY
        by_cases hjl : j < t
        · have HM := sMul_nb hz hy (by omega) (by omega)
          have HK : Hid (Nb w wr vy (X + 2 ^ bit) 3 ∧ Nb w wr u5 X 3) := ⟨hy, hx⟩
          have HE : Hid ((X + 2 ^ bit) ^ j * (X + 2 ^ bit) = (X + 2 ^ bit) ^ (j + 1)) := (Int.pow_succ _ _).symm
          rw [HE.out] at HM
          clear hz hy hx
          go_wp2_with (go_at_call 78; refine HM.mono ?_; rintro e w2 ⟨v2, rfl, hv2, hb2⟩)
          go_roundw
          case rel => exact ⟨j + 1, by omega, by omega, by go_num, hv2.wide (by omega), HK.out.1.more hb2, HK.out.2.more hb2⟩
          case measure => simp [intOf] <;> omega
        · obtain rfl : j = t := by omega
          have HSH := sShifted_any p (2 * j) wr hp0 hp1 (by omega)
          obtain ⟨m, hm⟩ : ∃ m, 16 * (2 * j) = m := ⟨_, rfl⟩
          rw [hm] at HSH
          have hmI : 32 * (j : Int) = (m : Int) := by omega
          have HZ : Hid (Nb w wr u8 ((X + 2 ^ bit) ^ j) (3 * j) ∧ Nb w wr vy (X + 2 ^ bit) 3 ∧ Nb w wr u5 X 3) := ⟨hz, hy, hx⟩
          clear hz hy hx hm
          go_wp2_with fail
          refine HSH.mono ?_
          rintro e w2 ⟨vs, rfl, hs⟩
          have hb2 := hs.below
          have HC := sCmp_nb (HZ.out.1.more hb2) (hs.base HZ.out.1.below) (by omega) (by omega)
          have HW2 : Hid (Nb w w2 vy (X + 2 ^ bit) 3 ∧ Nb w w2 u5 X 3) := ⟨HZ.out.2.1.more hb2, HZ.out.2.2.more hb2⟩
          clear HSH HZ hs hb2
          by_cases hle : (X + 2 ^ bit) ^ j ≤ p * D16 ^ (2 * j)
          · rw [if_pos hle] at HNX
            have hcc := (cmpI_le ((X + 2 ^ bit) ^ j) (p * D16 ^ (2 * j))).2 hle
            generalize cmpI ((X + 2 ^ bit) ^ j) (p * D16 ^ (2 * j)) = cc at *
            clear hle
            go_wp2_with (go_at_call 79; refine HC.mono ?_; rintro e w3 ⟨rfl, rfl⟩)
            go_roundw
            case rel => exact ⟨i + 1, by omega, int_eq' (by omega), by rw [HNX.out]; exact HW2.out.1⟩
            case measure => simp [intOf] <;> omega
          · rw [if_neg hle] at HNX
            have hcc : ¬ cmpI ((X + 2 ^ bit) ^ j) (p * D16 ^ (2 * j)) ≤ 0 := fun h => hle ((cmpI_le _ _).1 h)
            generalize cmpI ((X + 2 ^ bit) ^ j) (p * D16 ^ (2 * j)) = cc at *
            clear hle
            go_wp2_with (go_at_call 79; refine HC.mono ?_; rintro e w3 ⟨rfl, rfl⟩)
            go_roundw
            case rel => exact ⟨i + 1, by omega, int_eq' (by omega), by rw [HNX.out]; exact HW2.out.2⟩
            case measure => simp [intOf] <;> omega
    · have hge : ¬ ((0 : Int) ≤ 40 - (i : Int)) := by omega
      have HI : Hid (i = 41) := by unfold Hid; omega
      obtain ⟨ao, len, cap, xs, rfl, hnum, hv, hl3, hb⟩ := hx
      have hlen := hnum.len
      have HF : Hid (rtAt p t 41 % 4294967296 = xs.getD 1 0 * 65536 + xs.getD 0 0 ∧ NumIn .i64 D16 wr ao len cap xs ∧ Below w.heap.size w wr) := ⟨by rw [low_two xs hnum.dg, hv, HI.out], hnum, hb⟩
      have g0 := hnum.dg.getD D16_pos 0
      have g1 := hnum.dg.getD D16_pos 1
      have hD : D16 = 65536 := rfl
      rw [hD] at g0 g1
      clear hv hnum hb hD
      go_wp2
      go_loop [10, 11] (fun vo vi => ∃ (j : Nat), j ≤ 2 ∧ vi = .int .i64 (1 - (j : Int)) ∧ vo = .int .u32 (if j = 0 then 0 else if j = 1 then xs.getD 1 0 else xs.getD 1 0 * 65536 + xs.getD 0 0)) (fun _ vi => (intOf vi + 1).toNat)
      case atStart => exact ⟨0, by omega, rfl, rfl⟩
      case round =>
        obtain ⟨j, hj, rfl, rfl⟩ := hrel
        have : j = 0 ∨ j = 1 ∨ j = 2 := by omega
        rcases this with rfl | rfl | rfl
        · simp only [if_true]
          by_cases h1 : 1 < len
          · obtain ⟨b, off, rfl, _, hcs⟩ := HF.out.2.1.lies.at (by omega)
            have hc := hcs 1 h1
            have h1I : (1 : Int) < (len : Int) := by omega
            generalize xs.getD 1 0 = x1 at *
            clear hcs
            go_wp2
            exact ⟨⟨1, by omega, rfl, rfl⟩, by simp [intOf]⟩
          · have h0 := getD_over xs 1 (by omega)
            have h1I : ¬ (1 : Int) < (len : Int) := by omega
            generalize xs.getD 1 0 = x1 at *
            subst h0
            go_wp2
            exact ⟨⟨1, by omega, rfl, rfl⟩, by simp [intOf]⟩
        · simp only [Nat.one_ne_zero, if_false, if_true]
          by_cases h1 : 0 < len
          · obtain ⟨b, off, rfl, _, hcs⟩ := HF.out.2.1.lies.at (by omega)
            have hc := hcs 0 h1
            rw [Nat.add_zero] at hc
            have h1I : (0 : Int) < (len : Int) := by omega
            have hw1 : (xs.getD 1 0 * 65536 + xs.getD 0 0) % 4294967296 = xs.getD 1 0 * 65536 + xs.getD 0 0 := by omega
            have HW1 : Hid ((xs.getD 1 0 * 65536 + xs.getD 0 0) % 4294967296 = xs.getD 1 0 * 65536 + xs.getD 0 0) := hw1
            generalize xs.getD 1 0 = x1 at *
            generalize xs.getD 0 0 = x0 at *
            clear hcs hw1
            go_wp2
            exact ⟨⟨2, by omega, rfl, int_eq' (by simp)⟩, by simp [intOf]⟩
          · have h0 := getD_over xs 0 (by omega)
            have h1I : ¬ (0 : Int) < (len : Int) := by omega
            generalize xs.getD 1 0 = x1 at *
            generalize xs.getD 0 0 = x0 at *
            subst h0
            go_wp2
            exact ⟨⟨2, by omega, rfl, int_eq' (by simp)⟩, by simp [intOf]⟩
        · have HE : Hid ((if (2 : Nat) = 0 then (0 : Int) else if (2 : Nat) = 1 then xs.getD 1 0 else xs.getD 1 0 * 65536 + xs.getD 0 0) = rtAt p t 41 % 4294967296) := by unfold Hid; rw [HF.out.1]; rfl
          rw [HE.out]
          obtain ⟨R, hR⟩ : ∃ R, rtAt p t 41 % 4294967296 = R := ⟨_, rfl⟩
          rw [hR]
          have HRR : Hid (rtAt p t 41 % 4294967296 = R) := hR
          clear hR HE
          go_wp2
          go_ret
          exact ⟨by rw [HRR.out]; rfl, HF.out.2.2⟩
end Go.Proofs.Ytnacgkkklmlhaaa
/-
  Contracts of the document's primes and Words.
-/
namespace Go.Proofs.Ytnacgkkklmlhaaa
open Go.RowKit
set_option linter.unusedVariables false
set_option linter.unusedSimpArgs false

theorem Try.infoI' : (Try.prog.info? 3).map (fun i => (i.zero, i.size, i.bytes)) = some (some (.int .i64 0), 1, 8) := by kernel_rfl
set_option maxHeartbeats 2000000 in
/-- the document's primes. -/
theorem rprimes_any (c N : Nat) (w : World) (hc : c ≤ 64) (hN1 : (pl N).length = c) (hN2 : ∀ n, 2 ≤ n → n < N → (pl n).length < c) (hN3 : 2 ≤ N) (hN4 : N ≤ 1000) :
    Calls Try.prog 67 #[.int .i64 c] w fun e w' => ∃ ao cap, e = .returned (.slice ao c cap) ∧ Lies .i64 w' ao c (plI N) ∧ Below w.heap.size w w' ∧ c ≤ cap := by
  have HN1 : Hid ((pl N).length = c) := hN1
  have HN2 : Hid (∀ n, 2 ≤ n → n < N → (pl n).length < c) := hN2
  clear hN1 hN2
  go_enter Try.func67, Try.ntmps67
  go_wp2
  go_loopw [3, 4] (fun vf vn wr => ∃ (n : Nat), 2 ≤ n ∧ n ≤ N ∧ vn = .int .i64 n ∧ Own 3 .i64 wr w.heap.size vf (plI n) ∧ Below w.heap.size w wr) (fun _ vn _ => N - (intOf vn).toNat)
  case atStart => exact ⟨2, by omega, by omega, rfl, Own.nil _ _ _ _, Below.refl _ _⟩
  case round =>
    obtain ⟨n, h2n, hnN, rfl, hown, hb⟩ := hrel
    have hlen : (pl n).length ≤ 64 := by
      by_cases h : n < N
      · have := HN2.out n h2n h; omega
      · have := HN1.out; rw [show n = N by omega]; omega
    obtain ⟨ao, cap, rfl, hnum⟩ := hown.num (B := 18446744073709551616) (fun x hx => by
      obtain ⟨y, hy, rfl⟩ := List.mem_map.1 hx
      have := pl_small n y hy
      omega) (by rw [plI_length]; omega)
    have HL : Hid (Lies .i64 wr ao (plI n).length (plI n)) := hnum.lies
    have hcp := hnum.lc
    obtain ⟨L, hL⟩ : ∃ L, (plI n).length = L := ⟨_, rfl⟩
    rw [hL] at hown HL hcp ⊢
    rw [plI_length] at hL
    have HLL : Hid ((pl n).length = L) := hL
    rw [hL] at hlen
    have HO : Hid (Own 3 .i64 wr w.heap.size (.slice ao L cap) (plI n) ∧ Below w.heap.size w wr) := ⟨hown, hb⟩
    clear hown hb hL hnum
    by_cases hlt : n < N
    · have hLc : L < c := by have := HN2.out n h2n hlt; have := HLL.out; omega
      have hltI : ((L : Int) < (c : Int)) := by omega
      go_wp2
      go_loop [5, 6] (fun vs vk => ∃ (j : Nat) (s : Bool), j ≤ L ∧ vk = .int .i64 j ∧ vs = .bool s ∧ (s = true ↔ ∀ i, i < j → n % (pl n).getD i 0 ≠ 0)) (fun _ vk => L - (intOf vk).toNat)
      case atStart => exact ⟨0, true, by omega, rfl, rfl, by simp⟩
      case round =>
        obtain ⟨j, s, hj, rfl, rfl, hs⟩ := hrel
        have HS : Hid (s = true ↔ ∀ i, i < j → n % (pl n).getD i 0 ≠ 0) := hs
        clear hs
        by_cases hjl : j < L
        · have hjI : ((j : Int) < (L : Int)) := by omega
          obtain ⟨b, off, rfl, hblk, hcs⟩ := HL.out.at (by omega)
          have hcl := hcs j (by omega)
          rw [plI_get n j (by have := HLL.out; omega)] at hcl
          have hpb := pl_get n j (by have := HLL.out; omega)
          obtain ⟨q, hq⟩ : ∃ q, (pl n).getD j 0 = q := ⟨_, rfl⟩
          rw [hq] at hcl hpb
          have HQ : Hid ((pl n).getD j 0 = q) := hq
          have hq0 : ¬ ((q : Int) = 0) := by omega
          clear hcs hq
          have HNEXT : Hid (∀ s2 : Bool, (s2 = true ↔ s = true ∧ n % q ≠ 0) → (s2 = true ↔ ∀ i, i < j + 1 → n % (pl n).getD i 0 ≠ 0)) := fun s2 h2 => by
            rw [h2, HS.out]
            constructor
            · rintro ⟨h3, h4⟩ i hi
              by_cases e : i = j
              · rw [e, HQ.out]; exact h4
              · exact h3 i (by omega)
            · intro h3
              exact ⟨fun i hi => h3 i (by omega), by have := h3 j (by omega); rw [HQ.out] at this; exact this⟩
          cases s with
          | false =>
            go_wp2
            go_round
            case rel => exact ⟨j + 1, false, by omega, by go_num, rfl, HNEXT.out false (by simp)⟩
            case measure => simp [intOf] <;> omega
          | true =>
            by_cases hz : n % q = 0
            · have HZ : Hid (n % q = 0) := hz
              have hzI : ((n : Int) % (q : Int)) = 0 := by omega
              clear hz
              go_wp2
              go_round
              case rel => exact ⟨j + 1, false, by omega, by go_num, rfl, HNEXT.out false (by simp [HZ.out])⟩
              case measure => simp [intOf] <;> omega
            · have HZ : Hid (n % q ≠ 0) := hz
              have hzI : ¬ ((n : Int) % (q : Int)) = 0 := by omega
              clear hz
              go_wp2
              go_round
              case rel => exact ⟨j + 1, true, by omega, by go_num, by rw [show ((n : Int) % (q : Int) != 0) = true from by simpa using hzI], HNEXT.out true (by simp [HZ.out])⟩
              case measure => simp [intOf] <;> omega
        · have hjI : ¬ ((j : Int) < (L : Int)) := by omega
          cases s with
          | true =>
            have HY : Hid (plI (n + 1) = plI n ++ [(n : Int)] ∧ (plI n).length < 1073741824) := by
              refine ⟨?_, by rw [plI_length]; have := HLL.out; omega⟩
              unfold plI
              rw [pl_yes n h2n (fun i hi => HS.out.1 rfl i (by have := HLL.out; omega))]
              simp
            go_wp2_with (at_builtin; refine wpList_append_one rfl _ _ 40 rfl 3 .i64 8 Try.underlying40 Try.infoI' w.heap.size (.slice ao L cap) (plI n) (n : Int) (by rfl) HO.out.1 (by rfl) HY.out.2 (by decide) w HO.out.2 HO.out.2.size ?_; intro v' w' hown' hb')
            go_roundw
            case rel => exact ⟨n + 1, by omega, by omega, by go_num, by rw [HY.out.1]; exact hown', hb'⟩
            case measure => simp [intOf] <;> omega
          | false =>
            have HY : Hid (plI (n + 1) = plI n) := by
              unfold Hid plI
              by_cases h : ∃ i, i < (pl n).length ∧ n % (pl n).getD i 0 = 0
              · obtain ⟨i, hi, h0⟩ := h
                rw [pl_no n i hi h0]
              · exfalso
                have := HS.out.2 (fun i hi h0 => h ⟨i, by have := HLL.out; omega, h0⟩)
                cases this
            go_wp2
            go_roundw
            case rel => exact ⟨n + 1, by omega, by omega, by go_num, by rw [HY.out]; exact HO.out.1, HO.out.2⟩
            case measure => simp [intOf] <;> omega
    · have hLc : L = c := by have := HN1.out; have := HLL.out; rw [show n = N by omega] at this; omega
      have HNN : Hid (n = N) := by unfold Hid; omega
      clear HN1 HN2
      have hltI : ¬ ((L : Int) < (c : Int)) := by omega
      go_wp2
      go_ret
      have e := HNN.out
      subst e
      subst hLc
      exact ⟨ao, cap, rfl, HL.out, HO.out.2, hcp⟩

/-- A slice of the call's own, at a known block. -/
structure OwnAt (e : TypeId) (k : IntKind) (w : World) (g cap : Nat) (xs : List Int) : Prop where
  blk : ∃ cur : Array Value, w.heap[g]? = some (.cells cur e (0, 0)) ∧ cur.toList.take xs.length = xs.map (Value.int k) ∧ cur.size = cap
  lc : xs.length ≤ cap
  cm : cap ≤ maxLen
theorem OwnAt.lt {e : TypeId} {k : IntKind} {w : World} {g cap : Nat} {xs : List Int} (h : OwnAt e k w g cap xs) : g < w.heap.size := by
  obtain ⟨cur, h1, _⟩ := h.blk
  exact (Array.getElem?_eq_some_iff.1 h1).1
theorem OwnAt.kept {e : TypeId} {k : IntKind} {w w' : World} {g cap : Nat} {xs : List Int} (h : OwnAt e k w g cap xs) (hk : w'.heap[g]? = w.heap[g]?) : OwnAt e k w' g cap xs := ⟨by rw [hk]; exact h.blk, h.lc, h.cm⟩
theorem OwnAt.below {e : TypeId} {k : IntKind} {w w' : World} {g cap B : Nat} {xs : List Int} (h : OwnAt e k w g cap xs) (hb : Below B w w') (hg : g < B) : OwnAt e k w' g cap xs := h.kept (hb.block g hg)
theorem OwnAt.cell {e : TypeId} {k : IntKind} {w : World} {g cap : Nat} {xs : List Int} (h : OwnAt e k w g cap xs) (j : Nat) (hj : j < xs.length) : w.cell? ⟨g, j, none⟩ = some (.int k (xs.getD j 0)) := by
  obtain ⟨cur, h1, h2, h3⟩ := h.blk
  rw [cell_of_row w g j cur e (0, 0) h1]
  have : (cur.toList.take xs.length)[j]? = (xs.map (Value.int k))[j]? := by rw [h2]
  rw [List.getElem?_take, if_pos hj] at this
  rw [← Array.getElem?_toList, this]
  simp [List.getD, hj]
theorem OwnAt.frozen {e : TypeId} {k : IntKind} {w : World} {g cap : Nat} {xs : List Int} (h : OwnAt e k w g cap xs) (j : Nat) : w.frozen? ⟨g, j, none⟩ = false := by
  obtain ⟨cur, h1, _⟩ := h.blk
  exact frozen_of_row w g j cur e h1
theorem OwnAt.lies {e : TypeId} {k : IntKind} {w : World} {g cap : Nat} {xs : List Int} (h : OwnAt e k w g cap xs) {n : Nat} (hn : xs.length = n) : Lies k w (some ⟨g, 0, none⟩) n xs :=
  ⟨hn, .inr ⟨g, 0, rfl, h.lt, fun i hi => by rw [Nat.zero_add]; exact h.cell i (by omega)⟩⟩
theorem OwnAt.set {e : TypeId} {k : IntKind} {w : World} {g cap : Nat} {xs : List Int} (h : OwnAt e k w g cap xs) (j : Nat) (hj : j < xs.length) (y : Int) : OwnAt e k (w.setCell ⟨g, j, none⟩ (.int k y)) g cap (xs.set j y) := by
  obtain ⟨cur, h1, h2, h3⟩ := h.blk
  refine ⟨⟨cur.setIfInBounds j (.int k y), heap_setCell_same w g j cur e _ h1, ?_, by simpa using h3⟩, by simpa using h.lc, h.cm⟩
  rw [List.length_set, Array.toList_setIfInBounds, List.take_set, h2, List.map_set]
theorem Own.at {e : TypeId} {k : IntKind} {w : World} {base : Nat} {v : Value} {xs : List Int} (h : Own e k w base v xs) (hx : 0 < xs.length) : ∃ g cap, v = .slice (some ⟨g, 0, none⟩) xs.length cap ∧ OwnAt e k w g cap xs ∧ base ≤ g := by
  rcases h.2 with ⟨rfl, h0⟩ | ⟨g, cap, cur, rfl, hg, hrow, h1, h2, h3, h4⟩
  · omega
  · exact ⟨g, cap, rfl, ⟨⟨cur, hrow, by simpa using h4, by simpa using h3⟩, h1, h2⟩, hg⟩

def g2 (p : Int) : Int := rtAt p 2 41 % 4294967296
def g3 (p : Int) : Int := rtAt p 3 41 % 4294967296
theorem K_ref' : ((plI 312).take 64).map g3 = KS := by decide +kernel
theorem H_ref' : ((plI 312).take 8).map g2 = HS := by decide +kernel
theorem take_map_succ (l : List Int) (g : Int → Int) (i : Nat) (h : i < l.length) : (l.take (i + 1)).map g = (l.take i).map g ++ [g (l.getD i 0)] := by
  rw [List.take_succ_eq_append_getElem h, List.map_append]
  have : l.getD i 0 = l[i] := by simp [List.getD, h]
  rw [this]
  rfl

set_option maxRecDepth 100000 in
set_option maxHeartbeats 2000000 in
/-- the document's Words. -/
theorem Words_any (w : World) : Calls Try.prog 57 #[] w fun e w' => ∃ gh ch gk ck, e = .returned (.tuple #[.slice (some ⟨gh, 0, none⟩) 8 ch, .slice (some ⟨gk, 0, none⟩) 64 ck]) ∧ OwnAt 108 .u32 w' gh ch HS ∧ OwnAt 108 .u32 w' gk ck KS ∧ gh ≠ gk ∧ w.heap.size ≤ gh ∧ w.heap.size ≤ gk ∧ Below w.heap.size w w' := by
  have HP := rprimes_any 64 312 w (by omega) pl312 (fun n _ h => by have := pl_mono (show n ≤ 311 by omega); rw [pl311] at this; omega) (by omega) (by omega)
  have HT : Hid (((plI 312).take 64).map g3 = KS ∧ ((plI 312).take 8).map g2 = HS ∧ (plI 312).length = 64 ∧ ∀ j, 0 ≤ (plI 312).getD j 0 ∧ (plI 312).getD j 0 < 65536) := by
    refine ⟨K_ref', H_ref', by rw [plI_length]; exact pl312, fun j => ?_⟩
    by_cases h : j < (pl 312).length
    · rw [plI_get _ _ h]; have := pl_get 312 j h; omega
    · rw [getD_over _ _ (by rw [plI_length]; omega)]; omega
  generalize plI 312 = l at *
  go_enter Try.func57, Try.ntmps57
  go_wp2_with fail
  refine HP.mono ?_
  rintro e w1 ⟨ao, cap, rfl, hlies, hb1, hcap⟩
  obtain ⟨b, off, rfl, hblk, _⟩ := hlies.at (by omega)
  have HL : Hid (Lies .i64 w1 (some ⟨b, off, none⟩) 64 l ∧ Below w.heap.size w w1 ∧ b < w1.heap.size) := ⟨hlies, hb1, hblk⟩
  clear hlies hb1 HP
  go_wp2
  go_loopw [3, 5] (fun vh vi wr => ∃ (i : Nat), i ≤ 8 ∧ vi = .int .i64 i ∧ Own 108 .u32 wr w1.heap.size vh ((l.take i).map g2) ∧ Below w1.heap.size w1 wr) (fun _ vi _ => 8 - (intOf vi).toNat)
  case atStart => exact ⟨0, by omega, rfl, Own.nil _ _ _ _, Below.refl _ _⟩
  case round =>
    obtain ⟨i, hi, rfl, hown, hb⟩ := hrel
    by_cases hlt : i < 8
    · have hc : wr.cell? ⟨b, off + i, none⟩ = some (.int .i64 (l.getD i 0)) := by
        obtain ⟨b', off', e, _, hcs⟩ := (HL.out.1.old hb).at (by omega)
        cases e
        exact hcs i (by omega)
      have HR := fun w => sRoot_any (l.getD i 0) 2 w (HT.out.2.2.2 i).1 (HT.out.2.2.2 i).2 (by omega) (by omega)
      have HE : Hid ((l.take (i + 1)).map g2 = (l.take i).map g2 ++ [rtAt (l.getD i 0) 2 41 % 4294967296] ∧ ((l.take i).map g2).length < 1073741824) := ⟨take_map_succ l g2 i (by have := HT.out; omega), by simp; omega⟩
      have HO : Hid (Own 108 .u32 wr w1.heap.size u3 ((l.take i).map g2) ∧ Below w1.heap.size w1 wr) := ⟨hown, hb⟩
      generalize rtAt (l.getD i 0) 2 41 % 4294967296 = y at *
      generalize l.getD i 0 = p at *
      generalize (l.take i).map g2 = xs at *
      clear hown hb
      go_wp2_with fail
      refine (HR _).mono ?_
      rintro e w2 ⟨rfl, hb2⟩
      have HO2 : Hid (Own 108 .u32 w2 w1.heap.size u3 xs ∧ Below w1.heap.size w1 w2) := ⟨HO.out.1.below hb2, HO.out.2.trans (hb2.mono HO.out.2.size)⟩
      clear HO hb2 hc HR
      go_wp2_with (at_builtin; refine wpList_append_one rfl _ _ 105 rfl 108 .u32 4 Try.underlying105 Try.infoW w1.heap.size u3 xs y (by rfl) HO2.out.1 (by rfl) HE.out.2 (by decide) w1 HO2.out.2 HO2.out.2.size ?_; intro v' w' hown' hb')
      go_roundw
      case rel => exact ⟨i + 1, by omega, by go_num, by rw [HE.out.1]; exact hown', hb'⟩
      case measure => simp [intOf] <;> omega
    · have hown8 : Own 108 .u32 wr w1.heap.size u3 HS := by
        have := hown
        rw [show i = 8 by omega, HT.out.2.1] at this
        exact this
      obtain ⟨gh, ch, rfl, hat, hgh⟩ := hown8.at (by decide)
      have HW2 : Hid (OwnAt 108 .u32 wr gh ch HS ∧ w1.heap.size ≤ gh ∧ Below w1.heap.size w1 wr) := ⟨hat, hgh, hb⟩
      clear hown hown8 hat hgh hb
      generalize hw2 : wr = w2 at *
      clear hw2
      have hlenH : HS.length = 8 := rfl
      rw [hlenH]
      go_wp2
      go_loopw [4, 6] (fun vh vi wr => ∃ (i : Nat), i ≤ 64 ∧ vi = .int .i64 i ∧ Own 108 .u32 wr w2.heap.size vh ((l.take i).map g3) ∧ Below w2.heap.size w2 wr) (fun _ vi _ => 64 - (intOf vi).toNat)
      case atStart => exact ⟨0, by omega, rfl, Own.nil _ _ _ _, Below.refl _ _⟩
      case round =>
        obtain ⟨i, hi, rfl, hown, hb⟩ := hrel
        by_cases hlt : i < 64
        · have hc : wr.cell? ⟨b, off + i, none⟩ = some (.int .i64 (l.getD i 0)) := by
            obtain ⟨b', off', e, _, hcs⟩ := ((HL.out.1.old HW2.out.2.2).old hb).at (by omega)
            cases e
            exact hcs i (by omega)
          have HR := fun w => sRoot_any (l.getD i 0) 3 w (HT.out.2.2.2 i).1 (HT.out.2.2.2 i).2 (by omega) (by omega)
          have HE : Hid ((l.take (i + 1)).map g3 = (l.take i).map g3 ++ [rtAt (l.getD i 0) 3 41 % 4294967296] ∧ ((l.take i).map g3).length < 1073741824) := ⟨take_map_succ l g3 i (by have := HT.out; omega), by simp; omega⟩
          have HO : Hid (Own 108 .u32 wr w2.heap.size u4 ((l.take i).map g3) ∧ Below w2.heap.size w2 wr) := ⟨hown, hb⟩
          generalize rtAt (l.getD i 0) 3 41 % 4294967296 = y at *
          generalize l.getD i 0 = p at *
          generalize (l.take i).map g3 = xs at *
          clear hown hb
          go_wp2_with fail
          refine (HR _).mono ?_
          rintro e w3 ⟨rfl, hb3⟩
          have HO2 : Hid (Own 108 .u32 w3 w2.heap.size u4 xs ∧ Below w2.heap.size w2 w3) := ⟨HO.out.1.below hb3, HO.out.2.trans (hb3.mono HO.out.2.size)⟩
          clear HO hb3 hc HR
          go_wp2_with (at_builtin; refine wpList_append_one rfl _ _ 105 rfl 108 .u32 4 Try.underlying105 Try.infoW w2.heap.size u4 xs y (by rfl) HO2.out.1 (by rfl) HE.out.2 (by decide) w2 HO2.out.2 HO2.out.2.size ?_; intro v' w' hown' hb')
          go_roundw
          case rel => exact ⟨i + 1, by omega, by go_num, by rw [HE.out.1]; exact hown', hb'⟩
          case measure => simp [intOf] <;> omega
        · have hown8 : Own 108 .u32 wr w2.heap.size u4 KS := by
            have := hown
            rw [show i = 64 by omega, HT.out.1] at this
            exact this
          obtain ⟨gk, ck, rfl, hat, hgk⟩ := hown8.at (by decide)
          have hlenK : KS.length = 64 := rfl
          rw [hlenK]
          have HF : Hid (OwnAt 108 .u32 wr gh ch HS ∧ OwnAt 108 .u32 wr gk ck KS ∧ gh ≠ gk ∧ w.heap.size ≤ gh ∧ w.heap.size ≤ gk ∧ Below w.heap.size w wr) := by
            obtain ⟨a1, a2, a3⟩ := HW2.out
            have hlt2 := a1.lt
            have hs1 := HL.out.2.1.size
            have hs2 := a3.size
            exact ⟨a1.below hb hlt2, hat, by omega, by omega, by omega, HL.out.2.1.trans ((a3.mono hs1).trans (hb.mono (by omega)))⟩
          clear hown hown8 hat hb HW2
          go_wp2
          go_ret2
          exact ⟨gh, ch, gk, ck, rfl, HF.out⟩
end Go.Proofs.Ytnacgkkklmlhaaa
