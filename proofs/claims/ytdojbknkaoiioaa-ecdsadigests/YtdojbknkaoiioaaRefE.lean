/-
  The contract of the document's Div.
-/
import Derived.Test.YtdojbknkaoiioaaRefD
namespace Go.Proofs.Ytdojbknkaoiioaa
open Go.RowKit
set_option linter.unusedVariables false
set_option linter.unusedSimpArgs false

set_option maxHeartbeats 1000000 in
/-- the document's Div, of a divisor that isn't 0. -/
theorem rDiv_any (ao bo : Option Addr) (la ca lb cb : Nat) (xs ys : List Int) (w : World) (h : NumIn .i64 D16 w ao la ca xs) (h' : NumIn .i64 D16 w bo lb cb ys) (hy : Canon ys) (hb0 : 0 < lb) (hla : la ≤ 100000) (hlb : lb ≤ 100000) :
    Calls Try.prog 66 #[.slice ao la ca, .slice bo lb cb] w fun e w' => ∃ vq vr, e = .returned (.tuple #[vq, vr]) ∧ NumOut .i64 D16 w w' vq (val D16 xs / val D16 ys) la ∧ NumOut .i64 D16 w w' vr (val D16 xs % val D16 ys) lb := by
  have hl := h.len
  have hl' := h'.len
  have hYp : 0 < val D16 ys := by
    have a := val_ge D16_pos h'.dg (lb - 1) (by unfold Canon at hy; omega)
    have b : 0 < D16 ^ (lb - 1) := Int.pow_pos D16_pos
    omega
  have HYP : Hid (0 < val D16 ys) := hYp
  clear hYp
  go_enter Try.func66, Try.ntmps66
  go_wp2_with (at_make; refine wpList_make_row _ rfl _ _ 66 rfl 3 .i64 8 Try.underlying66 Try.infoI _ _ _ _ la rfl rfl rfl rfl (by omega) (by unfold maxLen; omega) ?_)
  intro w3 hrow hbel
  have hsz3 : w.heap.size < w3.heap.size := hrow.lt
  go_wp2
  go_loopw [7, 9, 10, 11] (fun vr vi _ _ wr => ∃ (kk : Nat) (q : List Int) (R : Int), kk ≤ la ∧ vi = .int .i64 ((kk : Int) - 1) ∧ Row 3 .i64 wr w.heap.size q ∧ RDivs xs ys kk q R ∧ Rem wr w.heap.size vr R lb ∧ Below w.heap.size w wr) (fun _ vi _ _ _ => (intOf vi + 1).toNat)
  case atStart =>
    have hb4 : Below w3.heap.size w3 (w3.alloc (.cells #[] 3)) := (Below.refl _ _).alloc (Nat.le_refl _) _
    refine ⟨la, List.replicate la 0, 0, Nat.le_refl _, by go_num, hrow.below hb4 hsz3, ⟨by simp [hl], Dg.zeros D16_pos _, fun j _ => getD_zeros _ j, by decide, HYP.out, ?_⟩, ?_, hbel.trans (hb4.mono (by omega))⟩
    · rw [List.drop_of_length_le (by omega), List.drop_of_length_le (by simp)]; simp [val]
    · refine ⟨some ⟨w3.heap.size, 0, none⟩, 0, 0, [], rfl, ⟨Lies.empty _ _ _, Nat.le_refl _, by simp [maxLen], fun h => (by cases h), Dg.nil _, by omega⟩, Canon.nil, rfl, by omega, ?_⟩
      intro b off s e
      injection e with e
      injection e with e
      omega
  case round =>
    obtain ⟨kk, q0, R0, hkk, rfl, hrw0, hd0, ⟨a_r, l_r, c_r, rs, rfl, hr, hcr, hvr, hlr, hfr⟩, hb1⟩ := hrel
    clear hrow hbel hsz3
    by_cases hk0 : kk = 0
    · subst hk0
      have hqR := hd0.done
      have hqlen := hd0.1
      have HQ : Hid (NumIn .i64 D16 wr (some ⟨w.heap.size, 0, none⟩) la la q0) := by have := hrw0.num hd0.2.1 (by omega); rw [hqlen, hl] at this; exact this
      have HV : Hid (val D16 q0 = val D16 xs / val D16 ys) := hqR.1
      have HR : Hid (NumOut .i64 D16 w wr (.slice a_r l_r c_r) (val D16 xs % val D16 ys) lb) := ⟨a_r, l_r, c_r, rs, rfl, hr, hcr, by rw [hvr]; exact hqR.2, hlr, hb1⟩
      have HB : Hid (Below w.heap.size w wr) := hb1
      clear hqR hqlen hd0 hrw0 hr hcr hvr hlr hfr hb1 h h' hy HYP
      go_wp2_with fail
      refine (rtrim_any (some ⟨w.heap.size, 0, none⟩) la la q0 wr HQ.out).mono ?_
      rintro e w4 ⟨rfl, rfl⟩
      go_wp2
      go_ret2
      exact ⟨_, _, rfl, HQ.out.out HB.out _ HV.out _ (Nat.le_refl _), HR.out⟩
    · obtain ⟨i, rfl⟩ : ∃ i, kk = i + 1 := ⟨kk - 1, by omega⟩
      obtain ⟨b, off, rfl, hblk, hcs⟩ := (h.lies.old hb1).at (by omega)
      have hcx := hcs i (by omega)
      have gx := h.dg.getD D16_pos i
      have HEN : Hid (RDivIn xs ys i (xs.getD i 0 + D16 * R0) q0 q0 0 (xs.getD i 0 + D16 * R0)) := hd0.enter h.dg
      have HTOP : Hid (xs.getD i 0 + D16 * R0 < D16 * val D16 ys) := hd0.top h.dg
      have HD0 : Hid (RDivs xs ys (i + 1) q0 R0) := hd0
      have HROW0 : Hid (Row 3 .i64 wr w.heap.size q0) := hrw0
      have HB1 : Hid (Below w.heap.size w wr) := hb1
      have hgs := hrw0.lt
      have hown0 := (row_alloc wr 3 .i64 (xs.getD i 0)).own (base := wr.heap.size) (Nat.le_refl _) (by simp)
      have hba : Below wr.heap.size wr (wr.alloc (.cells #[.int .i64 (xs.getD i 0)] 3)) := (Below.refl _ _).alloc (Nat.le_refl _) _
      have hlr2 := hr.lies.old hba
      have hnn := hr.nn
      have HR : Hid (NumIn .i64 D16 wr a_r l_r c_r rs ∧ val D16 rs = R0) := ⟨hr, hvr⟩
      have HX : Hid (0 ≤ xs.getD i 0 ∧ xs.getD i 0 < D16) := gx
      obtain ⟨T, HT⟩ : ∃ T, Hid (xs.getD i 0 + D16 * R0 = T) := ⟨_, rfl⟩
      rw [HT.out] at HEN HTOP
      have HT2 : Hid (T = xs.getD i 0 + D16 * R0) := HT.out.symm
      have HLV : Hid (∀ q t R, RDivIn xs ys i T q0 q t R → R < val D16 ys → RDivs xs ys i q R) := fun q t R h1 h2 => h1.leave HD0.out (by omega) HT2.out h2
      generalize xs.getD i 0 = x at *
      clear hcs hd0 hrw0 hb1 hr hcr hvr hfr gx HT
      have hbasz := hba.size
      go_wp2_with (at_builtin; refine wpList_append_nums rfl _ _ 66 rfl 3 .i64 8 Try.underlying66 Try.infoI wr.heap.size (.slice (some ⟨wr.heap.size, 0, none⟩) 1 1) [x] (by rfl) hown0 a_r l_r c_r rs (by rfl) hlr2 hnn (by simp; omega) (by decide) wr hba hbasz ?_)
      intro v2 w4 hown hb4 _ _
      replace hown : Own 3 .i64 w4 wr.heap.size v2 (x :: rs) := hown
      have hlen4 : (x :: rs).length = l_r + 1 := by simp [HR.out.1.len]
      have hdg4 : Dg D16 (x :: rs) := Dg.cons HX.out HR.out.1.dg
      obtain ⟨a4, c4, hv4, hnum4⟩ := hown.num hdg4 (by omega)
      subst hv4
      have hfr4 := hown.fresh
      rw [hlen4] at hnum4 ⊢
      have HN4 : Hid (NumIn .i64 D16 w4 a4 (l_r + 1) c4 (x :: rs)) := hnum4
      have HV4 : Hid (val D16 (x :: rs) = T) := by unfold Hid; rw [val_cons, HR.out.2, HT2.out]
      have HREM : Hid (Rem w4 w.heap.size (.slice a4 (top (x :: rs)) c4) T (lb + 1)) := by
        have ht := top_le (x :: rs)
        exact ⟨a4, _, c4, (x :: rs).take (top (x :: rs)), rfl, hnum4.take _ (by omega), canon_take_top _, by rw [val_take_top, HV4.out], by omega, fun b off s e => by have := hfr4 b off s e; omega⟩
      have HROW4 : Hid (Row 3 .i64 w4 w.heap.size q0) := HROW0.out.below hb4 hgs
      have HB4 : Hid (Below w.heap.size w w4) := HB1.out.trans (hb4.mono HB1.out.size)
      clear hown0 hba hlr2 hnn hbasz hown hb4 hlen4 hdg4 hnum4 hfr4 HROW0 HB1 hgs HV4 HR HX
      go_wp2_with fail
      refine (rtrim_any a4 (l_r + 1) c4 (x :: rs) w4 HN4.out).mono ?_
      rintro e w5 ⟨rfl, rfl⟩
      generalize top (x :: rs) = l4 at *
      clear HN4
      go_wp2
      go_loopw [7, 10, 11] (fun vr _ _ wr => ∃ (q : List Int) (t R : Int), Row 3 .i64 wr w.heap.size q ∧ RDivIn xs ys i T q0 q t R ∧ Rem wr w.heap.size vr R (lb + 1) ∧ Below w.heap.size w wr) (fun _ _ _ wr => 65536 - cellNat wr ⟨w.heap.size, i, none⟩)
      case atStart => exact ⟨q0, 0, T, HROW4.out, HEN.out, HREM.out, HB4.out⟩
      case round =>
        obtain ⟨q, t, R, hrw, hin, ⟨a_s, l_s, c_s, rs2, rfl, hr, hcr, hvr, hlr, hfr⟩, hb⟩ := hrel
        clear HROW4 HEN HREM HB4
        have HC := rCmp_any a_s bo l_s c_s lb cb rs2 ys wr hr (h'.old hb) hcr hy (by omega) (by omega)
        have hqlen : q.length = la := by rw [hin.1]; simp [HD0.out.1, hl]
        by_cases hge : val D16 ys ≤ R
        · obtain ⟨m, hm⟩ : ∃ m, lb = m + 1 := ⟨lb - 1, by omega⟩
          have em : (lb : Int) - 1 = (m : Int) := by omega
          have hll : lb ≤ l_s := by
            have h1 := top_mono D16_one h'.dg hr.dg (by omega)
            have h2 := hr.len
            unfold Canon at hy hcr
            omega
          obtain ⟨cv, hcv⟩ : ∃ c, cmpI (val D16 rs2) (val D16 ys) = c := ⟨_, rfl⟩
          have hcv0 : 0 ≤ cv := by
            rw [← hcv, hvr]
            rcases Int.lt_or_eq_of_le hge with h1 | h1
            · rw [cmpI_gt h1]; decide
            · rw [cmpI_eq h1.symm]; decide
          rw [hcv] at HC
          obtain ⟨b2, off2, rfl, hblk2, hcs2⟩ := hr.lies.at (by omega)
          obtain ⟨b3, off3, rfl, hblk3, hcs3⟩ := (h'.lies.old hb).at (by omega)
          have HCS : Hid (∀ j, j < l_s → wr.cell? ⟨b2, off2 + j, none⟩ = some (.int .i64 (rs2.getD j 0))) := hcs2
          have hcy := hcs3 m (by omega)
          have hcr0 := hcs2 m (by omega)
          have HSTEP : Hid (∀ s, 1 ≤ s → s * val D16 ys ≤ R → RDivIn xs ys i T q0 (q.set i (t + s)) (t + s) (R - s * val D16 ys)) := fun s h1 h2 => hin.step HTOP.out HYP.out h1 h2
          have HOK : Hid (∀ s, 0 ≤ s → s * (ys.getD m 0 + 1) ≤ rs2.getD m 0 + 65536 * rs2.getD lb 0 → s * val D16 ys ≤ R) := fun s h1 h2 => by rw [← hvr]; exact times_ok rs2 ys hr.dg h'.dg m (by omega) s h1 (by rw [← hm]; exact h2)
          have gy := h'.dg.getD D16_pos m
          have g0 := hr.dg.getD D16_pos m
          have g1 := hr.dg.getD D16_pos lb
          have y0 := gy.1
          have y1 : ys.getD m 0 < 65536 := gy.2
          have r0 := g0.1
          have r1 : rs2.getD m 0 < 65536 := g0.2
          have s0 := g1.1
          have s1 : rs2.getD lb 0 < 65536 := g1.2
          have HR : Hid (NumIn .i64 D16 wr (some ⟨b2, off2, none⟩) l_s c_s rs2 ∧ Canon rs2 ∧ val D16 rs2 = R) := ⟨hr, hcr, hvr⟩
          have HROW : Hid (Row 3 .i64 wr w.heap.size q) := hrw
          have HB : Hid (Below w.heap.size w wr) := hb
          have HIN : Hid (RDivIn xs ys i T q0 q t R) := hin
          have hout : l_s = lb → rs2.getD lb 0 = 0 := fun e => by have := hr.len; simp [List.getD, List.getElem?_eq_none (show rs2.length ≤ lb by omega)]
          have hcin : lb < l_s → wr.cell? ⟨b2, off2 + lb, none⟩ = some (.int .i64 (rs2.getD lb 0)) := fun e => hcs2 lb e
          have HY : Hid (NumIn .i64 D16 w (some ⟨b3, off3, none⟩) lb cb ys ∧ Canon ys) := ⟨h', hy⟩
          have HFR : Hid (w.heap.size < b2) := hfr b2 off2 none rfl
          have hmlb : (m : Int) < (lb : Int) := by omega
          have hmls : (m : Int) < (l_s : Int) := by omega
          have hlI : (lb : Int) ≤ 100000 := by omega
          clear hcs2 hcs3 hin hr hcr hvr hfr hrw hb hcv gy g0 g1 h h' hy hm hl'
          generalize ys.getD m 0 = y at *
          generalize rs2.getD m 0 = x0 at *
          generalize rs2.getD lb 0 = x1 at *
          go_wp2_with fail
          refine HC.mono ?_
          rintro e w6 ⟨rfl, hdr⟩
          have hcy6 := (hdr.cell _).trans hcy
          have hcr6 := (hdr.cell _).trans hcr0
          clear hcy hcr0
          by_cases hmore : lb < l_s
          · have hc16 := (hdr.cell _).trans (hcin hmore)
            clear hout hcin
            go_wp2_with fail
            clear hc16
            obtain ⟨tm, htm⟩ : ∃ tm, max ((x0 + 65536 * x1) / (y + 1)) 1 = tm := ⟨_, rfl⟩
            have hs0 : 0 ≤ (x0 + 65536 * x1) / (y + 1) := Int.ediv_nonneg (by omega) (by omega)
            have hsmul : (x0 + 65536 * x1) / (y + 1) * (y + 1) ≤ x0 + 65536 * x1 := Int.ediv_mul_le _ (by omega)
            have hsle : (x0 + 65536 * x1) / (y + 1) ≤ x0 + 65536 * x1 := Int.ediv_le_self _ (by omega)
            have htm1 : 1 ≤ tm := by rw [← htm]; exact Int.le_max_right _ _
            have htmR : tm * val D16 ys ≤ R := by
              rcases Int.le_total ((x0 + 65536 * x1) / (y + 1)) 1 with h1 | h1
              · have e : tm = 1 := by rw [← htm]; exact Int.max_eq_right h1
                rw [e, Int.one_mul]; exact hge
              · have e : tm = (x0 + 65536 * x1) / (y + 1) := by rw [← htm]; exact Int.max_eq_left h1
                rw [e]
                exact HOK.out _ hs0 (by omega)
            have htm2 : tm ≤ 4294967296 := by
              rcases Int.le_total ((x0 + 65536 * x1) / (y + 1)) 1 with h1 | h1
              · have e : tm = 1 := by rw [← htm]; exact Int.max_eq_right h1
                omega
              · have e : tm = (x0 + 65536 * x1) / (y + 1) := by rw [← htm]; exact Int.max_eq_left h1
                omega
            rw [htm]
            have HS : Hid (RDivIn xs ys i T q0 (q.set i (t + tm)) (t + tm) (R - tm * val D16 ys)) := HSTEP.out tm htm1 htmR
            have HTR : Hid (tm * val D16 ys ≤ R) := htmR
            clear htm hs0 hsmul hsle HOK HSTEP htmR hge hcr6 hcy6
            refine (rSmall_any tm w6 (by omega) (by omega)).mono ?_
            rintro e w7 ⟨v, rfl, a_m, l_m, c_m, s_m, rfl, n_m, k_m, v_m, b_m, hb7⟩
            have HB7 : Hid (Below wr.heap.size wr w7) := (hdr.below _).trans (by rw [hdr.size] at hb7; exact hb7)
            have HNM : Hid (NumIn .i64 D16 w7 a_m l_m c_m s_m ∧ val D16 s_m = tm) := ⟨n_m, v_m⟩
            clear n_m k_m v_m hb7 hdr
            have HY7 : Hid (NumIn .i64 D16 w7 (some ⟨b3, off3, none⟩) lb cb ys) := HY.out.1.old (HB.out.trans (HB7.out.mono HB.out.size))
            go_wp2_with fail
            refine (rMul_any (some ⟨b3, off3, none⟩) a_m lb cb l_m c_m ys s_m w7 HY7.out HNM.out.1 (by omega) (by omega)).mono ?_
            rintro e w8 ⟨v, rfl, a_p, l_p, c_p, s_p, rfl, n_p, k_p, v_p, b_p, hb8⟩
            have HB8 : Hid (Below wr.heap.size wr w8) := HB7.out.trans (hb8.mono HB7.out.size)
            have HNP : Hid (NumIn .i64 D16 w8 a_p l_p c_p s_p ∧ Canon s_p ∧ val D16 s_p = tm * val D16 ys) := ⟨n_p, k_p, by rw [v_p, HNM.out.2, Int.mul_comm]⟩
            have HR8 : Hid (NumIn .i64 D16 w8 (some ⟨b2, off2, none⟩) l_s c_s rs2) := HR.out.1.old HB8.out
            clear n_p k_p v_p hb8 HNM HY7
            go_wp2_with fail
            refine (rSub_new (some ⟨b2, off2, none⟩) a_p l_s c_s l_p c_p rs2 s_p w8 HR8.out HNP.out.1 HR.out.2.1 HNP.out.2.1 (by rw [HNP.out.2.2, HR.out.2.2]; exact HTR.out) (by omega) (by omega)).mono ?_
            rintro e w9 ⟨v, rfl, a_n, l_n, c_n, s_n, rfl, n_n, k_n, v_n, b_n, hb9, f_n⟩
            have hlt8 : w.heap.size < w8.heap.size := Nat.lt_of_lt_of_le HROW.out.lt HB8.out.size
            have HB9 : Hid (Below wr.heap.size wr w9) := HB8.out.trans (hb9.mono HB8.out.size)
            have hrow9 := HROW.out.below HB9.out HROW.out.lt
            have hqi : q.getD i 0 = t := by
              rw [HIN.out.1, getD_set _ _ _ _ (by have := HD0.out.1; omega), if_pos rfl]
            have hcq := hrow9.cell i (by omega)
            have hfz := hrow9.frozen i
            rw [hqi] at hcq
            have ht0 := HIN.out.2.1
            have ht1 := HIN.out.2.2.1
            have HROW' : Hid (Row 3 .i64 (w9.setCell ⟨w.heap.size, i, none⟩ (.int .i64 (t + tm))) w.heap.size (q.set i (t + tm))) := hrow9.set i (t + tm)
            have HREM' : Hid (Rem (w9.setCell ⟨w.heap.size, i, none⟩ (.int .i64 (t + tm))) w.heap.size (.slice a_n l_n c_n) (R - tm * val D16 ys) (lb + 1)) :=
              ⟨a_n, l_n, c_n, s_n, rfl, n_n.kept (grown_set _ _ _ _) (fun b off s e => by have := f_n b off s e; intro h0; injection h0 with h0; omega), k_n, by rw [v_n, HNP.out.2.2, HR.out.2.2], by omega, fun b off s e => by have := f_n b off s e; omega⟩
            have HB' : Hid (Below w.heap.size w (w9.setCell ⟨w.heap.size, i, none⟩ (.int .i64 (t + tm)))) := (HB.out.trans (HB9.out.mono HB.out.size)).setCell (Nat.le_refl _) _
            have HMS : Hid (65536 - cellNat (w9.setCell ⟨w.heap.size, i, none⟩ (.int .i64 (t + tm))) ⟨w.heap.size, i, none⟩ < 65536 - cellNat wr ⟨w.heap.size, i, none⟩) := by
              unfold Hid
              rw [cellNat_row HROW'.out i (by simp; omega), cellNat_row HROW.out i (by omega), hqi, getD_set _ _ _ _ (by omega), if_pos rfl]
              have := HS.out.2.2.1
              omega
            clear hrow9 hqi n_n k_n v_n f_n hb9 HB9 HB8 HB7 HR8 HNP HR HROW HB HIN HY HD0 HYP HTOP
            go_wp2
            go_roundw
            case rel => exact ⟨_, _, _, HROW'.out, HS.out, HREM'.out, HB'.out⟩
            case measure => exact HMS.out
          · obtain rfl := hout (by omega)
            clear hout hcin s0 s1
            go_wp2_with fail
            obtain ⟨tm, htm⟩ : ∃ tm, max ((x0) / (y + 1)) 1 = tm := ⟨_, rfl⟩
            have hs0 : 0 ≤ (x0) / (y + 1) := Int.ediv_nonneg (by omega) (by omega)
            have hsmul : (x0) / (y + 1) * (y + 1) ≤ x0 := Int.ediv_mul_le _ (by omega)
            have hsle : (x0) / (y + 1) ≤ x0 := Int.ediv_le_self _ (by omega)
            have htm1 : 1 ≤ tm := by rw [← htm]; exact Int.le_max_right _ _
            have htmR : tm * val D16 ys ≤ R := by
              rcases Int.le_total ((x0) / (y + 1)) 1 with h1 | h1
              · have e : tm = 1 := by rw [← htm]; exact Int.max_eq_right h1
                rw [e, Int.one_mul]; exact hge
              · have e : tm = (x0) / (y + 1) := by rw [← htm]; exact Int.max_eq_left h1
                rw [e]
                exact HOK.out _ hs0 (by omega)
            have htm2 : tm ≤ 4294967296 := by
              rcases Int.le_total ((x0) / (y + 1)) 1 with h1 | h1
              · have e : tm = 1 := by rw [← htm]; exact Int.max_eq_right h1
                omega
              · have e : tm = (x0) / (y + 1) := by rw [← htm]; exact Int.max_eq_left h1
                omega
            rw [htm]
            have HS : Hid (RDivIn xs ys i T q0 (q.set i (t + tm)) (t + tm) (R - tm * val D16 ys)) := HSTEP.out tm htm1 htmR
            have HTR : Hid (tm * val D16 ys ≤ R) := htmR
            clear htm hs0 hsmul hsle HOK HSTEP htmR hge hcr6 hcy6
            refine (rSmall_any tm w6 (by omega) (by omega)).mono ?_
            rintro e w7 ⟨v, rfl, a_m, l_m, c_m, s_m, rfl, n_m, k_m, v_m, b_m, hb7⟩
            have HB7 : Hid (Below wr.heap.size wr w7) := (hdr.below _).trans (by rw [hdr.size] at hb7; exact hb7)
            have HNM : Hid (NumIn .i64 D16 w7 a_m l_m c_m s_m ∧ val D16 s_m = tm) := ⟨n_m, v_m⟩
            clear n_m k_m v_m hb7 hdr
            have HY7 : Hid (NumIn .i64 D16 w7 (some ⟨b3, off3, none⟩) lb cb ys) := HY.out.1.old (HB.out.trans (HB7.out.mono HB.out.size))
            go_wp2_with fail
            refine (rMul_any (some ⟨b3, off3, none⟩) a_m lb cb l_m c_m ys s_m w7 HY7.out HNM.out.1 (by omega) (by omega)).mono ?_
            rintro e w8 ⟨v, rfl, a_p, l_p, c_p, s_p, rfl, n_p, k_p, v_p, b_p, hb8⟩
            have HB8 : Hid (Below wr.heap.size wr w8) := HB7.out.trans (hb8.mono HB7.out.size)
            have HNP : Hid (NumIn .i64 D16 w8 a_p l_p c_p s_p ∧ Canon s_p ∧ val D16 s_p = tm * val D16 ys) := ⟨n_p, k_p, by rw [v_p, HNM.out.2, Int.mul_comm]⟩
            have HR8 : Hid (NumIn .i64 D16 w8 (some ⟨b2, off2, none⟩) l_s c_s rs2) := HR.out.1.old HB8.out
            clear n_p k_p v_p hb8 HNM HY7
            go_wp2_with fail
            refine (rSub_new (some ⟨b2, off2, none⟩) a_p l_s c_s l_p c_p rs2 s_p w8 HR8.out HNP.out.1 HR.out.2.1 HNP.out.2.1 (by rw [HNP.out.2.2, HR.out.2.2]; exact HTR.out) (by omega) (by omega)).mono ?_
            rintro e w9 ⟨v, rfl, a_n, l_n, c_n, s_n, rfl, n_n, k_n, v_n, b_n, hb9, f_n⟩
            have hlt8 : w.heap.size < w8.heap.size := Nat.lt_of_lt_of_le HROW.out.lt HB8.out.size
            have HB9 : Hid (Below wr.heap.size wr w9) := HB8.out.trans (hb9.mono HB8.out.size)
            have hrow9 := HROW.out.below HB9.out HROW.out.lt
            have hqi : q.getD i 0 = t := by
              rw [HIN.out.1, getD_set _ _ _ _ (by have := HD0.out.1; omega), if_pos rfl]
            have hcq := hrow9.cell i (by omega)
            have hfz := hrow9.frozen i
            rw [hqi] at hcq
            have ht0 := HIN.out.2.1
            have ht1 := HIN.out.2.2.1
            have HROW' : Hid (Row 3 .i64 (w9.setCell ⟨w.heap.size, i, none⟩ (.int .i64 (t + tm))) w.heap.size (q.set i (t + tm))) := hrow9.set i (t + tm)
            have HREM' : Hid (Rem (w9.setCell ⟨w.heap.size, i, none⟩ (.int .i64 (t + tm))) w.heap.size (.slice a_n l_n c_n) (R - tm * val D16 ys) (lb + 1)) :=
              ⟨a_n, l_n, c_n, s_n, rfl, n_n.kept (grown_set _ _ _ _) (fun b off s e => by have := f_n b off s e; intro h0; injection h0 with h0; omega), k_n, by rw [v_n, HNP.out.2.2, HR.out.2.2], by omega, fun b off s e => by have := f_n b off s e; omega⟩
            have HB' : Hid (Below w.heap.size w (w9.setCell ⟨w.heap.size, i, none⟩ (.int .i64 (t + tm)))) := (HB.out.trans (HB9.out.mono HB.out.size)).setCell (Nat.le_refl _) _
            have HMS : Hid (65536 - cellNat (w9.setCell ⟨w.heap.size, i, none⟩ (.int .i64 (t + tm))) ⟨w.heap.size, i, none⟩ < 65536 - cellNat wr ⟨w.heap.size, i, none⟩) := by
              unfold Hid
              rw [cellNat_row HROW'.out i (by simp; omega), cellNat_row HROW.out i (by omega), hqi, getD_set _ _ _ _ (by omega), if_pos rfl]
              have := HS.out.2.2.1
              omega
            clear hrow9 hqi n_n k_n v_n f_n hb9 HB9 HB8 HB7 HR8 HNP HR HROW HB HIN HY HD0 HYP HTOP
            go_wp2
            go_roundw
            case rel => exact ⟨_, _, _, HROW'.out, HS.out, HREM'.out, HB'.out⟩
            case measure => exact HMS.out
        · have hRl : R < val D16 ys := by omega
          rw [show cmpI (val D16 rs2) (val D16 ys) = -1 from cmpI_lt (by rw [hvr]; exact hRl)] at HC
          have HD : Hid (RDivs xs ys i q R) := HLV.out q t R hin hRl
          have HREM : Hid (Rem wr w.heap.size (.slice a_s l_s c_s) R lb) := by
            have h1 : Rem wr w.heap.size (.slice a_s l_s c_s) R (lb + 1) := ⟨a_s, l_s, c_s, rs2, rfl, hr, hcr, hvr, hlr, hfr⟩
            have := h1.len h'.dg hRl
            rw [hl'] at this
            exact this
          have HROW : Hid (Row 3 .i64 wr w.heap.size q) := hrw
          have HB : Hid (Below w.heap.size w wr) := hb
          clear hin hr hcr hvr hlr hfr hrw hb hge hRl h h' hy HYP HTOP HD0 HT2 HLV
          go_wp2_with fail
          refine HC.mono ?_
          rintro e w6 ⟨rfl, n6, rfl⟩
          clear HC
          go_wp2
          go_roundw
          case rel => exact ⟨i, q, R, by omega, by go_num, HROW.out.drewN _, HD.out, HREM.out.old (Drew.below ⟨_, rfl⟩ _), HB.out.trans (Drew.below ⟨_, rfl⟩ _)⟩
          case measure => simp [intOf] <;> omega
end Go.Proofs.Ytdojbknkaoiioaa
