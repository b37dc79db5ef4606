/-
  Contracts of the document's Mod, Pow, Gcd.
-/
import Derived.Test.YtjaokpgccnkipaaRefE
import Derived.Test.YtjaokpgccnkipaaModC
namespace Go.Proofs.Ytjaokpgccnkipaa
open Go.RowKit
set_option linter.unusedVariables false
set_option linter.unusedSimpArgs false

set_option maxHeartbeats 400000 in
/-- the document's Mod. -/
theorem rMod_any (ao bo : Option Addr) (la ca lb cb : Nat) (xs ys : List Int) (w : World) (h : NumIn .i64 D16 w ao la ca xs) (h' : NumIn .i64 D16 w bo lb cb ys) (hy : Canon ys) (h0 : val D16 ys ≠ 0) (hla : la ≤ 100000) (hlb : lb ≤ 100000) :
    Calls Try.prog 17 #[.slice ao la ca, .slice bo lb cb] w fun e w' => ∃ v, e = .returned v ∧ NumOut .i64 D16 w w' v (val D16 xs % val D16 ys) lb := by
  have hb0 : 0 < lb := by
    rcases Nat.eq_zero_or_pos lb with e | e
    · have hl := h'.len
      have : ys = [] := List.eq_nil_of_length_eq_zero (by omega)
      rw [this] at h0
      exact absurd rfl h0
    · exact e
  have HD := rDiv_any ao bo la ca lb cb xs ys w h h' hy hb0 hla hlb
  clear h h' h0 hb0
  go_enter Try.func17, Try.ntmps17
  go_wp2_with fail
  refine HD.mono ?_
  rintro e w' ⟨q, r, rfl, hq, hr⟩
  obtain ⟨aq, lq, cq, xq, rfl, _, _, _, _, _⟩ := hq
  obtain ⟨ar, lr, cr, xr, rfl, n1, n2, n3, n4, n5⟩ := hr
  have HN : Hid (NumOut .i64 D16 w w' (.slice ar lr cr) (val D16 xs % val D16 ys) lb) := ⟨ar, lr, cr, xr, rfl, n1, n2, n3, n4, n5⟩
  clear n1 n2 n3 n4 n5 HD
  go_wp2
  go_ret
  exact ⟨_, rfl, HN.out⟩

set_option maxHeartbeats 1000000 in
/-- the document's Gcd. -/
theorem rGcd_any (ao bo : Option Addr) (la ca lb cb : Nat) (xs ys : List Int) (w : World) (h : NumIn .i64 D16 w ao la ca xs) (h' : NumIn .i64 D16 w bo lb cb ys) (hx : Canon xs) (hy : Canon ys) (L : Nat) (hla : la ≤ L) (hlb : lb ≤ L) (hL : L ≤ 100000) :
    Calls Try.prog 31 #[.slice ao la ca, .slice bo lb cb] w fun e w' => ∃ v, e = .returned v ∧ NumOut .i64 D16 w w' v (gd (val D16 xs) (val D16 ys)) L := by
  have NA : Hid (NumOut .i64 D16 w w (.slice ao la ca) (val D16 xs) L) := ⟨ao, la, ca, xs, rfl, h, hx, rfl, hla, Below.refl _ _⟩
  have NB : Hid (NumOut .i64 D16 w w (.slice bo lb cb) (val D16 ys) L) := ⟨bo, lb, cb, ys, rfl, h', hy, rfl, hlb, Below.refl _ _⟩
  have HP : Hid (0 ≤ val D16 xs ∧ 0 ≤ val D16 ys) := ⟨val_nonneg D16_pos h.dg, val_nonneg D16_pos h'.dg⟩
  generalize val D16 xs = X0 at *
  generalize val D16 ys = Y0 at *
  clear h h' hx hy hla hlb
  go_enter Try.func31, Try.ntmps31
  go_wp2
  go_loopw [0, 1] (fun va vb wr => ∃ (X Y : Int), NumOut .i64 D16 w wr va X L ∧ NumOut .i64 D16 w wr vb Y L ∧ 0 ≤ X ∧ 0 ≤ Y ∧ gd X Y = gd X0 Y0) (fun va vb wr => nval D16 wr vb)
  case atStart => exact ⟨X0, Y0, NA.out, NB.out, HP.out.1, HP.out.2, rfl⟩
  case round =>
    clear NA NB HP
    obtain ⟨X, Y, nX, nY, hX0, hY0, hg⟩ := hrel
    have HMS : Hid (nval D16 wr u1 = Y.toNat) := nY.nm.nval
    obtain ⟨aa, la, ca, xa, rfl, i1, i2, i3, i4, i5⟩ := nX
    obtain ⟨ab, lb, cb, xb, rfl, j1, j2, j3, j4, j5⟩ := nY
    have NX : Hid (NumIn .i64 D16 wr aa la ca xa ∧ Canon xa ∧ val D16 xa = X ∧ la ≤ L) := ⟨i1, i2, i3, i4⟩
    have NY : Hid (NumIn .i64 D16 wr ab lb cb xb ∧ Canon xb ∧ val D16 xb = Y ∧ lb ≤ L) := ⟨j1, j2, j3, j4⟩
    have BW : Hid (Below w.heap.size w wr) := i5
    have HG : Hid (gd X Y = gd X0 Y0 ∧ 0 ≤ X ∧ 0 ≤ Y) := ⟨hg, hX0, hY0⟩
    have hsm : lb ≤ 100000 := by omega
    clear i1 i2 i3 i4 i5 j1 j2 j3 j4 j5 hg hX0 hY0
    by_cases hz : Y = 0
    · subst hz
      have hlb : lb = 0 := by
        have h1 := NY.out.1.len
        have h2 := len_fit D16_one NY.out.1.dg NY.out.2.1 (Dg.nil D16) (by rw [NY.out.2.2.1]; exact Int.le_refl _)
        simp at h2
        rw [h2] at h1
        simpa using h1.symm
      subst hlb
      have HF : Hid (NumOut .i64 D16 w wr (.slice aa la ca) (gd X0 Y0) L) := ⟨aa, la, ca, xa, rfl, NX.out.1, NX.out.2.1, by rw [NX.out.2.2.1, ← HG.out.1, gd_zero X HG.out.2.1], NX.out.2.2.2, BW.out⟩
      go_wp2
      go_ret
      exact ⟨_, rfl, HF.out⟩
    · have hlb : 0 < lb := by
        rcases Nat.eq_zero_or_pos lb with e | e
        · have h1 := NY.out.1.len
          have : xb = [] := List.eq_nil_of_length_eq_zero (by omega)
          have h2 := NY.out.2.2.1
          rw [this] at h2
          exact absurd h2.symm hz
        · exact e
      have HM := rMod_any aa ab la ca lb cb xa xb wr NX.out.1 NY.out.1 NY.out.2.1 (by rw [NY.out.2.2.1]; exact hz) (by have := NX.out.2.2.2; omega) hsm
      rw [NX.out.2.2.1, NY.out.2.2.1] at HM
      have HZ : Hid (Y ≠ 0) := hz
      clear hz
      go_wp2_with fail
      refine HM.mono ?_
      rintro e w2 ⟨v, rfl, ar, lr, cr, xr, rfl, q1, q2, q3, q4, q5⟩
      have NR : Hid (NumOut .i64 D16 w w2 (.slice ar lr cr) (X % Y) L) := ⟨ar, lr, cr, xr, rfl, q1, q2, q3, by have := NY.out.2.2.2; omega, BW.out.trans (q5.mono BW.out.size)⟩
      have NB : Hid (NumOut .i64 D16 w w2 (.slice ab lb cb) Y L) := ⟨ab, lb, cb, xb, rfl, NY.out.1.old q5, NY.out.2.1, NY.out.2.2.1, NY.out.2.2.2, BW.out.trans (q5.mono BW.out.size)⟩
      clear q1 q2 q3 q4 q5 HM
      go_wp2
      go_roundw
      case rel => exact ⟨Y, X % Y, NB.out, NR.out, HG.out.2.2, Int.emod_nonneg _ HZ.out, by rw [← HG.out.1, gd_step X Y HG.out.2.1 HG.out.2.2]⟩
      case measure =>
        rw [HMS.out, NR.out.nm.nval]
        have h1 := HG.out.2.2
        have h2 := HZ.out
        have h3 := Int.emod_lt_of_pos X (show 0 < Y by omega)
        have h4 := Int.emod_nonneg X h2
        omega

set_option maxHeartbeats 2000000 in
/-- the document's Pow. -/
theorem rPow_any (ao no mo : Option Addr) (la ca ln cn lm cm : Nat) (xs ns ms : List Int) (w : World) (h : NumIn .i64 D16 w ao la ca xs) (hn : NumIn .i64 D16 w no ln cn ns) (h' : NumIn .i64 D16 w mo lm cm ms) (hx : Canon xs) (hcn : Canon ns) (hm : Canon ms) (h0 : val D16 ms ≠ 0) (hla : la ≤ 1000) (hln : ln ≤ 1000) (hlm : lm ≤ 1000) :
    Calls Try.prog 27 #[.slice ao la ca, .slice no ln cn, .slice mo lm cm] w fun e w' => ∃ v, e = .returned v ∧ NumOut .i64 D16 w w' v (val D16 xs ^ (val D16 ns).toNat % val D16 ms) lm := by
  have hM := val_nonneg D16_pos h'.dg
  have hV := val_nonneg D16_pos hn.dg
  have NX : Hid (NumIn .i64 D16 w ao la ca xs ∧ Canon xs) := ⟨h, hx⟩
  have NN : Hid (NumIn .i64 D16 w no ln cn ns ∧ Canon ns) := ⟨hn, hcn⟩
  have NM : Hid (NumIn .i64 D16 w mo lm cm ms ∧ Canon ms) := ⟨h', hm⟩
  have HLb : Hid (blen (val D16 ns).toNat ≤ 16 * ln) := by
    unfold Hid
    refine blen_le _ _ ?_
    have h1 := val_lt D16_pos hn.dg
    rw [hn.len] at h1
    have e : D16 ^ ln = ((2 ^ (16 * ln) : Nat) : Int) := by rw [Nat.pow_mul, Int.natCast_pow]; rfl
    omega
  have HVL : Hid (val D16 ns < 2 ^ blen (val D16 ns).toNat) := by
    unfold Hid
    have h1 := blen_lt (val D16 ns).toNat
    have e : ((2 ^ blen (val D16 ns).toNat : Nat) : Int) = 2 ^ blen (val D16 ns).toNat := by rw [Int.natCast_pow]; rfl
    omega
  have HL := fun w1 (hb : Below w.heap.size w w1) => rLen_any no ln cn ns w1 (hn.old hb) hcn (by omega)
  obtain ⟨M, hMv⟩ : ∃ M, val D16 ms = M := ⟨_, rfl⟩
  obtain ⟨V, hVv⟩ : ∃ V, val D16 ns = V := ⟨_, rfl⟩
  obtain ⟨X, hXv⟩ : ∃ X, val D16 xs = X := ⟨_, rfl⟩
  have HV : Hid (val D16 ms = M ∧ val D16 ns = V ∧ val D16 xs = X) := ⟨hMv, hVv, hXv⟩
  rw [hMv] at hM h0 ⊢
  rw [hVv] at hV HLb HVL HL ⊢
  rw [hXv]
  have HMP : Hid (M ≠ 0 ∧ 0 < M) := ⟨h0, by omega⟩
  have HVP : Hid (0 ≤ V) := hV
  obtain ⟨L, hL⟩ : ∃ L, blen V.toNat = L := ⟨_, rfl⟩
  rw [hL] at HLb HVL HL
  have hL2 : L ≤ 16000 := by have := HLb.out; omega
  clear h hn h' hx hcn hm hM hV h0 hMv hVv hXv hL HLb
  go_enter Try.func27, Try.ntmps27
  go_wp2_with fail
  refine (rSmall_any 1 w (by decide) (by decide)).mono ?_
  rintro e w1 ⟨v, rfl, a1, l1, c1, s1, rfl, q1, q2, q3, q4, q5⟩
  have HM := rMod_any a1 mo l1 c1 lm cm s1 ms w1 q1 (NM.out.1.old q5) NM.out.2 (by rw [HV.out.1]; exact HMP.out.1) (by omega) (by omega)
  rw [q3, HV.out.1] at HM
  have BW : Hid (Below w.heap.size w w1) := q5
  clear q1 q2 q3 q4 q5
  go_wp2_with fail
  refine HM.mono ?_
  rintro e w2 ⟨v, rfl, hv⟩
  have N0 : Hid (NumOut .i64 D16 w w2 v (1 % M) lm) := hv.from BW.out
  have HL2 := HL w2 N0.out.bl
  clear hv HM BW HL
  go_wp2_with fail
  refine HL2.mono ?_
  rintro e w3 ⟨rfl, rfl⟩
  clear HL2
  go_wp2
  go_loopw [7, 8] (fun vo vi wr => ∃ (i P : Int), vi = .int .i64 i ∧ -1 ≤ i ∧ i < L ∧ NumOut .i64 D16 w wr vo P lm ∧ 0 ≤ P ∧ P < M ∧ Cg M P (pws X V (i + 1).toNat)) (fun vo vi wr => (intOf vi + 1).toNat)
  case atStart =>
    have r := mod_range 1 M (Int.le_of_lt HMP.out.2) HMP.out.1
    refine ⟨(L : Int) - 1, 1 % M, rfl, by omega, by omega, N0.out, r.1, r.2, ?_⟩
    rw [show ((L : Int) - 1 + 1).toNat = L by omega, pws_top X V HVP.out L HVL.out]
    exact Cg.mod M 1
  case round =>
    clear N0
    obtain ⟨i, P, rfl, hi0, hi1, nP, hP0, hP1, hcg⟩ := hrel
    by_cases hneg : i < 0
    · obtain rfl : i = -1 := by omega
      have HF : Hid (P = X ^ V.toNat % M) := by
        unfold Hid
        rw [show ((-1 : Int) + 1).toNat = 0 by decide, pws_zero] at hcg
        rw [← hcg.emod, Int.emod_eq_of_lt hP0 hP1]
      obtain ⟨ap, lp, cp, sp, rfl, q1, q2, q3, q4, q5⟩ := nP
      have HN : Hid (NumOut .i64 D16 w wr (.slice ap lp cp) (X ^ V.toNat % M) lm) := ⟨ap, lp, cp, sp, rfl, q1, q2, by rw [q3]; exact HF.out, q4, q5⟩
      clear q1 q2 q3 q4 q5 hcg hP0 hP1
      go_wp2
      go_ret
      exact ⟨_, rfl, HN.out⟩
    · obtain ⟨p, rfl⟩ := Int.eq_ofNat_of_zero_le (show 0 ≤ i by omega)
      obtain ⟨ap, lp, cp, sp, rfl, q1, q2, q3, q4, q5⟩ := nP
      have BW : Hid (Below w.heap.size w wr) := q5
      have HCG : Hid (Cg M P (pws X V (p + 1))) := by
        unfold Hid
        rw [show ((p : Int) + 1).toNat = p + 1 by omega] at hcg
        exact hcg
      have HSQ := rMul_any ap ap lp cp lp cp sp sp wr q1 q1 (by omega) (by omega)
      rw [q3] at HSQ
      have LP : Hid (lp ≤ lm) := q4
      have hp1 : p < 16000 := by omega
      have hpL : p < L := by omega
      clear q1 q2 q3 q4 q5 hcg hP0 hP1 hi0 hi1 hneg
      go_wp2_with fail
      refine HSQ.mono ?_
      rintro e w4 ⟨v, rfl, a4, l4, c4, s4, rfl, q1, q2, q3, q4, q5⟩
      replace BW : Hid (Below w.heap.size w w4) := BW.out.trans (q5.mono BW.out.size)
      have HM := rMod_any a4 mo l4 c4 lm cm s4 ms w4 q1 (NM.out.1.old BW.out) NM.out.2 (by rw [HV.out.1]; exact HMP.out.1) (by have := LP.out; omega) (by omega)
      rw [q3, HV.out.1] at HM
      clear q1 q2 q3 q4 q5 HSQ
      go_wp2_with fail
      refine HM.mono ?_
      rintro e w5 ⟨v, rfl, a5, l5, c5, s5, rfl, q1, q2, q3, q4, q5⟩
      replace BW : Hid (Below w.heap.size w w5) := BW.out.trans (q5.mono BW.out.size)
      have N5 : Hid (NumIn .i64 D16 w5 a5 l5 c5 s5 ∧ Canon s5 ∧ val D16 s5 = P * P % M ∧ l5 ≤ lm) := ⟨q1, q2, q3, q4⟩
      have C5 : Hid (Cg M (P * P % M) (pws X V (p + 1) * pws X V (p + 1))) := (Cg.mod M _).trans (HCG.out.mul HCG.out)
      have HB := rBit_any no ln cn ns p w5 (NN.out.1.old BW.out) (by omega)
      rw [HV.out.2.1] at HB
      clear q1 q2 q3 q4 q5 HM
      rcases bitAt_01 V p with hb | hb
      · rw [hb] at HB
        have HFIN : Hid (Cg M (P * P % M) (pws X V p)) := by unfold Hid; rw [pws_even X V HVP.out p hb]; exact C5.out
        have HR : Hid (0 ≤ P * P % M ∧ P * P % M < M) := mod_range _ _ (Int.le_of_lt HMP.out.2) HMP.out.1
        clear hb C5 HCG
        go_wp2_with fail
        refine HB.mono ?_
        rintro e w6 ⟨rfl, rfl⟩
        clear HB
        go_wp2
        go_roundw
        case rel => exact ⟨(p : Int) - 1, P * P % M, by go_num, by omega, by omega, ⟨a5, l5, c5, s5, rfl, N5.out.1, N5.out.2.1, N5.out.2.2.1, N5.out.2.2.2, BW.out⟩, HR.out.1, HR.out.2, by rw [show ((p : Int) - 1 + 1).toNat = p by omega]; exact HFIN.out⟩
        case measure => simp [intOf] <;> omega
      · rw [hb] at HB
        have HFIN : Hid (Cg M (P * P % M * X % M) (pws X V p)) := by unfold Hid; rw [pws_odd X V HVP.out p hb]; exact (Cg.mod M _).trans (C5.out.mul (Cg.refl M X))
        have HR : Hid (0 ≤ P * P % M * X % M ∧ P * P % M * X % M < M) := mod_range _ _ (Int.le_of_lt HMP.out.2) HMP.out.1
        clear hb C5 HCG
        go_wp2_with fail
        refine HB.mono ?_
        rintro e w6 ⟨rfl, rfl⟩
        clear HB
        have HMU := rMul_any a5 ao l5 c5 la ca s5 xs w6 N5.out.1 (NX.out.1.old BW.out) (by have := N5.out.2.2.2; omega) (by omega)
        rw [N5.out.2.2.1, HV.out.2.2] at HMU
        go_wp2_with fail
        refine HMU.mono ?_
        rintro e w7 ⟨v, rfl, a7, l7, c7, s7, rfl, q1, q2, q3, q4, q5⟩
        replace BW : Hid (Below w.heap.size w w7) := BW.out.trans (q5.mono BW.out.size)
        have HM := rMod_any a7 mo l7 c7 lm cm s7 ms w7 q1 (NM.out.1.old BW.out) NM.out.2 (by rw [HV.out.1]; exact HMP.out.1) (by have := N5.out.2.2.2; omega) (by omega)
        rw [q3, HV.out.1] at HM
        clear q1 q2 q3 q4 q5 HMU N5
        go_wp2_with fail
        refine HM.mono ?_
        rintro e w8 ⟨v, rfl, hv⟩
        have NF : Hid (NumOut .i64 D16 w w8 v (P * P % M * X % M) lm) := hv.from BW.out
        clear hv HM
        go_wp2
        go_roundw
        case rel => exact ⟨(p : Int) - 1, P * P % M * X % M, by go_num, by omega, by omega, NF.out, HR.out.1, HR.out.2, by rw [show ((p : Int) - 1 + 1).toNat = p by omega]; exact HFIN.out⟩
        case measure => simp [intOf] <;> omega
end Go.Proofs.Ytjaokpgccnkipaa
