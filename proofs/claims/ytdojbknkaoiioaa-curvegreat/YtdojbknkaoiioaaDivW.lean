/-
  Contract of nat.divLimb.
-/
import Derived.Test.YtdojbknkaoiioaaDivL
namespace Go.Proofs.Ytdojbknkaoiioaa
open Go.RowKit
set_option linter.unusedVariables false
set_option linter.unusedSimpArgs false
attribute [local go_sem ↓] Go.wp_at_zero Go.wp_at_succ

/-- What divLimb leaves. -/
def DlOut (e : TypeId) (g o n : Nat) (xs : List Int) (L D : Int) (w w' : World) (G : Int) : Prop :=
  ∃ cur, Row e .u64 w' g cur ∧ cur.length = xs.length ∧ Dg B64 cur ∧ (∀ j, j < o ∨ o + n < j → cur.getD j 0 = xs.getD j 0) ∧ G = L / D ∧ val B64 (seg cur o (n + 1)) = L % D ∧ w.grownBy w' (some g)

set_option maxHeartbeats 4000000 in
/-- nat.divLimb. -/
theorem divLimb_any (e : TypeId) (g o m cl cd : Nat) (ao : Option Addr) (xs ds : List Int) (w : World) (hr : Row e .u64 w g xs) (hx : Dg B64 xs) (hd : Dv w ao (m + 1) ds) (hne : ∀ b off s, ao = some ⟨b, off, s⟩ → b ≠ g)
    (ho : o + (m + 1) < xs.length) (hs : xs.length ≤ 1073741824) (L D : Int) (eL : L = val B64 (seg xs o (m + 1 + 1))) (eD : D = val B64 ds) (hlt : L < 18446744073709551616 * D) :
    Calls Try.prog 97 #[.slice (some ⟨g, o, none⟩) (m + 1 + 1) cl, .slice ao (m + 1) cd] w fun e' w' => ∃ G, e' = .returned (.int .u64 G) ∧ DlOut e g o (m + 1) xs L D w w' G := by
  have hl := hd.lies.len
  obtain ⟨g1, g2, g3, g4⟩ := hd.guess hx o ho (by rw [← eL, ← eD]; exact hlt)
  have hdv := hd.range
  have hL0 : 0 ≤ L := by rw [eL]; exact val_nonneg B64_pos ((hx.drop o).take (m + 1 + 1))
  rw [← eD] at hdv
  rw [← eL, ← eD] at g1 g2
  obtain ⟨b, off, rfl, hblk, hc⟩ := hd.lies.at (by omega)
  have hcd := hc m (by omega)
  have hcx := hr.cell (o + (m + 1)) (by omega)
  have hcx1 := hr.cell (o + m) (by omega)
  have gx := hx.getD B64_pos (o + (m + 1))
  have gx1 := hx.getD B64_pos (o + m)
  have gd := hd.dg.getD B64_pos m
  have hbig := hd.big
  simp only [Nat.add_sub_cancel] at g1 g2 g3 g4 hbig
  have HGS := fun w => guessLimb_any (xs.getD (o + (m + 1)) 0) (xs.getD (o + m) 0) (ds.getD m 0) w gx.1 gx1.1 gx1.2 hbig gd.2
  have HSUB := fun w hw hl' => subTimes_any e g o (m + 1 + 1) cl (some ⟨b, off, none⟩) (m + 1) cd xs ds (gss (xs.getD (o + (m + 1)) 0) (xs.getD (o + m) 0) (ds.getD m 0)) w hw hl' (fun _ => hne) (by omega) (by omega) (by unfold maxLen; omega) hx hd.dg g3 g4
  have HSTART := fun cur c hrn => Dls.start (xs := xs) (ds := ds) (o := o) (n := m + 1) (cur := cur) (c := c) hrn hl ho eL eD g1 g2
  have HADD : Hid (∀ cur w, cur.length = xs.length → Dg B64 cur → Row e .u64 w g cur → Lies .u64 w (some ⟨b, off, none⟩) (m + 1) ds →
      Calls Try.prog 62 #[.slice (some ⟨g, o, none⟩) (m + 1 + 1) cl, .slice (some ⟨b, off, none⟩) (m + 1) cd, .int .u64 1] w fun e' w' => ∃ cur' c, e' = .returned (.int .u64 c) ∧ Row e .u64 w' g cur' ∧ Runs 1 cur ds o (m + 1) 1 cur' c ∧ w.grownBy w' (some g)) :=
    fun cur w hlen hdg hw hl' => addTimes_any e g o (m + 1 + 1) cl (some ⟨b, off, none⟩) (m + 1) cd cur ds 1 w hw hl' (fun _ => hne) (by omega) (by omega) (by unfold maxLen; omega) hdg hd.dg (by decide) (by decide)
  have hbne : some b ≠ some g := by have := hne b off none rfl; simp; omega
  generalize hxn : xs.getD (o + (m + 1)) 0 = xn at *
  generalize xs.getD (o + m) 0 = x1 at *
  generalize ds.getD m 0 = dn at *
  generalize gss xn x1 dn = G at *
  have hmb : m < 1073741824 := by omega
  have HR : Hid (Row e .u64 w g xs) := hr
  have HLD : Hid (Lies .u64 w (some ⟨b, off, none⟩) (m + 1) ds) := hd.lies
  have HDG : Hid (Dg B64 ds) := hd.dg
  have HST : Hid (∀ cur c, Runs (-1) xs ds o (m + 1) G cur c → Dls xs L D o (m + 1) (cur.set (o + (m + 1)) (IntKind.u64.wrap (xn - c))) G (xn - c)) := HSTART
  have HDV : Hid (0 < D ∧ D < B64 ^ (m + 1)) := hdv
  have HL0 : Hid (0 ≤ L) := hL0
  have HED : Hid (D = val B64 ds) := eD
  have HLEN : Hid (ds.length = m + 1) := hl
  have HXN : Hid (xs.getD (o + (m + 1)) 0 = xn) := hxn
  clear hc eL eD hxn hr hx hd hne HSTART gx gx1 gd hbig hlt g1 g2 hdv hL0 hl
  go_enter Try.func97, Try.ntmps97
  go_wp2
  go_quiet ((go_at_call 98; exact Calls.quiet_of (HGS _)))
  obtain ⟨w1, hw1⟩ : ∃ w1, w1 = w.drewN nq := ⟨_, rfl⟩
  rw [← hw1]
  have hcx' : w1.cell? ⟨g, o + (m + 1), none⟩ = some (.int .u64 xn) := by rw [hw1]; exact hcx
  have HR1 : Hid (Row e .u64 w1.drew g xs) := by rw [hw1]; exact HR.out
  have HLD1 : Hid (Lies .u64 w1.drew (some ⟨b, off, none⟩) (m + 1) ds) := by rw [hw1]; exact HLD.out
  have HGR1 : Hid (w.grownBy w1.drew (some g)) := by rw [hw1]; exact ⟨rfl, rfl, rfl, Nat.le_refl _, fun _ _ _ => rfl⟩
  have HSUB1 := HSUB w1.drew HR1.out HLD1.out
  clear hw1 hcx hcx1 hcd HGS HSUB
  go_wp2
  go_region_with (first | (go_at_call 99; refine HSUB1.mono ?_; rintro e2 w4 ⟨cur', c, rfl, hrow', hrun', hgr'⟩; have hcx4 := (hrow'.cell (o + (m + 1)) (by have := hrun'.1; omega)).trans (congrArg (fun z => some (Value.int IntKind.u64 z)) ((hrun'.2.1 (o + (m + 1)) (.inr (Nat.le_refl _))).trans HXN.out)); have hfr4 := hrow'.frozen (o + (m + 1))))
  all_goals
    have HRW : Hid (Row e .u64 (w4.setCell ⟨g, o + (m + 1), none⟩ (.int .u64 (IntKind.u64.wrap (xn - c)))) g (cur'.set (o + (m + 1)) (IntKind.u64.wrap (xn - c)))) := hrow'.set _ _
    have HDL := HST.out cur' c hrun'
    have HGR : Hid (w.grownBy (w4.setCell ⟨g, o + (m + 1), none⟩ (.int .u64 (IntKind.u64.wrap (xn - c)))) (some g)) := grown_trans (grown_trans HGR1.out hgr') (grown_set _ _ _ _)
    have HDLH : Hid (Dls _ _ _ _ _ _ _ _) := HDL
    generalize w4.setCell ⟨g, o + (m + 1), none⟩ (.int .u64 (IntKind.u64.wrap (xn - c))) = w5 at *
    clear hrow' hrun' hgr' hcx4 hfr4 HDL HST HSUB1 HR1 HLD1 HGR1 hcx'
    go_wp2
    go_loopw [6] (fun v wr => ∃ (G t : Int) (cur : List Int), v = .int .u64 G ∧ 0 ≤ G ∧ G < 18446744073709551616 ∧ Row e .u64 wr g cur ∧ Dls xs L D o (m + 1) cur G t ∧ w.grownBy wr (some g)) (fun v _ => (intOf v).toNat)
    case atStart => exact ⟨_, _, _, rfl, g3, g4, HRW.out, HDLH.out, HGR.out⟩
    case round =>
      obtain ⟨G2, t, cur, rfl, gg0, gg1, hrw, hdl, hgw⟩ := hrel
      have hcl := hrw.cell (o + (m + 1)) (by have := hdl.1; omega)
      have hcl' : wr.drew.cell? ⟨g, o + (m + 1), none⟩ = some (.int .u64 (cur.getD (o + (m + 1)) 0)) := hcl
      by_cases hz : cur.getD (o + (m + 1)) 0 = 0
      · have hdn := hdl.done HDV.out.1 HDV.out.2 HL0.out ho hz
        have HF : Hid (DlOut e g o (m + 1) xs L D w wr G2) := ⟨cur, hrw, hdl.1, hdl.2.2.1, hdl.2.1, hdn.1, hdn.2, hgw⟩
        rw [hz] at hcl
        clear hcl' hdn hrw hdl hgw hz
        go_wp2
        go_ret
        exact ⟨_, rfl, HF.out⟩
      · have hmore := hdl.more HDV.out.1 HDV.out.2 HL0.out ho hz
        have hq0 : 0 ≤ L / D := Int.ediv_nonneg HL0.out (by have := HDV.out.1; omega)
        have hG1 : 1 ≤ G2 := by omega
        have hld : Lies .u64 wr.drew (some ⟨b, off, none⟩) (m + 1) ds := by
          have : Lies .u64 wr (some ⟨b, off, none⟩) (m + 1) ds := HLD.out.kept hgw (fun b' off' s hb' => by injection hb' with hb'; injection hb' with hb'; rw [← hb']; exact hbne)
          exact this
        have HA := HADD.out cur wr.drew hdl.1 hdl.2.2.1 hrw hld
        have HSTEP : Hid (∀ cur' c, Runs 1 cur ds o (m + 1) 1 cur' c → Dls xs L D o (m + 1) (cur'.set (o + (m + 1)) (IntKind.u64.wrap (cur.getD (o + (m + 1)) 0 + c))) (G2 - 1) (t + c)) := fun cur' c hrn => hdl.step hrn HLEN.out ho HED.out hmore
        have HLC : Hid (cur.length = xs.length) := hdl.1
        have HGW : Hid (w.grownBy wr.drew (some g)) := ⟨hgw.os, hgw.tape, hgw.output, hgw.size, hgw.block⟩
        have HZ : Hid (∃ z, z = cur.getD (o + (m + 1)) 0) := ⟨_, rfl⟩
        have hzb : (cur.getD (o + (m + 1)) 0 != 0) = true := by simpa using hz
        have HCD : Hid (∀ cur' : List Int, (∀ j, j < o ∨ o + (m + 1) ≤ j → cur'.getD j 0 = cur.getD j 0) → cur'.getD (o + (m + 1)) 0 = cur.getD (o + (m + 1)) 0) := fun cur' h => h _ (.inr (Nat.le_refl _))
        generalize cur.getD (o + (m + 1)) 0 = z at *
        clear hrw hdl hgw hz hmore hq0 hld HZ
        go_wp2
        go_region_with (first | (go_at_call 62; refine HA.mono ?_; rintro e2 w6 ⟨cur2, c2, rfl, hrow2, hrun2, hgr2⟩; have hcx6 := (hrow2.cell (o + (m + 1)) (by have := hrun2.1; have := HLC.out; omega)).trans (congrArg (fun z => some (Value.int IntKind.u64 z)) (HCD.out cur2 hrun2.2.1)); have hfr6 := hrow2.frozen (o + (m + 1))))
        all_goals
          have HRW2 : Hid (Row e .u64 (w6.setCell ⟨g, o + (m + 1), none⟩ (.int .u64 (IntKind.u64.wrap (z + c2)))) g (cur2.set (o + (m + 1)) (IntKind.u64.wrap (z + c2)))) := hrow2.set _ _
          have HD2 : Hid (Dls _ _ _ _ _ _ _ _) := HSTEP.out cur2 c2 hrun2
          have HGR2 : Hid (w.grownBy (w6.setCell ⟨g, o + (m + 1), none⟩ (.int .u64 (IntKind.u64.wrap (z + c2)))) (some g)) := grown_trans (grown_trans HGW.out hgr2) (grown_set _ _ _ _)
          clear hrow2 hrun2 hgr2 hcx6 hfr6 HSTEP HA HCD
          go_wp2
          go_roundw
          case rel => exact ⟨G2 - 1, _, _, rfl, by omega, by omega, HRW2.out, HD2.out, HGR2.out⟩
          case measure => simp [intOf]; omega
end Go.Proofs.Ytdojbknkaoiioaa
