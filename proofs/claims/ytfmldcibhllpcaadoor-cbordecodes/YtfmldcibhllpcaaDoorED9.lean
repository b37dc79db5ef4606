/-
  The document's item, from its first byte on: no size.
-/
import Derived.Test.YtfmldcibhllpcaaDoorEC
namespace Go.Proofs.YtfmldcibhllpcaaDoor
open Go.Shelf Go.RowKit
set_option linter.unusedVariables false
set_option linter.unusedSimpArgs false

set_option maxRecDepth 100000 in
set_option maxHeartbeats 40000000 in
/-- item: from its first byte on. -/
theorem ritem_9 (d g : Nat) (c : UInt8) (ys : Bs) (t o : Nat) (w : World) (h : Rr w g (c :: ys) t 0) (hG : Gl g) (hT : Tabs w) (ht : t < 512) (hl : (c :: ys).length ≤ 8192) (hd : d + o = 8) (hcls : c.toNat / 32 ≠ 7 ∧ 27 < c.toNat % 32)
    (HGp : ∀ d', d = d' + 1 → ∀ (Y N : Nat) (zs : Bs) (t : Nat) (W : World), Y = 4 ∨ Y = 5 → Rr W g zs t 0 → Tabs W → t ≤ 512 → zs.length ≤ 8192 → N < 18446744073709551616 → Calls Tryd.prog 54 #[.pointer (some ⟨g, 0, none⟩), .bool (decide (Y = 5)), .int .u64 (N : Int), .int .i64 ((o + 1 : Nat) : Int)] W (RPost d g W (kidsR Y (pcsC (itemC d') (decide (Y = 5)) (o + 1) N none [] t zs)))) :
    Calls Tryd.prog 35 #[.pointer (some ⟨g, 0, none⟩), .int .i64 (o : Int)] w (RPost d g w (itemC d o t (c :: ys))) := by
  have hg := h.lt
  obtain ⟨R, hR⟩ : ∃ R, itemC d o t (c :: ys) = R := ⟨_, rfl⟩
  rw [hR]
  obtain ⟨W0, hW0⟩ : ∃ W0, w.alloc (.cells #[.int .u8 0, .int .u64 0, .slice none 0 0, .slice none 0 0] 35) = W0 := ⟨_, rfl⟩
  have b0 : Below w.heap.size w W0 := by rw [← hW0]; exact (Below.refl _ _).alloc (Nat.le_refl _) _
  have z0 : W0.heap.size = w.heap.size + 1 := by rw [← hW0]; exact alloc_sz w _
  have r0 := h.below b0
  have s0 : Slot W0 w.heap.size (.int .u8 0) (.int .u64 0) (.slice none 0 0) (.slice none 0 0) := by rw [← hW0]; exact Slot.new w _ _ _ _
  have ci := r0.its
  have fi := r0.frz 1
  obtain ⟨W1, hW1⟩ : ∃ W1, W0.setCell ⟨g, 1, none⟩ (.int .i64 ((t + 1 : Nat) : Int)) = W1 := ⟨_, rfl⟩
  have et : ((t + 1 : Nat) : Int) = (t : Int) + 1 := by omega
  have r1 : Rr W1 g (c :: ys) (t + 1) 0 := by rw [← hW1]; exact r0.setItems (t + 1)
  have b1 : But g W0 W1 := by rw [← hW1]; exact But.setCell g W0 1 _
  rw [et] at hW1
  have s1 := s0.same (b1.block _ (by omega) (by omega))
  have bw1 : But g w W1 := (But.ofBelow b0).trans b1
  have ci1 := r1.its
  rw [et] at ci1
  have htI : (t : Int) < 512 := by omega
  have htn : ¬ (512 < (t : Int) + 1) := by omega
  obtain ⟨pr, cr, hra, hrb⟩ := r1
  obtain ⟨b, f, rfl, hc0, hbg⟩ := hra.slice1 (bs := []) hrb
  have cr0 := hra.rest
  have fr0 := hra.frozen 0
  obtain ⟨m, hm⟩ : ∃ m, ys.length = m := ⟨_, rfl⟩
  have hm1 : (c :: ys).length = m + 1 := by simp [hm]
  rw [hm1] at cr0 hra
  have hcap := hrb.cap
  have hbig := hrb.big
  rw [hm1] at hcap
  have hmI : (m : Int) + 1 ≤ 8192 := by omega
  have hcI : (m : Int) + 1 ≤ (cr : Int) := by omega
  have hm0 : 0 ≤ (m : Int) := by omega
  obtain ⟨X, hX⟩ : ∃ X, c.toNat = X := ⟨_, rfl⟩
  have hX8 : X < 256 := by rw [← hX]; exact c.toNat_lt
  rw [hX] at hc0
  have hXI : (X : Int) < 256 := by omega
  have hX0 : 0 ≤ (X : Int) := by omega
  have hdv : (X : Int).tdiv 32 = ((X / 32 : Nat) : Int) := by rw [Int.tdiv_eq_ediv_of_nonneg (by omega)]; omega
  have hmd : (X : Int).tmod 32 = ((X % 32 : Nat) : Int) := by rw [Int.tmod_eq_emod_of_nonneg (by omega)]; omega
  have hdv' : (X : Int) / 32 = ((X / 32 : Nat) : Int) := by omega
  have hmd' : (X : Int) % 32 = ((X % 32 : Nat) : Int) := by omega
  obtain ⟨Y, hY⟩ : ∃ Y, X / 32 = Y := ⟨_, rfl⟩
  obtain ⟨Z, hZ⟩ : ∃ Z, X % 32 = Z := ⟨_, rfl⟩
  rw [hY] at hdv hdv'
  rw [hZ] at hmd hmd'
  have hY8 : Y < 8 := by omega
  have hZ32 : Z < 32 := by omega
  have hYI : (Y : Int) < 8 := by omega
  have hZI : (Z : Int) < 32 := by omega
  go_enter Tryd.func35, Tryd.ntmps35
  go_wp2_with fail
  go_quiet (fail)
  have HW1 : Hid (RrAt W1 g (.slice (some ⟨b, f, none⟩) (m + 1) cr) (t + 1) 0 ∧ ByV W1 (fun b => b < g - 2) (some ⟨b, f, none⟩) cr (c :: ys) ∧ (c :: ys).length = m + 1 ∧ But g w W1 ∧ Slot W1 w.heap.size (.int .u8 0) (.int .u64 0) (.slice none 0 0) (.slice none 0 0)) := ⟨hra, hrb, hm1, bw1, s1⟩
  have HXY : Hid (c.toNat = X ∧ X / 32 = Y ∧ X % 32 = Z) := ⟨hX, hY, hZ⟩
  clear hW1 hW0 ci fi b0 z0 r0 s0 b1 s1 bw1 ci1 htI et hra hrb hc0 hdv hdv' hmd hmd' hX hY hZ hm1 hXI hX0
  go_upto_region 9 with fail
  go_cut [] from 13 (fun wc => RHd d g o w wc ys (t + 1))
  case first =>
    have fin : ∀ p', p' = (if cr = 1 then some ⟨b, f, none⟩ else (some (⟨b, f, none⟩ : Addr)).map (fun x => x.add 1)) → RHd d g o w ((W1.drewN nq).setCell ⟨g, 0, none⟩ (.slice p' m (cr - 1))) ys (t + 1) := fun p' hp => by
      obtain ⟨h1, h2, h3, h4, h5⟩ := HW1.out
      have h1' : RrAt (W1.drewN nq) g (.slice (some ⟨b, f, none⟩) (c :: ys).length cr) (t + 1) 0 := by rw [h3]; exact (drewN_rr nq h1)
      have h2' : ByV (W1.drewN nq) (fun b => b < g - 2) (some ⟨b, f, none⟩) cr (c :: ys) := h2.keep (fun k _ _ => by rw [drewN_heap])
      have hr := Rr.drop h1' h2' 1 (by simp) p' hp
      rw [show (c :: ys).length - 1 = m by rw [h3]; rfl] at hr
      have hbb := (h4.trans (drewN_but g W1 nq)).trans (But.setCell g (W1.drewN nq) 0 (.slice p' m (cr - 1)))
      exact ⟨hr, hbb, (h5.same (by rw [drewN_heap])).same (Below.heap_setCell _ _ _ _ (by show w.heap.size ≠ g; omega))⟩
    by_cases hc1 : cr = 1
    · subst hc1
      have hm00 : m = 0 := by omega
      subst hm00
      go_wp2_with fail
      go_meet
      case rel => exact fin _ (by simp)
    · have hc1n : ¬ cr = 1 := hc1
      go_wp2_with fail
      go_meet
      case rel => exact fin _ (by simp [hc1, Addr.add])
  case rest =>
  have P := hcut
  clear HW1 fr0 cr0 hcut
  rw [itemC_eq, if_neg (by omega)] at hR
  simp only [] at hR
  rw [HXY.out.1, HXY.out.2.1, HXY.out.2.2] at hR
  have h7 : ¬ Y = 7 := by have := HXY.out; omega
  · rw [if_neg h7] at hR
    have h7b : ((Y : Int) == 7) = false := by simp; omega
    have HP : Hid (RHd d g o w wc ys (t + 1)) := P
    clear P
    have hz : ¬ Z < 24 := by have := HXY.out; omega
    go_upto_if 81 with fail
    go_cut [7] from 13 (fun v7 w2 => ∃ (N : Nat) (zs : Bs), v7 = .int .u64 (N : Int) ∧ numC Z ys = .ok (N, zs) ∧ N < 18446744073709551616 ∧ zs.length ≤ ys.length ∧ RHd d g o w w2 zs (t + 1))
    case first =>
      have hzI : 24 ≤ (Z : Int) := by omega
      obtain ⟨pr, cr, hra, hrb⟩ := HP.out.rd
      have cr0 := fun X => cell_allocC (o := X) hra.rest
      rw [hm] at cr0
      have HAl : Hid (∀ {X : Obj} (q : Nat), Rr ((wc.alloc X).drewN q) g ys (t + 1) 0) := fun {X} q => by
        have h1 := HP.out.rd.below ((Below.refl wc.heap.size wc).alloc (Nat.le_refl _) X)
        obtain ⟨p, c, h2, h3⟩ := h1
        exact ⟨p, c, drewN_rr q h2, h3.keep (fun k _ _ => by rw [drewN_heap])⟩
      have hz7 : 27 < Z := by have := HXY.out; omega
      · have hz7I : 27 < (Z : Int) := by omega
        have hz7d : decide (27 < (Z : Int)) = true := by simpa using hz7I
        have hz7e : decide (27 < Z) = true := by simpa using hz7
        have hnum : numC Z ys = .error 20 := by unfold numC; rw [if_neg hz, if_pos hz7]
        rw [hnum] at hR
        simp only [] at hR
        go_wp2_with fail
        go_quiet (fail)
        generalize hwx : (wc.alloc _).drewN nq = wx
        have bx : But g wc wx := by rw [← hwx]; exact (But.ofBelow ((Below.refl _ _).alloc (Nat.le_refl _) _)).trans (drewN_but g _ nq)
        have sx := HP.out.slot.same (bx.block _ HP.out.slot.lt (by omega))
        have rx : Rr wx g ys (t + 1) 0 := by rw [← hwx]; exact HAl.out nq
        have HBd := rbad_any g 20 ys (t + 1) wx rx (by decide)
        clear hwx
        go_wp2_with (go_at_call 53; refine HBd.mono ?_; rintro e w2 ⟨rfl, b2, r2⟩; have s2 := sx.same (b2.block _ sx.lt (by omega)); obtain ⟨k0, k1, k2, k3, f0, f1, f2, f3⟩ := s2.facts)
        have s3 := s2.set4 (.int .u8 0) (.int .u64 0) (.slice none 0 0) (.slice none 0 0)
        have b3 := But.set4 w2 w.heap.size (.int .u8 0) (.int .u64 0) (.slice none 0 0) (.slice none 0 0)
        refine bodyPost_ret (ret_item1 rfl _ _ w.heap.size _ _ _ _ rfl s3) rfl ?_
        exact ⟨((HP.out.but.trans bx).trans b2).fresh b3 (Nat.le_refl _), .inr ⟨20, ys, t + 1, _, _, _, _, _, _, _, _, hR.symm, by decide, by decide, rfl, r2.slot b3 (by omega)⟩⟩
    case rest =>
    obtain ⟨N, zs, rfl, hnum, _⟩ := hcut
    have hz7 : 27 < Z := by have := HXY.out; omega
    unfold numC at hnum
    rw [if_neg hz, if_pos hz7] at hnum
    cases hnum
end Go.Proofs.YtfmldcibhllpcaaDoor
