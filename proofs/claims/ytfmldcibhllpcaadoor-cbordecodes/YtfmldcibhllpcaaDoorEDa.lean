/-
  The document's item, from its first byte on: 1 bytes behind.
-/
import Derived.Test.YtfmldcibhllpcaaDoorEC
namespace Go.Proofs.YtfmldcibhllpcaaDoor
open Go.Shelf Go.RowKit
set_option linter.unusedVariables false
set_option linter.unusedSimpArgs false

set_option maxRecDepth 100000 in
set_option maxHeartbeats 40000000 in
/-- item: from its first byte on. -/
theorem ritem_a (d g : Nat) (c : UInt8) (ys : Bs) (t o : Nat) (w : World) (h : Rr w g (c :: ys) t 0) (hG : Gl g) (hT : Tabs w) (ht : t < 512) (hl : (c :: ys).length ≤ 8192) (hd : d + o = 8) (hcls : c.toNat / 32 ≠ 7 ∧ c.toNat % 32 = 24)
    (HGp : ∀ d', d = d' + 1 → ∀ (Y N : Nat) (zs : Bs) (t : Nat) (W : World), Y = 4 ∨ Y = 5 → Rr W g zs t 0 → Tabs W → t ≤ 512 → zs.length ≤ 8192 → N < 18446744073709551616 → Calls Tryd.prog 54 #[.pointer (some ⟨g, 0, none⟩), .bool (decide (Y = 5)), .int .u64 (N : Int), .int .i64 ((o + 1 : Nat) : Int)] W (RPost d g W (kidsR Y (pcsC (itemC d') (decide (Y = 5)) (o + 1) N none [] t zs)))) :
    Calls Tryd.prog 35 #[.pointer (some ⟨g, 0, none⟩), .int .i64 (o : Int)] w (RPost d g w (itemC d o t (c :: ys))) := by
  have hg := h.lt
  obtain ⟨R, hR⟩ : ∃ R, itemC d o t (c :: ys) = R := ⟨_, rfl⟩
  rw [hR]
  obtain ⟨W0, hW0⟩ : ∃ W0, w.alloc (.cells #[.int .u8 0, .int .u64 0, .slice none 0 0, .slice none 0 0] 35) = W0 := ⟨_, rfl⟩
  have b0 : Below w.heap.size w W0 := by rw [← hW0]; exact (Below.refl _ _).alloc (Nat.le_refl _) _
  have z0 : W0.heap.size = w.heap.size + 1 := by rw [← hW0]; exact alloc_sz w _
  have r0 := h.below b0
  have s0 : Slot W0 w.heap.size (.int .u8 0) (.int .u64 0) (.slice none 0 0) (.slice none 0 0) := by rw [← hW0]; exact Slot.new w _ _ _ _
  have ci := r0.its
  have fi := r0.frz 1
  obtain ⟨W1, hW1⟩ : ∃ W1, W0.setCell ⟨g, 1, none⟩ (.int .i64 ((t + 1 : Nat) : Int)) = W1 := ⟨_, rfl⟩
  have et : ((t + 1 : Nat) : Int) = (t : Int) + 1 := by omega
  have r1 : Rr W1 g (c :: ys) (t + 1) 0 := by rw [← hW1]; exact r0.setItems (t + 1)
  have b1 : But g W0 W1 := by rw [← hW1]; exact But.setCell g W0 1 _
  rw [et] at hW1
  have s1 := s0.same (b1.block _ (by omega) (by omega))
  have bw1 : But g w W1 := (But.ofBelow b0).trans b1
  have ci1 := r1.its
  rw [et] at ci1
  have htI : (t : Int) < 512 := by omega
  have htn : ¬ (512 < (t : Int) + 1) := by omega
  obtain ⟨pr, cr, hra, hrb⟩ := r1
  obtain ⟨b, f, rfl, hc0, hbg⟩ := hra.slice1 (bs := []) hrb
  have cr0 := hra.rest
  have fr0 := hra.frozen 0
  obtain ⟨m, hm⟩ : ∃ m, ys.length = m := ⟨_, rfl⟩
  have hm1 : (c :: ys).length = m + 1 := by simp [hm]
  rw [hm1] at cr0 hra
  have hcap := hrb.cap
  have hbig := hrb.big
  rw [hm1] at hcap
  have hmI : (m : Int) + 1 ≤ 8192 := by omega
  have hcI : (m : Int) + 1 ≤ (cr : Int) := by omega
  have hm0 : 0 ≤ (m : Int) := by omega
  obtain ⟨X, hX⟩ : ∃ X, c.toNat = X := ⟨_, rfl⟩
  have hX8 : X < 256 := by rw [← hX]; exact c.toNat_lt
  rw [hX] at hc0
  have hXI : (X : Int) < 256 := by omega
  have hX0 : 0 ≤ (X : Int) := by omega
  have hdv : (X : Int).tdiv 32 = ((X / 32 : Nat) : Int) := by rw [Int.tdiv_eq_ediv_of_nonneg (by omega)]; omega
  have hmd : (X : Int).tmod 32 = ((X % 32 : Nat) : Int) := by rw [Int.tmod_eq_emod_of_nonneg (by omega)]; omega
  have hdv' : (X : Int) / 32 = ((X / 32 : Nat) : Int) := by omega
  have hmd' : (X : Int) % 32 = ((X % 32 : Nat) : Int) := by omega
  obtain ⟨Y, hY⟩ : ∃ Y, X / 32 = Y := ⟨_, rfl⟩
  obtain ⟨Z, hZ⟩ : ∃ Z, X % 32 = Z := ⟨_, rfl⟩
  rw [hY] at hdv hdv'
  rw [hZ] at hmd hmd'
  have hY8 : Y < 8 := by omega
  have hZ32 : Z < 32 := by omega
  have hYI : (Y : Int) < 8 := by omega
  have hZI : (Z : Int) < 32 := by omega
  go_enter Tryd.func35, Tryd.ntmps35
  go_wp2_with fail
  go_quiet (fail)
  have HW1 : Hid (RrAt W1 g (.slice (some ⟨b, f, none⟩) (m + 1) cr) (t + 1) 0 ∧ ByV W1 (fun b => b < g - 2) (some ⟨b, f, none⟩) cr (c :: ys) ∧ (c :: ys).length = m + 1 ∧ But g w W1 ∧ Slot W1 w.heap.size (.int .u8 0) (.int .u64 0) (.slice none 0 0) (.slice none 0 0)) := ⟨hra, hrb, hm1, bw1, s1⟩
  have HXY : Hid (c.toNat = X ∧ X / 32 = Y ∧ X % 32 = Z) := ⟨hX, hY, hZ⟩
  clear hW1 hW0 ci fi b0 z0 r0 s0 b1 s1 bw1 ci1 htI et hra hrb hc0 hdv hdv' hmd hmd' hX hY hZ hm1 hXI hX0
  go_upto_region 9 with fail
  go_cut [] from 13 (fun wc => RHd d g o w wc ys (t + 1))
  case first =>
    have fin : ∀ p', p' = (if cr = 1 then some ⟨b, f, none⟩ else (some (⟨b, f, none⟩ : Addr)).map (fun x => x.add 1)) → RHd d g o w ((W1.drewN nq).setCell ⟨g, 0, none⟩ (.slice p' m (cr - 1))) ys (t + 1) := fun p' hp => by
      obtain ⟨h1, h2, h3, h4, h5⟩ := HW1.out
      have h1' : RrAt (W1.drewN nq) g (.slice (some ⟨b, f, none⟩) (c :: ys).length cr) (t + 1) 0 := by rw [h3]; exact (drewN_rr nq h1)
      have h2' : ByV (W1.drewN nq) (fun b => b < g - 2) (some ⟨b, f, none⟩) cr (c :: ys) := h2.keep (fun k _ _ => by rw [drewN_heap])
      have hr := Rr.drop h1' h2' 1 (by simp) p' hp
      rw [show (c :: ys).length - 1 = m by rw [h3]; rfl] at hr
      have hbb := (h4.trans (drewN_but g W1 nq)).trans (But.setCell g (W1.drewN nq) 0 (.slice p' m (cr - 1)))
      exact ⟨hr, hbb, (h5.same (by rw [drewN_heap])).same (Below.heap_setCell _ _ _ _ (by show w.heap.size ≠ g; omega))⟩
    by_cases hc1 : cr = 1
    · subst hc1
      have hm00 : m = 0 := by omega
      subst hm00
      go_wp2_with fail
      go_meet
      case rel => exact fin _ (by simp)
    · have hc1n : ¬ cr = 1 := hc1
      go_wp2_with fail
      go_meet
      case rel => exact fin _ (by simp [hc1, Addr.add])
  case rest =>
  have P := hcut
  clear HW1 fr0 cr0 hcut
  rw [itemC_eq, if_neg (by omega)] at hR
  simp only [] at hR
  rw [HXY.out.1, HXY.out.2.1, HXY.out.2.2] at hR
  have h7 : ¬ Y = 7 := by have := HXY.out; omega
  · rw [if_neg h7] at hR
    have h7b : ((Y : Int) == 7) = false := by simp; omega
    have HP : Hid (RHd d g o w wc ys (t + 1)) := P
    clear P
    have hzk : Z = 24 := by have := HXY.out; omega
    subst hzk
    have hz : ¬ (24 : Nat) < 24 := by omega
    go_upto_if 81 with fail
    go_cut [7] from 13 (fun v7 w2 => ∃ (N : Nat) (zs : Bs), v7 = .int .u64 (N : Int) ∧ numC 24 ys = .ok (N, zs) ∧ N < 18446744073709551616 ∧ zs.length ≤ ys.length ∧ RHd d g o w w2 zs (t + 1))
    case first =>
      have hzI : 24 ≤ ((24 : Nat) : Int) := by omega
      obtain ⟨pr, cr, hra, hrb⟩ := HP.out.rd
      have cr0 := fun X => cell_allocC (o := X) hra.rest
      rw [hm] at cr0
      have HAl : Hid (∀ {X : Obj} (q : Nat), Rr ((wc.alloc X).drewN q) g ys (t + 1) 0) := fun {X} q => by
        have h1 := HP.out.rd.below ((Below.refl wc.heap.size wc).alloc (Nat.le_refl _) X)
        obtain ⟨p, c, h2, h3⟩ := h1
        exact ⟨p, c, drewN_rr q h2, h3.keep (fun k _ _ => by rw [drewN_heap])⟩
      have hz7d : decide (27 < ((24 : Nat) : Int)) = false := by simp
      have hnum : numC 24 ys = match beC 1 0 ys with
        | none => .error 20
        | some (n, ys) => if n < leastC 0 then .error 22 else .ok (n, ys) := rfl
      by_cases hen : ys.length < 1
      · as_aux_lemma =>
        rw [beC_none _ _ _ hen] at hnum
        simp only [] at hnum
        rw [hnum] at hR
        simp only [] at hR
        have henI : (m : Int) < 1 := by omega
        have hend : decide ((m : Int) < 1) = true := by simpa using henI
        have hene : decide (m < 1) = true := by simp; omega
        go_wp2_with fail
        go_quiet (fail)
        generalize hwx : (wc.alloc _).drewN nq = wx
        have bx : But g wc wx := by rw [← hwx]; exact (But.ofBelow ((Below.refl _ _).alloc (Nat.le_refl _) _)).trans (drewN_but g _ nq)
        have sx := HP.out.slot.same (bx.block _ HP.out.slot.lt (by omega))
        have rx : Rr wx g ys (t + 1) 0 := by rw [← hwx]; exact HAl.out nq
        have HBd := rbad_any g 20 ys (t + 1) wx rx (by decide)
        clear hwx
        go_wp2_with (go_at_call 53; refine HBd.mono ?_; rintro e w2 ⟨rfl, b2, r2⟩; have s2 := sx.same (b2.block _ sx.lt (by omega)); obtain ⟨k0, k1, k2, k3, f0, f1, f2, f3⟩ := s2.facts)
        have s3 := s2.set4 (.int .u8 0) (.int .u64 0) (.slice none 0 0) (.slice none 0 0)
        have b3 := But.set4 w2 w.heap.size (.int .u8 0) (.int .u64 0) (.slice none 0 0) (.slice none 0 0)
        refine bodyPost_ret (ret_item1 rfl _ _ w.heap.size _ _ _ _ rfl s3) rfl ?_
        exact ⟨((HP.out.but.trans bx).trans b2).fresh b3 (Nat.le_refl _), .inr ⟨20, ys, t + 1, _, _, _, _, _, _, _, _, hR.symm, by decide, by decide, rfl, r2.slot b3 (by omega)⟩⟩
      · as_aux_lemma =>
        have henI : ¬ (m : Int) < 1 := by omega
        have hend : decide ((m : Int) < 1) = false := by simpa using henI
        have hene : decide (m < 1) = false := by simp; omega
        rw [beC_bv _ _ _ (by omega)] at hnum
        simp only [] at hnum
        rw [show (ys.take 1).foldl (fun a c => a * 256 + c.toNat) 0 = bv (ys.take 1) from rfl] at hnum
        go_wp2_with fail
        go_quiet (fail)
        generalize hwx : (wc.alloc _).drewN nq = wx
        have bx : But g wc wx := by rw [← hwx]; exact (But.ofBelow ((Below.refl _ _).alloc (Nat.le_refl _) _)).trans (drewN_but g _ nq)
        have sx := HP.out.slot.same (bx.block _ HP.out.slot.lt (by omega))
        have rx : Rr wx g ys (t + 1) 0 := by rw [← hwx]; exact HAl.out nq
        have xs : wx.cell? ⟨wc.heap.size, 0, none⟩ = some (.int .i64 1) := by rw [← hwx]; exact (World.cell?_of_block (w := wc.alloc _) (by rw [drewN_heap])).trans (cell_of_row _ wc.heap.size 0 _ _ _ (heap_alloc_new wc _))
        obtain ⟨p2, c2, hr2, hv2⟩ := rx
        obtain ⟨b2, f2, rfl, hc2⟩ := hv2.lies (by omega)
        have cx := hr2.rest
        have fx := hr2.frozen 0
        have hcap2 := hv2.cap
        have hbig2 := hv2.big
        rw [hm] at cx hc2 hcap2
        have hcI2 : (m : Int) ≤ (c2 : Int) := by omega
        have HW : Hid (RrAt wx g (.slice (some ⟨b2, f2, none⟩) ys.length c2) (t + 1) 0 ∧ ByV wx (fun b => b < g - 2) (some ⟨b2, f2, none⟩) c2 ys ∧ But g wc wx ∧ Slot wx w.heap.size (.int .u8 0) (.int .u64 0) (.slice none 0 0) (.slice none 0 0) ∧ ∀ i, i < m → wx.cell? ⟨b2, f2 + i, none⟩ = some (.int .u8 ((ys.getD i 0).toNat : Int))) := ⟨hr2, hv2, bx, sx, hc2⟩
        have hlen : ∀ j, j ≤ 1 → (ys.take j).length = j := fun j hj => by rw [List.length_take]; omega
        clear hwx hr2 hv2 bx sx hc2 cr0 hra hrb
        go_wp2_with fail
        go_loopw [7, 10] (fun v7 v10 wr => ∃ j : Nat, j ≤ 1 ∧ v10 = .int .i64 (j : Int) ∧ v7 = .int .u64 (bv (ys.take j) : Int) ∧ wr = wx) (fun _ v10 _ => 1 - (intOf v10).toNat)
        case atStart => exact ⟨0, by omega, rfl, by simp [bv], rfl⟩
        case round =>
          obtain ⟨j, hj, rfl, rfl, rfl⟩ := hrel
          obtain ⟨A, hA⟩ : ∃ A, bv (ys.take j) = A := ⟨_, rfl⟩
          have hAl : A < 256 ^ j := by have := bv_lt (ys.take j); rw [hlen j hj, hA] at this; exact this
          rcases Nat.lt_or_eq_of_le hj with hj | rfl
          · have hjI : (j : Int) < 1 := by omega
            have hj0 : (0 : Int) ≤ (j : Int) := by omega
            have hjm : (j : Int) < (m : Int) := by omega
            obtain ⟨y, hy⟩ : ∃ y, ys.getD j 0 = y := ⟨_, rfl⟩
            have hc := HW.out.2.2.2.2 j (by omega)
            rw [hy] at hc
            have hyl := y.toNat_lt
            have hA7 : A < 72057594037927936 := Nat.lt_of_lt_of_le hAl (Nat.le_trans (Nat.pow_le_pow_right (by decide) (show j ≤ 7 by omega)) (by decide))
            have hAI : (A : Int) < 72057594037927936 := by omega
            have hyI : (y.toNat : Int) < 256 := by omega
            have hn : bv (ys.take (j + 1)) = A * 256 + y.toNat := by
              have hjl : j < ys.length := by omega
              rw [take_snoc (c := y) (by rw [List.getElem?_eq_getElem hjl]; simp [List.getD, hjl] at hy; rw [hy]), bv_snoc, hA]
            have HN : Hid (bv (ys.take (j + 1)) = A * 256 + y.toNat) := hn
            rw [hA]
            clear hn hA hAl hA7 hy
            go_wp2
            exact ⟨⟨j + 1, by omega, by go_num, by rw [HN.out]; push_cast; rfl, trivial⟩, by simp only [intOf]; omega⟩
          · rw [hA] at hnum ⊢
            have hA64 : A < 18446744073709551616 := Nat.lt_of_lt_of_le hAl (by decide)
            have hAI : (A : Int) < 18446744073709551616 := by omega
            have fin : ∀ (p' : Option Addr) (X : Obj), p' = (if c2 = 1 then some ⟨b2, f2, none⟩ else (some (⟨b2, f2, none⟩ : Addr)).map (fun x => x.add 1)) → RHd d g o w ((wr.setCell ⟨g, 0, none⟩ (.slice p' (m - 1) (c2 - 1))).alloc X) (ys.drop 1) (t + 1) := fun p' X hp => by
              obtain ⟨h1, h2, h3, h4, h5⟩ := HW.out
              have hr := Rr.drop h1 h2 1 (by omega) p' hp
              rw [hm] at hr
              have bs' := But.setCell g wr 0 (.slice p' (m - 1) (c2 - 1))
              have ba : Below (wr.setCell ⟨g, 0, none⟩ (.slice p' (m - 1) (c2 - 1))).heap.size (wr.setCell ⟨g, 0, none⟩ (.slice p' (m - 1) (c2 - 1))) ((wr.setCell ⟨g, 0, none⟩ (.slice p' (m - 1) (c2 - 1))).alloc X) := (Below.refl _ _).alloc (Nat.le_refl _) X
              have hs := h4.same (bs'.block _ h4.lt (by omega))
              exact ⟨hr.below ba, ((HP.out.but.trans h3).trans bs').trans (But.ofBelow ba), hs.same (ba.block _ hs.lt)⟩
            by_cases hle : A < 24
            · have hleI : (A : Int) < 24 := by omega
              rw [if_pos (show A < leastC 0 from hle)] at hnum
              rw [hnum] at hR
              simp only [] at hR
              have END : Hid (∀ p' X, p' = (if c2 = 1 then some ⟨b2, f2, none⟩ else (some (⟨b2, f2, none⟩ : Addr)).map (fun x => x.add 1)) → Calls Tryd.prog 53 #[.pointer (some ⟨g, 0, none⟩), .int .i64 22] ((wr.setCell ⟨g, 0, none⟩ (.slice p' (m - 1) (c2 - 1))).alloc X) fun e w' => e = .returned (.tuple #[]) ∧ But g w w' ∧ Rr w' g (ys.drop 1) (t + 1) 22 ∧ Slot w' w.heap.size (.int .u8 0) (.int .u64 0) (.slice none 0 0) (.slice none 0 0)) := fun p' X hp => by
                have hf := fin p' X hp
                refine (rbad_any g 22 (ys.drop 1) (t + 1) _ hf.rd (by decide)).mono ?_
                rintro e w' ⟨rfl, b', r'⟩
                exact ⟨rfl, hf.but.trans b', r', hf.slot.same (b'.block _ hf.slot.lt (by omega))⟩
              clear fin
              by_cases hcc : c2 = 1
              · subst hcc
                have hmm : m = 1 := by omega
                subst hmm
                go_wp2_with (go_at_call 53; refine (END.out _ _ (by simp)).mono ?_; rintro e w2 ⟨rfl, b2, r2, s2⟩; obtain ⟨k0, k1, k2, k3, f0, f1, f2, f3⟩ := s2.facts)
                have s3 := s2.set4 (.int .u8 0) (.int .u64 0) (.slice none 0 0) (.slice none 0 0)
                have b3 := But.set4 w2 w.heap.size (.int .u8 0) (.int .u64 0) (.slice none 0 0) (.slice none 0 0)
                refine bodyPost_ret (ret_item1 rfl _ _ w.heap.size _ _ _ _ rfl s3) rfl ?_
                exact ⟨b2.fresh b3 (Nat.le_refl _), .inr ⟨22, _, t + 1, _, _, _, _, _, _, _, _, hR.symm, by decide, by decide, rfl, r2.slot b3 (by omega)⟩⟩
              · have hccn : ¬ c2 = 1 := hcc
                go_wp2_with (go_at_call 53; refine (END.out _ _ (by simp [hcc, Addr.add])).mono ?_; rintro e w2 ⟨rfl, b2, r2, s2⟩; obtain ⟨k0, k1, k2, k3, f0, f1, f2, f3⟩ := s2.facts)
                have s3 := s2.set4 (.int .u8 0) (.int .u64 0) (.slice none 0 0) (.slice none 0 0)
                have b3 := But.set4 w2 w.heap.size (.int .u8 0) (.int .u64 0) (.slice none 0 0) (.slice none 0 0)
                refine bodyPost_ret (ret_item1 rfl _ _ w.heap.size _ _ _ _ rfl s3) rfl ?_
                exact ⟨b2.fresh b3 (Nat.le_refl _), .inr ⟨22, _, t + 1, _, _, _, _, _, _, _, _, hR.symm, by decide, by decide, rfl, r2.slot b3 (by omega)⟩⟩
            · have hleI : ¬ (A : Int) < 24 := by omega
              rw [if_neg (show ¬ A < leastC 0 from hle)] at hnum
              have FIN : Hid (∀ (p' : Option Addr) (X : Obj), p' = (if c2 = 1 then some ⟨b2, f2, none⟩ else (some (⟨b2, f2, none⟩ : Addr)).map (fun x => x.add 1)) → RHd d g o w ((wr.setCell ⟨g, 0, none⟩ (.slice p' (m - 1) (c2 - 1))).alloc X) (ys.drop 1) (t + 1)) := fin
              clear fin
              by_cases hcc : c2 = 1
              · subst hcc
                have hmm : m = 1 := by omega
                subst hmm
                go_wp2_with fail
                go_meet
                case rel => exact ⟨A, _, rfl, hnum, hA64, by simp, FIN.out _ _ (by simp)⟩
              · have hccn : ¬ c2 = 1 := hcc
                go_wp2_with fail
                go_meet
                case rel => exact ⟨A, _, rfl, hnum, hA64, by simp, FIN.out _ _ (by simp [hcc, Addr.add])⟩
    case rest =>
    obtain ⟨N, zs, rfl, hnum, hN, hzl, P⟩ := hcut
    rw [hnum] at hR
    simp only [] at hR
    have hNI : (N : Int) < 18446744073709551616 := by omega
    have HP2 : Hid (RHd d g o w wc zs (t + 1)) := P
    obtain ⟨k0, k1, k2, k3, f0, f1, f2, f3⟩ := P.slot.facts
    clear HP hnum
    by_cases y0 : Y = 0
    · as_aux_lemma =>
      subst y0
      have hR0 : behC d o 0 N (t + 1) zs = .ok (⟨1, N, [], []⟩, t + 1, zs) := rfl
      rw [hR0] at hR
      go_wp2_with fail
      have s3 := HP2.out.slot.set4 (.int .u8 1) (.int .u64 (N : Int)) (.slice none 0 0) (.slice none 0 0)
      have b3 := But.set4 wc w.heap.size (.int .u8 1) (.int .u64 (N : Int)) (.slice none 0 0) (.slice none 0 0)
      refine bodyPost_ret (ret_item1 rfl _ _ w.heap.size _ _ _ _ rfl s3) rfl ?_
      exact ⟨HP2.out.but.fresh b3 (Nat.le_refl _), .inl ⟨_, _, _, _, _, _, _, hR.symm, rfl, ItOk.leaf (i := ⟨1, N, [], []⟩) d (show 1 < 256 by decide) hN (ByV.nil _ _) rfl, HP2.out.rd.slot b3 (by omega)⟩⟩
    by_cases y1 : Y = 1
    · as_aux_lemma =>
      subst y1
      have hR0 : behC d o 1 N (t + 1) zs = .ok (⟨2, N, [], []⟩, t + 1, zs) := rfl
      rw [hR0] at hR
      go_wp2_with fail
      have s3 := HP2.out.slot.set4 (.int .u8 2) (.int .u64 (N : Int)) (.slice none 0 0) (.slice none 0 0)
      have b3 := But.set4 wc w.heap.size (.int .u8 2) (.int .u64 (N : Int)) (.slice none 0 0) (.slice none 0 0)
      refine bodyPost_ret (ret_item1 rfl _ _ w.heap.size _ _ _ _ rfl s3) rfl ?_
      exact ⟨HP2.out.but.fresh b3 (Nat.le_refl _), .inl ⟨_, _, _, _, _, _, _, hR.symm, rfl, ItOk.leaf (i := ⟨2, N, [], []⟩) d (show 2 < 256 by decide) hN (ByV.nil _ _) rfl, HP2.out.rd.slot b3 (by omega)⟩⟩
    by_cases y6 : Y = 6
    · as_aux_lemma =>
      subst y6
      have hR0 : behC d o 6 N (t + 1) zs = .error 20 := rfl
      rw [hR0] at hR
      have HBd := rbad_any g 20 zs (t + 1) wc P.rd (by decide)
      clear k0 k1 k2 k3 f0 f1 f2 f3
      go_wp2_with (go_at_call 53; refine HBd.mono ?_; rintro e w2 ⟨rfl, b2, r2⟩; have s2 := HP2.out.slot.same (b2.block _ HP2.out.slot.lt (by omega)); obtain ⟨k0, k1, k2, k3, f0, f1, f2, f3⟩ := s2.facts)
      have s3 := s2.set4 (.int .u8 0) (.int .u64 0) (.slice none 0 0) (.slice none 0 0)
      have b3 := But.set4 w2 w.heap.size (.int .u8 0) (.int .u64 0) (.slice none 0 0) (.slice none 0 0)
      refine bodyPost_ret (ret_item1 rfl _ _ w.heap.size _ _ _ _ rfl s3) rfl ?_
      exact ⟨(HP2.out.but.trans b2).fresh b3 (Nat.le_refl _), .inr ⟨20, zs, t + 1, _, _, _, _, _, _, _, _, hR.symm, by decide, by decide, rfl, r2.slot b3 (by omega)⟩⟩
    by_cases y23 : Y = 2 ∨ Y = 3
    · obtain ⟨m2, hm2⟩ : ∃ m2, zs.length = m2 := ⟨_, rfl⟩
      obtain ⟨p2, c2, hr2, hv2⟩ := P.rd
      have cx := hr2.rest
      have fx := hr2.frozen 0
      have hcap2 := hv2.cap
      have hbig2 := hv2.big
      rw [hm2] at cx hcap2
      have hm2I : (m2 : Int) ≤ 8192 := by omega
      by_cases hsh : zs.length < N
      · as_aux_lemma =>
        have hshI : (m2 : Int) < (N : Int) := by omega
        have hR0 : behC d o Y N (t + 1) zs = .error 20 := by rcases y23 with rfl | rfl <;> simp [behC, hsh]
        rw [hR0] at hR
        have HBd := rbad_any g 20 zs (t + 1) wc P.rd (by decide)
        clear k0 k1 k2 k3 f0 f1 f2 f3
        rcases y23 with rfl | rfl
        all_goals
          go_wp2_with (go_at_call 53; refine HBd.mono ?_; rintro e w2 ⟨rfl, b2, r2⟩; have s2 := HP2.out.slot.same (b2.block _ HP2.out.slot.lt (by omega)); obtain ⟨k0, k1, k2, k3, f0, f1, f2, f3⟩ := s2.facts)
          have s3 := s2.set4 (.int .u8 0) (.int .u64 0) (.slice none 0 0) (.slice none 0 0)
          have b3 := But.set4 w2 w.heap.size (.int .u8 0) (.int .u64 0) (.slice none 0 0) (.slice none 0 0)
          refine bodyPost_ret (ret_item1 rfl _ _ w.heap.size _ _ _ _ rfl s3) rfl ?_
          exact ⟨(HP2.out.but.trans b2).fresh b3 (Nat.le_refl _), .inr ⟨20, zs, t + 1, _, _, _, _, _, _, _, _, hR.symm, by decide, by decide, rfl, r2.slot b3 (by omega)⟩⟩
      · have hshI : ¬ (m2 : Int) < (N : Int) := by omega
        have hNI2 : (N : Int) ≤ (m2 : Int) := by omega
        have hcI2 : (N : Int) ≤ (c2 : Int) := by omega
        have hNI3 : (N : Int) ≤ 9223372036854775807 := by omega
        have hlenN : (zs.take N).length = N := by rw [List.length_take]; omega
        have FIN : Hid (∀ p', p' = (if c2 = N then p2 else p2.map (fun x => x.add N)) → RHd d g o w (wc.setCell ⟨g, 0, none⟩ (.slice p' (m2 - N) (c2 - N))) (zs.drop N) (t + 1) ∧ ByV (wc.setCell ⟨g, 0, none⟩ (.slice p' (m2 - N) (c2 - N))) (fun b => b < g - 2) p2 c2 (zs.take N)) := fun p' hp => by
          have hr := Rr.drop hr2 hv2 N (by omega) p' hp
          rw [hm2] at hr
          have bs' := But.setCell g wc 0 (.slice p' (m2 - N) (c2 - N))
          exact ⟨⟨hr, HP2.out.but.trans bs', HP2.out.slot.same (bs'.block _ HP2.out.slot.lt (by omega))⟩, (hv2.take N (by omega)).keep (fun k hk hlt => bs'.block k hlt (by omega))⟩
        clear k0 k1 k2 k3 f0 f1 f2 f3 P hr2 hv2
        rcases y23 with rfl | rfl
        · as_aux_lemma =>
          have hR0 : behC d o 2 N (t + 1) zs = .ok (⟨3, 0, zs.take N, []⟩, t + 1, zs.drop N) := by simp [behC]; omega
          rw [hR0] at hR
          have END : ∀ p', p' = (if c2 = N then p2 else p2.map (fun x => x.add N)) → RPost d g w R (.returned (.agg #[.int .u8 3, .int .u64 0, .slice p2 N c2, .slice none 0 0])) (((((wc.setCell ⟨g, 0, none⟩ (.slice p' (m2 - N) (c2 - N))).setCell ⟨w.heap.size, 0, none⟩ (.int .u8 3)).setCell ⟨w.heap.size, 1, none⟩ (.int .u64 0)).setCell ⟨w.heap.size, 2, none⟩ (.slice p2 N c2)).setCell ⟨w.heap.size, 3, none⟩ (.slice none 0 0)) := fun p' hp => by
            obtain ⟨hh, hv⟩ := FIN.out p' hp
            have b3 := But.set4 (wc.setCell ⟨g, 0, none⟩ (.slice p' (m2 - N) (c2 - N))) w.heap.size (.int .u8 3) (.int .u64 0) (.slice p2 N c2) (.slice none 0 0)
            refine ⟨hh.but.fresh b3 (Nat.le_refl _), .inl ⟨_, _, _, _, _, _, _, hR.symm, rfl, ?_, hh.rd.slot b3 (by omega)⟩⟩
            have hv3 : ByV _ (fun b => b < g - 2 ∨ w.heap.size ≤ b) p2 c2 (zs.take N) := (hv.keep (fun k hk hlt => b3.block k hlt (by omega))).mono (fun k hk _ => .inl hk)
            have hi := ItOk.leaf (i := ⟨3, 0, zs.take N, []⟩) d (show (3 : Nat) < 256 by decide) (show (0 : Nat) < 18446744073709551616 by decide) hv3 rfl
            simp only [hlenN] at hi
            exact hi
          have HEND : Hid (∀ p', p' = (if c2 = N then p2 else p2.map (fun x => x.add N)) → RPost d g w R (.returned (.agg #[.int .u8 3, .int .u64 0, .slice p2 N c2, .slice none 0 0])) (((((wc.setCell ⟨g, 0, none⟩ (.slice p' (m2 - N) (c2 - N))).setCell ⟨w.heap.size, 0, none⟩ (.int .u8 3)).setCell ⟨w.heap.size, 1, none⟩ (.int .u64 0)).setCell ⟨w.heap.size, 2, none⟩ (.slice p2 N c2)).setCell ⟨w.heap.size, 3, none⟩ (.slice none 0 0))) := END
          clear END hR
          have SL := fun p' hp => (FIN.out p' hp).1.slot
          by_cases hcc : c2 = N
          · subst hcc
            have hmm : m2 = c2 := by omega
            subst hmm
            have s2 := SL p2 (by simp)
            rw [Nat.sub_self] at s2
            obtain ⟨k0, k1, k2, k3, f0, f1, f2, f3⟩ := s2.facts
            have hE := HEND.out p2 (by simp)
            rw [Nat.sub_self] at hE
            have HE : Hid (RPost d g w R _ _) := hE
            have s3 := s2.set4 (.int .u8 3) (.int .u64 0) (.slice p2 m2 m2) (.slice none 0 0)
            clear hE SL
            go_wp2_with fail
            refine bodyPost_ret (ret_item1 rfl _ _ w.heap.size _ _ _ _ rfl s3) rfl ?_
            exact HE.out
          · have hccn : ¬ c2 = N := hcc
            have s2 := SL (p2.map (fun x => x.add N)) (by simp [hcc])
            obtain ⟨k0, k1, k2, k3, f0, f1, f2, f3⟩ := s2.facts
            have HE : Hid (RPost d g w R _ _) := HEND.out (p2.map (fun x => x.add N)) (by simp [hcc])
            have s3 := s2.set4 (.int .u8 3) (.int .u64 0) (.slice p2 N c2) (.slice none 0 0)
            clear SL
            go_wp2_with fail
            refine bodyPost_ret (ret_item1 rfl _ _ w.heap.size _ _ _ _ rfl s3) rfl ?_
            exact HE.out
        · as_aux_lemma =>
          have hR0 : behC d o 3 N (t + 1) zs = if Lib.validD (zs.take N) then .ok (⟨4, 0, zs.take N, []⟩, t + 1, zs.drop N) else .error 23 := by
            unfold behC
            rw [if_neg (by decide), if_neg (by decide), if_neg (by decide), if_pos rfl, if_neg (by omega)]
          rw [hR0] at hR
          have HV := fun p' hp => valid_any p2 N c2 (zs.take N) (wc.setCell ⟨g, 0, none⟩ (.slice p' (m2 - N) (c2 - N))) hlenN (by have := (FIN.out p' hp).2.lies; rw [hlenN] at this; exact this) (by omega) (by omega) (hT.cbut hG (FIN.out p' hp).1.but hg)
          obtain ⟨va, hva⟩ : ∃ va, Lib.validD (zs.take N) = va := ⟨_, rfl⟩
          rw [hva] at HV hR
          have SL := fun p' hp => (FIN.out p' hp).1.slot
          cases va with
          | true =>
            rw [if_pos rfl] at hR
            have END : Hid (∀ p' w3, p' = (if c2 = N then p2 else p2.map (fun x => x.add N)) → Below (wc.setCell ⟨g, 0, none⟩ (.slice p' (m2 - N) (c2 - N))).heap.size (wc.setCell ⟨g, 0, none⟩ (.slice p' (m2 - N) (c2 - N))) w3 → RPost d g w R (.returned (.agg #[.int .u8 4, .int .u64 0, .slice p2 N c2, .slice none 0 0])) ((((w3.setCell ⟨w.heap.size, 0, none⟩ (.int .u8 4)).setCell ⟨w.heap.size, 1, none⟩ (.int .u64 0)).setCell ⟨w.heap.size, 2, none⟩ (.slice p2 N c2)).setCell ⟨w.heap.size, 3, none⟩ (.slice none 0 0))) := fun p' w3 hp hb3 => by
              obtain ⟨hh, hv⟩ := FIN.out p' hp
              have b3 := But.set4 w3 w.heap.size (.int .u8 4) (.int .u64 0) (.slice p2 N c2) (.slice none 0 0)
              refine ⟨(hh.but.trans (But.ofBelow hb3)).fresh b3 (Nat.le_refl _), .inl ⟨_, _, _, _, _, _, _, hR.symm, rfl, ?_, (hh.rd.below hb3).slot b3 (by omega)⟩⟩
              have hv3 : ByV _ (fun b => b < g - 2 ∨ w.heap.size ≤ b) p2 c2 (zs.take N) := ((hv.keep (fun k hk hlt => hb3.block k hlt)).keep (fun k hk hlt => b3.block k hlt (by omega))).mono (fun k hk _ => .inl hk)
              have hi := ItOk.leaf (i := ⟨4, 0, zs.take N, []⟩) d (show (4 : Nat) < 256 by decide) (show (0 : Nat) < 18446744073709551616 by decide) hv3 rfl
              simp only [hlenN] at hi
              exact hi
            clear hR
            by_cases hcc : c2 = N
            · subst hcc
              have hmm : m2 = c2 := by omega
              subst hmm
              have HV2 := HV p2 (by simp)
              have s2 := SL p2 (by simp)
              have E2 := END.out p2
              rw [Nat.sub_self] at HV2 s2 E2
              have HE2 : Hid (∀ w3, _ → _ → RPost d g w R _ _) := E2
              clear HV SL E2
              go_wp2_with (go_at_call 36; refine HV2.mono ?_; rintro e w3 ⟨rfl, hb3⟩; have s3' := s2.same (hb3.block _ s2.lt); obtain ⟨k0, k1, k2, k3, f0, f1, f2, f3⟩ := s3'.facts)
              have s3 := s3'.set4 (.int .u8 4) (.int .u64 0) (.slice p2 m2 m2) (.slice none 0 0)
              refine bodyPost_ret (ret_item1 rfl _ _ w.heap.size _ _ _ _ rfl s3) rfl ?_
              exact HE2.out w3 (by simp) hb3
            · have hccn : ¬ c2 = N := hcc
              have HV2 := HV (p2.map (fun x => x.add N)) (by simp [hcc])
              have s2 := SL (p2.map (fun x => x.add N)) (by simp [hcc])
              clear HV SL
              go_wp2_with (go_at_call 36; refine HV2.mono ?_; rintro e w3 ⟨rfl, hb3⟩; have s3' := s2.same (hb3.block _ s2.lt); obtain ⟨k0, k1, k2, k3, f0, f1, f2, f3⟩ := s3'.facts)
              have s3 := s3'.set4 (.int .u8 4) (.int .u64 0) (.slice p2 N c2) (.slice none 0 0)
              refine bodyPost_ret (ret_item1 rfl _ _ w.heap.size _ _ _ _ rfl s3) rfl ?_
              exact END.out _ w3 (by simp [hcc]) hb3
          | false =>
            rw [if_neg (by decide)] at hR
            have HB : Hid (∀ p' w3, p' = (if c2 = N then p2 else p2.map (fun x => x.add N)) → Below (wc.setCell ⟨g, 0, none⟩ (.slice p' (m2 - N) (c2 - N))).heap.size (wc.setCell ⟨g, 0, none⟩ (.slice p' (m2 - N) (c2 - N))) w3 → Calls Tryd.prog 53 #[.pointer (some ⟨g, 0, none⟩), .int .i64 23] w3 fun e w' => e = .returned (.tuple #[]) ∧ But g w w' ∧ Rr w' g (zs.drop N) (t + 1) 23 ∧ Slot w' w.heap.size (.int .u8 0) (.int .u64 0) (.slice none 0 0) (.slice none 0 0)) := fun p' w3 hp hb3 => by
              obtain ⟨hh, hv⟩ := FIN.out p' hp
              refine (rbad_any g 23 (zs.drop N) (t + 1) w3 (hh.rd.below hb3) (by decide)).mono ?_
              rintro e w' ⟨rfl, b', r'⟩
              have hs := hh.slot.same (hb3.block _ hh.slot.lt)
              exact ⟨rfl, (hh.but.trans (But.ofBelow hb3)).trans b', r', hs.same (b'.block _ hs.lt (by omega))⟩
            by_cases hcc : c2 = N
            · subst hcc
              have hmm : m2 = c2 := by omega
              subst hmm
              have HV2 := HV p2 (by simp)
              have B2 := HB.out p2
              rw [Nat.sub_self] at HV2 B2
              clear HV SL
              go_wp2_with (first
                | (go_at_call 36; refine HV2.mono ?_; rintro e w3 ⟨rfl, hb3⟩)
                | (go_at_call 53; refine (B2 w3 (by simp) hb3).mono ?_; rintro e w4 ⟨rfl, b4, r4, s4⟩; obtain ⟨k0, k1, k2, k3, f0, f1, f2, f3⟩ := s4.facts))
              have s3 := s4.set4 (.int .u8 4) (.int .u64 0) (.slice p2 m2 m2) (.slice none 0 0)
              have b3 := But.set4 w4 w.heap.size (.int .u8 4) (.int .u64 0) (.slice p2 m2 m2) (.slice none 0 0)
              refine bodyPost_ret (ret_item1 rfl _ _ w.heap.size _ _ _ _ rfl s3) rfl ?_
              exact ⟨b4.fresh b3 (Nat.le_refl _), .inr ⟨23, _, t + 1, _, _, _, _, _, _, _, _, hR.symm, by decide, by decide, rfl, r4.slot b3 (by omega)⟩⟩
            · have hccn : ¬ c2 = N := hcc
              have HV2 := HV (p2.map (fun x => x.add N)) (by simp [hcc])
              clear HV SL
              go_wp2_with (first
                | (go_at_call 36; refine HV2.mono ?_; rintro e w3 ⟨rfl, hb3⟩)
                | (go_at_call 53; refine (HB.out _ w3 (by simp [hcc]) hb3).mono ?_; rintro e w4 ⟨rfl, b4, r4, s4⟩; obtain ⟨k0, k1, k2, k3, f0, f1, f2, f3⟩ := s4.facts))
              have s3 := s4.set4 (.int .u8 4) (.int .u64 0) (.slice p2 N c2) (.slice none 0 0)
              have b3 := But.set4 w4 w.heap.size (.int .u8 4) (.int .u64 0) (.slice p2 N c2) (.slice none 0 0)
              refine bodyPost_ret (ret_item1 rfl _ _ w.heap.size _ _ _ _ rfl s3) rfl ?_
              exact ⟨b4.fresh b3 (Nat.le_refl _), .inr ⟨23, _, t + 1, _, _, _, _, _, _, _, _, hR.symm, by decide, by decide, rfl, r4.slot b3 (by omega)⟩⟩
    · as_aux_lemma =>
      have y45 : Y = 4 ∨ Y = 5 := by omega
      clear k0 k1 k2 k3 f0 f1 f2 f3
      cases d with
      | zero =>
        have ho : o = 8 := by omega
        subst ho
        have hR0 : behC 0 8 Y N (t + 1) zs = .error 13 := behC_zero 8 Y N (t + 1) zs y45
        rw [hR0] at hR
        have HBd := rbad_any g 13 zs (t + 1) wc P.rd (by decide)
        rcases y45 with rfl | rfl
        all_goals
          go_wp2_with (go_at_call 53; refine HBd.mono ?_; rintro e w2 ⟨rfl, b2, r2⟩; have s2 := HP2.out.slot.same (b2.block _ HP2.out.slot.lt (by omega)); obtain ⟨k0, k1, k2, k3, f0, f1, f2, f3⟩ := s2.facts)
          have s3 := s2.set4 (.int .u8 0) (.int .u64 0) (.slice none 0 0) (.slice none 0 0)
          have b3 := But.set4 w2 w.heap.size (.int .u8 0) (.int .u64 0) (.slice none 0 0) (.slice none 0 0)
          refine bodyPost_ret (ret_item1 rfl _ _ w.heap.size _ _ _ _ rfl s3) rfl ?_
          exact ⟨(HP2.out.but.trans b2).fresh b3 (Nat.le_refl _), .inr ⟨13, zs, t + 1, _, _, _, _, _, _, _, _, hR.symm, by decide, by decide, rfl, r2.slot b3 (by omega)⟩⟩
      | succ d =>
        rw [behC_kids d o Y N (t + 1) zs y45] at hR
        have hoI : ((o : Int) == 8) = false := by simp; omega
        have hoI2 : (o : Int) ≤ 7 := by omega
        have HGr := HGp d rfl Y N zs (t + 1) wc y45 P.rd (hT.cbut hG P.but hg) (by omega) (by omega) hN
        rw [hR] at HGr
        have eo : ((o + 1 : Nat) : Int) = (o : Int) + 1 := by omega
        rw [eo] at HGr
        rcases y45 with rfl | rfl
        · have e5 : (decide ((4 : Nat) = 5)) = false := rfl
          rw [e5] at HGr
          go_wp2_with (go_at_call 54; refine HGr.mono ?_; intro e w2 hp; obtain ⟨v0, v1, p1, n1, d1, p2, n2, d2, rfl⟩ := hp.forms; have s2 := HP2.out.slot.same (hp.1.block _ HP2.out.slot.lt (by omega)); obtain ⟨k0, k1, k2, k3, f0, f1, f2, f3⟩ := s2.facts)
          have s3 := s2.set4 (.int .u8 v0) (.int .u64 v1) (.slice p1 n1 d1) (.slice p2 n2 d2)
          refine bodyPost_ret (ret_item1 rfl _ _ w.heap.size _ _ _ _ rfl s3) rfl ?_
          exact hp.store HP2.out.but HP2.out.slot.lt hg
        · have e5 : (decide ((5 : Nat) = 5)) = true := rfl
          rw [e5] at HGr
          go_wp2_with (go_at_call 54; refine HGr.mono ?_; intro e w2 hp; obtain ⟨v0, v1, p1, n1, d1, p2, n2, d2, rfl⟩ := hp.forms; have s2 := HP2.out.slot.same (hp.1.block _ HP2.out.slot.lt (by omega)); obtain ⟨k0, k1, k2, k3, f0, f1, f2, f3⟩ := s2.facts)
          have s3 := s2.set4 (.int .u8 v0) (.int .u64 v1) (.slice p1 n1 d1) (.slice p2 n2 d2)
          refine bodyPost_ret (ret_item1 rfl _ _ w.heap.size _ _ _ _ rfl s3) rfl ?_
          exact hp.store HP2.out.but HP2.out.slot.lt hg
end Go.Proofs.YtfmldcibhllpcaaDoor
