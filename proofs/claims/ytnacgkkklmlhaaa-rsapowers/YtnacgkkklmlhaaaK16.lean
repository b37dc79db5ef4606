import Derived.Test.YtnacgkkklmlhaaaK15
/-
  The law RsaPowers: its walk.
-/
namespace Go.Proofs.Ytnacgkkklmlhaaa
open Go.Shelf Go.RowKit
set_option linter.unusedVariables false
set_option linter.unusedSimpArgs false

set_option maxRecDepth 100000 in
set_option maxHeartbeats 8000000 in
theorem RsaPowers_walk (w : World) (which : Int) (wwf : (Lit.int .u8 which).wf = true) (ao : Option Addr) (m c : Nat) (zs : List Int) (cs : Came .u8 w ao m c zs) :
    Calls Try.prog 7 #[.int .u8 which, .slice ao m c] w fun r w' => r = .returned (.bool true) ∧ Below w.heap.size w w' := by
  have hwb := word_u8 wwf
  have l3 := cs.le
  unfold maxLen at l3
  have HCA : Hid (Came .u8 w ao m c zs) := cs
  clear cs wwf
  go_enter Try.func7, Try.ntmps7
  go_wp2_with fail
  refine (RAwake_any w).mono ?_
  rintro r W ⟨rfl, dA⟩
  have HBW : Hid (Below w.heap.size w W) := dA
  clear dA
  by_cases c1 : 200 < m
  · have c1' : (200 : Int) < (m : Int) := by omega
    go_wp2
    go_ret
    exact ⟨rfl, HBW.out⟩
  have c1' : ¬ (200 : Int) < (m : Int) := by omega
  have HNB : Hid (NumIn .u8 256 w ao m c (zs.take m)) := HCA.out.bytes (by omega)
  clear HCA
  generalize zs.take m = bs at *
  obtain ⟨y0, hy0⟩ : ∃ y0, W.alloc (.cells #[.int .u8 15, .int .u8 which] 34) = y0 := ⟨_, rfl⟩
  have HY0 : Hid (W.alloc (.cells #[.int .u8 15, .int .u8 which] 34) = y0) := hy0
  have hg1 : y0.heap[W.heap.size]? = some (.cells #[.int .u8 15, .int .u8 which] 34 (0, 0)) := by rw [← hy0]; exact heap_alloc_new W _
  have hb1 : Below W.heap.size W y0 := by rw [← hy0]; exact (Below.refl _ _).alloc (Nat.le_refl _) _
  have HG1 : Hid (y0.heap[W.heap.size]? = some (.cells #[.int .u8 15, .int .u8 which] 34 (0, 0)) ∧ Below W.heap.size W y0 ∧ W.heap.size < y0.heap.size) := ⟨hg1, hb1, (Array.getElem?_eq_some_iff.1 hg1).1⟩
  clear hy0 hg1 hb1
  go_wp2_with fail
  rw [HY0.out]
  clear HY0
  refine (skey_any which y0 hwb.1 hwb.2).mono ?_
  rintro r wK ⟨vn, ve, rfl, hvn, hve, dK⟩
  have HNV : Hid (Nv wK vn (rsaN which) 8 ∧ Nv wK ve (rsaE which) 8) := ⟨hvn, hve⟩
  obtain ⟨n1, n2, n3, n4, rfl, -⟩ := hvn
  obtain ⟨m1, m2, m3, m4, rfl, -⟩ := hve
  have HFL := fld_keyP wK n1 n2 n3 m1 m2 m3
  obtain ⟨y1, hy1⟩ : ∃ y1, wK.alloc (.cells #[.slice n1 n2 n3, .slice m1 m2 m3] 25) = y1 := ⟨_, rfl⟩
  have hg2 : y1.heap[wK.heap.size]? = some (.cells #[.slice n1 n2 n3, .slice m1 m2 m3] 25 (0, 0)) := by rw [← hy1]; exact heap_alloc_new wK _
  have hb2 : Below wK.heap.size wK y1 := by rw [← hy1]; exact (Below.refl _ _).alloc (Nat.le_refl _) _
  have hs1 : y1.heap[W.heap.size]? = some (.cells #[.int .u8 15, .int .u8 which] 34 (0, 0)) := by rw [hb2.block _ (Nat.lt_of_lt_of_le HG1.out.2.2 dK.size), dK.block _ HG1.out.2.2]; exact HG1.out.1
  have B1 := HG1.out.2.1.trans (dK.mono HG1.out.2.1.size)
  have B2 := B1.trans (hb2.mono B1.size)
  have HY1 : Hid (wK.alloc (.cells #[.slice n1 n2 n3, .slice m1 m2 m3] 25) = y1) := hy1
  have HG2 : Hid (y1.heap[wK.heap.size]? = some (.cells #[.slice n1 n2 n3, .slice m1 m2 m3] 25 (0, 0)) ∧ Below w.heap.size w y1 ∧ Kv y1 (.agg #[.slice n1 n2 n3, .slice m1 m2 m3]) (rsaN which) (rsaE which) 8 ∧ NumIn .u8 256 y1 ao m c bs) := by
    have E := HBW.out.trans (B2.mono HBW.out.size)
    exact ⟨hg2, E, ⟨_, _, rfl, HNV.out.1.old hb2, HNV.out.2.old hb2⟩, HNB.out.old E⟩
  obtain ⟨x0, x1⟩ := cells2 hs1
  rw [← hy1] at x0 x1
  clear hy1 hg2 hb2 hs1 B1 B2 dK HNV HBW HNB HG1
  go_wp2_with fail
  rw [HY1.out]
  clear HY1
  refine (sign_any which hwb.1 hwb.2 ao m c bs y1 HG2.out.2.2.2 (by omega)).mono ?_
  rintro r w6 ⟨v6, rfl, gS, bb, rfl, hrS, hlS, hdS, hvS, d6⟩
  have hnS := hrS.num hdS (by omega)
  rw [hlS] at hnS
  have HRD := Read_yes (some ⟨gS, 0, none⟩) 64 64 bb w6 hnS (by decide)
  rw [hvS] at HRD
  have hl32 := shaS_length bs
  have HSD : Hid (Dg 256 (shaS bs)) := sha_bytes bs
  have HHS : Hid (∀ W', Below y1.heap.size y1 W' → Calls Try.prog 19 #[.slice ao m c] W' fun e w' => e = .returned (ag .u8 (shaS bs)) ∧ Below W'.heap.size W' w') := fun W' hb => hash_any bs ao m c W' (HG2.out.2.2.2.old hb) (by omega)
  obtain ⟨V, hV⟩ : ∃ V, padZ (shaS bs) ^ (rsaD which).toNat % rsaN which = V := ⟨_, rfl⟩
  have HVB : Hid (V ^ (rsaE which).toNat % rsaN which = padZ (shaS bs)) := by
    unfold Hid
    have hp := padZ_lt (shaS bs) (shaS_length bs) (sha_bytes bs)
    have h5 := (rsa_512 which).2.2.1
    rw [← hV]
    exact rsa_back which _ hp.1 (by omega)
  rw [hV] at HRD
  obtain ⟨hs, hhs⟩ : ∃ hs, shaS bs = hs := ⟨_, rfl⟩
  rw [hhs] at HSD HHS HVB hl32
  have D6 : Hid (Below y1.heap.size y1 w6) := d6
  have hN0 := (rsa_small which).1
  have hS64 := (rsa_512 which).2.2.2
  clear hV hhs hnS hrS hlS hdS hvS d6
  go_wp2_with fail
  refine HRD.mono ?_
  rintro r w7 ⟨v7, rfl, ho7⟩
  obtain ⟨hv7, d7⟩ := nv_of ho7
  have D7 : Hid (Below y1.heap.size y1 w7) := D6.out.trans (d7.mono D6.out.size)
  have HG7 : Hid (w7.heap[wK.heap.size]? = some (.cells #[.slice n1 n2 n3, .slice m1 m2 m3] 25 (0, 0)) ∧ wK.heap.size < w7.heap.size ∧ Kv w7 (.agg #[.slice n1 n2 n3, .slice m1 m2 m3]) (rsaN which) (rsaE which) 8 ∧ Nv w7 v7 V 64) := by
    have hlt := (Array.getElem?_eq_some_iff.1 HG2.out.1).1
    exact ⟨by rw [D7.out.block _ hlt]; exact HG2.out.1, Nat.lt_of_lt_of_le hlt D7.out.size, HG2.out.2.2.1.old D7.out, hv7⟩
  have HKN : Hid (Nv w7 (.slice n1 n2 n3) (rsaN which) 8 ∧ Nv w7 (.slice m1 m2 m3) (rsaE which) 8) := by
    obtain ⟨_, _, e1, k1, k2⟩ := HG7.out.2.2.1
    injection e1 with e1
    have el := congrArg Array.toList e1
    simp only [List.cons.injEq, and_true] at el
    obtain ⟨rfl, rfl⟩ := el
    exact ⟨k1, k2⟩
  obtain ⟨s1, s2, s3, s4, rfl, -⟩ := hv7
  clear ho7 d7 HRD x0 x1 HFL
  go_wp2_with fail
--@region 1
  refine wp_region_frames 15 [[29], [30], [31], [32], [33], [34], [35], [36], [37], [9, 37]] (([.eq (Value.slice s1 s2 s3), .rv V (4 * 64), .eq (Value.pointer (some { block := wK.heap.size, off := 1 })), .eq (Value.slice m1 m2 m3), .rv (rsaE which) (4 * 8), .eq (Value.pointer (some { block := wK.heap.size, off := 0 })), .eq (Value.slice n1 n2 n3), .rv (rsaN which) (4 * 8), .rv (V ^ (rsaE which).toNat % rsaN which) (4 * 8), .same] : List Fk).map Fk.sem) [0, 1, 2, 3, 4, 5, 6, 7, 8, 9] (by kernel_rfl) (by kernel_rfl) (by kernel_rfl) ?step ?done
  case step =>
    intro i o ho listed a wx hI hli hne KK hK
    have hlt : i < 10 := (Array.getElem?_eq_some_iff.1 ho).1
    have hsz : Hid (a.tmps.size = 59) := hI.slots
    have hbw : Below w7.heap.size w7 wx := (Below.refl _ _).drew.trans hI.below
    obtain rfl | rfl | rfl | rfl | rfl | rfl | rfl | rfl | rfl | rfl : i = 0 ∨ i = 1 ∨ i = 2 ∨ i = 3 ∨ i = 4 ∨ i = 5 ∨ i = 6 ∨ i = 7 ∨ i = 8 ∨ i = 9 := by omega
    · simp only [List.getElem?_toArray, List.getElem?_cons_succ, List.getElem?_cons_zero, Option.some.injEq] at ho
      subst ho
      rw [if_pos (by rfl)]
      have eH7 : a.tmps.getD 7 undef = Value.slice s1 s2 s3 := hI.stays hli 15 7 (by decide +kernel)
      go_simp
      exact hI.grow hK _ _ (Below.refl _ _) (put_self _ _ _ (by rw [hsz.out]; decide))
    · simp only [List.getElem?_toArray, List.getElem?_cons_succ, List.getElem?_cons_zero, Option.some.injEq] at ho
      subst ho
      rw [if_pos (by rfl)]
      have eH29 : a.tmps.getD 29 undef = (Value.slice s1 s2 s3) := hI.deep hne 0 0 (by decide +kernel)
      have HO := rOf_rv (.slice s1 s2 s3) V 64 wx (HG7.out.2.2.2.old hbw) (by decide)
      go_simp
      go_at_call 11
      refine HO.mono ?_
      rintro r w8 ⟨v8, rfl, hv8, hb8⟩
      exact hI.grow hK _ _ hb8 (by have hp := put_self a 30 v8 (by rw [hsz.out]; decide); show Rv w8 ((a.put (some 30) v8).tmps.getD 30 undef) _ _; rw [hp]; exact hv8)
    · simp only [List.getElem?_toArray, List.getElem?_cons_succ, List.getElem?_cons_zero, Option.some.injEq] at ho
      subst ho
      rw [if_pos (by rfl)]
      have eH6 : a.tmps.getD 6 undef = Value.pointer (some { block := wK.heap.size, off := 0 }) := hI.stays hli 15 6 (by decide +kernel)
      go_simp
      exact hI.grow hK _ _ (Below.refl _ _) (put_self _ _ _ (by rw [hsz.out]; decide))
    · simp only [List.getElem?_toArray, List.getElem?_cons_succ, List.getElem?_cons_zero, Option.some.injEq] at ho
      subst ho
      rw [if_pos (by rfl)]
      have eH31 : a.tmps.getD 31 undef = (Value.pointer (some { block := wK.heap.size, off := 1 })) := hI.deep hne 0 2 (by decide +kernel)
      obtain ⟨x0, x1⟩ := cells2 (by rw [hbw.block _ HG7.out.2.1]; exact HG7.out.1 : wx.heap[wK.heap.size]? = _)
      go_simp
      exact hI.grow hK _ _ (Below.refl _ _) (put_self _ _ _ (by rw [hsz.out]; decide))
    · simp only [List.getElem?_toArray, List.getElem?_cons_succ, List.getElem?_cons_zero, Option.some.injEq] at ho
      subst ho
      rw [if_pos (by rfl)]
      have eH32 : a.tmps.getD 32 undef = (Value.slice m1 m2 m3) := hI.deep hne 0 3 (by decide +kernel)
      have HO := rOf_rv (.slice m1 m2 m3) (rsaE which) 8 wx (HKN.out.2.old hbw) (by decide)
      go_simp
      go_at_call 11
      refine HO.mono ?_
      rintro r w8 ⟨v8, rfl, hv8, hb8⟩
      exact hI.grow hK _ _ hb8 (by have hp := put_self a 33 v8 (by rw [hsz.out]; decide); show Rv w8 ((a.put (some 33) v8).tmps.getD 33 undef) _ _; rw [hp]; exact hv8)
    · simp only [List.getElem?_toArray, List.getElem?_cons_succ, List.getElem?_cons_zero, Option.some.injEq] at ho
      subst ho
      rw [if_pos (by rfl)]
      have eH6 : a.tmps.getD 6 undef = Value.pointer (some { block := wK.heap.size, off := 0 }) := hI.stays hli 15 6 (by decide +kernel)
      go_simp
      exact hI.grow hK _ _ (Below.refl _ _) (put_self _ _ _ (by rw [hsz.out]; decide))
    · simp only [List.getElem?_toArray, List.getElem?_cons_succ, List.getElem?_cons_zero, Option.some.injEq] at ho
      subst ho
      rw [if_pos (by rfl)]
      have eH34 : a.tmps.getD 34 undef = (Value.pointer (some { block := wK.heap.size, off := 0 })) := hI.deep hne 0 5 (by decide +kernel)
      obtain ⟨x0, x1⟩ := cells2 (by rw [hbw.block _ HG7.out.2.1]; exact HG7.out.1 : wx.heap[wK.heap.size]? = _)
      go_simp
      exact hI.grow hK _ _ (Below.refl _ _) (put_self _ _ _ (by rw [hsz.out]; decide))
    · simp only [List.getElem?_toArray, List.getElem?_cons_succ, List.getElem?_cons_zero, Option.some.injEq] at ho
      subst ho
      rw [if_pos (by rfl)]
      have eH35 : a.tmps.getD 35 undef = (Value.slice n1 n2 n3) := hI.deep hne 0 6 (by decide +kernel)
      have HO := rOf_rv (.slice n1 n2 n3) (rsaN which) 8 wx (HKN.out.1.old hbw) (by decide)
      go_simp
      go_at_call 11
      refine HO.mono ?_
      rintro r w8 ⟨v8, rfl, hv8, hb8⟩
      exact hI.grow hK _ _ hb8 (by have hp := put_self a 36 v8 (by rw [hsz.out]; decide); show Rv w8 ((a.put (some 36) v8).tmps.getD 36 undef) _ _; rw [hp]; exact hv8)
    · simp only [List.getElem?_toArray, List.getElem?_cons_succ, List.getElem?_cons_zero, Option.some.injEq] at ho
      subst ho
      rw [if_pos (by rfl)]
      have fA1 : Fk.sem (.rv V (4 * 64)) [a.tmps.getD 30 undef] wx := hI.deep hne 0 1 (by decide +kernel)
      have fA4 : Fk.sem (.rv (rsaE which) (4 * 8)) [a.tmps.getD 33 undef] wx := hI.deep hne 0 4 (by decide +kernel)
      have fA7 : Fk.sem (.rv (rsaN which) (4 * 8)) [a.tmps.getD 36 undef] wx := hI.deep hne 0 7 (by decide +kernel)
      obtain ⟨zX30, eH30⟩ : ∃ x, a.tmps.getD 30 undef = x := ⟨_, rfl⟩
      obtain ⟨zX33, eH33⟩ : ∃ x, a.tmps.getD 33 undef = x := ⟨_, rfl⟩
      obtain ⟨zX36, eH36⟩ : ∃ x, a.tmps.getD 36 undef = x := ⟨_, rfl⟩
      simp only [eH30, eH33, eH36] at fA1 fA4 fA7
      have hr1 : Rv wx zX30 V (4 * 64) := fA1
      have hr2 : Rv wx zX33 (rsaE which) (4 * 8) := fA4
      have hr3 : Rv wx zX36 (rsaN which) (4 * 8) := fA7
      have HPW := rpow_rv zX30 zX33 zX36 V (rsaE which) (rsaN which) (4 * 64) (4 * 8) (4 * 8) wx hr1 hr2 hr3 (by omega) (by decide) (by decide) (by decide)
      obtain ⟨b1, b2, b3, b4, rfl, -⟩ := hr1
      obtain ⟨c1, c2, c3, c4, rfl, -⟩ := hr2
      obtain ⟨d1, d2, d3, d4, rfl, -⟩ := hr3
      have eK30 := eH30
      have eK33 := eH33
      have eK36 := eH36
      rw [Array.getD_eq_getD_getElem?] at eK30 eK33 eK36
      go_simp
      go_at_call 23
      refine HPW.mono ?_
      rintro r w8 ⟨v8, rfl, hv8, hb8⟩
      exact hI.grow hK _ _ hb8 (by have hp := put_self a 37 v8 (by rw [hsz.out]; decide); show Rv w8 ((a.put (some 37) v8).tmps.getD 37 undef) _ _; rw [hp]; exact hv8)
    · simp only [List.getElem?_toArray, List.getElem?_cons_succ, List.getElem?_cons_zero, Option.some.injEq] at ho
      subst ho
      rw [if_pos (by rfl)]
      have fA8 : Fk.sem (.rv (V ^ (rsaE which).toNat % rsaN which) (4 * 8)) [a.tmps.getD 37 undef] wx := hI.deep hne 0 8 (by decide +kernel)
      obtain ⟨zX37, eH37⟩ : ∃ x, a.tmps.getD 37 undef = x := ⟨_, rfl⟩
      simp only [eH37] at fA8
      have eK37 := eH37
      rw [Array.getD_eq_getD_getElem?] at eK37
      go_simp
      exact hI.grow hK _ _ (Below.refl _ _) ((put_self _ _ _ (by rw [hsz.out]; decide)).trans ((put_get _ _ _ _ (by decide)).trans eH37).symm)
  case done =>
    intro listed a WZ hI hall
    obtain ⟨tm, df⟩ := a
    have hdf : df = [] := hI.defers
    subst hdf
    have hTM : tm = #[tm.getD 0 undef, tm.getD 1 undef, tm.getD 2 undef, tm.getD 3 undef, tm.getD 4 undef, tm.getD 5 undef, tm.getD 6 undef, tm.getD 7 undef, tm.getD 8 undef, tm.getD 9 undef, tm.getD 10 undef, tm.getD 11 undef, tm.getD 12 undef, tm.getD 13 undef, tm.getD 14 undef, tm.getD 15 undef, tm.getD 16 undef, tm.getD 17 undef, tm.getD 18 undef, tm.getD 19 undef, tm.getD 20 undef, tm.getD 21 undef, tm.getD 22 undef, tm.getD 23 undef, tm.getD 24 undef, tm.getD 25 undef, tm.getD 26 undef, tm.getD 27 undef, tm.getD 28 undef, tm.getD 29 undef, tm.getD 30 undef, tm.getD 31 undef, tm.getD 32 undef, tm.getD 33 undef, tm.getD 34 undef, tm.getD 35 undef, tm.getD 36 undef, tm.getD 37 undef, tm.getD 38 undef, tm.getD 39 undef, tm.getD 40 undef, tm.getD 41 undef, tm.getD 42 undef, tm.getD 43 undef, tm.getD 44 undef, tm.getD 45 undef, tm.getD 46 undef, tm.getD 47 undef, tm.getD 48 undef, tm.getD 49 undef, tm.getD 50 undef, tm.getD 51 undef, tm.getD 52 undef, tm.getD 53 undef, tm.getD 54 undef, tm.getD 55 undef, tm.getD 56 undef, tm.getD 57 undef, tm.getD 58 undef] := arr_of tm 59 hI.slots
    have oS0 : tm.getD 0 undef = Value.int IntKind.u8 which := hI.kept 0 (by decide +kernel)
    have oS1 : tm.getD 1 undef = Value.slice ao m c := hI.kept 1 (by decide +kernel)
    have oS2 : tm.getD 2 undef = undef := hI.kept 2 (by decide +kernel)
    have oS3 : tm.getD 3 undef = undef := hI.kept 3 (by decide +kernel)
    have oS4 : tm.getD 4 undef = Value.bool false := hI.kept 4 (by decide +kernel)
    have oS5 : tm.getD 5 undef = Value.pointer (some { block := W.heap.size, off := 0 }) := hI.kept 5 (by decide +kernel)
    have oS6 : tm.getD 6 undef = Value.pointer (some { block := wK.heap.size, off := 0 }) := hI.kept 6 (by decide +kernel)
    have oS7 : tm.getD 7 undef = Value.slice s1 s2 s3 := hI.kept 7 (by decide +kernel)
    have oS8 : tm.getD 8 undef = Value.int IntKind.i64 0 := hI.kept 8 (by decide +kernel)
    have oS10 : tm.getD 10 undef = undef := hI.kept 10 (by decide +kernel)
    have oS11 : tm.getD 11 undef = undef := hI.kept 11 (by decide +kernel)
    have oS12 : tm.getD 12 undef = Value.bool true := hI.kept 12 (by decide +kernel)
    have oS13 : tm.getD 13 undef = Value.bool false := hI.kept 13 (by decide +kernel)
    have oS14 : tm.getD 14 undef = Value.slice ao m c := hI.kept 14 (by decide +kernel)
    have oS15 : tm.getD 15 undef = Value.int IntKind.i64 ↑m := hI.kept 15 (by decide +kernel)
    have oS16 : tm.getD 16 undef = Value.bool (decide ((200 : Int) < (m : Int))) := hI.kept 16 (by decide +kernel)
    have oS17 : tm.getD 17 undef = Value.int IntKind.u8 which := hI.kept 17 (by decide +kernel)
    have oS18 : tm.getD 18 undef = Value.agg #[Value.int IntKind.u8 15, Value.int IntKind.u8 which] := hI.kept 18 (by decide +kernel)
    have oS19 : tm.getD 19 undef = Value.agg #[Value.int IntKind.u8 15, Value.int IntKind.u8 which] := hI.kept 19 (by decide +kernel)
    have oS20 : tm.getD 20 undef = Value.agg #[Value.int IntKind.u8 2, Value.int IntKind.i64 0, Value.slice none 0 0, Value.slice none 0 0, Value.bool false, Value.slice n1 n2 n3, Value.slice m1 m2 m3] := hI.kept 20 (by decide +kernel)
    have oS21 : tm.getD 21 undef = Value.agg #[Value.slice n1 n2 n3, Value.slice m1 m2 m3] := hI.kept 21 (by decide +kernel)
    have oS22 : tm.getD 22 undef = Value.tuple #[Value.slice s1 s2 s3, Value.int IntKind.i64 0] := hI.kept 22 (by decide +kernel)
    have oS23 : tm.getD 23 undef = Value.agg #[Value.int IntKind.u8 15, Value.int IntKind.u8 which] := hI.kept 23 (by decide +kernel)
    have oS24 : tm.getD 24 undef = Value.slice ao m c := hI.kept 24 (by decide +kernel)
    have oS25 : tm.getD 25 undef = Value.slice (some { block := gS, off := 0 }) 64 64 := hI.kept 25 (by decide +kernel)
    have oS26 : tm.getD 26 undef = Value.tuple #[Value.slice s1 s2 s3, Value.int IntKind.i64 0] := hI.kept 26 (by decide +kernel)
    have oS27 : tm.getD 27 undef = Value.slice s1 s2 s3 := hI.kept 27 (by decide +kernel)
    have oS28 : tm.getD 28 undef = Value.int IntKind.i64 0 := hI.kept 28 (by decide +kernel)
    have oS38 : tm.getD 38 undef = undef := hI.kept 38 (by decide +kernel)
    have oS39 : tm.getD 39 undef = undef := hI.kept 39 (by decide +kernel)
    have oS40 : tm.getD 40 undef = undef := hI.kept 40 (by decide +kernel)
    have oS41 : tm.getD 41 undef = undef := hI.kept 41 (by decide +kernel)
    have oS42 : tm.getD 42 undef = undef := hI.kept 42 (by decide +kernel)
    have oS43 : tm.getD 43 undef = undef := hI.kept 43 (by decide +kernel)
    have oS44 : tm.getD 44 undef = undef := hI.kept 44 (by decide +kernel)
    have oS45 : tm.getD 45 undef = undef := hI.kept 45 (by decide +kernel)
    have oS46 : tm.getD 46 undef = undef := hI.kept 46 (by decide +kernel)
    have oS47 : tm.getD 47 undef = undef := hI.kept 47 (by decide +kernel)
    have oS48 : tm.getD 48 undef = undef := hI.kept 48 (by decide +kernel)
    have oS49 : tm.getD 49 undef = undef := hI.kept 49 (by decide +kernel)
    have oS50 : tm.getD 50 undef = undef := hI.kept 50 (by decide +kernel)
    have oS51 : tm.getD 51 undef = undef := hI.kept 51 (by decide +kernel)
    have oS52 : tm.getD 52 undef = undef := hI.kept 52 (by decide +kernel)
    have oS53 : tm.getD 53 undef = undef := hI.kept 53 (by decide +kernel)
    have oS54 : tm.getD 54 undef = undef := hI.kept 54 (by decide +kernel)
    have oS55 : tm.getD 55 undef = undef := hI.kept 55 (by decide +kernel)
    have oS56 : tm.getD 56 undef = undef := hI.kept 56 (by decide +kernel)
    have oS57 : tm.getD 57 undef = undef := hI.kept 57 (by decide +kernel)
    have oS58 : tm.getD 58 undef = undef := hI.kept 58 (by decide +kernel)
    have fA8 : Fk.sem (.rv (V ^ (rsaE which).toNat % rsaN which) (4 * 8)) [tm.getD 37 undef] WZ := hI.facts 8 (hall 8 (by decide))
    have fA9 : Fk.sem (.same) [tm.getD 9 undef, tm.getD 37 undef] WZ := hI.facts 9 (hall 9 (by decide))
    have fA0 : tm.getD 29 undef = (Value.slice s1 s2 s3) := hI.facts 0 (hall 0 (by decide))
    have fA2 : tm.getD 31 undef = (Value.pointer (some { block := wK.heap.size, off := 1 })) := hI.facts 2 (hall 2 (by decide))
    have fA3 : tm.getD 32 undef = (Value.slice m1 m2 m3) := hI.facts 3 (hall 3 (by decide))
    have fA5 : tm.getD 34 undef = (Value.pointer (some { block := wK.heap.size, off := 0 })) := hI.facts 5 (hall 5 (by decide))
    have fA6 : tm.getD 35 undef = (Value.slice n1 n2 n3) := hI.facts 6 (hall 6 (by decide))
    have hbw : Below w7.heap.size w7 WZ := (Below.refl _ _).drew.trans hI.below
    clear hI hall listed
    simp only [oS0, oS1, oS2, oS3, oS4, oS5, oS6, oS7, oS8, oS10, oS11, oS12, oS13, oS14, oS15, oS16, oS17, oS18, oS19, oS20, oS21, oS22, oS23, oS24, oS25, oS26, oS27, oS28, oS38, oS39, oS40, oS41, oS42, oS43, oS44, oS45, oS46, oS47, oS48, oS49, oS50, oS51, oS52, oS53, oS54, oS55, oS56, oS57, oS58, fA0, fA2, fA3, fA5, fA6] at hTM
    clear oS0 oS1 oS2 oS3 oS4 oS5 oS6 oS7 oS8 oS10 oS11 oS12 oS13 oS14 oS15 oS16 oS17 oS18 oS19 oS20 oS21 oS22 oS23 oS24 oS25 oS26 oS27 oS28 oS38 oS39 oS40 oS41 oS42 oS43 oS44 oS45 oS46 oS47 oS48 oS49 oS50 oS51 oS52 oS53 oS54 oS55 oS56 oS57 oS58 fA0 fA2 fA3 fA5 fA6
    generalize tm.getD 9 undef = zX9 at hTM fA9
    generalize tm.getD 30 undef = zX30 at hTM 
    generalize tm.getD 33 undef = zX33 at hTM 
    generalize tm.getD 36 undef = zX36 at hTM 
    generalize tm.getD 37 undef = zX37 at hTM fA8 fA9
    subst hTM
    have g9 : zX9 = zX37 := fA9
    have rM : Rv WZ zX37 (V ^ (rsaE which).toNat % rsaN which) (4 * 8) := fA8
    clear fA8 fA9
    subst g9
    rw [HVB.out] at rM
    have hbz : w7.heap.size ≤ WZ.heap.size := hbw.size
    obtain ⟨x0, x1⟩ := cells2 (by rw [hbw.block _ HG7.out.2.1]; exact HG7.out.1 : WZ.heap[wK.heap.size]? = _)
    have HSZ := size_any (.agg #[.slice n1 n2 n3, .slice m1 m2 m3]) (rsaN which) (rsaE which) 8 WZ (HG7.out.2.2.1.old hbw) (by decide)
    rw [hS64] at HSZ
    have DZ : Hid (Below y1.heap.size y1 WZ) := D7.out.trans (hbw.mono D7.out.size)
    have HRM : Hid (Rv WZ zX9 (padZ hs) (4 * 8)) := rM
    obtain ⟨b1, b2, b3, b4, rfl, -⟩ := rM
    clear hbw HVB HKN HG7 D7 D6 hbz
    go_wp2_with fail
    refine HSZ.mono ?_
    rintro r u1 ⟨rfl, f1⟩
    have F1 : Hid (Below y1.heap.size y1 u1) := DZ.out.trans (f1.mono DZ.out.size)
    have HRM1 : Hid (Rv u1 (.slice b1 b2 b3) (padZ hs) (4 * 8)) := HRM.out.old f1
    clear HSZ x0 x1 f1
    go_wp2_with fail
    refine (HHS.out u1 F1.out).mono ?_
    rintro r u2 ⟨rfl, f2⟩
    have F2 : Hid (Below y1.heap.size y1 u2) := F1.out.trans (f2.mono F1.out.size)
    have HRM2 : Hid (Rv u2 (.slice b1 b2 b3) (padZ hs) (4 * 8)) := HRM1.out.old f2
    clear f2
    go_wp2_with fail
    refine (Pad_any 64 hs u2 hl32 HSD.out).mono ?_
    rintro r u3 ⟨v3, rfl, ⟨p1, p2, p3, rfl, hpn⟩, f3⟩
    have F3 : Hid (Below y1.heap.size y1 u3) := F2.out.trans (f3.mono F2.out.size)
    have HRM3 : Hid (Rv u3 (.slice b1 b2 b3) (padZ hs) (4 * 8)) := HRM2.out.old f3
    have HRD := Read_yes p1 p2 p3 _ u3 hpn (by have := hpn.len; have := padA_len 64 hs hl32; omega)
    rw [padA_64] at HRD
    clear f3 hpn
    go_wp2_with fail
    refine HRD.mono ?_
    rintro r u4 ⟨v4, rfl, q1, q2, q3, q4, rfl, hq, hqc, hqv, hql, f4⟩
    have F4 : Hid (Below y1.heap.size y1 u4) := F3.out.trans (f4.mono F3.out.size)
    have hM4 := HRM3.out.old f4
    obtain ⟨_, _, _, _, ee, r5, r6, r7, r8⟩ := hM4
    injection ee with e1 e2 e3
    subst e1
    subst e2
    subst e3
    have HNT := rNat_any _ _ _ _ u4 r5 r6 (by omega)
    have HQ : Hid (NumIn .u64 B64 u4 q1 q2 q3 q4 ∧ Canon q4 ∧ val B64 q4 = padZ hs) := ⟨hq, hqc, hqv⟩
    rw [r7] at HNT
    clear HRD hq hqc hqv f4 r5 r6 r7 r8
    go_wp2_with fail
    refine HNT.mono ?_
    rintro r u5 ⟨v5, rfl, k1, k2, k3, k4, rfl, hk, hkc, hkv, hkl, f5⟩
    have hee := canon_inj B64_one hk.dg HQ.out.1.dg hkc HQ.out.2.1 (by rw [hkv, HQ.out.2.2])
    subst hee
    have hlk := hk.len
    have hlt := HQ.out.1.len
    obtain rfl : k2 = q2 := by omega
    have HSS := Same_yes q1 k1 k2 q3 k3 k4 u5 (HQ.out.1.old f5).lies hk.lies hk.sm
    have F5 : Hid (Below y1.heap.size y1 u5) := F4.out.trans (f5.mono F4.out.size)
    clear f5 hk hkc hkv HNT hlk hlt
    go_wp2_with fail
    refine HSS.mono ?_
    rintro r u6 ⟨rfl, hdr⟩
    go_wp2
    go_ret
    have E := HG2.out.2.1.trans (F5.out.mono HG2.out.2.1.size)
    exact ⟨rfl, E.trans ((hdr.below _).mono E.size)⟩
end Go.Proofs.Ytnacgkkklmlhaaa
