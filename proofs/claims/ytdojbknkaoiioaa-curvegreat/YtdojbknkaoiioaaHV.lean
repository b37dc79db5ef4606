/-
  The code's Check, of a right curve.
-/
import Derived.Test.YtdojbknkaoiioaaHK
namespace Go.Proofs.Ytdojbknkaoiioaa
open Go.Shelf Go.RowKit
set_option linter.unusedVariables false
set_option linter.unusedSimpArgs false

set_option maxRecDepth 100000 in
set_option maxHeartbeats 4000000 in
theorem Check_yes (c : Value) (K : Cz) (L : Nat) (w : World) (hc : Cu w c K L) (hL : 1 ≤ L ∧ L ≤ 70) (h0 : K.p ≠ 0) (h1 : sizedB K = true) (h2 : reducedB K = true) (h3 : discZ K ≠ 0) (h4 : onB K (baseZ K) = true) (h5 : ∀ r, MulZ K (baseZ K) (bitsOf K.n (blen K.n.toNat) (blen K.n.toNat)) r → backB K r = true) :
    Calls Try.prog 15 #[c] w fun e w' => e = .returned (.int .i64 0) ∧ Below w.heap.size w w' := by
  have HCU : Hid (Cu w c K L) := hc
  obtain ⟨g1, g2, oo, lo, co, a1, a2, a3, b1, b2, b3, d1, d2, d3, e1, e2, e3, f1, f2, f3, j1, j2, j3, rfl, -, -, -, -, -, c6⟩ := hc.slices
  obtain ⟨W0, hW0⟩ : ∃ W0, w.alloc (.cells #[.int .i64 g1, .int .i64 g2, .slice oo lo co, .slice a1 a2 a3, .slice b1 b2 b3, .slice d1 d2 d3, .slice e1 e2 e3, .slice f1 f2 f3, .slice j1 j2 j3] 29) = W0 := ⟨_, rfl⟩
  have HW : Hid (W0.heap[w.heap.size]? = some (.cells #[.int .i64 g1, .int .i64 g2, .slice oo lo co, .slice a1 a2 a3, .slice b1 b2 b3, .slice d1 d2 d3, .slice e1 e2 e3, .slice f1 f2 f3, .slice j1 j2 j3] 29 (0, 0)) ∧ Below w.heap.size w W0) := by rw [← hW0]; exact ⟨heap_alloc_new w _, (Below.refl _ _).alloc (Nat.le_refl _) _⟩
  obtain ⟨c0, c1, c2, c3, c4, c5, c6, c7, c8⟩ := cells9 HW.out.1
  clear hc
  go_enter Try.func15, Try.ntmps15
  go_wp2_with fail
  clear c0 c1 c2 c3 c4 c5 c6 c7 c8
  go_at_call 45
  refine (sized_any _ K L W0 (HCU.out.old (HW.out.2.trans ((Below.refl W0.heap.size W0).mono HW.out.2.size))) (by omega)).mono ?_
  rintro e w1 ⟨rfl, hb1⟩
  have Bw1 : Below W0.heap.size W0 w1 := hb1
  obtain ⟨c0, c1, c2, c3, c4, c5, c6, c7, c8⟩ := cells9 (blk_old HW.out.1 Bw1)
  rw [h1]
  go_wp2_with fail
  clear c0 c1 c2 c3 c4 c5 c6 c7 c8
  go_at_call 46
  refine (reduced_any _ K L w1 (HCU.out.old (HW.out.2.trans (Bw1.mono HW.out.2.size)))).mono ?_
  rintro e w2 ⟨rfl, hb2⟩
  have Bw2 : Below W0.heap.size W0 w2 := Bw1.trans (hb2.mono Bw1.size)
  obtain ⟨c0, c1, c2, c3, c4, c5, c6, c7, c8⟩ := cells9 (blk_old HW.out.1 Bw2)
  rw [h2]
  go_wp2_with fail
  clear c0 c1 c2 c3 c4 c5 c6 c7 c8
  refine wp_region_frames 15 [[11], [12], [13], [14], [15], [16], [17], [18], [19], [20], [21], [22], [23], [24], [25]] (([.eq (Value.agg #[Value.int IntKind.i64 g1, Value.int IntKind.i64 g2, Value.slice oo lo co, Value.slice a1 a2 a3, Value.slice b1 b2 b3, Value.slice d1 d2 d3, Value.slice e1 e2 e3, Value.slice f1 f2 f3, Value.slice j1 j2 j3]), .nv (fun n => n = discZ K) L, .eq (Value.bool false), .eq (Value.bool false), .eq (Value.agg #[Value.int IntKind.i64 g1, Value.int IntKind.i64 g2, Value.slice oo lo co, Value.slice a1 a2 a3, Value.slice b1 b2 b3, Value.slice d1 d2 d3, Value.slice e1 e2 e3, Value.slice f1 f2 f3, Value.slice j1 j2 j3]), .eq (Value.agg #[Value.int IntKind.i64 g1, Value.int IntKind.i64 g2, Value.slice oo lo co, Value.slice a1 a2 a3, Value.slice b1 b2 b3, Value.slice d1 d2 d3, Value.slice e1 e2 e3, Value.slice f1 f2 f3, Value.slice j1 j2 j3]), .pv (fun p => p = baseZ K) L, .eq (Value.bool true), .eq (Value.bool false), .eq (Value.bool false), .eq (Value.bool false), .eq (Value.agg #[Value.int IntKind.i64 g1, Value.int IntKind.i64 g2, Value.slice oo lo co, Value.slice a1 a2 a3, Value.slice b1 b2 b3, Value.slice d1 d2 d3, Value.slice e1 e2 e3, Value.slice f1 f2 f3, Value.slice j1 j2 j3]), .eq (Value.bool true), .eq (Value.bool false), .eq (Value.bool false)] : List Fk).map Fk.sem) [0, 1, 2, 3, 4, 5, 6, 7, 8, 9, 10, 11, 12, 13, 14] (by kernel_rfl) (by kernel_rfl) (by kernel_rfl) ?step ?done
  case step =>
    intro i o ho listed a wx hI hli hne KK hK
    have hlt : i < 15 := (Array.getElem?_eq_some_iff.1 ho).1
    have hsz : Hid (a.tmps.size = 26) := hI.slots
    have hbw : Below w2.heap.size w2 wx := (Below.refl _ _).drew.trans hI.below
    obtain rfl | rfl | rfl | rfl | rfl | rfl | rfl | rfl | rfl | rfl | rfl | rfl | rfl | rfl | rfl : i = 0 ∨ i = 1 ∨ i = 2 ∨ i = 3 ∨ i = 4 ∨ i = 5 ∨ i = 6 ∨ i = 7 ∨ i = 8 ∨ i = 9 ∨ i = 10 ∨ i = 11 ∨ i = 12 ∨ i = 13 ∨ i = 14 := by omega
    · simp only [List.getElem?_toArray, List.getElem?_cons_succ, List.getElem?_cons_zero, Option.some.injEq] at ho
      subst ho
      rw [if_pos (by rfl)]
      have eH1 : a.tmps.getD 1 undef = Value.pointer (some { block := w.heap.size, off := 0 }) := hI.stays hli 15 1 (by decide +kernel)
      obtain ⟨c0, c1, c2, c3, c4, c5, c6, c7, c8⟩ := cells9 (blk_old HW.out.1 (Bw2.trans (hbw.mono Bw2.size)))
      go_simp
      exact hI.grow hK _ _ (Below.refl _ _) (put_self _ _ _ (by rw [hsz.out]; decide))
    · simp only [List.getElem?_toArray, List.getElem?_cons_succ, List.getElem?_cons_zero, Option.some.injEq] at ho
      subst ho
      rw [if_pos (by rfl)]
      have eH11 : a.tmps.getD 11 undef = (Value.agg #[Value.int IntKind.i64 g1, Value.int IntKind.i64 g2, Value.slice oo lo co, Value.slice a1 a2 a3, Value.slice b1 b2 b3, Value.slice d1 d2 d3, Value.slice e1 e2 e3, Value.slice f1 f2 f3, Value.slice j1 j2 j3]) := hI.deep hne 15 0 (by decide +kernel)
      have hbz : Below w.heap.size w wx := HW.out.2.trans ((Bw2.trans (hbw.mono Bw2.size)).mono HW.out.2.size)
      go_simp
      go_at_call 48
      refine (disc_any _ K L wx (HCU.out.old hbz) h0 (by omega)).mono ?_
      rintro e w5 ⟨v5, rfl, hv5, hb5⟩
      exact hI.grow hK _ _ hb5 ⟨_, rfl, by have hp := put_self a 12 v5 (by rw [hsz.out]; decide); show Nv w5 ((a.put (some 12) v5).tmps.getD 12 undef) _ _; rw [hp]; exact hv5⟩
    · simp only [List.getElem?_toArray, List.getElem?_cons_succ, List.getElem?_cons_zero, Option.some.injEq] at ho
      subst ho
      rw [if_pos (by rfl)]
      have fA1 : Fk.sem (.nv (fun n => n = discZ K) L) [a.tmps.getD 12 undef] wx := hI.deep hne 15 1 (by decide +kernel)
      obtain ⟨zX12, eH12⟩ : ∃ x, a.tmps.getD 12 undef = x := ⟨_, rfl⟩
      simp only [eH12] at fA1
      obtain ⟨n, rfl, hn⟩ := fA1
      have hn' : Nv wx zX12 (discZ K) L := hn
      clear hn
      have HZ := isZero_any zX12 (discZ K) L wx hn'
      rw [show decide (discZ K = 0) = false by simp [h3]] at HZ
      go_simp
      go_at_call 47
      refine HZ.mono ?_
      rintro e w5 ⟨rfl, rfl⟩
      exact hI.grow hK _ _ (Below.refl _ _) (put_self _ _ _ (by rw [hsz.out]; decide))
    · simp only [List.getElem?_toArray, List.getElem?_cons_succ, List.getElem?_cons_zero, Option.some.injEq] at ho
      subst ho
      rw [if_pos (by rfl)]
      have eH13 : a.tmps.getD 13 undef = (Value.bool false) := hI.deep hne 15 2 (by decide +kernel)
      go_simp
      exact hI.grow hK _ _ (Below.refl _ _) (put_self _ _ _ (by rw [hsz.out]; decide))
    · simp only [List.getElem?_toArray, List.getElem?_cons_succ, List.getElem?_cons_zero, Option.some.injEq] at ho
      subst ho
      have eGd : a.tmps.getD 14 undef = (Value.bool false) := hI.deep hne 15 3 (by decide +kernel)
      rw [if_pos (by simp only [Region.wanted]; exact wanted_at rfl rfl eGd)]
      clear eGd
      have eH1 : a.tmps.getD 1 undef = Value.pointer (some { block := w.heap.size, off := 0 }) := hI.stays hli 15 1 (by decide +kernel)
      obtain ⟨c0, c1, c2, c3, c4, c5, c6, c7, c8⟩ := cells9 (blk_old HW.out.1 (Bw2.trans (hbw.mono Bw2.size)))
      go_simp
      exact hI.grow hK _ _ (Below.refl _ _) (put_self _ _ _ (by rw [hsz.out]; decide))
    · simp only [List.getElem?_toArray, List.getElem?_cons_succ, List.getElem?_cons_zero, Option.some.injEq] at ho
      subst ho
      have eGd : a.tmps.getD 14 undef = (Value.bool false) := hI.deep hne 15 3 (by decide +kernel)
      rw [if_pos (by simp only [Region.wanted]; exact wanted_at rfl rfl eGd)]
      clear eGd
      have eH1 : a.tmps.getD 1 undef = Value.pointer (some { block := w.heap.size, off := 0 }) := hI.stays hli 15 1 (by decide +kernel)
      obtain ⟨c0, c1, c2, c3, c4, c5, c6, c7, c8⟩ := cells9 (blk_old HW.out.1 (Bw2.trans (hbw.mono Bw2.size)))
      go_simp
      exact hI.grow hK _ _ (Below.refl _ _) (put_self _ _ _ (by rw [hsz.out]; decide))
    · simp only [List.getElem?_toArray, List.getElem?_cons_succ, List.getElem?_cons_zero, Option.some.injEq] at ho
      subst ho
      have eGd : a.tmps.getD 14 undef = (Value.bool false) := hI.deep hne 15 3 (by decide +kernel)
      rw [if_pos (by simp only [Region.wanted]; exact wanted_at rfl rfl eGd)]
      clear eGd
      have eH16 : a.tmps.getD 16 undef = (Value.agg #[Value.int IntKind.i64 g1, Value.int IntKind.i64 g2, Value.slice oo lo co, Value.slice a1 a2 a3, Value.slice b1 b2 b3, Value.slice d1 d2 d3, Value.slice e1 e2 e3, Value.slice f1 f2 f3, Value.slice j1 j2 j3]) := hI.deep hne 15 5 (by decide +kernel)
      have hbz : Below w.heap.size w wx := HW.out.2.trans ((Bw2.trans (hbw.mono Bw2.size)).mono HW.out.2.size)
      go_simp
      go_at_call 18
      refine (Base_any _ K L wx (HCU.out.old hbz)).mono ?_
      rintro e w5 ⟨v5, rfl, hv5, hb5⟩
      exact hI.grow hK _ _ hb5 ⟨_, rfl, by have hp := put_self a 17 v5 (by rw [hsz.out]; decide); show Pv w5 ((a.put (some 17) v5).tmps.getD 17 undef) _ _; rw [hp]; exact hv5⟩
    · simp only [List.getElem?_toArray, List.getElem?_cons_succ, List.getElem?_cons_zero, Option.some.injEq] at ho
      subst ho
      have eGd : a.tmps.getD 14 undef = (Value.bool false) := hI.deep hne 15 3 (by decide +kernel)
      rw [if_pos (by simp only [Region.wanted]; exact wanted_at rfl rfl eGd)]
      clear eGd
      have eH15 : a.tmps.getD 15 undef = (Value.agg #[Value.int IntKind.i64 g1, Value.int IntKind.i64 g2, Value.slice oo lo co, Value.slice a1 a2 a3, Value.slice b1 b2 b3, Value.slice d1 d2 d3, Value.slice e1 e2 e3, Value.slice f1 f2 f3, Value.slice j1 j2 j3]) := hI.deep hne 15 4 (by decide +kernel)
      have fA6 : Fk.sem (.pv (fun p => p = baseZ K) L) [a.tmps.getD 17 undef] wx := hI.deep hne 15 6 (by decide +kernel)
      obtain ⟨zX17, eH17⟩ : ∃ x, a.tmps.getD 17 undef = x := ⟨_, rfl⟩
      simp only [eH17] at fA6
      have hbz : Below w.heap.size w wx := HW.out.2.trans ((Bw2.trans (hbw.mono Bw2.size)).mono HW.out.2.size)
      obtain ⟨n, rfl, hn⟩ := fA6
      have hn' : Pv wx zX17 (baseZ K) L := hn
      clear hn
      go_simp
      go_at_call 23
      refine (On_any _ _ K (baseZ K) L wx (HCU.out.old hbz) hn' (by omega)).mono ?_
      rintro e w5 ⟨rfl, hb5⟩
      rw [h4]
      exact hI.grow hK _ _ hb5 (put_self _ _ _ (by rw [hsz.out]; decide))
    · simp only [List.getElem?_toArray, List.getElem?_cons_succ, List.getElem?_cons_zero, Option.some.injEq] at ho
      subst ho
      have eGd : a.tmps.getD 14 undef = (Value.bool false) := hI.deep hne 15 3 (by decide +kernel)
      rw [if_pos (by simp only [Region.wanted]; exact wanted_at rfl rfl eGd)]
      clear eGd
      have eH18 : a.tmps.getD 18 undef = (Value.bool true) := hI.deep hne 15 7 (by decide +kernel)
      go_simp
      exact hI.grow hK _ _ (Below.refl _ _) (put_self _ _ _ (by rw [hsz.out]; decide))
    · simp only [List.getElem?_toArray, List.getElem?_cons_succ, List.getElem?_cons_zero, Option.some.injEq] at ho
      subst ho
      rw [if_pos (by rfl)]
      have eH14 : a.tmps.getD 14 undef = (Value.bool false) := hI.deep hne 15 3 (by decide +kernel)
      have eH19 : a.tmps.getD 19 undef = (Value.bool false) := hI.deep hne 15 8 (by decide +kernel)
      go_simp
      exact hI.grow hK _ _ (Below.refl _ _) (put_self _ _ _ (by rw [hsz.out]; decide))
    · simp only [List.getElem?_toArray, List.getElem?_cons_succ, List.getElem?_cons_zero, Option.some.injEq] at ho
      subst ho
      rw [if_pos (by rfl)]
      have eH20 : a.tmps.getD 20 undef = (Value.bool false) := hI.deep hne 15 9 (by decide +kernel)
      go_simp
      exact hI.grow hK _ _ (Below.refl _ _) (put_self _ _ _ (by rw [hsz.out]; decide))
    · simp only [List.getElem?_toArray, List.getElem?_cons_succ, List.getElem?_cons_zero, Option.some.injEq] at ho
      subst ho
      have eGd : a.tmps.getD 21 undef = (Value.bool false) := hI.deep hne 15 10 (by decide +kernel)
      rw [if_pos (by simp only [Region.wanted]; exact wanted_at rfl rfl eGd)]
      clear eGd
      have eH1 : a.tmps.getD 1 undef = Value.pointer (some { block := w.heap.size, off := 0 }) := hI.stays hli 15 1 (by decide +kernel)
      obtain ⟨c0, c1, c2, c3, c4, c5, c6, c7, c8⟩ := cells9 (blk_old HW.out.1 (Bw2.trans (hbw.mono Bw2.size)))
      go_simp
      exact hI.grow hK _ _ (Below.refl _ _) (put_self _ _ _ (by rw [hsz.out]; decide))
    · simp only [List.getElem?_toArray, List.getElem?_cons_succ, List.getElem?_cons_zero, Option.some.injEq] at ho
      subst ho
      have eGd : a.tmps.getD 21 undef = (Value.bool false) := hI.deep hne 15 10 (by decide +kernel)
      rw [if_pos (by simp only [Region.wanted]; exact wanted_at rfl rfl eGd)]
      clear eGd
      have eH22 : a.tmps.getD 22 undef = (Value.agg #[Value.int IntKind.i64 g1, Value.int IntKind.i64 g2, Value.slice oo lo co, Value.slice a1 a2 a3, Value.slice b1 b2 b3, Value.slice d1 d2 d3, Value.slice e1 e2 e3, Value.slice f1 f2 f3, Value.slice j1 j2 j3]) := hI.deep hne 15 11 (by decide +kernel)
      have hbz : Below w.heap.size w wx := HW.out.2.trans ((Bw2.trans (hbw.mono Bw2.size)).mono HW.out.2.size)
      go_simp
      go_at_call 49
      refine (back_any _ K L wx (HCU.out.old hbz) h0 hL).mono ?_
      rintro e w5 ⟨r, hr, rfl, hb5⟩
      rw [h5 r hr]
      exact hI.grow hK _ _ hb5 (put_self _ _ _ (by rw [hsz.out]; decide))
    · simp only [List.getElem?_toArray, List.getElem?_cons_succ, List.getElem?_cons_zero, Option.some.injEq] at ho
      subst ho
      have eGd : a.tmps.getD 21 undef = (Value.bool false) := hI.deep hne 15 10 (by decide +kernel)
      rw [if_pos (by simp only [Region.wanted]; exact wanted_at rfl rfl eGd)]
      clear eGd
      have eH23 : a.tmps.getD 23 undef = (Value.bool true) := hI.deep hne 15 12 (by decide +kernel)
      go_simp
      exact hI.grow hK _ _ (Below.refl _ _) (put_self _ _ _ (by rw [hsz.out]; decide))
    · simp only [List.getElem?_toArray, List.getElem?_cons_succ, List.getElem?_cons_zero, Option.some.injEq] at ho
      subst ho
      rw [if_pos (by rfl)]
      have eH21 : a.tmps.getD 21 undef = (Value.bool false) := hI.deep hne 15 10 (by decide +kernel)
      have eH24 : a.tmps.getD 24 undef = (Value.bool false) := hI.deep hne 15 13 (by decide +kernel)
      go_simp
      exact hI.grow hK _ _ (Below.refl _ _) (put_self _ _ _ (by rw [hsz.out]; decide))
  case done =>
    intro listed a W hI hall
    obtain ⟨tm, df⟩ := a
    have hdf : df = [] := hI.defers
    subst hdf
    have hTM : tm = #[tm.getD 0 undef, tm.getD 1 undef, tm.getD 2 undef, tm.getD 3 undef, tm.getD 4 undef, tm.getD 5 undef, tm.getD 6 undef, tm.getD 7 undef, tm.getD 8 undef, tm.getD 9 undef, tm.getD 10 undef, tm.getD 11 undef, tm.getD 12 undef, tm.getD 13 undef, tm.getD 14 undef, tm.getD 15 undef, tm.getD 16 undef, tm.getD 17 undef, tm.getD 18 undef, tm.getD 19 undef, tm.getD 20 undef, tm.getD 21 undef, tm.getD 22 undef, tm.getD 23 undef, tm.getD 24 undef, tm.getD 25 undef] := arr_of tm 26 hI.slots
    have oS0 : tm.getD 0 undef = Value.agg #[Value.int IntKind.i64 g1, Value.int IntKind.i64 g2, Value.slice oo lo co, Value.slice a1 a2 a3, Value.slice b1 b2 b3, Value.slice d1 d2 d3, Value.slice e1 e2 e3, Value.slice f1 f2 f3, Value.slice j1 j2 j3] := hI.kept 0 (by decide +kernel)
    have oS1 : tm.getD 1 undef = Value.pointer (some { block := w.heap.size, off := 0 }) := hI.kept 1 (by decide +kernel)
    have oS2 : tm.getD 2 undef = Value.int IntKind.i64 0 := hI.kept 2 (by decide +kernel)
    have oS3 : tm.getD 3 undef = Value.agg #[Value.int IntKind.i64 g1, Value.int IntKind.i64 g2, Value.slice oo lo co, Value.slice a1 a2 a3, Value.slice b1 b2 b3, Value.slice d1 d2 d3, Value.slice e1 e2 e3, Value.slice f1 f2 f3, Value.slice j1 j2 j3] := hI.kept 3 (by decide +kernel)
    have oS4 : tm.getD 4 undef = Value.bool true := hI.kept 4 (by decide +kernel)
    have oS5 : tm.getD 5 undef = Value.bool false := hI.kept 5 (by decide +kernel)
    have oS6 : tm.getD 6 undef = Value.bool false := hI.kept 6 (by decide +kernel)
    have oS7 : tm.getD 7 undef = Value.agg #[Value.int IntKind.i64 g1, Value.int IntKind.i64 g2, Value.slice oo lo co, Value.slice a1 a2 a3, Value.slice b1 b2 b3, Value.slice d1 d2 d3, Value.slice e1 e2 e3, Value.slice f1 f2 f3, Value.slice j1 j2 j3] := hI.kept 7 (by decide +kernel)
    have oS8 : tm.getD 8 undef = Value.bool true := hI.kept 8 (by decide +kernel)
    have oS9 : tm.getD 9 undef = Value.bool false := hI.kept 9 (by decide +kernel)
    have oS10 : tm.getD 10 undef = Value.bool false := hI.kept 10 (by decide +kernel)
    have fA0 : tm.getD 11 undef = (Value.agg #[Value.int IntKind.i64 g1, Value.int IntKind.i64 g2, Value.slice oo lo co, Value.slice a1 a2 a3, Value.slice b1 b2 b3, Value.slice d1 d2 d3, Value.slice e1 e2 e3, Value.slice f1 f2 f3, Value.slice j1 j2 j3]) := hI.facts 0 (hall 0 (by decide))
    have fA2 : tm.getD 13 undef = (Value.bool false) := hI.facts 2 (hall 2 (by decide))
    have fA3 : tm.getD 14 undef = (Value.bool false) := hI.facts 3 (hall 3 (by decide))
    have fA4 : tm.getD 15 undef = (Value.agg #[Value.int IntKind.i64 g1, Value.int IntKind.i64 g2, Value.slice oo lo co, Value.slice a1 a2 a3, Value.slice b1 b2 b3, Value.slice d1 d2 d3, Value.slice e1 e2 e3, Value.slice f1 f2 f3, Value.slice j1 j2 j3]) := hI.facts 4 (hall 4 (by decide))
    have fA5 : tm.getD 16 undef = (Value.agg #[Value.int IntKind.i64 g1, Value.int IntKind.i64 g2, Value.slice oo lo co, Value.slice a1 a2 a3, Value.slice b1 b2 b3, Value.slice d1 d2 d3, Value.slice e1 e2 e3, Value.slice f1 f2 f3, Value.slice j1 j2 j3]) := hI.facts 5 (hall 5 (by decide))
    have fA7 : tm.getD 18 undef = (Value.bool true) := hI.facts 7 (hall 7 (by decide))
    have fA8 : tm.getD 19 undef = (Value.bool false) := hI.facts 8 (hall 8 (by decide))
    have fA9 : tm.getD 20 undef = (Value.bool false) := hI.facts 9 (hall 9 (by decide))
    have fA10 : tm.getD 21 undef = (Value.bool false) := hI.facts 10 (hall 10 (by decide))
    have fA11 : tm.getD 22 undef = (Value.agg #[Value.int IntKind.i64 g1, Value.int IntKind.i64 g2, Value.slice oo lo co, Value.slice a1 a2 a3, Value.slice b1 b2 b3, Value.slice d1 d2 d3, Value.slice e1 e2 e3, Value.slice f1 f2 f3, Value.slice j1 j2 j3]) := hI.facts 11 (hall 11 (by decide))
    have fA12 : tm.getD 23 undef = (Value.bool true) := hI.facts 12 (hall 12 (by decide))
    have fA13 : tm.getD 24 undef = (Value.bool false) := hI.facts 13 (hall 13 (by decide))
    have fA14 : tm.getD 25 undef = (Value.bool false) := hI.facts 14 (hall 14 (by decide))
    have hbw : Below w2.heap.size w2 W := (Below.refl _ _).drew.trans hI.below
    clear hI hall listed
    simp only [oS0, oS1, oS2, oS3, oS4, oS5, oS6, oS7, oS8, oS9, oS10, fA0, fA2, fA3, fA4, fA5, fA7, fA8, fA9, fA10, fA11, fA12, fA13, fA14] at hTM
    clear oS0 oS1 oS2 oS3 oS4 oS5 oS6 oS7 oS8 oS9 oS10 fA0 fA2 fA3 fA4 fA5 fA7 fA8 fA9 fA10 fA11 fA12 fA13 fA14
    generalize tm.getD 12 undef = zX12 at hTM 
    generalize tm.getD 17 undef = zX17 at hTM 
    subst hTM
    clear HCU
    have HB : Hid (Below w.heap.size w W) := HW.out.2.trans ((Bw2.trans (hbw.mono Bw2.size)).mono HW.out.2.size)
    clear hbw HW
    go_wp2
    go_ret
    exact ⟨rfl, HB.out⟩
end Go.Proofs.Ytdojbknkaoiioaa
