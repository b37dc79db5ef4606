import Derived.Test.YtnacgkkklmlhaaaK06
import Derived.Test.YtnacgkkklmlhaaaK05
import Derived.Laws.ResultCell
/-
  The document's Rsa.
-/
namespace Go.Proofs.Ytnacgkkklmlhaaa
open Go.Shelf Go.RowKit
set_option linter.unusedVariables false
set_option linter.unusedSimpArgs false
/-- The first digit of a number that isn't 0. -/
theorem Rv.first {w : World} {v : Value} {n : Int} {L : Nat} (h : Rv w v n L) (hn : 0 < n) : ∃ b o l c x, v = .slice (some ⟨b, o, none⟩) l c ∧ 0 < l ∧ l ≤ L ∧ w.cell? ⟨b, o, none⟩ = some (.int .i64 x) ∧ 0 ≤ x ∧ x % 2 = n % 2 ∧ b < w.heap.size := by
  obtain ⟨a1, a2, a3, a4, rfl, a5, a6, a7, a8⟩ := h
  have hlen := a5.len
  have h0 : 0 < a2 := by
    rcases Nat.eq_zero_or_pos a2 with h | h
    · exfalso
      have : a4 = [] := List.eq_nil_of_length_eq_zero (by omega)
      rw [this] at a7
      simp [val] at a7
      omega
    · exact h
  obtain ⟨b', off, rfl, hlt, hc⟩ := a5.lies.at h0
  match a4, hlen, a7, hc, a5 with
  | [], hlen, _, _, _ => simp at hlen; omega
  | x :: xs, hlen, a7, hc, a5 =>
    have hc0 : w.cell? ⟨b', off, none⟩ = some (.int .i64 x) := by
      have := hc 0 h0
      simpa using this
    have hx := a5.dg x (by simp)
    refine ⟨b', off, a2, a3, x, rfl, h0, a8, hc0, hx.1, ?_, hlt⟩
    rw [← a7, val_cons, show D16 = 2 * 32768 by decide, Int.mul_assoc, Int.add_mul_emod_self_left]
set_option maxRecDepth 100000 in
set_option maxHeartbeats 8000000 in
theorem rrsa_any (k : Value) (n e : Int) (L : Nat) (w : World) (hk : Kv w k n e L) (hL : L ≤ 1000) (hn0 : 0 < n) (he0 : 0 < e) :
    Calls Try.prog 12 #[k] w fun r w' => r = .returned (.bool (keyB n e)) ∧ Below w.heap.size w w' := by
  have H1 := fun W (hb : Below w.heap.size w W) => rsize_any k n e L W (hk.old hb) hL
  have hk2 := hk
  obtain ⟨vn, ve, rfl, hn, he⟩ := hk2
  have H2 := fun W (hb : Below w.heap.size w W) => rOf_rv vn n L W (hn.old hb) hL
  have H3 := fun W (hb : Below w.heap.size w W) => rOf_rv ve e L W (he.old hb) hL
  obtain ⟨a1, a2, a3, a4, rfl, -⟩ := hn
  obtain ⟨e1, e2, e3, e4, rfl, -⟩ := he
  obtain ⟨W0, hW0⟩ : ∃ W0, w.alloc (.cells #[.slice a1 a2 a3, .slice e1 e2 e3] 25) = W0 := ⟨_, rfl⟩
  have b0 : Below w.heap.size w W0 := by rw [← hW0]; exact (Below.refl w.heap.size w).alloc (Nat.le_refl _) _
  have HC : Hid (W0.heap[w.heap.size]? = some (.cells #[.slice a1 a2 a3, .slice e1 e2 e3] 25 (0, 0))) := by unfold Hid; rw [← hW0]; exact heap_alloc_new w _
  have HLT : Hid (w.heap.size < W0.heap.size) := (Array.getElem?_eq_some_iff.1 HC.out).1
  have HW0 : Hid (Below w.heap.size w W0) := b0
  clear b0 hk
  obtain ⟨BB, hBB⟩ : ∃ BB, keyB n e = BB := ⟨_, rfl⟩
  rw [hBB]
  unfold keyB expB at hBB
  have HKB : Hid (((decide (62 ≤ szZ n) && decide (szZ n ≤ 256)) && (decide (n % 2 = 1) && (decide (e % 2 = 1) && (decide (3 ≤ e) && decide (e < n))))) = BB) := hBB
  clear hBB
  go_enter Try.func12, Try.ntmps12
  go_wp2_with fail
  clear hW0
--@region 1
  refine wp_region_frames 15 [[5], [6], [7], [8], [9], [10], [3, 7], [4, 10]] (([.eq (Value.pointer (some { block := w.heap.size, off := 0 })), .eq (Value.slice a1 a2 a3), .rv n (4 * L), .eq (Value.pointer (some { block := w.heap.size, off := 1 })), .eq (Value.slice e1 e2 e3), .rv e (4 * L), .same, .same] : List Fk).map Fk.sem) [0, 1, 2, 3, 4, 5, 6, 7] (by kernel_rfl) (by kernel_rfl) (by kernel_rfl) ?step ?done
  case step =>
    intro i o ho listed a wx hI hli hne KK hK
    have hlt : i < 8 := (Array.getElem?_eq_some_iff.1 ho).1
    have hsz : Hid (a.tmps.size = 50) := hI.slots
    have hbw : Below W0.heap.size W0 wx := (Below.refl _ _).drew.trans hI.below
    obtain rfl | rfl | rfl | rfl | rfl | rfl | rfl | rfl : i = 0 ∨ i = 1 ∨ i = 2 ∨ i = 3 ∨ i = 4 ∨ i = 5 ∨ i = 6 ∨ i = 7 := by omega
    · simp only [List.getElem?_toArray, List.getElem?_cons_succ, List.getElem?_cons_zero, Option.some.injEq] at ho
      subst ho
      rw [if_pos (by rfl)]
      have eH1 : a.tmps.getD 1 undef = Value.pointer (some { block := w.heap.size, off := 0 }) := hI.stays hli 15 1 (by decide +kernel)
      go_simp
      exact hI.grow hK _ _ (Below.refl _ _) (put_self _ _ _ (by rw [hsz.out]; decide))
    · simp only [List.getElem?_toArray, List.getElem?_cons_succ, List.getElem?_cons_zero, Option.some.injEq] at ho
      subst ho
      rw [if_pos (by rfl)]
      have eH5 : a.tmps.getD 5 undef = (Value.pointer (some { block := w.heap.size, off := 0 })) := hI.deep hne 0 0 (by decide +kernel)
      obtain ⟨x0, x1⟩ := cells2 (by rw [hbw.block _ HLT.out]; exact HC.out)
      go_simp
      exact hI.grow hK _ _ (Below.refl _ _) (put_self _ _ _ (by rw [hsz.out]; decide))
    · simp only [List.getElem?_toArray, List.getElem?_cons_succ, List.getElem?_cons_zero, Option.some.injEq] at ho
      subst ho
      rw [if_pos (by rfl)]
      have eH6 : a.tmps.getD 6 undef = (Value.slice a1 a2 a3) := hI.deep hne 0 1 (by decide +kernel)
      go_simp
      go_at_call 11
      refine (H2 wx (HW0.out.trans (hbw.mono HW0.out.size))).mono ?_
      rintro r w5 ⟨v5, rfl, hv5, hb5⟩
      exact hI.grow hK _ _ hb5 (by have hp := put_self a 7 v5 (by rw [hsz.out]; decide); show Rv w5 ((a.put (some 7) v5).tmps.getD 7 undef) _ _; rw [hp]; exact hv5)
    · simp only [List.getElem?_toArray, List.getElem?_cons_succ, List.getElem?_cons_zero, Option.some.injEq] at ho
      subst ho
      rw [if_pos (by rfl)]
      have eH1 : a.tmps.getD 1 undef = Value.pointer (some { block := w.heap.size, off := 0 }) := hI.stays hli 15 1 (by decide +kernel)
      go_simp
      exact hI.grow hK _ _ (Below.refl _ _) (put_self _ _ _ (by rw [hsz.out]; decide))
    · simp only [List.getElem?_toArray, List.getElem?_cons_succ, List.getElem?_cons_zero, Option.some.injEq] at ho
      subst ho
      rw [if_pos (by rfl)]
      have eH8 : a.tmps.getD 8 undef = (Value.pointer (some { block := w.heap.size, off := 1 })) := hI.deep hne 0 3 (by decide +kernel)
      obtain ⟨x0, x1⟩ := cells2 (by rw [hbw.block _ HLT.out]; exact HC.out)
      go_simp
      exact hI.grow hK _ _ (Below.refl _ _) (put_self _ _ _ (by rw [hsz.out]; decide))
    · simp only [List.getElem?_toArray, List.getElem?_cons_succ, List.getElem?_cons_zero, Option.some.injEq] at ho
      subst ho
      rw [if_pos (by rfl)]
      have eH9 : a.tmps.getD 9 undef = (Value.slice e1 e2 e3) := hI.deep hne 0 4 (by decide +kernel)
      go_simp
      go_at_call 11
      refine (H3 wx (HW0.out.trans (hbw.mono HW0.out.size))).mono ?_
      rintro r w5 ⟨v5, rfl, hv5, hb5⟩
      exact hI.grow hK _ _ hb5 (by have hp := put_self a 10 v5 (by rw [hsz.out]; decide); show Rv w5 ((a.put (some 10) v5).tmps.getD 10 undef) _ _; rw [hp]; exact hv5)
    · simp only [List.getElem?_toArray, List.getElem?_cons_succ, List.getElem?_cons_zero, Option.some.injEq] at ho
      subst ho
      rw [if_pos (by rfl)]
      have fA2 : Fk.sem (.rv n (4 * L)) [a.tmps.getD 7 undef] wx := hI.deep hne 0 2 (by decide +kernel)
      obtain ⟨zX7, eH7⟩ : ∃ x, a.tmps.getD 7 undef = x := ⟨_, rfl⟩
      simp only [eH7] at fA2
      have eK7 := eH7
      rw [Array.getD_eq_getD_getElem?] at eK7
      go_simp
      exact hI.grow hK _ _ (Below.refl _ _) ((put_self _ _ _ (by rw [hsz.out]; decide)).trans ((put_get _ _ _ _ (by decide)).trans eH7).symm)
    · simp only [List.getElem?_toArray, List.getElem?_cons_succ, List.getElem?_cons_zero, Option.some.injEq] at ho
      subst ho
      rw [if_pos (by rfl)]
      have fA5 : Fk.sem (.rv e (4 * L)) [a.tmps.getD 10 undef] wx := hI.deep hne 0 5 (by decide +kernel)
      obtain ⟨zX10, eH10⟩ : ∃ x, a.tmps.getD 10 undef = x := ⟨_, rfl⟩
      simp only [eH10] at fA5
      have eK10 := eH10
      rw [Array.getD_eq_getD_getElem?] at eK10
      go_simp
      exact hI.grow hK _ _ (Below.refl _ _) ((put_self _ _ _ (by rw [hsz.out]; decide)).trans ((put_get _ _ _ _ (by decide)).trans eH10).symm)
  case done =>
    intro listed a W hI hall
    obtain ⟨tm, df⟩ := a
    have hdf : df = [] := hI.defers
    subst hdf
    have hTM : tm = #[tm.getD 0 undef, tm.getD 1 undef, tm.getD 2 undef, tm.getD 3 undef, tm.getD 4 undef, tm.getD 5 undef, tm.getD 6 undef, tm.getD 7 undef, tm.getD 8 undef, tm.getD 9 undef, tm.getD 10 undef, tm.getD 11 undef, tm.getD 12 undef, tm.getD 13 undef, tm.getD 14 undef, tm.getD 15 undef, tm.getD 16 undef, tm.getD 17 undef, tm.getD 18 undef, tm.getD 19 undef, tm.getD 20 undef, tm.getD 21 undef, tm.getD 22 undef, tm.getD 23 undef, tm.getD 24 undef, tm.getD 25 undef, tm.getD 26 undef, tm.getD 27 undef, tm.getD 28 undef, tm.getD 29 undef, tm.getD 30 undef, tm.getD 31 undef, tm.getD 32 undef, tm.getD 33 undef, tm.getD 34 undef, tm.getD 35 undef, tm.getD 36 undef, tm.getD 37 undef, tm.getD 38 undef, tm.getD 39 undef, tm.getD 40 undef, tm.getD 41 undef, tm.getD 42 undef, tm.getD 43 undef, tm.getD 44 undef, tm.getD 45 undef, tm.getD 46 undef, tm.getD 47 undef, tm.getD 48 undef, tm.getD 49 undef] := arr_of tm 50 hI.slots
    have oS0 : tm.getD 0 undef = Value.agg #[Value.slice a1 a2 a3, Value.slice e1 e2 e3] := hI.kept 0 (by decide +kernel)
    have oS1 : tm.getD 1 undef = Value.pointer (some { block := w.heap.size, off := 0 }) := hI.kept 1 (by decide +kernel)
    have oS2 : tm.getD 2 undef = Value.bool false := hI.kept 2 (by decide +kernel)
    have oS11 : tm.getD 11 undef = undef := hI.kept 11 (by decide +kernel)
    have oS12 : tm.getD 12 undef = undef := hI.kept 12 (by decide +kernel)
    have oS13 : tm.getD 13 undef = undef := hI.kept 13 (by decide +kernel)
    have oS14 : tm.getD 14 undef = undef := hI.kept 14 (by decide +kernel)
    have oS15 : tm.getD 15 undef = undef := hI.kept 15 (by decide +kernel)
    have oS16 : tm.getD 16 undef = undef := hI.kept 16 (by decide +kernel)
    have oS17 : tm.getD 17 undef = undef := hI.kept 17 (by decide +kernel)
    have oS18 : tm.getD 18 undef = undef := hI.kept 18 (by decide +kernel)
    have oS19 : tm.getD 19 undef = undef := hI.kept 19 (by decide +kernel)
    have oS20 : tm.getD 20 undef = undef := hI.kept 20 (by decide +kernel)
    have oS21 : tm.getD 21 undef = undef := hI.kept 21 (by decide +kernel)
    have oS22 : tm.getD 22 undef = undef := hI.kept 22 (by decide +kernel)
    have oS23 : tm.getD 23 undef = undef := hI.kept 23 (by decide +kernel)
    have oS24 : tm.getD 24 undef = undef := hI.kept 24 (by decide +kernel)
    have oS25 : tm.getD 25 undef = undef := hI.kept 25 (by decide +kernel)
    have oS26 : tm.getD 26 undef = undef := hI.kept 26 (by decide +kernel)
    have oS27 : tm.getD 27 undef = undef := hI.kept 27 (by decide +kernel)
    have oS28 : tm.getD 28 undef = undef := hI.kept 28 (by decide +kernel)
    have oS29 : tm.getD 29 undef = undef := hI.kept 29 (by decide +kernel)
    have oS30 : tm.getD 30 undef = undef := hI.kept 30 (by decide +kernel)
    have oS31 : tm.getD 31 undef = undef := hI.kept 31 (by decide +kernel)
    have oS32 : tm.getD 32 undef = undef := hI.kept 32 (by decide +kernel)
    have oS33 : tm.getD 33 undef = undef := hI.kept 33 (by decide +kernel)
    have oS34 : tm.getD 34 undef = undef := hI.kept 34 (by decide +kernel)
    have oS35 : tm.getD 35 undef = undef := hI.kept 35 (by decide +kernel)
    have oS36 : tm.getD 36 undef = undef := hI.kept 36 (by decide +kernel)
    have oS37 : tm.getD 37 undef = undef := hI.kept 37 (by decide +kernel)
    have oS38 : tm.getD 38 undef = undef := hI.kept 38 (by decide +kernel)
    have oS39 : tm.getD 39 undef = undef := hI.kept 39 (by decide +kernel)
    have oS40 : tm.getD 40 undef = undef := hI.kept 40 (by decide +kernel)
    have oS41 : tm.getD 41 undef = undef := hI.kept 41 (by decide +kernel)
    have oS42 : tm.getD 42 undef = undef := hI.kept 42 (by decide +kernel)
    have oS43 : tm.getD 43 undef = undef := hI.kept 43 (by decide +kernel)
    have oS44 : tm.getD 44 undef = undef := hI.kept 44 (by decide +kernel)
    have oS45 : tm.getD 45 undef = undef := hI.kept 45 (by decide +kernel)
    have oS46 : tm.getD 46 undef = undef := hI.kept 46 (by decide +kernel)
    have oS47 : tm.getD 47 undef = undef := hI.kept 47 (by decide +kernel)
    have oS48 : tm.getD 48 undef = undef := hI.kept 48 (by decide +kernel)
    have oS49 : tm.getD 49 undef = undef := hI.kept 49 (by decide +kernel)
    have fA2 : Fk.sem (.rv n (4 * L)) [tm.getD 7 undef] W := hI.facts 2 (hall 2 (by decide))
    have fA5 : Fk.sem (.rv e (4 * L)) [tm.getD 10 undef] W := hI.facts 5 (hall 5 (by decide))
    have fA6 : Fk.sem (.same) [tm.getD 3 undef, tm.getD 7 undef] W := hI.facts 6 (hall 6 (by decide))
    have fA7 : Fk.sem (.same) [tm.getD 4 undef, tm.getD 10 undef] W := hI.facts 7 (hall 7 (by decide))
    have fA0 : tm.getD 5 undef = (Value.pointer (some { block := w.heap.size, off := 0 })) := hI.facts 0 (hall 0 (by decide))
    have fA1 : tm.getD 6 undef = (Value.slice a1 a2 a3) := hI.facts 1 (hall 1 (by decide))
    have fA3 : tm.getD 8 undef = (Value.pointer (some { block := w.heap.size, off := 1 })) := hI.facts 3 (hall 3 (by decide))
    have fA4 : tm.getD 9 undef = (Value.slice e1 e2 e3) := hI.facts 4 (hall 4 (by decide))
    have hbw : Below W0.heap.size W0 W := (Below.refl _ _).drew.trans hI.below
    clear hI hall listed
    simp only [oS0, oS1, oS2, oS11, oS12, oS13, oS14, oS15, oS16, oS17, oS18, oS19, oS20, oS21, oS22, oS23, oS24, oS25, oS26, oS27, oS28, oS29, oS30, oS31, oS32, oS33, oS34, oS35, oS36, oS37, oS38, oS39, oS40, oS41, oS42, oS43, oS44, oS45, oS46, oS47, oS48, oS49, fA0, fA1, fA3, fA4] at hTM
    clear oS0 oS1 oS2 oS11 oS12 oS13 oS14 oS15 oS16 oS17 oS18 oS19 oS20 oS21 oS22 oS23 oS24 oS25 oS26 oS27 oS28 oS29 oS30 oS31 oS32 oS33 oS34 oS35 oS36 oS37 oS38 oS39 oS40 oS41 oS42 oS43 oS44 oS45 oS46 oS47 oS48 oS49 fA0 fA1 fA3 fA4
    generalize tm.getD 3 undef = zX3 at hTM fA6
    generalize tm.getD 4 undef = zX4 at hTM fA7
    generalize tm.getD 7 undef = zX7 at hTM fA2 fA6
    generalize tm.getD 10 undef = zX10 at hTM fA5 fA7
    subst hTM
    have g3 : zX3 = zX7 := fA6
    have g4 : zX4 = zX10 := fA7
    have r7 : Rv W zX7 n (4 * L) := fA2
    have r10 : Rv W zX10 e (4 * L) := fA5
    clear fA2 fA5 fA6 fA7
    subst g3
    subst g4
    have HN : Hid (Rv W zX3 n (4 * L) ∧ Rv W zX4 e (4 * L) ∧ Below w.heap.size w W ∧ Below W0.heap.size W0 W) := ⟨r7, r10, HW0.out.trans (hbw.mono HW0.out.size), hbw⟩
    have h35 := fun W' => rSmall_any 3 W' (by decide) (by decide)
    have hc4 := cmpI_ge e 3
    have hc6 := cmpI_ltz e n
    have HCM := fun (W' : World) (v' : Value) (hb' : Below W.heap.size W W') (hv : Rv W' v' 3 4) => rCmp_rv zX4 v' e 3 (4 * L) 4 W' (HN.out.2.1.old hb') hv (by omega) (by omega)
    have HCN := fun (W' : World) (hb' : Below W.heap.size W W') => rCmp_rv zX4 zX3 e n (4 * L) (4 * L) W' (HN.out.2.1.old hb') (HN.out.1.old hb') (by omega) (by omega)
    have HX : Hid (∀ W', Below W.heap.size W W' → W'.cell? ⟨w.heap.size, 0, none⟩ = some (.slice a1 a2 a3) ∧ W'.cell? ⟨w.heap.size, 1, none⟩ = some (.slice e1 e2 e3)) := fun W' hb' => cells2 (t := 25) (by rw [hb'.block _ (Nat.lt_of_lt_of_le HLT.out hbw.size), hbw.block _ HLT.out]; exact HC.out)
    obtain ⟨nb, no, nl, nc, nx, rfl, nl0, nlL, ncell, nx0, nx2, nlt⟩ := r7.first hn0
    obtain ⟨eb, eo, el, ec, ex, rfl, el0, elL, ecell, ex0, ex2, elt⟩ := r10.first he0
    have HCL : Hid (∀ W', Below W.heap.size W W' → W'.cell? ⟨nb, no, none⟩ = some (.int .i64 nx) ∧ W'.cell? ⟨eb, eo, none⟩ = some (.int .i64 ex)) := fun W' hb' => ⟨by rw [hb'.cell nlt]; exact ncell, by rw [hb'.cell elt]; exact ecell⟩
    have hpn : (0 : Int) < (nl : Int) := by omega
    have hpe : (0 : Int) < (el : Int) := by omega
    have hnt : nx.tmod 2 = n % 2 := by rw [Int.tmod_eq_emod_of_nonneg nx0, nx2]
    have het : ex.tmod 2 = e % 2 := by rw [Int.tmod_eq_emod_of_nonneg ex0, ex2]
    have hsz0 : 0 ≤ szZ n := by unfold szZ; omega
    have HB : Hid (Below w.heap.size w W) := HN.out.2.2.1
    have hn2 : n % 2 = 0 ∨ n % 2 = 1 := Int.emod_two_eq n
    have he2 : e % 2 = 0 ∨ e % 2 = 1 := Int.emod_two_eq e
    generalize szZ n = s at *
    generalize n % 2 = n2 at *
    generalize e % 2 = ee2 at *
    generalize cmpI e 3 = k1 at *
    generalize cmpI e n = k2 at *
    clear hbw r7 r10 ncell ecell nx0 ex0 nx2 ex2 HN HC HLT HW0 H2 H3 nlt elt
    obtain ⟨x0, x1⟩ := HX.out W (Below.refl _ _)
    by_cases c1 : s < 62
    · have hB' : BB = false := by rw [← HKB.out]; simp; omega
      clear HKB
      subst hB'
      go_wp2_with fail
      refine (H1 W HB.out).mono ?_
      rintro r w1 ⟨rfl, d1⟩
      have D1 := d1
      clear x0 x1
      obtain ⟨x0, x1⟩ := HX.out w1 D1
      go_wp2
      go_ret
      refine ⟨?_, HB.out.trans (D1.mono HB.out.size)⟩
      first | rfl | (simp; omega) | (simp)
    have c1' : 62 ≤ s := by omega
    by_cases c2 : 256 < s
    · have hB' : BB = false := by rw [← HKB.out]; simp; omega
      clear HKB
      subst hB'
      go_wp2_with fail
      refine (H1 W HB.out).mono ?_
      rintro r w1 ⟨rfl, d1⟩
      have D1 := d1
      clear x0 x1
      obtain ⟨x0, x1⟩ := HX.out w1 D1
      go_wp2_with fail
      refine (H1 w1 (HB.out.trans (D1.mono HB.out.size))).mono ?_
      rintro r w2 ⟨rfl, d2⟩
      have D2 := D1.trans (d2.mono D1.size)
      clear x0 x1
      obtain ⟨x0, x1⟩ := HX.out w2 D2
      obtain ⟨y0, y1⟩ := HCL.out w2 D2
      go_wp2
      go_ret
      refine ⟨?_, HB.out.trans (D2.mono HB.out.size)⟩
      first | rfl | (simp; omega) | (simp)
    have c2' : s ≤ 256 := by omega
    rcases hn2 with rfl | rfl
    · have hB' : BB = false := by rw [← HKB.out]; simp
      clear HKB
      subst hB'
      go_wp2_with fail
      refine (H1 W HB.out).mono ?_
      rintro r w1 ⟨rfl, d1⟩
      have D1 := d1
      clear x0 x1
      obtain ⟨x0, x1⟩ := HX.out w1 D1
      go_wp2_with fail
      refine (H1 w1 (HB.out.trans (D1.mono HB.out.size))).mono ?_
      rintro r w2 ⟨rfl, d2⟩
      have D2 := D1.trans (d2.mono D1.size)
      clear x0 x1
      obtain ⟨x0, x1⟩ := HX.out w2 D2
      obtain ⟨y0, y1⟩ := HCL.out w2 D2
      go_wp2
      go_ret
      refine ⟨?_, HB.out.trans (D2.mono HB.out.size)⟩
      first | rfl | (simp; omega) | (simp)
    by_cases c4 : 3 ≤ e
    rotate_left
    · have hB' : BB = false := by rw [← HKB.out]; simp [c4]
      clear HKB
      subst hB'
      have c4' : ¬ 0 ≤ k1 := fun h => c4 (hc4.1 h)
      clear hc4 hc6
      go_wp2_with fail
      refine (H1 W HB.out).mono ?_
      rintro r w1 ⟨rfl, d1⟩
      have D1 := d1
      clear x0 x1
      obtain ⟨x0, x1⟩ := HX.out w1 D1
      go_wp2_with fail
      refine (H1 w1 (HB.out.trans (D1.mono HB.out.size))).mono ?_
      rintro r w2 ⟨rfl, d2⟩
      have D2 := D1.trans (d2.mono D1.size)
      clear x0 x1
      obtain ⟨x0, x1⟩ := HX.out w2 D2
      obtain ⟨y0, y1⟩ := HCL.out w2 D2
      go_wp2_with fail
      refine (h35 w2).mono ?_
      rintro r w3 ⟨v3, rfl, hv3⟩
      obtain ⟨hv3, d3⟩ := rv_of hv3
      have D3 := D2.trans (d3.mono D2.size)
      have H7 := HCM w3 v3 D3 hv3
      obtain ⟨s1, s2, s3, s4, rfl, -⟩ := hv3
      clear x0 x1 y0 y1
      obtain ⟨y0, y1⟩ := HCL.out w3 D3
      go_wp2_with fail
      refine H7.mono ?_
      rintro r w4 ⟨rfl, d4⟩
      have D4 := D3.trans (d4.mono D3.size)
      clear y0 y1
      obtain ⟨y0, y1⟩ := HCL.out w4 D4
      go_wp2
      go_ret
      refine ⟨?_, HB.out.trans (D4.mono HB.out.size)⟩
      first | rfl | (simp; omega) | (simp)
    have c4' := hc4.2 c4
    rcases he2 with rfl | rfl
    · have hB' : BB = false := by rw [← HKB.out]; simp
      clear HKB
      subst hB'
      clear hc4 hc6
      go_wp2_with fail
      refine (H1 W HB.out).mono ?_
      rintro r w1 ⟨rfl, d1⟩
      have D1 := d1
      clear x0 x1
      obtain ⟨x0, x1⟩ := HX.out w1 D1
      go_wp2_with fail
      refine (H1 w1 (HB.out.trans (D1.mono HB.out.size))).mono ?_
      rintro r w2 ⟨rfl, d2⟩
      have D2 := D1.trans (d2.mono D1.size)
      clear x0 x1
      obtain ⟨x0, x1⟩ := HX.out w2 D2
      obtain ⟨y0, y1⟩ := HCL.out w2 D2
      go_wp2_with fail
      refine (h35 w2).mono ?_
      rintro r w3 ⟨v3, rfl, hv3⟩
      obtain ⟨hv3, d3⟩ := rv_of hv3
      have D3 := D2.trans (d3.mono D2.size)
      have H7 := HCM w3 v3 D3 hv3
      obtain ⟨s1, s2, s3, s4, rfl, -⟩ := hv3
      clear x0 x1 y0 y1
      obtain ⟨y0, y1⟩ := HCL.out w3 D3
      go_wp2_with fail
      refine H7.mono ?_
      rintro r w4 ⟨rfl, d4⟩
      have D4 := D3.trans (d4.mono D3.size)
      clear y0 y1
      obtain ⟨y0, y1⟩ := HCL.out w4 D4
      go_wp2
      go_ret
      refine ⟨?_, HB.out.trans (D4.mono HB.out.size)⟩
      first | rfl | (simp; omega) | (simp)
    by_cases c6 : e < n
    · have hB' : BB = true := by rw [← HKB.out]; simp [c1', c2', c4, c6]
      clear HKB
      subst hB'
      have c6' := hc6.2 c6
      clear hc4 hc6 c6
      go_wp2_with fail
      refine (H1 W HB.out).mono ?_
      rintro r w1 ⟨rfl, d1⟩
      have D1 := d1
      clear x0 x1
      obtain ⟨x0, x1⟩ := HX.out w1 D1
      go_wp2_with fail
      refine (H1 w1 (HB.out.trans (D1.mono HB.out.size))).mono ?_
      rintro r w2 ⟨rfl, d2⟩
      have D2 := D1.trans (d2.mono D1.size)
      clear x0 x1
      obtain ⟨x0, x1⟩ := HX.out w2 D2
      obtain ⟨y0, y1⟩ := HCL.out w2 D2
      go_wp2_with fail
      refine (h35 w2).mono ?_
      rintro r w3 ⟨v3, rfl, hv3⟩
      obtain ⟨hv3, d3⟩ := rv_of hv3
      have D3 := D2.trans (d3.mono D2.size)
      have H7 := HCM w3 v3 D3 hv3
      obtain ⟨s1, s2, s3, s4, rfl, -⟩ := hv3
      clear x0 x1 y0 y1
      obtain ⟨y0, y1⟩ := HCL.out w3 D3
      go_wp2_with fail
      refine H7.mono ?_
      rintro r w4 ⟨rfl, d4⟩
      have D4 := D3.trans (d4.mono D3.size)
      clear y0 y1
      obtain ⟨y0, y1⟩ := HCL.out w4 D4
      go_wp2_with fail
      refine (HCN w4 D4).mono ?_
      rintro r w5 ⟨rfl, d5⟩
      have D5 := D4.trans (d5.mono D4.size)
      go_wp2
      go_ret
      refine ⟨?_, HB.out.trans (D5.mono HB.out.size)⟩
      first | rfl | (simp; omega) | (simp)
    · have hB' : BB = false := by rw [← HKB.out]; simp [c6]
      clear HKB
      subst hB'
      have c6' : ¬ k2 < 0 := fun h => c6 (hc6.1 h)
      clear hc4 hc6 c6
      go_wp2_with fail
      refine (H1 W HB.out).mono ?_
      rintro r w1 ⟨rfl, d1⟩
      have D1 := d1
      clear x0 x1
      obtain ⟨x0, x1⟩ := HX.out w1 D1
      go_wp2_with fail
      refine (H1 w1 (HB.out.trans (D1.mono HB.out.size))).mono ?_
      rintro r w2 ⟨rfl, d2⟩
      have D2 := D1.trans (d2.mono D1.size)
      clear x0 x1
      obtain ⟨x0, x1⟩ := HX.out w2 D2
      obtain ⟨y0, y1⟩ := HCL.out w2 D2
      go_wp2_with fail
      refine (h35 w2).mono ?_
      rintro r w3 ⟨v3, rfl, hv3⟩
      obtain ⟨hv3, d3⟩ := rv_of hv3
      have D3 := D2.trans (d3.mono D2.size)
      have H7 := HCM w3 v3 D3 hv3
      obtain ⟨s1, s2, s3, s4, rfl, -⟩ := hv3
      clear x0 x1 y0 y1
      obtain ⟨y0, y1⟩ := HCL.out w3 D3
      go_wp2_with fail
      refine H7.mono ?_
      rintro r w4 ⟨rfl, d4⟩
      have D4 := D3.trans (d4.mono D3.size)
      clear y0 y1
      obtain ⟨y0, y1⟩ := HCL.out w4 D4
      go_wp2_with fail
      refine (HCN w4 D4).mono ?_
      rintro r w5 ⟨rfl, d5⟩
      have D5 := D4.trans (d5.mono D4.size)
      go_wp2
      go_ret
      refine ⟨?_, HB.out.trans (D5.mono HB.out.size)⟩
      first | rfl | (simp; omega) | (simp)
end Go.Proofs.Ytnacgkkklmlhaaa
/-
  The signer's numbers and key.
-/
namespace Go.Proofs.Ytnacgkkklmlhaaa
open Go.Shelf Go.RowKit
set_option linter.unusedVariables false
set_option linter.unusedSimpArgs false

theorem val_full (B : Int) : ∀ d : Nat, val B (List.replicate d (B - 1)) = B ^ d - 1
  | 0 => by simp [val]
  | d + 1 => by
    rw [List.replicate_succ, val_cons, val_full B d, Int.pow_succ]
    generalize B ^ d = q
    grind
theorem fit_len {B : Int} (hB : 1 < B) {xs : List Int} (hd : Dg B xs) (hc : Canon xs) {d : Nat} (h : val B xs < B ^ d) : xs.length ≤ d := by
  have h1 := len_fit (B := B) hB hd hc (ys := List.replicate d (B - 1)) (fun x hx => by rw [(List.mem_replicate.1 hx).2]; omega) (by rw [val_full]; omega)
  rwa [List.length_replicate] at h1
theorem Rv.fit {w : World} {v : Value} {n : Int} {L d : Nat} (h : Rv w v n L) (hn : n < D16 ^ d) : Rv w v n d := by
  obtain ⟨ao, l, c, xs, rfl, h1, h2, h3, h4⟩ := h
  exact ⟨ao, l, c, xs, rfl, h1, h2, h3, by have := fit_len D16_one h1.dg h2 (by rw [h3]; exact hn); rw [h1.len] at this; exact this⟩
theorem rv_eq {w w' : World} {v : Value} {n n' : Int} {L d : Nat} (h : NumOut .i64 D16 w w' v n L) (e : n = n') (hd : n' < D16 ^ d) : Rv w' v n' d ∧ Below w.heap.size w w' := by
  subst e
  exact ⟨(rv_of h).1.fit hd, (rv_of h).2⟩
theorem rNat_nv (v : Value) (n : Int) (L d : Nat) (w : World) (h : Rv w v n L) (hL : L ≤ 1000) (hd : n < B64 ^ d) :
    Calls Try.prog 25 #[v] w fun e w' => ∃ r, e = .returned r ∧ Nv w' r n d ∧ Below w.heap.size w w' := by
  obtain ⟨a1, a2, a3, a4, rfl, a5, a6, a7, a8⟩ := h
  refine (rNat_any a1 a2 a3 a4 w a5 a6 (by omega)).mono ?_
  rintro e w' ⟨v, rfl, q1, q2, q3, q4, rfl, h1, h2, h3, h4, h5⟩
  rw [a7] at h3
  exact ⟨_, rfl, ⟨q1, q2, q3, q4, rfl, h1, h3, by have := fit_len B64_one h1.dg h2 (by rw [h3]; exact hd); rw [h1.len] at this; exact this⟩, h5⟩
def rsaN (i : Int) : Int := if i % 2 = 0 then 8478774692950686948931691623231886540506061736060197768102464703086314338576516908251073744980808318024178470791773212721119574061960704473384495341337591 else 10946859011210766630761700678456930657619854580716871171759543806720678760030654918172574107507588800923464901969980427984494337629330413913164793052846871
def rsaE (i : Int) : Int := if i % 2 = 0 then 65537 else 3
def rsaD (i : Int) : Int := if i % 2 = 0 then 2383713378970908144011267194989815058803793086148422171861512003209871396131481888572373782155166885376097174023812513049970796133554954105071126847058473 else 7297906007473844420507800452304620438413236387144580781173029204480452506686963438357913577234804839559658985100037650548491023180987702123054674724834667
set_option maxRecDepth 100000 in
set_option maxHeartbeats 4000000 in
theorem rsa12_any (i : Int) (w : World) (h0 : 0 ≤ i) (h1 : i < 256) :
    Calls Try.prog 27 #[.int .i64 i] w fun e w' => ∃ v1 v2 v3, e = .returned (.tuple #[v1, v2, v3]) ∧ Rv w' v1 (rsaN i) 32 ∧ Rv w' v2 (rsaE i) 32 ∧ Rv w' v3 (rsaD i) 32 ∧ Below w.heap.size w w' := by
  unfold rsaN rsaE rsaD
  rcases Int.emod_two_eq i with hj | hj
  · have hjt : i.tmod 2 = 0 := by rw [Int.tmod_eq_emod_of_nonneg h0]; exact hj
    rw [if_pos hj, if_pos hj, if_pos hj]
    clear hj
    go_enter Try.func27, Try.ntmps27
    go_wp2_with fail
    refine (hex_any _ w (by decide +kernel)).mono ?_
    rintro e w1 ⟨v1, rfl, ho1⟩
    obtain ⟨r1, b1⟩ := rv_eq (n' := 8478774692950686948931691623231886540506061736060197768102464703086314338576516908251073744980808318024178470791773212721119574061960704473384495341337591) (d := 32) ho1 (by decide +kernel) (by decide +kernel)
    clear ho1
    go_wp2_with fail
    refine (hex_any _ w1 (by decide +kernel)).mono ?_
    rintro e w2 ⟨v2, rfl, ho2⟩
    obtain ⟨r2, b2⟩ := rv_eq (n' := 65537) (d := 32) ho2 (by decide +kernel) (by decide +kernel)
    clear ho2
    go_wp2_with fail
    refine (hex_any _ w2 (by decide +kernel)).mono ?_
    rintro e w3 ⟨v3, rfl, ho3⟩
    obtain ⟨r3, b3⟩ := rv_eq (n' := 2383713378970908144011267194989815058803793086148422171861512003209871396131481888572373782155166885376097174023812513049970796133554954105071126847058473) (d := 32) ho3 (by decide +kernel) (by decide +kernel)
    clear ho3
    have c2 := b2.trans (b3.mono b2.size)
    have HR : Hid (Rv w3 v1 8478774692950686948931691623231886540506061736060197768102464703086314338576516908251073744980808318024178470791773212721119574061960704473384495341337591 32 ∧ Rv w3 v2 65537 32 ∧ Rv w3 v3 2383713378970908144011267194989815058803793086148422171861512003209871396131481888572373782155166885376097174023812513049970796133554954105071126847058473 32 ∧ Below w.heap.size w w3) := ⟨r1.old c2, r2.old b3, r3, b1.trans (c2.mono b1.size)⟩
    clear r1 r2 r3 b1 b2 b3 c2
    go_wp2
    go_ret3
    exact ⟨_, _, _, rfl, HR.out⟩
  · have hjt : i.tmod 2 = 1 := by rw [Int.tmod_eq_emod_of_nonneg h0]; exact hj
    rw [if_neg (by omega), if_neg (by omega), if_neg (by omega)]
    clear hj
    go_enter Try.func27, Try.ntmps27
    go_wp2_with fail
    refine (hex_any _ w (by decide +kernel)).mono ?_
    rintro e w1 ⟨v1, rfl, ho1⟩
    obtain ⟨r1, b1⟩ := rv_eq (n' := 10946859011210766630761700678456930657619854580716871171759543806720678760030654918172574107507588800923464901969980427984494337629330413913164793052846871) (d := 32) ho1 (by decide +kernel) (by decide +kernel)
    clear ho1
    go_wp2_with fail
    refine (hex_any _ w1 (by decide +kernel)).mono ?_
    rintro e w2 ⟨v2, rfl, ho2⟩
    obtain ⟨r2, b2⟩ := rv_eq (n' := 3) (d := 32) ho2 (by decide +kernel) (by decide +kernel)
    clear ho2
    go_wp2_with fail
    refine (hex_any _ w2 (by decide +kernel)).mono ?_
    rintro e w3 ⟨v3, rfl, ho3⟩
    obtain ⟨r3, b3⟩ := rv_eq (n' := 7297906007473844420507800452304620438413236387144580781173029204480452506686963438357913577234804839559658985100037650548491023180987702123054674724834667) (d := 32) ho3 (by decide +kernel) (by decide +kernel)
    clear ho3
    have c2 := b2.trans (b3.mono b2.size)
    have HR : Hid (Rv w3 v1 10946859011210766630761700678456930657619854580716871171759543806720678760030654918172574107507588800923464901969980427984494337629330413913164793052846871 32 ∧ Rv w3 v2 3 32 ∧ Rv w3 v3 7297906007473844420507800452304620438413236387144580781173029204480452506686963438357913577234804839559658985100037650548491023180987702123054674724834667 32 ∧ Below w.heap.size w w3) := ⟨r1.old c2, r2.old b3, r3, b1.trans (c2.mono b1.size)⟩
    clear r1 r2 r3 b1 b2 b3 c2
    go_wp2
    go_ret3
    exact ⟨_, _, _, rfl, HR.out⟩
end Go.Proofs.Ytnacgkkklmlhaaa
/-
  The signer's key.
-/
namespace Go.Proofs.Ytnacgkkklmlhaaa
open Go.Shelf Go.RowKit
set_option linter.unusedVariables false
set_option linter.unusedSimpArgs false

theorem sizeKey : (Try.prog.info? 32).map (·.size) = some 7 := by kernel_rfl
theorem ret_key {fn : Func} {p : Tmp} (h : fn.results = #[.cell p 32]) (tmps : Array Value) (w : World) (g : Nat) (c0 c1 c2 c3 c4 c5 c6 : Value) (hp : tmps.getD p undef = .pointer (some ⟨g, 0, none⟩)) (hg : w.heap[g]? = some (.cells #[c0, c1, c2, c3, c4, c5, c6] 32 (0, 0))) :
    (results fn tmps).run Try.prog w = .ok (.agg #[c0, c1, c2, c3, c4, c5, c6]) w :=
  results_cell_row h tmps w g 32 _ (0, 0) _ hp hg Try.underlying32 rfl sizeKey
/-- A number that lies elsewhere stands. -/
theorem num_kept {w w' : World} {ao : Option Addr} {l c : Nat} {xs : List Int} {g : Nat} (h : NumIn .u64 B64 w ao l c xs) (hne : ∀ off x, w.cell? ⟨g, off, none⟩ ≠ some (.int .u64 x)) (hk : ∀ j, j ≠ g → w'.heap[j]? = w.heap[j]?) (hs : w.heap.size ≤ w'.heap.size) : NumIn .u64 B64 w' ao l c xs := by
  refine ⟨⟨h.lies.1, ?_⟩, h.lc, h.cm, h.nn, h.dg, h.sm⟩
  rcases h.lies.2 with h0 | ⟨b, off, e, hb, hc⟩
  · exact .inl h0
  · rcases Nat.eq_zero_or_pos l with h0 | h0
    · exact .inl h0
    · have hbg : b ≠ g := by
        rintro rfl
        have := hc 0 h0
        exact hne _ _ this
      refine .inr ⟨b, off, e, Nat.lt_of_lt_of_le hb hs, fun i hi => ?_⟩
      rw [← hc i hi]
      unfold World.cell?
      simp only [hk b hbg]
theorem key_ne {w : World} {g : Nat} {n1 n2 : Int} {v1 v2 : Option Addr} {b : Bool} {l1 c1 l2 c2 l3 c3 l4 c4 : Nat} {v3 v4 : Option Addr} (h : w.heap[g]? = some (.cells #[.int .u8 n1, .int .i64 n2, .slice v1 l1 c1, .slice v2 l2 c2, .bool b, .slice v3 l3 c3, .slice v4 l4 c4] 32 (0, 0))) (off : Nat) (x : Int) : w.cell? ⟨g, off, none⟩ ≠ some (.int .u64 x) := by
  rw [cell_of_row _ _ _ _ _ _ h]
  match off with
  | 0 => simp
  | 1 => simp
  | 2 => simp
  | 3 => simp
  | 4 => simp
  | 5 => simp
  | 6 => simp
  | n + 7 => simp
theorem rsa_small (i : Int) : 0 < rsaN i ∧ rsaN i < B64 ^ 8 ∧ 0 < rsaE i ∧ rsaE i < B64 ^ 8 := by
  unfold rsaN rsaE
  split <;> decide +kernel
set_option maxRecDepth 100000 in
set_option maxHeartbeats 4000000 in
theorem scurve_any (i : Int) (w : World) : Calls Try.prog 26 #[.agg #[.int .u8 15, .int .u8 i]] w fun e w' => e = .returned (.int .i64 (-1)) ∧ Below w.heap.size w w' := by
  have b0 := (Below.refl w.heap.size w).alloc (Nat.le_refl _) (.cells #[.int .u8 15, .int .u8 i] 34)
  go_enter Try.func26, Try.ntmps26
  go_wp2
  go_ret
  exact ⟨rfl, b0⟩
set_option maxRecDepth 100000 in
set_option maxHeartbeats 4000000 in
theorem skey_any (i : Int) (w : World) (h0 : 0 ≤ i) (h1 : i < 256) :
    Calls Try.prog 9 #[.agg #[.int .u8 15, .int .u8 i]] w fun e w' => ∃ vn ve, e = .returned (.agg #[.int .u8 2, .int .i64 0, .slice none 0 0, .slice none 0 0, .bool false, vn, ve]) ∧ Nv w' vn (rsaN i) 8 ∧ Nv w' ve (rsaE i) 8 ∧ Below w.heap.size w w' := by
  have HRS := fun W => rsa12_any i W h0 h1
  have hsm := rsa_small i
  obtain ⟨W0, hW0⟩ : ∃ W0, (w.alloc (.cells #[.int .u8 15, .int .u8 i] 34)).alloc (.cells #[.int .u8 0, .int .i64 0, .slice none 0 0, .slice none 0 0, .bool false, .slice none 0 0, .slice none 0 0] 32) = W0 := ⟨_, rfl⟩
  have b0 : Below w.heap.size w W0 := by rw [← hW0]; exact ((Below.refl w.heap.size w).alloc (Nat.le_refl _) _).alloc (by simp) _
  have HK : Hid (W0.heap[w.heap.size + 1]? = some (.cells #[.int .u8 0, .int .i64 0, .slice none 0 0, .slice none 0 0, .bool false, .slice none 0 0, .slice none 0 0] 32 (0, 0))) := by
    unfold Hid
    rw [← hW0]
    have h := heap_alloc_new (w.alloc (.cells #[.int .u8 15, .int .u8 i] 34)) (.cells #[.int .u8 0, .int .i64 0, .slice none 0 0, .slice none 0 0, .bool false, .slice none 0 0, .slice none 0 0] 32)
    rw [alloc_sz7] at h
    exact h
  have HS : Hid (W0.heap[w.heap.size]? = some (.cells #[.int .u8 15, .int .u8 i] 34 (0, 0))) := by
    unfold Hid
    rw [← hW0, Below.heap_alloc _ _ _ (by rw [alloc_sz7]; omega)]
    exact heap_alloc_new w _
  have HLT : Hid (w.heap.size + 1 < W0.heap.size) := (Array.getElem?_eq_some_iff.1 HK.out).1
  have HW0 : Hid ((w.alloc (.cells #[.int .u8 15, .int .u8 i] 34)).alloc (.cells #[.int .u8 0, .int .i64 0, .slice none 0 0, .slice none 0 0, .bool false, .slice none 0 0, .slice none 0 0] 32) = W0) := hW0
  have hiw : IntKind.i64.wrap i = i := by simp [IntKind.wrap, IntKind.bits, IntKind.signed]; omega
  have HB0 : Hid (Below w.heap.size w W0) := b0
  clear hW0 b0
  go_enter Try.func9, Try.ntmps9
  go_wp2_with fail
  rw [HW0.out]
  clear HW0
  refine (scurve_any i W0).mono ?_
  rintro e w1 ⟨rfl, d1⟩
  obtain ⟨x0, x1⟩ := cells2 (by rw [d1.block _ (by have := HLT.out; omega)]; exact HS.out : w1.heap[w.heap.size]? = _)
  have D1 : Hid (Below W0.heap.size W0 w1) := d1
  clear d1
  go_wp2_with fail
  refine (HRS w1).mono ?_
  rintro e w2 ⟨v1, v2, v3, rfl, r1, r2, r3, d2⟩
  have D2 : Hid (Below W0.heap.size W0 w2) := D1.out.trans (d2.mono D1.out.size)
  have HN1 := rNat_nv v1 (rsaN i) 32 8 w2 r1 (by decide) hsm.2.1
  have HN2 := fun W (hb : Below w2.heap.size w2 W) => rNat_nv v2 (rsaE i) 32 8 W (r2.old hb) (by decide) hsm.2.2.2
  obtain ⟨q1, q2, q3, q4, rfl, -⟩ := r1
  obtain ⟨s1, s2, s3, s4, rfl, -⟩ := r2
  obtain ⟨t1, t2, t3, t4, rfl, -⟩ := r3
  clear x0 x1 d2 HRS
  go_wp2_with fail
  refine HN1.mono ?_
  rintro e w3 ⟨vn, rfl, hn, d3⟩
  have HN2' := HN2 w3 d3
  have D3 : Hid (Below W0.heap.size W0 w3) := D2.out.trans (d3.mono D2.out.size)
  clear HN1 HN2
  go_wp2_with fail
  refine HN2'.mono ?_
  rintro e w4 ⟨ve, rfl, he, d4⟩
  have D4 : Hid (Below W0.heap.size W0 w4) := D3.out.trans (d4.mono D3.out.size)
  have hn4 := hn.old d4
  have hrow : w4.heap[w.heap.size + 1]? = some (.cells #[.int .u8 0, .int .i64 0, .slice none 0 0, .slice none 0 0, .bool false, .slice none 0 0, .slice none 0 0] 32 (0, 0)) := by rw [D4.out.block _ HLT.out]; exact HK.out
  obtain ⟨n1, n2, n3, n4, rfl, n5, n6, n7⟩ := hn4
  obtain ⟨m1, m2, m3, m4, rfl, m5, m6, m7⟩ := he
  have HR : Hid (NumIn .u64 B64 w4 n1 n2 n3 n4 ∧ val B64 n4 = rsaN i ∧ n2 ≤ 8 ∧ NumIn .u64 B64 w4 m1 m2 m3 m4 ∧ val B64 m4 = rsaE i ∧ m2 ≤ 8) := ⟨n5, n6, n7, m5, m6, m7⟩
  have HRW : Hid _ := hrow
  clear n5 n6 n7 m5 m6 m7 hn d3 d4 HN2' hrow hsm
  have y0 : w4.heap[w.heap.size + 1]? = some (.cells #[.int .u8 0, .int .i64 0, .slice none 0 0, .slice none 0 0, .bool false, .slice none 0 0, .slice none 0 0] 32 (0, 0)) := HRW.out
  have c0 : w4.cell? ⟨w.heap.size + 1, 0, none⟩ = some (.int .u8 0) := by rw [cell_of_row _ _ _ _ _ _ y0]; rfl
  have f0 : w4.frozen? ⟨w.heap.size + 1, 0, none⟩ = false := frozen_of_row _ _ _ _ _ y0
  have y1 : (w4.setCell ⟨w.heap.size + 1, 0, none⟩ (.int .u8 2)).heap[w.heap.size + 1]? = some (.cells #[.int .u8 2, .int .i64 0, .slice none 0 0, .slice none 0 0, .bool false, .slice none 0 0, .slice none 0 0] 32 (0, 0)) := heap_setCell_same _ _ 0 _ _ _ y0
  have c1 : (w4.setCell ⟨w.heap.size + 1, 0, none⟩ (.int .u8 2)).cell? ⟨w.heap.size + 1, 1, none⟩ = some (.int .i64 0) := by rw [cell_of_row _ _ _ _ _ _ y1]; rfl
  have f1 : (w4.setCell ⟨w.heap.size + 1, 0, none⟩ (.int .u8 2)).frozen? ⟨w.heap.size + 1, 1, none⟩ = false := frozen_of_row _ _ _ _ _ y1
  have y2 : ((w4.setCell ⟨w.heap.size + 1, 0, none⟩ (.int .u8 2)).setCell ⟨w.heap.size + 1, 1, none⟩ (.int .i64 0)).heap[w.heap.size + 1]? = some (.cells #[.int .u8 2, .int .i64 0, .slice none 0 0, .slice none 0 0, .bool false, .slice none 0 0, .slice none 0 0] 32 (0, 0)) := heap_setCell_same _ _ 1 _ _ _ y1
  have c2 : ((w4.setCell ⟨w.heap.size + 1, 0, none⟩ (.int .u8 2)).setCell ⟨w.heap.size + 1, 1, none⟩ (.int .i64 0)).cell? ⟨w.heap.size + 1, 2, none⟩ = some (.slice none 0 0) := by rw [cell_of_row _ _ _ _ _ _ y2]; rfl
  have f2 : ((w4.setCell ⟨w.heap.size + 1, 0, none⟩ (.int .u8 2)).setCell ⟨w.heap.size + 1, 1, none⟩ (.int .i64 0)).frozen? ⟨w.heap.size + 1, 2, none⟩ = false := frozen_of_row _ _ _ _ _ y2
  have y3 : (((w4.setCell ⟨w.heap.size + 1, 0, none⟩ (.int .u8 2)).setCell ⟨w.heap.size + 1, 1, none⟩ (.int .i64 0)).setCell ⟨w.heap.size + 1, 2, none⟩ (.slice none 0 0)).heap[w.heap.size + 1]? = some (.cells #[.int .u8 2, .int .i64 0, .slice none 0 0, .slice none 0 0, .bool false, .slice none 0 0, .slice none 0 0] 32 (0, 0)) := heap_setCell_same _ _ 2 _ _ _ y2
  have c3 : (((w4.setCell ⟨w.heap.size + 1, 0, none⟩ (.int .u8 2)).setCell ⟨w.heap.size + 1, 1, none⟩ (.int .i64 0)).setCell ⟨w.heap.size + 1, 2, none⟩ (.slice none 0 0)).cell? ⟨w.heap.size + 1, 3, none⟩ = some (.slice none 0 0) := by rw [cell_of_row _ _ _ _ _ _ y3]; rfl
  have f3 : (((w4.setCell ⟨w.heap.size + 1, 0, none⟩ (.int .u8 2)).setCell ⟨w.heap.size + 1, 1, none⟩ (.int .i64 0)).setCell ⟨w.heap.size + 1, 2, none⟩ (.slice none 0 0)).frozen? ⟨w.heap.size + 1, 3, none⟩ = false := frozen_of_row _ _ _ _ _ y3
  have y4 : ((((w4.setCell ⟨w.heap.size + 1, 0, none⟩ (.int .u8 2)).setCell ⟨w.heap.size + 1, 1, none⟩ (.int .i64 0)).setCell ⟨w.heap.size + 1, 2, none⟩ (.slice none 0 0)).setCell ⟨w.heap.size + 1, 3, none⟩ (.slice none 0 0)).heap[w.heap.size + 1]? = some (.cells #[.int .u8 2, .int .i64 0, .slice none 0 0, .slice none 0 0, .bool false, .slice none 0 0, .slice none 0 0] 32 (0, 0)) := heap_setCell_same _ _ 3 _ _ _ y3
  have c4 : ((((w4.setCell ⟨w.heap.size + 1, 0, none⟩ (.int .u8 2)).setCell ⟨w.heap.size + 1, 1, none⟩ (.int .i64 0)).setCell ⟨w.heap.size + 1, 2, none⟩ (.slice none 0 0)).setCell ⟨w.heap.size + 1, 3, none⟩ (.slice none 0 0)).cell? ⟨w.heap.size + 1, 4, none⟩ = some (.bool false) := by rw [cell_of_row _ _ _ _ _ _ y4]; rfl
  have f4 : ((((w4.setCell ⟨w.heap.size + 1, 0, none⟩ (.int .u8 2)).setCell ⟨w.heap.size + 1, 1, none⟩ (.int .i64 0)).setCell ⟨w.heap.size + 1, 2, none⟩ (.slice none 0 0)).setCell ⟨w.heap.size + 1, 3, none⟩ (.slice none 0 0)).frozen? ⟨w.heap.size + 1, 4, none⟩ = false := frozen_of_row _ _ _ _ _ y4
  have y5 : (((((w4.setCell ⟨w.heap.size + 1, 0, none⟩ (.int .u8 2)).setCell ⟨w.heap.size + 1, 1, none⟩ (.int .i64 0)).setCell ⟨w.heap.size + 1, 2, none⟩ (.slice none 0 0)).setCell ⟨w.heap.size + 1, 3, none⟩ (.slice none 0 0)).setCell ⟨w.heap.size + 1, 4, none⟩ (.bool false)).heap[w.heap.size + 1]? = some (.cells #[.int .u8 2, .int .i64 0, .slice none 0 0, .slice none 0 0, .bool false, .slice none 0 0, .slice none 0 0] 32 (0, 0)) := heap_setCell_same _ _ 4 _ _ _ y4
  have c5 : (((((w4.setCell ⟨w.heap.size + 1, 0, none⟩ (.int .u8 2)).setCell ⟨w.heap.size + 1, 1, none⟩ (.int .i64 0)).setCell ⟨w.heap.size + 1, 2, none⟩ (.slice none 0 0)).setCell ⟨w.heap.size + 1, 3, none⟩ (.slice none 0 0)).setCell ⟨w.heap.size + 1, 4, none⟩ (.bool false)).cell? ⟨w.heap.size + 1, 5, none⟩ = some (.slice none 0 0) := by rw [cell_of_row _ _ _ _ _ _ y5]; rfl
  have f5 : (((((w4.setCell ⟨w.heap.size + 1, 0, none⟩ (.int .u8 2)).setCell ⟨w.heap.size + 1, 1, none⟩ (.int .i64 0)).setCell ⟨w.heap.size + 1, 2, none⟩ (.slice none 0 0)).setCell ⟨w.heap.size + 1, 3, none⟩ (.slice none 0 0)).setCell ⟨w.heap.size + 1, 4, none⟩ (.bool false)).frozen? ⟨w.heap.size + 1, 5, none⟩ = false := frozen_of_row _ _ _ _ _ y5
  have y6 : ((((((w4.setCell ⟨w.heap.size + 1, 0, none⟩ (.int .u8 2)).setCell ⟨w.heap.size + 1, 1, none⟩ (.int .i64 0)).setCell ⟨w.heap.size + 1, 2, none⟩ (.slice none 0 0)).setCell ⟨w.heap.size + 1, 3, none⟩ (.slice none 0 0)).setCell ⟨w.heap.size + 1, 4, none⟩ (.bool false)).setCell ⟨w.heap.size + 1, 5, none⟩ (.slice n1 n2 n3)).heap[w.heap.size + 1]? = some (.cells #[.int .u8 2, .int .i64 0, .slice none 0 0, .slice none 0 0, .bool false, .slice n1 n2 n3, .slice none 0 0] 32 (0, 0)) := heap_setCell_same _ _ 5 _ _ _ y5
  have c6 : ((((((w4.setCell ⟨w.heap.size + 1, 0, none⟩ (.int .u8 2)).setCell ⟨w.heap.size + 1, 1, none⟩ (.int .i64 0)).setCell ⟨w.heap.size + 1, 2, none⟩ (.slice none 0 0)).setCell ⟨w.heap.size + 1, 3, none⟩ (.slice none 0 0)).setCell ⟨w.heap.size + 1, 4, none⟩ (.bool false)).setCell ⟨w.heap.size + 1, 5, none⟩ (.slice n1 n2 n3)).cell? ⟨w.heap.size + 1, 6, none⟩ = some (.slice none 0 0) := by rw [cell_of_row _ _ _ _ _ _ y6]; rfl
  have f6 : ((((((w4.setCell ⟨w.heap.size + 1, 0, none⟩ (.int .u8 2)).setCell ⟨w.heap.size + 1, 1, none⟩ (.int .i64 0)).setCell ⟨w.heap.size + 1, 2, none⟩ (.slice none 0 0)).setCell ⟨w.heap.size + 1, 3, none⟩ (.slice none 0 0)).setCell ⟨w.heap.size + 1, 4, none⟩ (.bool false)).setCell ⟨w.heap.size + 1, 5, none⟩ (.slice n1 n2 n3)).frozen? ⟨w.heap.size + 1, 6, none⟩ = false := frozen_of_row _ _ _ _ _ y6
  have HY : Hid ((((((((w4.setCell ⟨w.heap.size + 1, 0, none⟩ (.int .u8 2)).setCell ⟨w.heap.size + 1, 1, none⟩ (.int .i64 0)).setCell ⟨w.heap.size + 1, 2, none⟩ (.slice none 0 0)).setCell ⟨w.heap.size + 1, 3, none⟩ (.slice none 0 0)).setCell ⟨w.heap.size + 1, 4, none⟩ (.bool false)).setCell ⟨w.heap.size + 1, 5, none⟩ (.slice n1 n2 n3)).setCell ⟨w.heap.size + 1, 6, none⟩ (.slice m1 m2 m3)).heap[w.heap.size + 1]? = some (.cells #[.int .u8 2, .int .i64 0, .slice none 0 0, .slice none 0 0, .bool false, .slice n1 n2 n3, .slice m1 m2 m3] 32 (0, 0))) := heap_setCell_same _ _ 6 _ _ _ y6
  have HB7 : Hid (Below w4.heap.size w4 w4 ∧ Below w.heap.size w (((((((w4.setCell ⟨w.heap.size + 1, 0, none⟩ (.int .u8 2)).setCell ⟨w.heap.size + 1, 1, none⟩ (.int .i64 0)).setCell ⟨w.heap.size + 1, 2, none⟩ (.slice none 0 0)).setCell ⟨w.heap.size + 1, 3, none⟩ (.slice none 0 0)).setCell ⟨w.heap.size + 1, 4, none⟩ (.bool false)).setCell ⟨w.heap.size + 1, 5, none⟩ (.slice n1 n2 n3)).setCell ⟨w.heap.size + 1, 6, none⟩ (.slice m1 m2 m3)) ∧ (∀ j, j ≠ w.heap.size + 1 → (((((((w4.setCell ⟨w.heap.size + 1, 0, none⟩ (.int .u8 2)).setCell ⟨w.heap.size + 1, 1, none⟩ (.int .i64 0)).setCell ⟨w.heap.size + 1, 2, none⟩ (.slice none 0 0)).setCell ⟨w.heap.size + 1, 3, none⟩ (.slice none 0 0)).setCell ⟨w.heap.size + 1, 4, none⟩ (.bool false)).setCell ⟨w.heap.size + 1, 5, none⟩ (.slice n1 n2 n3)).setCell ⟨w.heap.size + 1, 6, none⟩ (.slice m1 m2 m3)).heap[j]? = w4.heap[j]?)) := by
    have hb4 := HB0.out.trans (D4.out.mono HB0.out.size)
    refine ⟨Below.refl _ _, ((((((hb4.setCell (by simp) _).setCell (by simp) _).setCell (by simp) _).setCell (by simp) _).setCell (by simp) _).setCell (by simp) _).setCell (by simp) _, fun j hj => ?_⟩
    simp only [heap_setCell_other _ _ j _ (show j ≠ (⟨w.heap.size + 1, _, none⟩ : Addr).block from hj)]
  generalize hWE : (((((((w4.setCell ⟨w.heap.size + 1, 0, none⟩ (.int .u8 2)).setCell ⟨w.heap.size + 1, 1, none⟩ (.int .i64 0)).setCell ⟨w.heap.size + 1, 2, none⟩ (.slice none 0 0)).setCell ⟨w.heap.size + 1, 3, none⟩ (.slice none 0 0)).setCell ⟨w.heap.size + 1, 4, none⟩ (.bool false)).setCell ⟨w.heap.size + 1, 5, none⟩ (.slice n1 n2 n3)).setCell ⟨w.heap.size + 1, 6, none⟩ (.slice m1 m2 m3)) = WE at HY HB7
  have HWE : Hid ((((((((w4.setCell ⟨w.heap.size + 1, 0, none⟩ (.int .u8 2)).setCell ⟨w.heap.size + 1, 1, none⟩ (.int .i64 0)).setCell ⟨w.heap.size + 1, 2, none⟩ (.slice none 0 0)).setCell ⟨w.heap.size + 1, 3, none⟩ (.slice none 0 0)).setCell ⟨w.heap.size + 1, 4, none⟩ (.bool false)).setCell ⟨w.heap.size + 1, 5, none⟩ (.slice n1 n2 n3)).setCell ⟨w.heap.size + 1, 6, none⟩ (.slice m1 m2 m3)) = WE) := hWE
  clear hWE y0 y1 y2 y3 y4 y5 y6
  go_wp2
  rw [HWE.out]
  have hsz : w4.heap.size ≤ WE.heap.size := by rw [← HWE.out]; simp
  have k1 := num_kept HR.out.1 (key_ne HRW.out) HB7.out.2.2 hsz
  have k2 := num_kept HR.out.2.2.2.1 (key_ne HRW.out) HB7.out.2.2 hsz
  refine bodyPost_ret (ret_key rfl _ _ _ _ _ _ _ _ _ _ rfl HY.out) rfl ?_
  exact ⟨_, _, rfl, ⟨_, _, _, _, rfl, k1, HR.out.2.1, HR.out.2.2.1⟩, ⟨_, _, _, _, rfl, k2, HR.out.2.2.2.2.1, HR.out.2.2.2.2.2⟩, HB7.out.2.1⟩
end Go.Proofs.Ytnacgkkklmlhaaa
