/-
  The law EcdsaDigests.
-/
import Derived.Test.YtdojbknkaoiioaaHR
namespace Go.Proofs.Ytdojbknkaoiioaa
open Go.Shelf Go.RowKit
set_option linter.unusedVariables false
set_option linter.unusedSimpArgs false
theorem num_new (k : IntKind) (B : Int) (w : World) (xs : List Int) (t : TypeId) (hd : Dg B xs) (hs : xs.length ≤ 1000) : NumIn k B (w.alloc (.cells (xs.map (Value.int k)).toArray t)) (some ⟨w.heap.size, 0, none⟩) xs.length xs.length xs := by
  refine ⟨⟨rfl, .inr ⟨w.heap.size, 0, rfl, by rw [alloc_sz7]; omega, fun i hi => ?_⟩⟩, Nat.le_refl _, by unfold maxLen; omega, fun h => (by cases h), hd, by omega⟩
  rw [cell_of_row _ _ _ _ _ _ (heap_alloc_new w _)]
  simp [hi, List.getD_eq_getElem?_getD]
set_option maxRecDepth 100000 in
set_option maxHeartbeats 2000000 in
theorem EAwake_any (w : World) : Calls Try.prog 31 #[] w fun e w' => e = .returned (.bool true) ∧ Below w.heap.size w w' := by
  go_enter Try.func31, Try.ntmps31
  go_wp2_with fail
  refine (Curves_any w).mono ?_
  rintro e w2 ⟨v, xs, rfl, ho, hl, hb2⟩
  obtain ⟨g, cap, rfl, hcap, hcm, hall⟩ := cur_at ho hl
  obtain ⟨g1, g2, oo, lo, co, b0, b1, b2, b3, b4, b5, hA, hcu⟩ := hall 0 (by decide)
  have HA : Hid (CuAt w2 g 0 g1 g2 oo lo co b0 b1 b2 b3 b4 b5) := hA
  have HCU : Hid (Cu w2 (curV g1 g2 oo lo co b0 b1 b2 b3 b4 b5) (curZ 0) 1) := hcu
  have x0 : w2.cell? ⟨g, 0, none⟩ = _ := hA.c0
  have x1 : w2.cell? ⟨g, 1, none⟩ = _ := hA.c1
  have x2 : w2.cell? ⟨g, 2, none⟩ = _ := hA.c2
  have x3 : w2.cell? ⟨g, 3, none⟩ = _ := hA.c3
  have x4 : w2.cell? ⟨g, 4, none⟩ = _ := hA.c4
  have x5 : w2.cell? ⟨g, 5, none⟩ = _ := hA.c5
  have x6 : w2.cell? ⟨g, 6, none⟩ = _ := hA.c6
  have x7 : w2.cell? ⟨g, 7, none⟩ = _ := hA.c7
  have x8 : w2.cell? ⟨g, 8, none⟩ = _ := hA.c8
  clear hA hcu hall ho hl
  unfold maxLen at hcm
  have hn1 : NumIn .u8 256 (w2.alloc (.cells #[.int .u8 255, .int .u8 255] 5)) (some ⟨w2.heap.size, 0, none⟩) 2 2 [255, 255] := num_new .u8 256 w2 [255, 255] 5 (by intro x hx; simp at hx; omega) (by decide)
  have ba := (Below.refl w2.heap.size w2).alloc (Nat.le_refl _) (.cells #[.int .u8 255, .int .u8 255] 5)
  have HD := Digest_any _ _ 1 _ 2 2 [255, 255] _ (HCU.out.old ba) (by decide) hn1 (by decide)
  have hz : digZ (curZ 0).n 2 [255, 255] = 511 := by decide +kernel
  rw [hz] at HD
  clear HA HCU hz
  go_wp2_with fail
  clear x0 x1 x2 x3 x4 x5 x6 x7 x8
  go_at_call 37
  refine HD.mono ?_
  rintro e w3 ⟨v, rfl, p1, p2, p3, p4, rfl, hp, hcan, hv, _, hb3⟩
  have e1 := canon_inj B64_one hp.dg (show Dg B64 [511] by intro x hx; simp at hx; unfold B64; omega) hcan (show Canon [511] from rfl) (by rw [hv]; decide)
  subst e1
  have hpl := hp.len
  obtain rfl : 1 = p2 := hpl
  have hn2 : NumIn .u64 B64 (w3.alloc (.cells #[.int .u64 511] 34)) (some ⟨w3.heap.size, 0, none⟩) 1 1 [511] := num_new .u64 B64 w3 [511] 34 (by intro x hx; simp at hx; unfold B64; omega) (by decide)
  have bb := (Below.refl w3.heap.size w3).alloc (Nat.le_refl _) (.cells #[.int .u64 511] 34)
  have HS := Same_yes p1 _ 1 p3 1 [511] _ (hp.old bb).lies hn2.lies (by decide)
  clear HD
  go_wp2_with fail
  go_at_call 36
  refine HS.mono ?_
  rintro e w4 ⟨rfl, hdr⟩
  go_wp2
  go_ret
  have b3 := ((hb2.trans (ba.mono hb2.size)).trans (hb3.mono (Nat.le_trans hb2.size ba.size)))
  exact ⟨rfl, b3.trans ((bb.trans ((hdr.below _).mono bb.size)).mono b3.size)⟩
theorem big_len {ds : List Int} {V : Int} {n : Nat} (hd : Dg D16 ds) (hc : Canon ds) (hv : val D16 ds = V) (hV : V < 256 ^ n) (hn : n ≤ 512) : ds.length ≤ 256 := by
  have h := len_fit (B := D16) (by decide) hd hc (ys := List.replicate 256 65535) (fun x hx => by rw [(List.mem_replicate.1 hx).2]; decide) (by
    have h1 : val D16 (List.replicate 256 65535) = 256 ^ 512 - 1 := by decide +kernel
    have h2 := pow_mono (B := 256) (by decide) hn
    rw [h1, hv]
    omega)
  rw [List.length_replicate] at h
  exact h
set_option maxRecDepth 100000 in
set_option maxHeartbeats 4000000 in
theorem EcdsaDigests_walk (a_b : Option Addr) (l_b c_b : Nat) (z_b : List Int) (a_n : Option Addr) (l_n c_n : Nat) (z_n : List Int) (w : World) (came_b : Came .u8 w a_b l_b c_b z_b) (came_n : Came .u64 w a_n l_n c_n z_n) :
    Calls Try.prog 8 #[.slice a_b l_b c_b, .slice a_n l_n c_n] w fun e w' => e = .returned (.bool true) ∧ Below w.heap.size w w' := by
  have le_b := came_b.le
  have le_n := came_n.le
  unfold maxLen at le_b le_n
  by_cases h1 : 512 < l_b
  · clear came_b came_n
    go_enter Try.func8, Try.ntmps8
    go_wp2_with fail
    refine (EAwake_any w).mono ?_
    rintro e wA ⟨rfl, hb⟩
    go_wp2
    go_ret
    exact ⟨rfl, hb⟩
  by_cases h2 : 10 < l_n
  · clear came_b came_n
    go_enter Try.func8, Try.ntmps8
    go_wp2_with fail
    refine (EAwake_any w).mono ?_
    rintro e wA ⟨rfl, hb⟩
    go_wp2
    go_ret
    exact ⟨rfl, hb⟩
  have CB : Hid (Came .u8 w a_b l_b c_b z_b) := came_b
  have CN : Hid (Came .u64 w a_n l_n c_n z_n) := came_n
  clear came_b came_n
  go_enter Try.func8, Try.ntmps8
  go_wp2_with fail
  refine (EAwake_any w).mono ?_
  rintro e wA ⟨rfl, hbA⟩
  have BA : Hid (Below w.heap.size w wA) := hbA
  have NB : Hid (NumIn .u8 256 wA a_b l_b c_b (z_b.take l_b)) := (CB.out.old hbA).bytes (by omega)
  have NN : Hid (NumIn .u64 B64 wA a_n l_n c_n (z_n.take l_n)) := (CN.out.old hbA).nat (by omega)
  clear hbA CB CN
  generalize z_b.take l_b = s_b at *
  generalize z_n.take l_n = s_n at *
  go_wp2_with fail
  refine (Curves_any wA).mono ?_
  rintro e w2 ⟨v, xs, rfl, ho, hl, hb2⟩
  obtain ⟨g, cap, rfl, hcap, hcm, hall⟩ := cur_at ho hl
  obtain ⟨g1, g2, oo, lo, co, b0, b1, b2, b3, b4, b5, hA, hcu⟩ := hall 0 (by decide)
  have x0 : w2.cell? ⟨g, 0, none⟩ = _ := hA.c0
  have x1 : w2.cell? ⟨g, 1, none⟩ = _ := hA.c1
  have x2 : w2.cell? ⟨g, 2, none⟩ = _ := hA.c2
  have x3 : w2.cell? ⟨g, 3, none⟩ = _ := hA.c3
  have x4 : w2.cell? ⟨g, 4, none⟩ = _ := hA.c4
  have x5 : w2.cell? ⟨g, 5, none⟩ = _ := hA.c5
  have x6 : w2.cell? ⟨g, 6, none⟩ = _ := hA.c6
  have x7 : w2.cell? ⟨g, 7, none⟩ = _ := hA.c7
  have x8 : w2.cell? ⟨g, 8, none⟩ = _ := hA.c8
  have HCU : Hid (Cu w2 (.agg #[.int .i64 g1, .int .i64 g2, .slice oo lo co, .slice (some ⟨b0, 0, none⟩) 1 1, .slice (some ⟨b1, 0, none⟩) 1 1, .slice (some ⟨b2, 0, none⟩) 1 1, .slice (some ⟨b3, 0, none⟩) 1 1, .slice (some ⟨b4, 0, none⟩) 1 1, .slice a_n l_n c_n]) ⟨251, 1, 4, 7, 75, val B64 s_n⟩ 10) := by
    obtain ⟨k1, k2, po, pl, pc, vp, va, vb, vx, vy, vn, e, q1, q2, q3, q4, q5, q6⟩ := hcu
    injection e with e
    have el := congrArg Array.toList e
    simp only [List.cons.injEq, and_true] at el
    obtain ⟨_, _, _, rfl, rfl, rfl, rfl, rfl, rfl⟩ := el
    exact ⟨_, _, _, _, _, _, _, _, _, _, _, rfl, q1.up (by decide), q2.up (by decide), q3.up (by decide), q4.up (by decide), q5.up (by decide), ⟨_, _, _, _, rfl, NN.out.old hb2, rfl, by omega⟩⟩
  have B2 : Hid (Below wA.heap.size wA w2) := hb2
  clear hA hcu hall ho hl hb2
  unfold maxLen at hcm
  go_wp2_with fail
  clear x0 x1 x2 x3 x4 x5 x6 x7 x8
  obtain ⟨W, hW⟩ : ∃ W, w2.alloc (.cells #[.int .i64 g1, .int .i64 g2, .slice oo lo co, .slice (some ⟨b0, 0, none⟩) 1 1, .slice (some ⟨b1, 0, none⟩) 1 1, .slice (some ⟨b2, 0, none⟩) 1 1, .slice (some ⟨b3, 0, none⟩) 1 1, .slice (some ⟨b4, 0, none⟩) 1 1, .slice a_n l_n c_n] 29) = W := ⟨_, rfl⟩
  have HW : Hid (W.heap[w2.heap.size]? = some (.cells #[.int .i64 g1, .int .i64 g2, .slice oo lo co, .slice (some ⟨b0, 0, none⟩) 1 1, .slice (some ⟨b1, 0, none⟩) 1 1, .slice (some ⟨b2, 0, none⟩) 1 1, .slice (some ⟨b3, 0, none⟩) 1 1, .slice (some ⟨b4, 0, none⟩) 1 1, .slice a_n l_n c_n] 29 (0, 0)) ∧ Below w2.heap.size w2 W) := by rw [← hW]; exact ⟨heap_alloc_new w2 _, (Below.refl _ _).alloc (Nat.le_refl _) _⟩
  rw [hW]
  clear hW
  have BW : Hid (Below wA.heap.size wA W) := B2.out.trans (HW.out.2.mono B2.out.size)
  have HC := rRead_any a_b l_b c_b s_b W (NB.out.old BW.out) (by omega)
  refine HC.mono ?_
  rintro e w3 ⟨v3, rfl, p1, p2, p3, p4, rfl, hp, hpc, hpv, _, hb3⟩
  clear HC
  have hpl : p2 ≤ 256 := by
    have := big_len (n := l_b) hp.dg hpc hpv (by
      have := val_lt (B := 256) (by decide) (xs := s_b.reverse) (fun x hx => NB.out.dg x (List.mem_reverse.1 hx))
      rwa [List.length_reverse, NB.out.len] at this) (by omega)
    rwa [hp.len] at this
  have B3 : Hid (Below W.heap.size W w3) := hb3
  have HP : Hid (NumIn .i64 D16 w3 p1 p2 p3 p4 ∧ Canon p4 ∧ val D16 p4 = val 256 s_b.reverse) := ⟨hp, hpc, hpv⟩
  clear hp hpc hpv hb3
  go_wp2_with fail
  have HC := rOf_any a_n l_n c_n s_n w3 ((NN.out.old BW.out).old B3.out) (by omega)
  refine HC.mono ?_
  rintro e w4 ⟨v4, rfl, q1, q2, q3, q4, rfl, hq, hqc, hqv, hql, hb4⟩
  have HL := rLen_any q1 q2 q3 q4 w4 hq hqc (by omega)
  rw [hqv] at HL
  obtain ⟨N, hN⟩ : ∃ N, blen (val B64 s_n).toNat = N := ⟨_, rfl⟩
  have hNl : N ≤ 64000 := by
    have h5 := lenOf_le NN.out.dg 1000 (by have := NN.out.len; omega)
    rw [lenOf_eq s_n NN.out.dg, hN] at h5
    exact h5
  rw [hN] at HL
  have HN : Hid (blen (val B64 s_n).toNat = N) := hN
  have B4 : Hid (Below w3.heap.size w3 w4) := hb4
  clear HC hb4 hN hq hqc hqv hql
  go_wp2_with fail
  go_at_call 33
  refine HL.mono ?_
  rintro e w5 ⟨rfl, rfl⟩
  clear HL
  by_cases hov : N < 8 * l_b
  · have HHf := rHalf_any p1 p2 p3 p4 ((8 * l_b - N) / 16) ((8 * l_b - N) % 16) (8 * (l_b : Int) - N) w5 (HP.out.1.old B4.out) (by omega) (by omega) (by omega) (by omega)
    rw [show 16 * ((8 * l_b - N) / 16) + (8 * l_b - N) % 16 = 8 * l_b - N by omega] at HHf
    go_wp2_with fail
    go_at_call 35
    refine HHf.mono ?_
    rintro e wz ⟨vz, rfl, z1, z2, z3, z4, rfl, hz, hzc, hzv, hzl, hbz⟩
    have HR : Hid (NumIn .i64 D16 wz z1 z2 z3 z4 ∧ Canon z4 ∧ val D16 z4 = val 256 s_b.reverse / 2 ^ (8 * l_b - N)) := ⟨hz, hzc, by rw [hzv, HP.out.2.2]⟩
    have B5 : Hid (Below W.heap.size W wz) := by
      have h6 := B3.out.trans (B4.out.mono B3.out.size)
      exact h6.trans (hbz.mono h6.size)
    clear hz hzc hzv hbz HHf
    have hblk : wz.heap[w2.heap.size]? = _ := (B5.out.block _ (Array.getElem?_eq_some_iff.1 HW.out.1).1).trans HW.out.1
    have y0 : wz.cell? ⟨w2.heap.size, 0, none⟩ = some (.int .i64 g1) := by rw [cell_of_row _ _ _ _ _ _ hblk]; rfl
    have y1 : wz.cell? ⟨w2.heap.size, 1, none⟩ = some (.int .i64 g2) := by rw [cell_of_row _ _ _ _ _ _ hblk]; rfl
    have y2 : wz.cell? ⟨w2.heap.size, 2, none⟩ = some (.slice oo lo co) := by rw [cell_of_row _ _ _ _ _ _ hblk]; rfl
    have y3 : wz.cell? ⟨w2.heap.size, 3, none⟩ = some (.slice (some ⟨b0, 0, none⟩) 1 1) := by rw [cell_of_row _ _ _ _ _ _ hblk]; rfl
    have y4 : wz.cell? ⟨w2.heap.size, 4, none⟩ = some (.slice (some ⟨b1, 0, none⟩) 1 1) := by rw [cell_of_row _ _ _ _ _ _ hblk]; rfl
    have y5 : wz.cell? ⟨w2.heap.size, 5, none⟩ = some (.slice (some ⟨b2, 0, none⟩) 1 1) := by rw [cell_of_row _ _ _ _ _ _ hblk]; rfl
    have y6 : wz.cell? ⟨w2.heap.size, 6, none⟩ = some (.slice (some ⟨b3, 0, none⟩) 1 1) := by rw [cell_of_row _ _ _ _ _ _ hblk]; rfl
    have y7 : wz.cell? ⟨w2.heap.size, 7, none⟩ = some (.slice (some ⟨b4, 0, none⟩) 1 1) := by rw [cell_of_row _ _ _ _ _ _ hblk]; rfl
    have y8 : wz.cell? ⟨w2.heap.size, 8, none⟩ = some (.slice a_n l_n c_n) := by rw [cell_of_row _ _ _ _ _ _ hblk]; rfl
    have C5 : Below wA.heap.size wA wz := BW.out.trans (B5.out.mono BW.out.size)
    have D5 : Below w2.heap.size w2 wz := HW.out.2.trans (B5.out.mono HW.out.2.size)
    have HD := Digest_any _ _ 10 a_b l_b c_b s_b wz (HCU.out.old D5) (by decide) (NB.out.old C5) (by omega)
    have HZ : Hid (digZ (val B64 s_n) l_b s_b = val 256 s_b.reverse / 2 ^ (8 * l_b - N)) := by
      unfold Hid
      rw [digZ_eq _ _ _ NB.out.len NB.out.dg, HN.out]
    have HBB : Hid (Below w.heap.size w wz) := BA.out.trans (C5.mono BA.out.size)
    clear hblk C5 D5
    go_wp2_with fail
    go_at_call 37
    refine HD.mono ?_
    rintro e w6 ⟨v6, rfl, t1, t2, t3, t4, rfl, ht, htc, htv, htl, hb6⟩
    have htv2 : val B64 t4 = val 256 s_b.reverse / 2 ^ (8 * l_b - N) := htv.trans HZ.out
    have HT : Hid (NumIn .u64 B64 w6 t1 t2 t3 t4 ∧ Canon t4 ∧ val B64 t4 = val 256 s_b.reverse / 2 ^ (8 * l_b - N)) := ⟨ht, htc, htv2⟩
    have HB6 : Hid (Below wz.heap.size wz w6) := hb6
    have HM := rNat_any z1 z2 z3 z4 w6 (HR.out.1.old hb6) HR.out.2.1 (by omega)
    clear ht htc htv htv2 hb6 HD y0 y1 y2 y3 y4 y5 y6 y7 y8
    go_wp2_with fail
    go_at_call 38
    refine HM.mono ?_
    rintro e w7 ⟨v7, rfl, k1, k2, k3, k4, rfl, hk, hkc, hkv, hkl, hb7⟩
    have hee := canon_inj B64_one hk.dg HT.out.1.dg hkc HT.out.2.1 (by rw [hkv, HT.out.2.2, HR.out.2.2])
    subst hee
    have hlk := hk.len
    have hlt := HT.out.1.len
    obtain rfl : k2 = t2 := by omega
    have HSS := Same_yes t1 k1 k2 t3 k3 k4 w7 (HT.out.1.old hb7).lies hk.lies hk.sm
    have HB7 : Hid (Below w6.heap.size w6 w7) := hb7
    clear hb7 hk hkc hkv HM hlk hlt
    go_wp2_with fail
    go_at_call 36
    refine HSS.mono ?_
    rintro e w8 ⟨rfl, hdr⟩
    go_wp2
    go_ret
    have E6 := HBB.out.trans (HB6.out.mono HBB.out.size)
    have E7 := E6.trans (HB7.out.mono E6.size)
    exact ⟨rfl, E7.trans ((hdr.below _).mono E7.size)⟩
  · have HR : Hid (NumIn .i64 D16 w5 p1 p2 p3 p4 ∧ Canon p4 ∧ val D16 p4 = val 256 s_b.reverse / 2 ^ (8 * l_b - N)) := ⟨HP.out.1.old B4.out, HP.out.2.1, by rw [HP.out.2.2, show 8 * l_b - N = 0 by omega, Int.pow_zero, Int.ediv_one]⟩
    have B5 : Hid (Below W.heap.size W w5) := B3.out.trans (B4.out.mono B3.out.size)
    have hblk : w5.heap[w2.heap.size]? = _ := (B5.out.block _ (Array.getElem?_eq_some_iff.1 HW.out.1).1).trans HW.out.1
    have y0 : w5.cell? ⟨w2.heap.size, 0, none⟩ = some (.int .i64 g1) := by rw [cell_of_row _ _ _ _ _ _ hblk]; rfl
    have y1 : w5.cell? ⟨w2.heap.size, 1, none⟩ = some (.int .i64 g2) := by rw [cell_of_row _ _ _ _ _ _ hblk]; rfl
    have y2 : w5.cell? ⟨w2.heap.size, 2, none⟩ = some (.slice oo lo co) := by rw [cell_of_row _ _ _ _ _ _ hblk]; rfl
    have y3 : w5.cell? ⟨w2.heap.size, 3, none⟩ = some (.slice (some ⟨b0, 0, none⟩) 1 1) := by rw [cell_of_row _ _ _ _ _ _ hblk]; rfl
    have y4 : w5.cell? ⟨w2.heap.size, 4, none⟩ = some (.slice (some ⟨b1, 0, none⟩) 1 1) := by rw [cell_of_row _ _ _ _ _ _ hblk]; rfl
    have y5 : w5.cell? ⟨w2.heap.size, 5, none⟩ = some (.slice (some ⟨b2, 0, none⟩) 1 1) := by rw [cell_of_row _ _ _ _ _ _ hblk]; rfl
    have y6 : w5.cell? ⟨w2.heap.size, 6, none⟩ = some (.slice (some ⟨b3, 0, none⟩) 1 1) := by rw [cell_of_row _ _ _ _ _ _ hblk]; rfl
    have y7 : w5.cell? ⟨w2.heap.size, 7, none⟩ = some (.slice (some ⟨b4, 0, none⟩) 1 1) := by rw [cell_of_row _ _ _ _ _ _ hblk]; rfl
    have y8 : w5.cell? ⟨w2.heap.size, 8, none⟩ = some (.slice a_n l_n c_n) := by rw [cell_of_row _ _ _ _ _ _ hblk]; rfl
    have C5 : Below wA.heap.size wA w5 := BW.out.trans (B5.out.mono BW.out.size)
    have D5 : Below w2.heap.size w2 w5 := HW.out.2.trans (B5.out.mono HW.out.2.size)
    have HD := Digest_any _ _ 10 a_b l_b c_b s_b w5 (HCU.out.old D5) (by decide) (NB.out.old C5) (by omega)
    have HZ : Hid (digZ (val B64 s_n) l_b s_b = val 256 s_b.reverse / 2 ^ (8 * l_b - N)) := by
      unfold Hid
      rw [digZ_eq _ _ _ NB.out.len NB.out.dg, HN.out]
    have HBB : Hid (Below w.heap.size w w5) := BA.out.trans (C5.mono BA.out.size)
    clear hblk C5 D5
    go_wp2_with fail
    go_at_call 37
    refine HD.mono ?_
    rintro e w6 ⟨v6, rfl, t1, t2, t3, t4, rfl, ht, htc, htv, htl, hb6⟩
    have htv2 : val B64 t4 = val 256 s_b.reverse / 2 ^ (8 * l_b - N) := htv.trans HZ.out
    have HT : Hid (NumIn .u64 B64 w6 t1 t2 t3 t4 ∧ Canon t4 ∧ val B64 t4 = val 256 s_b.reverse / 2 ^ (8 * l_b - N)) := ⟨ht, htc, htv2⟩
    have HB6 : Hid (Below w5.heap.size w5 w6) := hb6
    have HM := rNat_any p1 p2 p3 p4 w6 (HR.out.1.old hb6) HR.out.2.1 (by omega)
    clear ht htc htv htv2 hb6 HD y0 y1 y2 y3 y4 y5 y6 y7 y8
    go_wp2_with fail
    go_at_call 38
    refine HM.mono ?_
    rintro e w7 ⟨v7, rfl, k1, k2, k3, k4, rfl, hk, hkc, hkv, hkl, hb7⟩
    have hee := canon_inj B64_one hk.dg HT.out.1.dg hkc HT.out.2.1 (by rw [hkv, HT.out.2.2, HR.out.2.2])
    subst hee
    have hlk := hk.len
    have hlt := HT.out.1.len
    obtain rfl : k2 = t2 := by omega
    have HSS := Same_yes t1 k1 k2 t3 k3 k4 w7 (HT.out.1.old hb7).lies hk.lies hk.sm
    have HB7 : Hid (Below w6.heap.size w6 w7) := hb7
    clear hb7 hk hkc hkv HM hlk hlt
    go_wp2_with fail
    go_at_call 36
    refine HSS.mono ?_
    rintro e w8 ⟨rfl, hdr⟩
    go_wp2
    go_ret
    have E6 := HBB.out.trans (HB6.out.mono HBB.out.size)
    have E7 := E6.trans (HB7.out.mono E6.size)
    exact ⟨rfl, E7.trans ((hdr.below _).mono E7.size)⟩
end Go.Proofs.Ytdojbknkaoiioaa
