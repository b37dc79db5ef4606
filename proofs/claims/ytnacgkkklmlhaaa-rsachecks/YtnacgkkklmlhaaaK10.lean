import Derived.Test.YtnacgkkklmlhaaaK09
/-
  The document's Nat: its answer's cells are new.
-/
namespace Go.Proofs.Ytnacgkkklmlhaaa
open Go.RowKit
set_option linter.unusedVariables false
set_option linter.unusedSimpArgs false
set_option maxHeartbeats 2000000 in
theorem rNat_own (ao : Option Addr) (la ca : Nat) (ds : List Int) (w : World) (h : NumIn .i64 D16 w ao la ca ds) (hc : Canon ds) (hla : la ≤ 1000000) :
    Calls Try.prog 25 #[.slice ao la ca] w fun e w' => ∃ v xs, e = .returned v ∧ Own 36 .u64 w' w.heap.size v xs ∧ Canon xs ∧ Dg B64 xs ∧ val B64 xs = val D16 ds ∧ Below w.heap.size w w' := by
  have hl := h.len
  go_enter Try.func25, Try.ntmps25
  go_wp2
  go_loopw [3, 4] (fun vo vi wr => ∃ (m : Nat) (outs : List Int), 4 * m < la + 4 ∧ vi = .int .i64 ((4 * m : Nat) : Int) ∧ Own 36 .u64 wr w.heap.size vo outs ∧ Nats ds m outs ∧ Below w.heap.size w wr) (fun _ vi _ => la + 4 - (intOf vi).toNat)
  case atStart => exact ⟨0, [], by omega, rfl, Own.nil _ _ _ _, ⟨rfl, Dg.nil _, by simp [val, low_zero]⟩, Below.refl _ _⟩
  case round =>
    obtain ⟨m, outs, hi0, rfl, hown, hns, hb⟩ := hrel
    by_cases hlt : 4 * m < la
    · have hx := h.lies.old hb
      obtain ⟨b, off, rfl, hblk, hcs⟩ := hx.at (by omega)
      have HC : Hid (∀ i, i < la → wr.cell? ⟨b, off + i, none⟩ = some (.int .i64 (ds.getD i 0))) := hcs
      have HN : Hid (Nats ds m outs) := hns
      have HOWN : Hid (Own 36 .u64 wr w.heap.size u3 outs) := hown
      have HB : Hid (Below w.heap.size w wr) := hb
      have HD : Hid (Dg D16 ds) := h.dg
      clear hns hown hb hcs hx h hc
      go_wp2
      go_loop [5, 6] (fun vx vk => ∃ (kk : Nat), kk ≤ 4 ∧ vk = .int .i64 ((kk : Int) - 1) ∧ vx = .int .u64 (hi ds (4 * m + kk) (4 - kk))) (fun _ vk => (intOf vk + 1).toNat)
      case atStart => exact ⟨4, by omega, rfl, rfl⟩
      case round =>
        obtain ⟨kk, hk, rfl, rfl⟩ := hrel
        by_cases hk0 : kk = 0
        · subst hk0
          have HS : Hid (Nats ds (m + 1) (outs ++ [hi ds (4 * m) 4])) := HN.out.step HD.out
          have hlen := HN.out.1
          have HLB : Hid (outs.length < 1073741824) := by unfold Hid; omega
          have hbs := HB.out.size
          have hbw := HB.out
          have how := HOWN.out
          rw [show 4 * m + 0 = 4 * m from rfl, show 4 - 0 = 4 from rfl]
          generalize hi ds (4 * m) 4 = x at *
          clear HN HB HOWN HC HD hlen
          go_wp2_with (at_builtin; refine wpList_append_one rfl _ _ 23 rfl 36 .u64 8 Try.underlying23 Try.infoU w.heap.size u3 outs x (by rfl) how (by rfl) HLB.out (by decide) w hbw hbs ?_)
          intro v' w' hown' hb'
          clear how hbw hbs
          go_wp2
          go_roundw
          case rel => exact ⟨m + 1, _, by omega, by go_num, hown', HS.out, hb'⟩
          case measure => simp [intOf]; omega
        · obtain ⟨k, rfl⟩ : ∃ k, kk = k + 1 := ⟨kk - 1, by omega⟩
          have hr := hi_range ds HD.out (4 - (k + 1)) (4 * m + (k + 1))
          have hp := pow_mono (B := D16) (by decide) (show 4 - (k + 1) ≤ 3 by omega)
          have e3 : D16 ^ 3 = 281474976710656 := by decide
          rw [e3] at hp
          have hx2 : hi ds (4 * m + (k + 1)) (4 - (k + 1)) < 281474976710656 := by omega
          have hx1 := hr.1
          have hg := HD.out.getD D16_pos (4 * m + k)
          have HE : Hid (hi ds (4 * m + k) (4 - k) = ds.getD (4 * m + k) 0 + 65536 * hi ds (4 * m + (k + 1)) (4 - (k + 1))) := by
            unfold Hid
            rw [show 4 - k = (4 - (k + 1)) + 1 by omega, hi]
            rfl
          clear hr hp e3
          unfold D16 at hg
          by_cases hin : 4 * m + k < la
          · have hcell := HC.out (4 * m + k) hin
            generalize hi ds (4 * m + (k + 1)) (4 - (k + 1)) = x at *
            generalize ds.getD (4 * m + k) 0 = y at *
            have ei : ((4 * m + k : Nat) : Int) = 4 * (m : Int) + (k : Int) := by omega
            clear HN HB HOWN HC HD
            go_wp2
            go_round
            case rel => exact ⟨k, by omega, by go_num, by rw [HE.out]; go_num⟩
            case measure => simp [intOf] <;> omega
          · have hz : ds.getD (4 * m + k) 0 = 0 := by simp [List.getD, List.getElem?_eq_none (show ds.length ≤ 4 * m + k by omega)]
            rw [hz] at HE
            generalize hi ds (4 * m + (k + 1)) (4 - (k + 1)) = x at *
            clear HN HB HOWN HC HD hz hg
            go_wp2
            go_round
            case rel => exact ⟨k, by omega, by go_num, by rw [HE.out]; go_num⟩
            case measure => simp [intOf] <;> omega
    · have hdn := hns.done h.dg hc (by omega) (by omega)
      have hlen := hns.1
      obtain ⟨a2, c2, hv, hnum⟩ := hown.num hns.2.1 (by omega)
      have HF : Hid (Own 36 .u64 wr w.heap.size (.slice a2 outs.length c2) outs ∧ Canon outs ∧ Dg B64 outs ∧ val B64 outs = val D16 ds ∧ Below w.heap.size w wr) := ⟨by rw [← hv]; exact hown, hdn.2, hns.2.1, hdn.1, hb⟩
      subst hv
      clear hown hns hnum hb hdn hlen hc h
      go_wp2
      go_ret
      exact ⟨_, _, rfl, HF.out⟩
end Go.Proofs.Ytnacgkkklmlhaaa
/-
  The signer's key, its numbers in new cells.
-/
namespace Go.Proofs.Ytnacgkkklmlhaaa
open Go.Shelf Go.RowKit
set_option linter.unusedVariables false
set_option linter.unusedSimpArgs false
set_option maxRecDepth 100000 in
set_option maxHeartbeats 4000000 in
theorem skeyo_any (i : Int) (w : World) (h0 : 0 ≤ i) (h1 : i < 256) :
    Calls Try.prog 9 #[.agg #[.int .u8 15, .int .u8 i]] w fun e w' => ∃ gN cN xs gE cE ys, e = .returned (.agg #[.int .u8 2, .int .i64 0, .slice none 0 0, .slice none 0 0, .bool false, .slice (some ⟨gN, 0, none⟩) xs.length cN, .slice (some ⟨gE, 0, none⟩) ys.length cE]) ∧ (OwnAt 36 .u64 w' gN cN xs ∧ Dg B64 xs ∧ val B64 xs = rsaN i ∧ xs.length ≤ 8 ∧ 0 < xs.length) ∧ (OwnAt 36 .u64 w' gE cE ys ∧ Dg B64 ys ∧ val B64 ys = rsaE i ∧ ys.length ≤ 8) ∧ w.heap.size ≤ gN ∧ gN < gE ∧ Below w.heap.size w w' := by
  have HRS := fun W => rsa12_any i W h0 h1
  have hsm := rsa_small i
  obtain ⟨W0, hW0⟩ : ∃ W0, (w.alloc (.cells #[.int .u8 15, .int .u8 i] 34)).alloc (.cells #[.int .u8 0, .int .i64 0, .slice none 0 0, .slice none 0 0, .bool false, .slice none 0 0, .slice none 0 0] 32) = W0 := ⟨_, rfl⟩
  have b0 : Below w.heap.size w W0 := by rw [← hW0]; exact ((Below.refl w.heap.size w).alloc (Nat.le_refl _) _).alloc (by simp) _
  have HK : Hid (W0.heap[w.heap.size + 1]? = some (.cells #[.int .u8 0, .int .i64 0, .slice none 0 0, .slice none 0 0, .bool false, .slice none 0 0, .slice none 0 0] 32 (0, 0))) := by
    unfold Hid
    rw [← hW0]
    have h := heap_alloc_new (w.alloc (.cells #[.int .u8 15, .int .u8 i] 34)) (.cells #[.int .u8 0, .int .i64 0, .slice none 0 0, .slice none 0 0, .bool false, .slice none 0 0, .slice none 0 0] 32)
    rw [alloc_sz7] at h
    exact h
  have HS : Hid (W0.heap[w.heap.size]? = some (.cells #[.int .u8 15, .int .u8 i] 34 (0, 0))) := by
    unfold Hid
    rw [← hW0, Below.heap_alloc _ _ _ (by rw [alloc_sz7]; omega)]
    exact heap_alloc_new w _
  have HLT : Hid (w.heap.size + 1 < W0.heap.size) := (Array.getElem?_eq_some_iff.1 HK.out).1
  have HW0 : Hid ((w.alloc (.cells #[.int .u8 15, .int .u8 i] 34)).alloc (.cells #[.int .u8 0, .int .i64 0, .slice none 0 0, .slice none 0 0, .bool false, .slice none 0 0, .slice none 0 0] 32) = W0) := hW0
  have hiw : IntKind.i64.wrap i = i := by simp [IntKind.wrap, IntKind.bits, IntKind.signed]; omega
  have HB0 : Hid (Below w.heap.size w W0) := b0
  clear hW0 b0
  go_enter Try.func9, Try.ntmps9
  go_wp2_with fail
  rw [HW0.out]
  clear HW0
  refine (scurve_any i W0).mono ?_
  rintro e w1 ⟨rfl, d1⟩
  obtain ⟨x0, x1⟩ := cells2 (by rw [d1.block _ (by have := HLT.out; omega)]; exact HS.out : w1.heap[w.heap.size]? = _)
  have D1 : Hid (Below W0.heap.size W0 w1) := d1
  clear d1
  go_wp2_with fail
  refine (HRS w1).mono ?_
  rintro e w2 ⟨v1, v2, v3, rfl, r1, r2, r3, d2⟩
  have D2 : Hid (Below W0.heap.size W0 w2) := D1.out.trans (d2.mono D1.out.size)
  obtain ⟨q1, q2, q3, q4, rfl, u5, u6, u7, u8⟩ := r1
  obtain ⟨s1, s2, s3, s4, rfl, z5, z6, z7, z8⟩ := r2
  obtain ⟨t1, t2, t3, t4, rfl, -⟩ := r3
  have HN1 := rNat_own q1 q2 q3 q4 w2 u5 u6 (by omega)
  have HN2 := fun W (hb : Below w2.heap.size w2 W) => rNat_own s1 s2 s3 s4 W (z5.old hb) z6 (by omega)
  rw [u7] at HN1
  rw [z7] at HN2
  clear x0 x1 d2 HRS u5 u6 u7 z5 z6 z7
  go_wp2_with fail
  refine HN1.mono ?_
  rintro e w3 ⟨vn, xs, rfl, ho1, hc1, hd1, hv1, d3⟩
  have hxp : 0 < xs.length := by
    rcases Nat.eq_zero_or_pos xs.length with h | h
    · exfalso
      rw [List.eq_nil_of_length_eq_zero h] at hv1
      simp [val] at hv1
      omega
    · exact h
  obtain ⟨gN, cN, rfl, hat1, hbs1⟩ := ho1.at hxp
  have hx8 : xs.length ≤ 8 := fit_len B64_one hd1 hc1 (by rw [hv1]; exact hsm.2.1)
  have HN2' := HN2 w3 d3
  have D3 : Hid (Below W0.heap.size W0 w3) := D2.out.trans (d3.mono D2.out.size)
  have hD2 := D2.out.size
  clear HN1 HN2
  have HA1 : Hid (OwnAt 36 .u64 w3 gN cN xs ∧ Dg B64 xs ∧ val B64 xs = rsaN i ∧ xs.length ≤ 8 ∧ 0 < xs.length ∧ w2.heap.size ≤ gN ∧ W0.heap.size ≤ w2.heap.size) := ⟨hat1, hd1, hv1, hx8, hxp, hbs1, hD2⟩
  clear ho1 hc1 hd1 hv1 hat1 hbs1 hx8 hxp hD2
  go_wp2_with fail
  refine HN2'.mono ?_
  rintro e w4 ⟨ve, ys, rfl, ho2, hc2, hd2, hv2, d4⟩
  have hyp : 0 < ys.length := by
    rcases Nat.eq_zero_or_pos ys.length with h | h
    · exfalso
      rw [List.eq_nil_of_length_eq_zero h] at hv2
      simp [val] at hv2
      omega
    · exact h
  obtain ⟨gE, cE, rfl, hat2, hbs2⟩ := ho2.at hyp
  have hy8 : ys.length ≤ 8 := fit_len B64_one hd2 hc2 (by rw [hv2]; exact hsm.2.2.2)
  have D4 : Hid (Below W0.heap.size W0 w4) := D3.out.trans (d4.mono D3.out.size)
  have hrow : w4.heap[w.heap.size + 1]? = some (.cells #[.int .u8 0, .int .i64 0, .slice none 0 0, .slice none 0 0, .bool false, .slice none 0 0, .slice none 0 0] 32 (0, 0)) := by rw [D4.out.block _ HLT.out]; exact HK.out
  have hltN := HA1.out.1.lt
  have HR : Hid ((OwnAt 36 .u64 w4 gN cN xs ∧ Dg B64 xs ∧ val B64 xs = rsaN i ∧ xs.length ≤ 8 ∧ 0 < xs.length) ∧ (OwnAt 36 .u64 w4 gE cE ys ∧ Dg B64 ys ∧ val B64 ys = rsaE i ∧ ys.length ≤ 8) ∧ w.heap.size + 1 < gN ∧ gN < gE) := ⟨⟨HA1.out.1.below d4 hltN, HA1.out.2.1, HA1.out.2.2.1, HA1.out.2.2.2.1, HA1.out.2.2.2.2.1⟩, ⟨hat2, hd2, hv2, hy8⟩, by have := HLT.out; have := HA1.out.2.2.2.2.2; omega, by omega⟩
  have HRW : Hid _ := hrow
  clear ho2 hc2 hd2 hv2 hat2 hbs2 hy8 hyp hltN d3 d4 HN2' hrow hsm HA1
  generalize hn1 : (some ⟨gN, 0, none⟩ : Option Addr) = n1
  generalize hn2 : xs.length = n2
  generalize hm1 : (some ⟨gE, 0, none⟩ : Option Addr) = m1
  generalize hm2 : ys.length = m2
  have HNM : Hid ((some ⟨gN, 0, none⟩ : Option Addr) = n1 ∧ xs.length = n2 ∧ (some ⟨gE, 0, none⟩ : Option Addr) = m1 ∧ ys.length = m2) := ⟨hn1, hn2, hm1, hm2⟩
  clear hn1 hn2 hm1 hm2
  have y0 : w4.heap[w.heap.size + 1]? = some (.cells #[.int .u8 0, .int .i64 0, .slice none 0 0, .slice none 0 0, .bool false, .slice none 0 0, .slice none 0 0] 32 (0, 0)) := HRW.out
  have c0 : w4.cell? ⟨w.heap.size + 1, 0, none⟩ = some (.int .u8 0) := by rw [cell_of_row _ _ _ _ _ _ y0]; rfl
  have f0 : w4.frozen? ⟨w.heap.size + 1, 0, none⟩ = false := frozen_of_row _ _ _ _ _ y0
  have y1 : (w4.setCell ⟨w.heap.size + 1, 0, none⟩ (.int .u8 2)).heap[w.heap.size + 1]? = some (.cells #[.int .u8 2, .int .i64 0, .slice none 0 0, .slice none 0 0, .bool false, .slice none 0 0, .slice none 0 0] 32 (0, 0)) := heap_setCell_same _ _ 0 _ _ _ y0
  have c1 : (w4.setCell ⟨w.heap.size + 1, 0, none⟩ (.int .u8 2)).cell? ⟨w.heap.size + 1, 1, none⟩ = some (.int .i64 0) := by rw [cell_of_row _ _ _ _ _ _ y1]; rfl
  have f1 : (w4.setCell ⟨w.heap.size + 1, 0, none⟩ (.int .u8 2)).frozen? ⟨w.heap.size + 1, 1, none⟩ = false := frozen_of_row _ _ _ _ _ y1
  have y2 : ((w4.setCell ⟨w.heap.size + 1, 0, none⟩ (.int .u8 2)).setCell ⟨w.heap.size + 1, 1, none⟩ (.int .i64 0)).heap[w.heap.size + 1]? = some (.cells #[.int .u8 2, .int .i64 0, .slice none 0 0, .slice none 0 0, .bool false, .slice none 0 0, .slice none 0 0] 32 (0, 0)) := heap_setCell_same _ _ 1 _ _ _ y1
  have c2 : ((w4.setCell ⟨w.heap.size + 1, 0, none⟩ (.int .u8 2)).setCell ⟨w.heap.size + 1, 1, none⟩ (.int .i64 0)).cell? ⟨w.heap.size + 1, 2, none⟩ = some (.slice none 0 0) := by rw [cell_of_row _ _ _ _ _ _ y2]; rfl
  have f2 : ((w4.setCell ⟨w.heap.size + 1, 0, none⟩ (.int .u8 2)).setCell ⟨w.heap.size + 1, 1, none⟩ (.int .i64 0)).frozen? ⟨w.heap.size + 1, 2, none⟩ = false := frozen_of_row _ _ _ _ _ y2
  have y3 : (((w4.setCell ⟨w.heap.size + 1, 0, none⟩ (.int .u8 2)).setCell ⟨w.heap.size + 1, 1, none⟩ (.int .i64 0)).setCell ⟨w.heap.size + 1, 2, none⟩ (.slice none 0 0)).heap[w.heap.size + 1]? = some (.cells #[.int .u8 2, .int .i64 0, .slice none 0 0, .slice none 0 0, .bool false, .slice none 0 0, .slice none 0 0] 32 (0, 0)) := heap_setCell_same _ _ 2 _ _ _ y2
  have c3 : (((w4.setCell ⟨w.heap.size + 1, 0, none⟩ (.int .u8 2)).setCell ⟨w.heap.size + 1, 1, none⟩ (.int .i64 0)).setCell ⟨w.heap.size + 1, 2, none⟩ (.slice none 0 0)).cell? ⟨w.heap.size + 1, 3, none⟩ = some (.slice none 0 0) := by rw [cell_of_row _ _ _ _ _ _ y3]; rfl
  have f3 : (((w4.setCell ⟨w.heap.size + 1, 0, none⟩ (.int .u8 2)).setCell ⟨w.heap.size + 1, 1, none⟩ (.int .i64 0)).setCell ⟨w.heap.size + 1, 2, none⟩ (.slice none 0 0)).frozen? ⟨w.heap.size + 1, 3, none⟩ = false := frozen_of_row _ _ _ _ _ y3
  have y4 : ((((w4.setCell ⟨w.heap.size + 1, 0, none⟩ (.int .u8 2)).setCell ⟨w.heap.size + 1, 1, none⟩ (.int .i64 0)).setCell ⟨w.heap.size + 1, 2, none⟩ (.slice none 0 0)).setCell ⟨w.heap.size + 1, 3, none⟩ (.slice none 0 0)).heap[w.heap.size + 1]? = some (.cells #[.int .u8 2, .int .i64 0, .slice none 0 0, .slice none 0 0, .bool false, .slice none 0 0, .slice none 0 0] 32 (0, 0)) := heap_setCell_same _ _ 3 _ _ _ y3
  have c4 : ((((w4.setCell ⟨w.heap.size + 1, 0, none⟩ (.int .u8 2)).setCell ⟨w.heap.size + 1, 1, none⟩ (.int .i64 0)).setCell ⟨w.heap.size + 1, 2, none⟩ (.slice none 0 0)).setCell ⟨w.heap.size + 1, 3, none⟩ (.slice none 0 0)).cell? ⟨w.heap.size + 1, 4, none⟩ = some (.bool false) := by rw [cell_of_row _ _ _ _ _ _ y4]; rfl
  have f4 : ((((w4.setCell ⟨w.heap.size + 1, 0, none⟩ (.int .u8 2)).setCell ⟨w.heap.size + 1, 1, none⟩ (.int .i64 0)).setCell ⟨w.heap.size + 1, 2, none⟩ (.slice none 0 0)).setCell ⟨w.heap.size + 1, 3, none⟩ (.slice none 0 0)).frozen? ⟨w.heap.size + 1, 4, none⟩ = false := frozen_of_row _ _ _ _ _ y4
  have y5 : (((((w4.setCell ⟨w.heap.size + 1, 0, none⟩ (.int .u8 2)).setCell ⟨w.heap.size + 1, 1, none⟩ (.int .i64 0)).setCell ⟨w.heap.size + 1, 2, none⟩ (.slice none 0 0)).setCell ⟨w.heap.size + 1, 3, none⟩ (.slice none 0 0)).setCell ⟨w.heap.size + 1, 4, none⟩ (.bool false)).heap[w.heap.size + 1]? = some (.cells #[.int .u8 2, .int .i64 0, .slice none 0 0, .slice none 0 0, .bool false, .slice none 0 0, .slice none 0 0] 32 (0, 0)) := heap_setCell_same _ _ 4 _ _ _ y4
  have c5 : (((((w4.setCell ⟨w.heap.size + 1, 0, none⟩ (.int .u8 2)).setCell ⟨w.heap.size + 1, 1, none⟩ (.int .i64 0)).setCell ⟨w.heap.size + 1, 2, none⟩ (.slice none 0 0)).setCell ⟨w.heap.size + 1, 3, none⟩ (.slice none 0 0)).setCell ⟨w.heap.size + 1, 4, none⟩ (.bool false)).cell? ⟨w.heap.size + 1, 5, none⟩ = some (.slice none 0 0) := by rw [cell_of_row _ _ _ _ _ _ y5]; rfl
  have f5 : (((((w4.setCell ⟨w.heap.size + 1, 0, none⟩ (.int .u8 2)).setCell ⟨w.heap.size + 1, 1, none⟩ (.int .i64 0)).setCell ⟨w.heap.size + 1, 2, none⟩ (.slice none 0 0)).setCell ⟨w.heap.size + 1, 3, none⟩ (.slice none 0 0)).setCell ⟨w.heap.size + 1, 4, none⟩ (.bool false)).frozen? ⟨w.heap.size + 1, 5, none⟩ = false := frozen_of_row _ _ _ _ _ y5
  have y6 : ((((((w4.setCell ⟨w.heap.size + 1, 0, none⟩ (.int .u8 2)).setCell ⟨w.heap.size + 1, 1, none⟩ (.int .i64 0)).setCell ⟨w.heap.size + 1, 2, none⟩ (.slice none 0 0)).setCell ⟨w.heap.size + 1, 3, none⟩ (.slice none 0 0)).setCell ⟨w.heap.size + 1, 4, none⟩ (.bool false)).setCell ⟨w.heap.size + 1, 5, none⟩ (.slice n1 n2 cN)).heap[w.heap.size + 1]? = some (.cells #[.int .u8 2, .int .i64 0, .slice none 0 0, .slice none 0 0, .bool false, .slice n1 n2 cN, .slice none 0 0] 32 (0, 0)) := heap_setCell_same _ _ 5 _ _ _ y5
  have c6 : ((((((w4.setCell ⟨w.heap.size + 1, 0, none⟩ (.int .u8 2)).setCell ⟨w.heap.size + 1, 1, none⟩ (.int .i64 0)).setCell ⟨w.heap.size + 1, 2, none⟩ (.slice none 0 0)).setCell ⟨w.heap.size + 1, 3, none⟩ (.slice none 0 0)).setCell ⟨w.heap.size + 1, 4, none⟩ (.bool false)).setCell ⟨w.heap.size + 1, 5, none⟩ (.slice n1 n2 cN)).cell? ⟨w.heap.size + 1, 6, none⟩ = some (.slice none 0 0) := by rw [cell_of_row _ _ _ _ _ _ y6]; rfl
  have f6 : ((((((w4.setCell ⟨w.heap.size + 1, 0, none⟩ (.int .u8 2)).setCell ⟨w.heap.size + 1, 1, none⟩ (.int .i64 0)).setCell ⟨w.heap.size + 1, 2, none⟩ (.slice none 0 0)).setCell ⟨w.heap.size + 1, 3, none⟩ (.slice none 0 0)).setCell ⟨w.heap.size + 1, 4, none⟩ (.bool false)).setCell ⟨w.heap.size + 1, 5, none⟩ (.slice n1 n2 cN)).frozen? ⟨w.heap.size + 1, 6, none⟩ = false := frozen_of_row _ _ _ _ _ y6
  have HY : Hid ((((((((w4.setCell ⟨w.heap.size + 1, 0, none⟩ (.int .u8 2)).setCell ⟨w.heap.size + 1, 1, none⟩ (.int .i64 0)).setCell ⟨w.heap.size + 1, 2, none⟩ (.slice none 0 0)).setCell ⟨w.heap.size + 1, 3, none⟩ (.slice none 0 0)).setCell ⟨w.heap.size + 1, 4, none⟩ (.bool false)).setCell ⟨w.heap.size + 1, 5, none⟩ (.slice n1 n2 cN)).setCell ⟨w.heap.size + 1, 6, none⟩ (.slice m1 m2 cE)).heap[w.heap.size + 1]? = some (.cells #[.int .u8 2, .int .i64 0, .slice none 0 0, .slice none 0 0, .bool false, .slice n1 n2 cN, .slice m1 m2 cE] 32 (0, 0))) := heap_setCell_same _ _ 6 _ _ _ y6
  have HB7 : Hid (Below w4.heap.size w4 w4 ∧ Below w.heap.size w (((((((w4.setCell ⟨w.heap.size + 1, 0, none⟩ (.int .u8 2)).setCell ⟨w.heap.size + 1, 1, none⟩ (.int .i64 0)).setCell ⟨w.heap.size + 1, 2, none⟩ (.slice none 0 0)).setCell ⟨w.heap.size + 1, 3, none⟩ (.slice none 0 0)).setCell ⟨w.heap.size + 1, 4, none⟩ (.bool false)).setCell ⟨w.heap.size + 1, 5, none⟩ (.slice n1 n2 cN)).setCell ⟨w.heap.size + 1, 6, none⟩ (.slice m1 m2 cE)) ∧ (∀ j, j ≠ w.heap.size + 1 → (((((((w4.setCell ⟨w.heap.size + 1, 0, none⟩ (.int .u8 2)).setCell ⟨w.heap.size + 1, 1, none⟩ (.int .i64 0)).setCell ⟨w.heap.size + 1, 2, none⟩ (.slice none 0 0)).setCell ⟨w.heap.size + 1, 3, none⟩ (.slice none 0 0)).setCell ⟨w.heap.size + 1, 4, none⟩ (.bool false)).setCell ⟨w.heap.size + 1, 5, none⟩ (.slice n1 n2 cN)).setCell ⟨w.heap.size + 1, 6, none⟩ (.slice m1 m2 cE)).heap[j]? = w4.heap[j]?)) := by
    have hb4 := HB0.out.trans (D4.out.mono HB0.out.size)
    refine ⟨Below.refl _ _, ((((((hb4.setCell (by simp) _).setCell (by simp) _).setCell (by simp) _).setCell (by simp) _).setCell (by simp) _).setCell (by simp) _).setCell (by simp) _, fun j hj => ?_⟩
    simp only [heap_setCell_other _ _ j _ (show j ≠ (⟨w.heap.size + 1, _, none⟩ : Addr).block from hj)]
  generalize hWE : (((((((w4.setCell ⟨w.heap.size + 1, 0, none⟩ (.int .u8 2)).setCell ⟨w.heap.size + 1, 1, none⟩ (.int .i64 0)).setCell ⟨w.heap.size + 1, 2, none⟩ (.slice none 0 0)).setCell ⟨w.heap.size + 1, 3, none⟩ (.slice none 0 0)).setCell ⟨w.heap.size + 1, 4, none⟩ (.bool false)).setCell ⟨w.heap.size + 1, 5, none⟩ (.slice n1 n2 cN)).setCell ⟨w.heap.size + 1, 6, none⟩ (.slice m1 m2 cE)) = WE at HY HB7
  have HWE : Hid ((((((((w4.setCell ⟨w.heap.size + 1, 0, none⟩ (.int .u8 2)).setCell ⟨w.heap.size + 1, 1, none⟩ (.int .i64 0)).setCell ⟨w.heap.size + 1, 2, none⟩ (.slice none 0 0)).setCell ⟨w.heap.size + 1, 3, none⟩ (.slice none 0 0)).setCell ⟨w.heap.size + 1, 4, none⟩ (.bool false)).setCell ⟨w.heap.size + 1, 5, none⟩ (.slice n1 n2 cN)).setCell ⟨w.heap.size + 1, 6, none⟩ (.slice m1 m2 cE)) = WE) := hWE
  clear hWE y0 y1 y2 y3 y4 y5 y6
  go_wp2
  rw [HWE.out]
  have hsz : w4.heap.size ≤ WE.heap.size := by rw [← HWE.out]; simp
  refine bodyPost_ret (ret_key rfl _ _ _ _ _ _ _ _ _ _ rfl HY.out) rfl ?_
  obtain ⟨rfl, rfl, rfl, rfl⟩ := HNM.out
  exact ⟨gN, cN, xs, gE, cE, ys, rfl, ⟨HR.out.1.1.kept (HB7.out.2.2 _ (by have := HR.out.2.2.1; omega)), HR.out.1.2⟩, ⟨HR.out.2.1.1.kept (HB7.out.2.2 _ (by have := HR.out.2.2; omega)), HR.out.2.1.2⟩, by have := HR.out.2.2.1; omega, HR.out.2.2.2, HB7.out.2.1⟩
end Go.Proofs.Ytnacgkkklmlhaaa
/-
  The law RsaChecks: what lies in memory.
-/
namespace Go.Proofs.Ytnacgkkklmlhaaa
open Go.Shelf Go.RowKit
set_option linter.unusedVariables false
set_option linter.unusedSimpArgs false
theorem u64_powM (b : Nat) (h : b < 64) : IntKind.u64.wrap (2 ^ b) = 2 ^ b := by
  have h1 : ∀ b, b < 64 → IntKind.u64.wrap (2 ^ b) = 2 ^ b := by decide
  exact h1 b h
/-- What lies in memory while the keys are made. -/
structure KSt (w W : World) (a1 : Option Addr) (a2 a3 : Nat) (e1 : Option Addr) (e2 e3 : Nat) (gr gN cN L : Nat) (xs : List Int) (p1 : Option Addr) (p2 p3 : Nat) (e' : Int) : Prop where
  blk0 : W.heap[w.heap.size]? = some (.cells #[.slice a1 a2 a3, .slice e1 e2 e3] 25 (0, 0))
  blk : W.heap[gr]? = some (.cells #[.slice (some ⟨gN, 0, none⟩) L cN, .slice p1 p2 p3] 25 (0, 0))
  own : OwnAt 36 .u64 W gN cN xs
  dg : Dg B64 xs
  len : xs.length = L
  l8 : 0 < L ∧ L ≤ 8
  nvE : Nv W (.slice p1 p2 p3) e' 64
  below : Below w.heap.size w W
  ord : w.heap.size < gN ∧ gN < gr
theorem KSt.nvN {w W : World} {a1 : Option Addr} {a2 a3 : Nat} {e1 : Option Addr} {e2 e3 gr gN cN L : Nat} {xs : List Int} {p1 : Option Addr} {p2 p3 : Nat} {e' : Int} (h : KSt w W a1 a2 a3 e1 e2 e3 gr gN cN L xs p1 p2 p3 e') : Nv W (.slice (some ⟨gN, 0, none⟩) L cN) (val B64 xs) 64 :=
  ⟨_, _, _, xs, rfl, ⟨h.own.lies h.len, by have := h.own.lc; rw [h.len] at this; exact this, h.own.cm, fun h => (by cases h), h.dg, by have := h.l8; omega⟩, rfl, by have := h.l8; omega⟩
theorem KSt.setE {w W : World} {a1 : Option Addr} {a2 a3 : Nat} {e1 : Option Addr} {e2 e3 gr gN cN L : Nat} {xs : List Int} {p1 : Option Addr} {p2 p3 : Nat} {e' : Int} (h : KSt w W a1 a2 a3 e1 e2 e3 gr gN cN L xs p1 p2 p3 e') {f1 : Option Addr} {f2 f3 : Nat} {f : Int} (hf : Nv w (.slice f1 f2 f3) f 64) : KSt w (W.setCell ⟨gr, 1, none⟩ (.slice f1 f2 f3)) a1 a2 a3 e1 e2 e3 gr gN cN L xs f1 f2 f3 f := by
  have ho := h.ord
  have hb : Below w.heap.size w (W.setCell ⟨gr, 1, none⟩ (.slice f1 f2 f3)) := h.below.setCell (by simp; omega) _
  exact ⟨by rw [heap_setCell_other _ _ _ _ (by simp; omega)]; exact h.blk0, heap_setCell_same _ _ 1 _ _ _ h.blk, h.own.kept (heap_setCell_other _ _ _ _ (by simp; omega)), h.dg, h.len, h.l8, hf.old hb, hb, ho⟩
theorem KSt.setN {w W : World} {a1 : Option Addr} {a2 a3 : Nat} {e1 : Option Addr} {e2 e3 gr gN cN L : Nat} {xs : List Int} {p1 : Option Addr} {p2 p3 : Nat} {e' : Int} (h : KSt w W a1 a2 a3 e1 e2 e3 gr gN cN L xs p1 p2 p3 e') (k : Nat) (z : Int) (hk : k < L) (hz : 0 ≤ z ∧ z < 18446744073709551616) (hE : Nv (W.setCell ⟨gN, k, none⟩ (.int .u64 z)).drew (.slice p1 p2 p3) e' 64) : KSt w (W.setCell ⟨gN, k, none⟩ (.int .u64 z)).drew a1 a2 a3 e1 e2 e3 gr gN cN L (xs.set k z) p1 p2 p3 e' := by
  have ho := h.ord
  have hb : Below w.heap.size w (W.setCell ⟨gN, k, none⟩ (.int .u64 z)) := h.below.setCell (by simp; omega) _
  have h0 : (W.setCell ⟨gN, k, none⟩ (.int .u64 z)).heap[w.heap.size]? = _ := (heap_setCell_other W ⟨gN, k, none⟩ w.heap.size (.int .u64 z) (by simp; omega)).trans h.blk0
  have h1 : (W.setCell ⟨gN, k, none⟩ (.int .u64 z)).heap[gr]? = _ := (heap_setCell_other W ⟨gN, k, none⟩ gr (.int .u64 z) (by simp; omega)).trans h.blk
  have h2 := h.own.set k (by rw [h.len]; exact hk) z
  exact ⟨h0, h1, h2.kept rfl, h.dg.set k (by unfold B64; exact hz), by rw [List.length_set]; exact h.len, h.l8, hE, hb.drew, ho⟩
/-- The exponent's own cells. -/
structure OE (W : World) (gN gE cE : Nat) (ys : List Int) (v : Int) : Prop where
  own : OwnAt 36 .u64 W gE cE ys
  dg : Dg B64 ys
  eq : val B64 ys = v
  l8 : ys.length ≤ 8
  ne : gN < gE
theorem OE.nv {W : World} {gN gE cE : Nat} {ys : List Int} {v : Int} (h : OE W gN gE cE ys v) (W' : World) (g k : Nat) (z : Int) (hW : W' = W := by rfl) (hg : g = gN := by rfl) : Nv (W'.setCell ⟨g, k, none⟩ (.int .u64 z)).drew (.slice (some ⟨gE, 0, none⟩) ys.length cE) v 64 := by
  subst hW
  subst hg
  have hne := h.ne
  have h2 : OwnAt 36 .u64 (W'.setCell ⟨g, k, none⟩ (.int .u64 z)).drew gE cE ys := h.own.kept (heap_setCell_other W' ⟨g, k, none⟩ gE (.int .u64 z) (by simp; omega))
  exact ⟨_, _, _, ys, rfl, ⟨h2.lies rfl, h2.lc, h2.cm, fun h => (by cases h), h.dg, by have := h.l8; omega⟩, h.eq, by have := h.l8; omega⟩
theorem keyB_zero (n e : Int) (h : n = 0 ∨ e = 0) : keyB n e = false := by
  cases hv : keyB n e with
  | false => rfl
  | true =>
    exfalso
    have := keyB_facts hv
    rcases h with rfl | rfl <;> omega
end Go.Proofs.Ytnacgkkklmlhaaa
