import Derived.Test.YtiblpcfkecalcaaDoorK13
import Derived.Test.YtiblpcfkecalcaaDoorK11
/-
  DerAll.
-/
namespace Go.Proofs.YtiblpcfkecalcaaDoor
open Go.Shelf Go.RowKit
set_option linter.unusedVariables false
set_option linter.unusedSimpArgs false

theorem seqD_count (bs : Bs) : (seqD bs).length = (pcsD bs).1.length + if (pcsD bs).2 = 0 then 0 else 1 := by
  unfold seqD
  rw [List.length_append, List.length_map]
  split <;> rfl
set_option maxRecDepth 100000 in
set_option maxHeartbeats 8000000 in
theorem DerAll_walk (w : World) (a0 : Option Addr) (len0 cap0 : Nat) (z0 : List Int) (w0 : CameJ .u8 w a0 len0 cap0 z0) (n1 : Int) (w1 : (Lit.int .u8 n1).wf = true) (hL : laidMet Tryd.prog Rows.derAllRow.laid w) :
    Calls Tryd.prog 4 #[.slice a0 len0 cap0, .int .u8 n1] w fun e w' => e = .returned (.bool true) ∧ Below w.heap.size w w' := by
  have hT : Md w := md_laid hL
  have hn1 := byte_wf w1
  obtain ⟨N1, rfl⟩ : ∃ T : Nat, n1 = (T : Int) := ⟨n1.toNat, by omega⟩
  have hle := w0.le
  unfold maxLen at hle
  obtain ⟨bs, hn, hV⟩ := w0.byv
  clear w0 w1 hL
  have hleI : (len0 : Int) ≤ 9223372036854775807 := by omega
  go_enter Tryd.func4, Tryd.ntmps4
  go_wp2_with fail
  go_at_call 9
  refine (DAwake_any w hT).mono ?_
  rintro e w1 ⟨rfl, b1⟩
  by_cases q : 3000 < len0
  · have q' : 3000 < (len0 : Int) := by omega
    go_wp2_with fail
    go_ret
    exact ⟨rfl, b1⟩
  have q' : ¬ 3000 < (len0 : Int) := by omega
  have HV : Hid (ByV w1 (fun b => b < w1.heap.size) a0 cap0 bs ∧ bs.length = len0 ∧ Below w.heap.size w w1) := ⟨(hV.keep (fun k hk _ => b1.block k hk)).mono (fun k hk _ => by have := b1.size; omega), hn, b1⟩
  clear hV hn b1 hT
  go_wp2_with fail
  go_loopw [5, 6, 7] (fun v5 v6 v7 wr => ∃ (xs : List Pc) (ys : Bs) (L : Nat) (q : Option Addr) (d : Nat) (pv : Option Addr) (cv K C : Nat), v7 = .slice q L d ∧ ys.length = L ∧ ByV wr (fun b => b < w1.heap.size) q d ys ∧ v5 = .slice pv K cv ∧ xs.length = K ∧ K + L ≤ len0 ∧ wr.ownsRow w1.heap.size 25 2 (.slice pv K cv) K (cellsP xs) ∧ (∀ x ∈ xs, ByV wr (fun b => b < w1.heap.size) x.p x.c x.b) ∧ Below w1.heap.size w1 wr ∧ v6 = .int .i64 (C : Int) ∧ (C ≠ 0 → L = 0) ∧ (C ≠ 0 → pcsD bs = (pcsOf xs, C)) ∧ (C = 0 → pcsD bs = (pcsOf xs ++ (pcsD ys).1, (pcsD ys).2))) (fun _ _ v7 _ => lenOfS v7)
  case atStart => exact ⟨[], bs, len0, a0, cap0, none, 0, 0, 0, rfl, HV.out.2.1, HV.out.1, rfl, rfl, by omega, World.ownsRow_nil _ _ _ _, (fun x hx => by cases hx), Below.refl _ _, rfl, fun h => absurd rfl h, fun h => absurd rfl h, fun _ => rfl⟩
  case round =>
    obtain ⟨xs, ys, L, q, d, pv, cv, K, C, rfl, hL, hv, rfl, hK, hKL, hown, hat, hb, rfl, hCL, hC1, hC0⟩ := hrel
    have hBs := hb.size
    have HI : Hid (ys.length = L ∧ xs.length = K ∧ Below w1.heap.size w1 wr ∧ wr.ownsRow w1.heap.size 25 2 (.slice pv K cv) K (cellsP xs) ∧ (∀ x ∈ xs, ByV wr (fun b => b < w1.heap.size) x.p x.c x.b)) := ⟨hL, hK, hb, hown, hat⟩
    by_cases q5 : L = 0
    · have q5I : ¬ (0 : Int) < (L : Int) := by omega
      have hys : ys = [] := List.eq_nil_of_length_eq_zero (by omega)
      have HR : Hid (pcsD bs = (pcsOf xs, C)) := by
        show pcsD bs = _
        by_cases h0 : C = 0
        · rw [hC0 h0, hys, pcsD_nil, h0]; simp
        · exact hC1 h0
      obtain ⟨ALL, hALL⟩ : ∃ A, (seqD bs).length = A := ⟨_, rfl⟩
      have hALL2 : ALL = K + if C = 0 then 0 else 1 := by rw [← hALL, seqD_count, HR.out]; simp only []; rw [show (pcsOf xs).length = K by simp [pcsOf, hK]]
      have hPc : ∀ W, Below wr.heap.size wr W → Pcs W w1.heap.size (fun b => b < w1.heap.size) (.slice pv xs.length cv) xs := fun W hW => by
        rw [hK]
        exact ⟨owns_keep (by rw [hK]; exact hown) (fun g hg => hW.block g (owns_lt hown hg).2.1), fun x hx => (hat x hx).keep (fun g _ hlt => hW.block g hlt)⟩
      have HWK : ∀ (S : Int) (W : World), -1 ≤ S ∧ S < 256 → Below wr.heap.size wr W → Calls Tryd.prog 17 #[.slice a0 len0 cap0, .slice pv K cv, .int .i64 (C : Int), .int .i64 S] W fun e w' => e = .returned (.tuple #[.int .i64 (walkN S (ALL : Int)), .bool true]) ∧ Below W.heap.size W w' := fun S W hS hW => by
        have h1 := walk_any a0 len0 cap0 bs (fun b => b < w1.heap.size) pv cv xs S w1.heap.size (fun b => b < w1.heap.size) W HV.out.2.1 ((HV.out.1.below hb).below hW) (hPc W hW) (by rw [HR.out]) (by omega) hS
        rw [HR.out, hK, hALL] at h1
        exact h1
      have HB : Hid (Below w.heap.size w wr) := HV.out.2.2.trans (hb.mono HV.out.2.2.size)
      have hKn : (K : Int) ≤ 3000 := by omega
      obtain ⟨V1, hV1⟩ : ∃ V, walkN (N1 : Int) (ALL : Int) = V := ⟨_, rfl⟩
      have h1 := HWK (N1 : Int) wr (by omega) (Below.refl _ _)
      rw [hV1] at h1
      have hm1 : walkN (-1) (ALL : Int) = (ALL : Int) := by unfold walkN; rw [if_neg (by omega)]
      have HF : Hid (walkN (N1 : Int) (ALL : Int) = V1 ∧ ALL = K + if C = 0 then 0 else 1) := ⟨hV1, hALL2⟩
      clear hC0 hC1 hCL hys hL hown hv hK hb hat hALL hALL2 hPc hV1
      go_wp2_with fail
      go_at_call 17
      refine h1.mono ?_
      rintro e w2 ⟨rfl, b2⟩
      have h2 := HWK (-1) w2 (by omega) b2
      rw [hm1] at h2
      clear HWK h1
      go_wp2_with fail
      go_at_call 17
      refine h2.mono ?_
      rintro e w3 ⟨rfl, b3⟩
      have HB3 : Hid (Below w.heap.size w w3) := HB.out.trans ((b2.trans (b3.mono b2.size)).mono HB.out.size)
      have hd := HF.out
      clear b2 b3 h2 hm1 HF
      by_cases hc : C = 0
      · rw [if_pos hc] at hd
        have hcb : ((C : Int) != 0) = false := by simp; omega
        have hAK : ALL = K := by omega
        subst hAK
        clear hc
        by_cases hs : 0 < N1 ∧ N1 < ALL
        · have hv1 : V1 = (N1 : Int) := by rw [← hd.1]; unfold walkN; rw [if_pos (by omega)]
          subst hv1
          have p1 : (0 : Int) < (N1 : Int) := by omega
          have p2 : (N1 : Int) < (ALL : Int) := by omega
          clear hd
          go_wp2_with fail
          go_ret
          exact ⟨rfl, HB3.out⟩
        · have hv1 : V1 = (ALL : Int) := by rw [← hd.1]; unfold walkN; rw [if_neg (by omega)]
          subst hv1
          clear hd
          by_cases hs1 : 0 < N1
          · have p1 : (0 : Int) < (N1 : Int) := by omega
            have p2 : ¬ (N1 : Int) < (ALL : Int) := by omega
            go_wp2_with fail
            go_ret
            exact ⟨rfl, HB3.out⟩
          · have p1 : ¬ (0 : Int) < (N1 : Int) := by omega
            go_wp2_with fail
            go_ret
            exact ⟨rfl, HB3.out⟩
      · rw [if_neg hc] at hd
        have hcb : ((C : Int) != 0) = true := by simp; omega
        have hAK : (ALL : Int) = (K : Int) + 1 := by omega
        by_cases hs : 0 < N1 ∧ N1 < ALL
        · have hv1 : V1 = (N1 : Int) := by rw [← hd.1]; unfold walkN; rw [if_pos (by omega)]
          subst hv1
          have p1 : (0 : Int) < (N1 : Int) := by omega
          have p2 : (N1 : Int) < (K : Int) + 1 := by omega
          clear hd
          go_wp2_with fail
          go_ret
          exact ⟨rfl, HB3.out⟩
        · have hv1 : V1 = (ALL : Int) := by rw [← hd.1]; unfold walkN; rw [if_neg (by omega)]
          subst hv1
          by_cases hs1 : 0 < N1
          · have p1 : (0 : Int) < (N1 : Int) := by omega
            have p2 : ¬ (N1 : Int) < (K : Int) + 1 := by omega
            clear hd
            go_wp2_with fail
            go_ret
            exact ⟨rfl, HB3.out⟩
          · have p1 : ¬ (0 : Int) < (N1 : Int) := by omega
            clear hd
            go_wp2_with fail
            go_ret
            exact ⟨rfl, HB3.out⟩
    have hC00 : C = 0 := by
      rcases Nat.eq_zero_or_pos C with h0 | h0
      · exact h0
      · exact absurd (hCL (by omega)) q5
    have q5I : (0 : Int) < (L : Int) := by omega
    have HRD := rRead10 q L d ys (fun b => b < w1.heap.size) wr hL hv
    have hy0 : ys ≠ [] := by intro e; rw [e] at hL; exact q5 hL.symm
    have hall := hC0 hC00
    subst hC00
    clear hown hv hK hb hat hC0 hC1 hCL
    cases hr : readD ys with
    | error k =>
      rw [hr] at HRD
      have hk := read_err hr
      have hkb : ((k : Int) == 0) = false := by simp; omega
      have HR : Hid (pcsD bs = (pcsOf xs, k) ∧ k ≠ 0) := ⟨by rw [hall, pcsD_err hy0 hr]; simp, by omega⟩
      clear hall hL hk hr
      go_wp2_with (go_at_call 11; refine HRD.mono ?_; intro e w2 hp; obtain ⟨hb2, he⟩ := hp.errx; subst he; have HB2 : Hid (Below wr.heap.size wr w2) := hb2; clear hp hb2)
      have hB2 : Below w1.heap.size w1 w2 := HI.out.2.2.1.trans (HB2.out.mono hBs)
      have b3 : Below wr.heap.size wr (w2.alloc (.cells #[.int .u8 0, .slice none 0 0] 25)) := HB2.out.alloc HB2.out.size _
      exact ⟨⟨xs, [], 0, none, 0, pv, cv, K, k, rfl, rfl, ByV.nil _ _, rfl, HI.out.2.1, by omega, owns_keep HI.out.2.2.2.1 (fun g hg => b3.block g (owns_lt HI.out.2.2.2.1 hg).2.1), fun x hx => (HI.out.2.2.2.2 x hx).keep (fun g _ hlt => b3.block g hlt), hB2.alloc hB2.size _, rfl, fun _ => rfl, fun _ => HR.out.1, fun h => absurd h HR.out.2⟩, by simp only [lenOfS]; omega⟩
    | ok x =>
      obtain ⟨⟨t, b⟩, r⟩ := x
      rw [hr] at HRD
      have hlens := read_len hr
      obtain ⟨TN, hTN⟩ : ∃ T, t.toNat = T := ⟨_, rfl⟩
      obtain ⟨LB, hLB⟩ : ∃ T, b.length = T := ⟨_, rfl⟩
      obtain ⟨Lr, hLr⟩ : ∃ T, r.length = T := ⟨_, rfl⟩
      have hLr2 : Lr + 2 ≤ L := by rw [← hLr, ← hL]; exact hlens.1
      have HR : Hid (t.toNat = TN ∧ b.length = LB ∧ r.length = Lr ∧ pcsD bs = (pcsOf xs ++ (t, b) :: (pcsD r).1, (pcsD r).2)) := ⟨hTN, hLB, hLr, by rw [hall, pcsD_ok hr]⟩
      clear hall hL hr hlens hy0
      go_wp2_with (first
        | (go_at_call 11; refine HRD.mono ?_; intro e w2 hp; obtain ⟨hb2, p1, c1, p2, c2, he, hv1, hv2⟩ := hp.okx; subst he; rw [hTN, hLB, hLr]; have HB2 : Hid (Below wr.heap.size wr w2 ∧ ByV w2 (fun b => b < w1.heap.size) p1 c1 b ∧ ByV w2 (fun b => b < w1.heap.size) p2 c2 r) := ⟨hb2, hv1, hv2⟩; clear hp hb2 hv1 hv2)
        | (at_builtin; refine wpList_append_pc rfl (.tmp 39) (.tmp 41) rfl w1.heap.size (.slice pv K cv) rfl xs K (((owns_keep HI.out.2.2.2.1 (fun g hg => HB2.out.1.block g (owns_lt HI.out.2.2.2.1 hg).2.1)).alloc _).alloc _) ⟨w2.heap.size + 1, 0, none⟩ 1 ⟨t, b, p1, c1⟩ rfl (by show _ = some (Value.int .u8 (t.toNat : Int)); rw [HR.out.1, Addr.add_mid]; have hh := (Tl.new (w2.alloc (.cells #[.int .u8 (TN : Int), .slice p1 LB c1] 25)) (.int .u8 (TN : Int)) (.slice p1 LB c1)).c0; rw [alloc_sz] at hh; exact hh) (by show _ = some (Value.slice p1 b.length c1); rw [HR.out.2.1, Addr.add_mid]; have hh := (Tl.new (w2.alloc (.cells #[.int .u8 (TN : Int), .slice p1 LB c1] 25)) (.int .u8 (TN : Int)) (.slice p1 LB c1)).c1; rw [alloc_sz] at hh; exact hh) (by omega) (Nat.le_trans hBs (Nat.le_trans HB2.out.1.size (Nat.le_trans (alloc_le _ _) (alloc_le _ _)))) ?_; intro v3 w3 o3 gr3))
      obtain ⟨p3, c3, rfl⟩ := owns_slice o3
      have hB2 : Below w1.heap.size w1 w2 := HI.out.2.2.1.trans (HB2.out.1.mono hBs)
      have hB3 := below_grownT ((hB2.alloc hB2.size _).alloc (Nat.le_trans hB2.size (alloc_le _ _)) _) (Nat.le_refl _) (((owns_keep HI.out.2.2.2.1 (fun g hg => HB2.out.1.block g (owns_lt HI.out.2.2.2.1 hg).2.1)).alloc _).alloc _) gr3
      refine ⟨⟨xs ++ [⟨t, b, p1, c1⟩], r, Lr, p2, c2, p3, c3, K + 1, 0, rfl, HR.out.2.2.1, ?_, rfl, by simp [HI.out.2.1], by omega, o3, ?_, hB3, rfl, fun h => absurd rfl h, fun h => absurd rfl h, fun _ => ?_⟩, by simp only [lenOfS]; omega⟩
      · exact HB2.out.2.2.keep (fun g hg hlt => (hB3.block g hg).trans (hB2.block g hg).symm)
      · intro x hx
        rcases List.mem_append.1 hx with hx | hx
        · exact (HI.out.2.2.2.2 x hx).keep (fun g hg hlt => (hB3.block g hg).trans (HI.out.2.2.1.block g hg).symm)
        · simp at hx
          subst hx
          exact HB2.out.2.1.keep (fun g hg hlt => (hB3.block g hg).trans (hB2.block g hg).symm)
      · rw [HR.out.2.2.2]
        simp [pcsOf]
end Go.Proofs.YtiblpcfkecalcaaDoor
