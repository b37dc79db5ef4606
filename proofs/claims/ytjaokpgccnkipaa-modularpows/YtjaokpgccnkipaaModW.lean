/-
  Contract of the fixed facts: Awake answers true.
-/
import Derived.Test.YtjaokpgccnkipaaModL
namespace Go.Proofs.Ytjaokpgccnkipaa
open Go.RowKit
set_option linter.unusedVariables false
set_option linter.unusedSimpArgs false

set_option maxHeartbeats 4000000 in
theorem Awake_any (w : World) : Calls Try.prog 9 #[] w fun e w' => e = .returned (.bool true) ∧ Below w.heap.size w w' := by
  go_enter Try.func9, Try.ntmps9
  go_wp2_with fail
  refine (Of_any 1 w (by decide) (by decide)).mono ?_
  rintro e w1 ⟨v, rfl, a_p1, l_p1, c_p1, s_p1, rfl, n_p1, k_p1, v_p1, b_p1, hb⟩
  have HC := True.intro
  have BW : Hid (Below w.heap.size w w1) := hb
  have N_p1 : Hid (NumIn _ _ _ _ _ _ _) := n_p1
  have V_p1 : Hid (val B64 s_p1 = 1) := by unfold Hid; rw [v_p1]
  have L_p1 : Hid (l_p1 ≤ 1) := by unfold Hid; omega
  clear n_p1 v_p1 b_p1 hb HC
  go_wp2_with fail
  refine (Of_any 3 w1 (by decide) (by decide)).mono ?_
  rintro e w2 ⟨v, rfl, a_p3, l_p3, c_p3, s_p3, rfl, n_p3, k_p3, v_p3, b_p3, hb⟩
  have HC := True.intro
  replace BW : Hid (Below w.heap.size w w2) := BW.out.trans ((hb).mono BW.out.size)
  replace N_p1 : Hid (NumIn _ _ _ _ _ _ _) := N_p1.out.old (hb)
  have N_p3 : Hid (NumIn _ _ _ _ _ _ _) := n_p3
  have V_p3 : Hid (val B64 s_p3 = 3) := by unfold Hid; rw [v_p3]
  have L_p3 : Hid (l_p3 ≤ 1) := by unfold Hid; omega
  clear n_p3 v_p3 b_p3 hb HC
  go_wp2_with fail
  refine (Of_any 7 w2 (by decide) (by decide)).mono ?_
  rintro e w3 ⟨v, rfl, a_p7, l_p7, c_p7, s_p7, rfl, n_p7, k_p7, v_p7, b_p7, hb⟩
  have HC := True.intro
  replace BW : Hid (Below w.heap.size w w3) := BW.out.trans ((hb).mono BW.out.size)
  replace N_p1 : Hid (NumIn _ _ _ _ _ _ _) := N_p1.out.old (hb)
  replace N_p3 : Hid (NumIn _ _ _ _ _ _ _) := N_p3.out.old (hb)
  have N_p7 : Hid (NumIn _ _ _ _ _ _ _) := n_p7
  have V_p7 : Hid (val B64 s_p7 = 7) := by unfold Hid; rw [v_p7]
  have L_p7 : Hid (l_p7 ≤ 1) := by unfold Hid; omega
  clear n_p7 v_p7 b_p7 hb HC
  go_wp2_with fail
  have HC := mSub_any a_p1 a_p3 a_p7 l_p1 c_p1 l_p3 c_p3 l_p7 c_p7 s_p1 s_p3 s_p7 w3 N_p1.out N_p3.out N_p7.out (by rw [V_p7.out]; decide) (by have := L_p1.out; have := L_p3.out; have := L_p7.out; omega)
  refine HC.mono ?_
  rintro e w4 ⟨v, rfl, a_a, l_a, c_a, s_a, rfl, n_a, k_a, v_a, b_a, hb⟩
  replace BW : Hid (Below w.heap.size w w4) := BW.out.trans ((hb).mono BW.out.size)
  replace N_p1 : Hid (NumIn _ _ _ _ _ _ _) := N_p1.out.old (hb)
  replace N_p3 : Hid (NumIn _ _ _ _ _ _ _) := N_p3.out.old (hb)
  replace N_p7 : Hid (NumIn _ _ _ _ _ _ _) := N_p7.out.old (hb)
  have N_a : Hid (NumIn _ _ _ _ _ _ _) := n_a
  have V_a : Hid (val B64 s_a = 5) := by unfold Hid; rw [v_a]; rw [V_p1.out, V_p3.out, V_p7.out]; decide
  have L_a : Hid (l_a ≤ 1) := by unfold Hid; have := L_p1.out; have := L_p3.out; have := L_p7.out; omega
  clear n_a v_a b_a hb HC
  clear N_p1 V_p1 L_p1
  clear N_p3 V_p3 L_p3
  clear N_p7 V_p7 L_p7
  go_wp2_with fail
  refine (Of_any 2 w4 (by decide) (by decide)).mono ?_
  rintro e w5 ⟨v, rfl, a_p2, l_p2, c_p2, s_p2, rfl, n_p2, k_p2, v_p2, b_p2, hb⟩
  have HC := True.intro
  replace BW : Hid (Below w.heap.size w w5) := BW.out.trans ((hb).mono BW.out.size)
  replace N_a : Hid (NumIn _ _ _ _ _ _ _) := N_a.out.old (hb)
  have N_p2 : Hid (NumIn _ _ _ _ _ _ _) := n_p2
  have V_p2 : Hid (val B64 s_p2 = 2) := by unfold Hid; rw [v_p2]
  have L_p2 : Hid (l_p2 ≤ 1) := by unfold Hid; omega
  clear n_p2 v_p2 b_p2 hb HC
  go_wp2_with fail
  refine (Of_any 10 w5 (by decide) (by decide)).mono ?_
  rintro e w6 ⟨v, rfl, a_p10, l_p10, c_p10, s_p10, rfl, n_p10, k_p10, v_p10, b_p10, hb⟩
  have HC := True.intro
  replace BW : Hid (Below w.heap.size w w6) := BW.out.trans ((hb).mono BW.out.size)
  replace N_a : Hid (NumIn _ _ _ _ _ _ _) := N_a.out.old (hb)
  replace N_p2 : Hid (NumIn _ _ _ _ _ _ _) := N_p2.out.old (hb)
  have N_p10 : Hid (NumIn _ _ _ _ _ _ _) := n_p10
  have V_p10 : Hid (val B64 s_p10 = 10) := by unfold Hid; rw [v_p10]
  have L_p10 : Hid (l_p10 ≤ 1) := by unfold Hid; omega
  clear n_p10 v_p10 b_p10 hb HC
  go_wp2_with fail
  refine (Of_any 1000 w6 (by decide) (by decide)).mono ?_
  rintro e w7 ⟨v, rfl, a_pm, l_pm, c_pm, s_pm, rfl, n_pm, k_pm, v_pm, b_pm, hb⟩
  have HC := True.intro
  replace BW : Hid (Below w.heap.size w w7) := BW.out.trans ((hb).mono BW.out.size)
  replace N_a : Hid (NumIn _ _ _ _ _ _ _) := N_a.out.old (hb)
  replace N_p2 : Hid (NumIn _ _ _ _ _ _ _) := N_p2.out.old (hb)
  replace N_p10 : Hid (NumIn _ _ _ _ _ _ _) := N_p10.out.old (hb)
  have N_pm : Hid (NumIn _ _ _ _ _ _ _) := n_pm
  have V_pm : Hid (val B64 s_pm = 1000) := by unfold Hid; rw [v_pm]
  have L_pm : Hid (l_pm ≤ 1) := by unfold Hid; omega
  clear n_pm v_pm b_pm hb HC
  go_wp2_with fail
  have HC := mPow_any a_p2 a_p10 a_pm l_p2 c_p2 l_p10 c_p10 l_pm c_pm s_p2 s_p10 s_pm w7 N_p2.out N_p10.out N_pm.out (by rw [V_pm.out]; decide) (by have := L_p10.out; omega) (by have := L_p2.out; have := L_p10.out; have := L_pm.out; omega)
  refine HC.mono ?_
  rintro e w8 ⟨v, rfl, a_b, l_b, c_b, s_b, rfl, n_b, k_b, v_b, b_b, hb⟩
  replace BW : Hid (Below w.heap.size w w8) := BW.out.trans ((hb).mono BW.out.size)
  replace N_a : Hid (NumIn _ _ _ _ _ _ _) := N_a.out.old (hb)
  replace N_p2 : Hid (NumIn _ _ _ _ _ _ _) := N_p2.out.old (hb)
  replace N_p10 : Hid (NumIn _ _ _ _ _ _ _) := N_p10.out.old (hb)
  replace N_pm : Hid (NumIn _ _ _ _ _ _ _) := N_pm.out.old (hb)
  have N_b : Hid (NumIn _ _ _ _ _ _ _) := n_b
  have V_b : Hid (val B64 s_b = 24) := by unfold Hid; rw [v_b]; rw [V_p2.out, V_p10.out, V_pm.out]; decide
  have L_b : Hid (l_b ≤ 1) := by unfold Hid; have := L_p2.out; have := L_p10.out; have := L_pm.out; omega
  clear n_b v_b b_b hb HC
  clear N_p2 V_p2 L_p2
  clear N_p10 V_p10 L_p10
  clear N_pm V_pm L_pm
  go_wp2_with fail
  refine (Of_any 3 w8 (by decide) (by decide)).mono ?_
  rintro e w9 ⟨v, rfl, a_p3, l_p3, c_p3, s_p3, rfl, n_p3, k_p3, v_p3, b_p3, hb⟩
  have HC := True.intro
  replace BW : Hid (Below w.heap.size w w9) := BW.out.trans ((hb).mono BW.out.size)
  replace N_a : Hid (NumIn _ _ _ _ _ _ _) := N_a.out.old (hb)
  replace N_b : Hid (NumIn _ _ _ _ _ _ _) := N_b.out.old (hb)
  have N_p3 : Hid (NumIn _ _ _ _ _ _ _) := n_p3
  have V_p3 : Hid (val B64 s_p3 = 3) := by unfold Hid; rw [v_p3]
  have L_p3 : Hid (l_p3 ≤ 1) := by unfold Hid; omega
  clear n_p3 v_p3 b_p3 hb HC
  go_wp2_with fail
  refine (Of_any 7 w9 (by decide) (by decide)).mono ?_
  rintro e w10 ⟨v, rfl, a_p7, l_p7, c_p7, s_p7, rfl, n_p7, k_p7, v_p7, b_p7, hb⟩
  have HC := True.intro
  replace BW : Hid (Below w.heap.size w w10) := BW.out.trans ((hb).mono BW.out.size)
  replace N_a : Hid (NumIn _ _ _ _ _ _ _) := N_a.out.old (hb)
  replace N_b : Hid (NumIn _ _ _ _ _ _ _) := N_b.out.old (hb)
  replace N_p3 : Hid (NumIn _ _ _ _ _ _ _) := N_p3.out.old (hb)
  have N_p7 : Hid (NumIn _ _ _ _ _ _ _) := n_p7
  have V_p7 : Hid (val B64 s_p7 = 7) := by unfold Hid; rw [v_p7]
  have L_p7 : Hid (l_p7 ≤ 1) := by unfold Hid; omega
  clear n_p7 v_p7 b_p7 hb HC
  go_wp2_with fail
  have HC := mInv_yes a_p3 a_p7 l_p3 c_p3 l_p7 c_p7 s_p3 s_p7 w10 N_p3.out N_p7.out (by rw [V_p7.out]; decide) (by rw [V_p7.out, V_p3.out]; decide +kernel) (by have := L_p3.out; have := L_p7.out; omega)
  rw [V_p7.out, V_p3.out] at HC
  refine HC.mono ?_
  rintro e w11 ⟨v, nn, rfl, ⟨a_c, l_c, c_c, s_c, rfl, n_c, k_c, v_c, b_c, hb⟩, i0, i1, icg⟩
  have hnn : nn = 5 := (inv_one icg (j := 5) ⟨2, by decide⟩).eq i0 i1 (by decide) (by decide)
  rw [hnn] at v_c
  clear hnn icg i0 i1
  replace BW : Hid (Below w.heap.size w w11) := BW.out.trans ((hb).mono BW.out.size)
  replace N_a : Hid (NumIn _ _ _ _ _ _ _) := N_a.out.old (hb)
  replace N_b : Hid (NumIn _ _ _ _ _ _ _) := N_b.out.old (hb)
  replace N_p3 : Hid (NumIn _ _ _ _ _ _ _) := N_p3.out.old (hb)
  replace N_p7 : Hid (NumIn _ _ _ _ _ _ _) := N_p7.out.old (hb)
  have N_c : Hid (NumIn _ _ _ _ _ _ _) := n_c
  have V_c : Hid (val B64 s_c = 5) := by unfold Hid; rw [v_c]
  have L_c : Hid (l_c ≤ 1) := by unfold Hid; have := L_p7.out; omega
  clear n_c v_c b_c hb HC
  clear N_p3 V_p3 L_p3
  clear N_p7 V_p7 L_p7
  go_wp2_with fail
  refine (Of_any 2 w11 (by decide) (by decide)).mono ?_
  rintro e w12 ⟨v, rfl, a_p2, l_p2, c_p2, s_p2, rfl, n_p2, k_p2, v_p2, b_p2, hb⟩
  have HC := True.intro
  replace BW : Hid (Below w.heap.size w w12) := BW.out.trans ((hb).mono BW.out.size)
  replace N_a : Hid (NumIn _ _ _ _ _ _ _) := N_a.out.old (hb)
  replace N_b : Hid (NumIn _ _ _ _ _ _ _) := N_b.out.old (hb)
  replace N_c : Hid (NumIn _ _ _ _ _ _ _) := N_c.out.old (hb)
  have N_p2 : Hid (NumIn _ _ _ _ _ _ _) := n_p2
  have V_p2 : Hid (val B64 s_p2 = 2) := by unfold Hid; rw [v_p2]
  have L_p2 : Hid (l_p2 ≤ 1) := by unfold Hid; omega
  clear n_p2 v_p2 b_p2 hb HC
  go_wp2_with fail
  refine (Of_any 4 w12 (by decide) (by decide)).mono ?_
  rintro e w13 ⟨v, rfl, a_p4, l_p4, c_p4, s_p4, rfl, n_p4, k_p4, v_p4, b_p4, hb⟩
  have HC := True.intro
  replace BW : Hid (Below w.heap.size w w13) := BW.out.trans ((hb).mono BW.out.size)
  replace N_a : Hid (NumIn _ _ _ _ _ _ _) := N_a.out.old (hb)
  replace N_b : Hid (NumIn _ _ _ _ _ _ _) := N_b.out.old (hb)
  replace N_c : Hid (NumIn _ _ _ _ _ _ _) := N_c.out.old (hb)
  replace N_p2 : Hid (NumIn _ _ _ _ _ _ _) := N_p2.out.old (hb)
  have N_p4 : Hid (NumIn _ _ _ _ _ _ _) := n_p4
  have V_p4 : Hid (val B64 s_p4 = 4) := by unfold Hid; rw [v_p4]
  have L_p4 : Hid (l_p4 ≤ 1) := by unfold Hid; omega
  clear n_p4 v_p4 b_p4 hb HC
  go_wp2_with fail
  have HC := mInv_no a_p2 a_p4 l_p2 c_p2 l_p4 c_p4 s_p2 s_p4 w13 N_p2.out N_p4.out (by rw [V_p4.out]; decide) (by rw [V_p4.out, V_p2.out]; decide +kernel) (by have := L_p2.out; have := L_p4.out; omega)
  refine HC.mono ?_
  rintro e w14 ⟨rfl, hb⟩
  replace BW : Hid (Below w.heap.size w w14) := BW.out.trans ((hb).mono BW.out.size)
  replace N_a : Hid (NumIn _ _ _ _ _ _ _) := N_a.out.old (hb)
  replace N_b : Hid (NumIn _ _ _ _ _ _ _) := N_b.out.old (hb)
  replace N_c : Hid (NumIn _ _ _ _ _ _ _) := N_c.out.old (hb)
  replace N_p2 : Hid (NumIn _ _ _ _ _ _ _) := N_p2.out.old (hb)
  replace N_p4 : Hid (NumIn _ _ _ _ _ _ _) := N_p4.out.old (hb)
  clear hb HC
  clear N_p2 V_p2 L_p2
  clear N_p4 V_p4 L_p4
  go_wp2_with fail
  refine (Of_any 5 w14 (by decide) (by decide)).mono ?_
  rintro e w15 ⟨v, rfl, a_q, l_q, c_q, s_q, rfl, n_q, k_q, v_q, b_q, hb⟩
  have HC := True.intro
  replace BW : Hid (Below w.heap.size w w15) := BW.out.trans ((hb).mono BW.out.size)
  replace N_a : Hid (NumIn _ _ _ _ _ _ _) := N_a.out.old (hb)
  replace N_b : Hid (NumIn _ _ _ _ _ _ _) := N_b.out.old (hb)
  replace N_c : Hid (NumIn _ _ _ _ _ _ _) := N_c.out.old (hb)
  have N_q : Hid (NumIn _ _ _ _ _ _ _) := n_q
  have V_q : Hid (val B64 s_q = 5) := by unfold Hid; rw [v_q]
  have L_q : Hid (l_q ≤ 1) := by unfold Hid; omega
  clear n_q v_q b_q hb HC
  go_wp2_with fail
  have HC := Cmp_any a_a a_q l_a c_a l_q c_q s_a s_q w15 N_a.out N_q.out
  rw [show cmpI (val B64 s_a) (val B64 s_q) = 0 from by rw [V_a.out, V_q.out]; exact cmpI_eq rfl] at HC
  refine HC.mono ?_
  rintro e w16 ⟨rfl, hd⟩
  replace BW : Hid (Below w.heap.size w w16) := BW.out.trans ((hd.below _).mono BW.out.size)
  replace N_a : Hid (NumIn _ _ _ _ _ _ _) := N_a.out.old (hd.below _)
  replace N_b : Hid (NumIn _ _ _ _ _ _ _) := N_b.out.old (hd.below _)
  replace N_c : Hid (NumIn _ _ _ _ _ _ _) := N_c.out.old (hd.below _)
  replace N_q : Hid (NumIn _ _ _ _ _ _ _) := N_q.out.old (hd.below _)
  clear hd HC
  clear N_q V_q L_q
  clear N_a V_a L_a
  go_wp2_with fail
  refine (Of_any 24 w16 (by decide) (by decide)).mono ?_
  rintro e w17 ⟨v, rfl, a_q, l_q, c_q, s_q, rfl, n_q, k_q, v_q, b_q, hb⟩
  have HC := True.intro
  replace BW : Hid (Below w.heap.size w w17) := BW.out.trans ((hb).mono BW.out.size)
  replace N_b : Hid (NumIn _ _ _ _ _ _ _) := N_b.out.old (hb)
  replace N_c : Hid (NumIn _ _ _ _ _ _ _) := N_c.out.old (hb)
  have N_q : Hid (NumIn _ _ _ _ _ _ _) := n_q
  have V_q : Hid (val B64 s_q = 24) := by unfold Hid; rw [v_q]
  have L_q : Hid (l_q ≤ 1) := by unfold Hid; omega
  clear n_q v_q b_q hb HC
  go_wp2_with fail
  have HC := Cmp_any a_b a_q l_b c_b l_q c_q s_b s_q w17 N_b.out N_q.out
  rw [show cmpI (val B64 s_b) (val B64 s_q) = 0 from by rw [V_b.out, V_q.out]; exact cmpI_eq rfl] at HC
  refine HC.mono ?_
  rintro e w18 ⟨rfl, hd⟩
  replace BW : Hid (Below w.heap.size w w18) := BW.out.trans ((hd.below _).mono BW.out.size)
  replace N_b : Hid (NumIn _ _ _ _ _ _ _) := N_b.out.old (hd.below _)
  replace N_c : Hid (NumIn _ _ _ _ _ _ _) := N_c.out.old (hd.below _)
  replace N_q : Hid (NumIn _ _ _ _ _ _ _) := N_q.out.old (hd.below _)
  clear hd HC
  clear N_q V_q L_q
  clear N_b V_b L_b
  go_wp2_with fail
  refine (Of_any 5 w18 (by decide) (by decide)).mono ?_
  rintro e w19 ⟨v, rfl, a_q, l_q, c_q, s_q, rfl, n_q, k_q, v_q, b_q, hb⟩
  have HC := True.intro
  replace BW : Hid (Below w.heap.size w w19) := BW.out.trans ((hb).mono BW.out.size)
  replace N_c : Hid (NumIn _ _ _ _ _ _ _) := N_c.out.old (hb)
  have N_q : Hid (NumIn _ _ _ _ _ _ _) := n_q
  have V_q : Hid (val B64 s_q = 5) := by unfold Hid; rw [v_q]
  have L_q : Hid (l_q ≤ 1) := by unfold Hid; omega
  clear n_q v_q b_q hb HC
  go_wp2_with fail
  have HC := Cmp_any a_c a_q l_c c_c l_q c_q s_c s_q w19 N_c.out N_q.out
  rw [show cmpI (val B64 s_c) (val B64 s_q) = 0 from by rw [V_c.out, V_q.out]; exact cmpI_eq rfl] at HC
  refine HC.mono ?_
  rintro e w20 ⟨rfl, hd⟩
  replace BW : Hid (Below w.heap.size w w20) := BW.out.trans ((hd.below _).mono BW.out.size)
  replace N_c : Hid (NumIn _ _ _ _ _ _ _) := N_c.out.old (hd.below _)
  replace N_q : Hid (NumIn _ _ _ _ _ _ _) := N_q.out.old (hd.below _)
  clear hd HC
  clear N_q V_q L_q
  clear N_c V_c L_c
  go_wp2
  go_ret
  exact ⟨rfl, BW.out⟩
end Go.Proofs.Ytjaokpgccnkipaa
