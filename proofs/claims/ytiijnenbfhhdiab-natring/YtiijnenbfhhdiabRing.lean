/-
  The walk of NatRing.
-/
import Derived.Test.YtiijnenbfhhdiabLaw0
namespace Go.Proofs.Ytiijnenbfhhdiab
open Go.RowKit
set_option linter.unusedVariables false
set_option linter.unusedSimpArgs false

set_option maxHeartbeats 4000000 in
/-- Sums and products in any order; a product with a sum is the sum of products. -/
theorem NatRing_walk (a_a : Option Addr) (l_a c_a : Nat) (z_a : List Int) (a_b : Option Addr) (l_b c_b : Nat) (z_b : List Int) (a_c : Option Addr) (l_c c_c : Nat) (z_c : List Int) (w : World) (came_a : Came .u64 w a_a l_a c_a z_a) (came_b : Came .u64 w a_b l_b c_b z_b) (came_c : Came .u64 w a_c l_c c_c z_c) :
    Calls Try.prog 8 #[.slice a_a l_a c_a, .slice a_b l_b c_b, .slice a_c l_c c_c] w fun e w' => e = .returned (.bool true) ∧ Below w.heap.size w w' := by
  have le_a := came_a.le
  have le_b := came_b.le
  have le_c := came_c.le
  have C_a : Hid (Came .u64 w a_a l_a c_a z_a) := came_a
  have C_b : Hid (Came .u64 w a_b l_b c_b z_b) := came_b
  have C_c : Hid (Came .u64 w a_c l_c c_c z_c) := came_c
  clear came_a came_b came_c
  by_cases hlong : 70 < l_a ∨ 70 < l_b ∨ 70 < l_c
  · go_enter Try.func8, Try.ntmps8
    go_wp2_with fail
    refine (Awake_any w).mono ?_
    rintro e wA ⟨rfl, hb⟩
    have BW : Hid (Below w.heap.size w wA) := hb
    replace C_a : Hid (Came .u64 wA a_a l_a c_a z_a) := C_a.out.old hb
    replace C_b : Hid (Came .u64 wA a_b l_b c_b z_b) := C_b.out.old hb
    replace C_c : Hid (Came .u64 wA a_c l_c c_c z_c) := C_c.out.old hb
    clear hb
    have HC := long3 a_a a_b a_c l_a c_a l_b c_b l_c c_c wA le_a le_b le_c
    rw [decide_eq_true hlong] at HC
    go_wp2_with fail
    refine HC.mono ?_
    rintro e wB ⟨rfl, hb⟩
    replace BW : Hid (Below w.heap.size w wB) := BW.out.trans (hb.mono BW.out.size)
    replace C_a : Hid (Came .u64 wB a_a l_a c_a z_a) := C_a.out.old hb
    replace C_b : Hid (Came .u64 wB a_b l_b c_b z_b) := C_b.out.old hb
    replace C_c : Hid (Came .u64 wB a_c l_c c_c z_c) := C_c.out.old hb
    clear hb HC
    clear C_a C_b C_c
    go_wp2
    go_ret
    exact ⟨rfl, BW.out⟩
  · go_enter Try.func8, Try.ntmps8
    go_wp2_with fail
    refine (Awake_any w).mono ?_
    rintro e wA ⟨rfl, hb⟩
    have BW : Hid (Below w.heap.size w wA) := hb
    replace C_a : Hid (Came .u64 wA a_a l_a c_a z_a) := C_a.out.old hb
    replace C_b : Hid (Came .u64 wA a_b l_b c_b z_b) := C_b.out.old hb
    replace C_c : Hid (Came .u64 wA a_c l_c c_c z_c) := C_c.out.old hb
    clear hb
    have HC := long3 a_a a_b a_c l_a c_a l_b c_b l_c c_c wA le_a le_b le_c
    rw [decide_eq_false hlong] at HC
    go_wp2_with fail
    refine HC.mono ?_
    rintro e wB ⟨rfl, hb⟩
    replace BW : Hid (Below w.heap.size w wB) := BW.out.trans (hb.mono BW.out.size)
    replace C_a : Hid (Came .u64 wB a_a l_a c_a z_a) := C_a.out.old hb
    replace C_b : Hid (Came .u64 wB a_b l_b c_b z_b) := C_b.out.old hb
    replace C_c : Hid (Came .u64 wB a_c l_c c_c z_c) := C_c.out.old hb
    clear hb HC
    have N_a : Hid (NumIn .u64 B64 wB a_a l_a c_a (z_a.take l_a)) := C_a.out.nat (by omega)
    have L_a : Hid (l_a ≤ 70) := by unfold Hid; omega
    have N_b : Hid (NumIn .u64 B64 wB a_b l_b c_b (z_b.take l_b)) := C_b.out.nat (by omega)
    have L_b : Hid (l_b ≤ 70) := by unfold Hid; omega
    have N_c : Hid (NumIn .u64 B64 wB a_c l_c c_c (z_c.take l_c)) := C_c.out.nat (by omega)
    have L_c : Hid (l_c ≤ 70) := by unfold Hid; omega
    clear hlong C_a le_a C_b le_b C_c le_c
    generalize z_a.take l_a = s_a at *
    have P_a : Hid (0 ≤ val B64 s_a) := val_nonneg B64_pos N_a.out.dg
    obtain ⟨A, V_a⟩ : ∃ X, Hid (val B64 s_a = X) := ⟨_, rfl⟩
    replace P_a : Hid (0 ≤ A) := by have := P_a.out; rw [V_a.out] at this; exact this
    generalize z_b.take l_b = s_b at *
    have P_b : Hid (0 ≤ val B64 s_b) := val_nonneg B64_pos N_b.out.dg
    obtain ⟨B, V_b⟩ : ∃ X, Hid (val B64 s_b = X) := ⟨_, rfl⟩
    replace P_b : Hid (0 ≤ B) := by have := P_b.out; rw [V_b.out] at this; exact this
    generalize z_c.take l_c = s_c at *
    have P_c : Hid (0 ≤ val B64 s_c) := val_nonneg B64_pos N_c.out.dg
    obtain ⟨C, V_c⟩ : ∃ X, Hid (val B64 s_c = X) := ⟨_, rfl⟩
    replace P_c : Hid (0 ≤ C) := by have := P_c.out; rw [V_c.out] at this; exact this
    go_wp2_with fail
    have HC := Add_any a_b a_c l_b c_b l_c c_c s_b s_c wB N_b.out N_c.out (by have := L_b.out; have := L_c.out; omega)
    refine HC.mono ?_
    rintro e w1 ⟨v, rfl, a_s1, l_s1, c_s1, s_s1, rfl, n_s1, k_s1, v_s1, b_s1, hb⟩
    replace BW : Hid (Below w.heap.size w w1) := BW.out.trans ((hb).mono BW.out.size)
    replace N_a : Hid (NumIn _ _ _ _ _ _ _) := N_a.out.old (hb)
    replace N_b : Hid (NumIn _ _ _ _ _ _ _) := N_b.out.old (hb)
    replace N_c : Hid (NumIn _ _ _ _ _ _ _) := N_c.out.old (hb)
    have N_s1 : Hid (NumIn _ _ _ _ _ _ _) := n_s1
    have V_s1 : Hid (val B64 s_s1 = B + C) := by unfold Hid; rw [v_s1]; rw [V_b.out, V_c.out]
    have L_s1 : Hid (l_s1 ≤ 71) := by unfold Hid; have := L_b.out; have := L_c.out; omega
    clear n_s1 v_s1 b_s1 hb HC
    go_wp2_with fail
    have HC := Mul_any a_a a_s1 l_a c_a l_s1 c_s1 s_a s_s1 w1 N_a.out N_s1.out (by have := L_a.out; have := L_s1.out; omega)
    refine HC.mono ?_
    rintro e w2 ⟨v, rfl, a_left, l_left, c_left, s_left, rfl, n_left, k_left, v_left, b_left, hb⟩
    replace BW : Hid (Below w.heap.size w w2) := BW.out.trans ((hb).mono BW.out.size)
    replace N_a : Hid (NumIn _ _ _ _ _ _ _) := N_a.out.old (hb)
    replace N_b : Hid (NumIn _ _ _ _ _ _ _) := N_b.out.old (hb)
    replace N_c : Hid (NumIn _ _ _ _ _ _ _) := N_c.out.old (hb)
    replace N_s1 : Hid (NumIn _ _ _ _ _ _ _) := N_s1.out.old (hb)
    have N_left : Hid (NumIn _ _ _ _ _ _ _) := n_left
    have V_left : Hid (val B64 s_left = A * (B + C)) := by unfold Hid; rw [v_left]; rw [V_a.out, V_s1.out]
    have L_left : Hid (l_left ≤ 141) := by unfold Hid; have := L_a.out; have := L_s1.out; omega
    clear n_left v_left b_left hb HC
    go_wp2_with fail
    have HC := Mul_any a_a a_b l_a c_a l_b c_b s_a s_b w2 N_a.out N_b.out (by have := L_a.out; have := L_b.out; omega)
    refine HC.mono ?_
    rintro e w3 ⟨v, rfl, a_p1, l_p1, c_p1, s_p1, rfl, n_p1, k_p1, v_p1, b_p1, hb⟩
    replace BW : Hid (Below w.heap.size w w3) := BW.out.trans ((hb).mono BW.out.size)
    replace N_a : Hid (NumIn _ _ _ _ _ _ _) := N_a.out.old (hb)
    replace N_b : Hid (NumIn _ _ _ _ _ _ _) := N_b.out.old (hb)
    replace N_c : Hid (NumIn _ _ _ _ _ _ _) := N_c.out.old (hb)
    replace N_s1 : Hid (NumIn _ _ _ _ _ _ _) := N_s1.out.old (hb)
    replace N_left : Hid (NumIn _ _ _ _ _ _ _) := N_left.out.old (hb)
    have N_p1 : Hid (NumIn _ _ _ _ _ _ _) := n_p1
    have V_p1 : Hid (val B64 s_p1 = A * B) := by unfold Hid; rw [v_p1]; rw [V_a.out, V_b.out]
    have L_p1 : Hid (l_p1 ≤ 140) := by unfold Hid; have := L_a.out; have := L_b.out; omega
    clear n_p1 v_p1 b_p1 hb HC
    go_wp2_with fail
    have HC := Mul_any a_a a_c l_a c_a l_c c_c s_a s_c w3 N_a.out N_c.out (by have := L_a.out; have := L_c.out; omega)
    refine HC.mono ?_
    rintro e w4 ⟨v, rfl, a_p2, l_p2, c_p2, s_p2, rfl, n_p2, k_p2, v_p2, b_p2, hb⟩
    replace BW : Hid (Below w.heap.size w w4) := BW.out.trans ((hb).mono BW.out.size)
    replace N_a : Hid (NumIn _ _ _ _ _ _ _) := N_a.out.old (hb)
    replace N_b : Hid (NumIn _ _ _ _ _ _ _) := N_b.out.old (hb)
    replace N_c : Hid (NumIn _ _ _ _ _ _ _) := N_c.out.old (hb)
    replace N_s1 : Hid (NumIn _ _ _ _ _ _ _) := N_s1.out.old (hb)
    replace N_left : Hid (NumIn _ _ _ _ _ _ _) := N_left.out.old (hb)
    replace N_p1 : Hid (NumIn _ _ _ _ _ _ _) := N_p1.out.old (hb)
    have N_p2 : Hid (NumIn _ _ _ _ _ _ _) := n_p2
    have V_p2 : Hid (val B64 s_p2 = A * C) := by unfold Hid; rw [v_p2]; rw [V_a.out, V_c.out]
    have L_p2 : Hid (l_p2 ≤ 140) := by unfold Hid; have := L_a.out; have := L_c.out; omega
    clear n_p2 v_p2 b_p2 hb HC
    go_wp2_with fail
    have HC := Add_any a_p1 a_p2 l_p1 c_p1 l_p2 c_p2 s_p1 s_p2 w4 N_p1.out N_p2.out (by have := L_p1.out; have := L_p2.out; omega)
    refine HC.mono ?_
    rintro e w5 ⟨v, rfl, a_right, l_right, c_right, s_right, rfl, n_right, k_right, v_right, b_right, hb⟩
    replace BW : Hid (Below w.heap.size w w5) := BW.out.trans ((hb).mono BW.out.size)
    replace N_a : Hid (NumIn _ _ _ _ _ _ _) := N_a.out.old (hb)
    replace N_b : Hid (NumIn _ _ _ _ _ _ _) := N_b.out.old (hb)
    replace N_c : Hid (NumIn _ _ _ _ _ _ _) := N_c.out.old (hb)
    replace N_s1 : Hid (NumIn _ _ _ _ _ _ _) := N_s1.out.old (hb)
    replace N_left : Hid (NumIn _ _ _ _ _ _ _) := N_left.out.old (hb)
    replace N_p1 : Hid (NumIn _ _ _ _ _ _ _) := N_p1.out.old (hb)
    replace N_p2 : Hid (NumIn _ _ _ _ _ _ _) := N_p2.out.old (hb)
    have N_right : Hid (NumIn _ _ _ _ _ _ _) := n_right
    have V_right : Hid (val B64 s_right = A * B + A * C) := by unfold Hid; rw [v_right]; rw [V_p1.out, V_p2.out]
    have L_right : Hid (l_right ≤ 141) := by unfold Hid; have := L_p1.out; have := L_p2.out; omega
    clear n_right v_right b_right hb HC
    clear N_s1 V_s1 L_s1
    clear N_p1 V_p1 L_p1
    clear N_p2 V_p2 L_p2
    go_wp2_with fail
    have HC := Add_any a_a a_b l_a c_a l_b c_b s_a s_b w5 N_a.out N_b.out (by have := L_a.out; have := L_b.out; omega)
    refine HC.mono ?_
    rintro e w6 ⟨v, rfl, a_s2, l_s2, c_s2, s_s2, rfl, n_s2, k_s2, v_s2, b_s2, hb⟩
    replace BW : Hid (Below w.heap.size w w6) := BW.out.trans ((hb).mono BW.out.size)
    replace N_a : Hid (NumIn _ _ _ _ _ _ _) := N_a.out.old (hb)
    replace N_b : Hid (NumIn _ _ _ _ _ _ _) := N_b.out.old (hb)
    replace N_c : Hid (NumIn _ _ _ _ _ _ _) := N_c.out.old (hb)
    replace N_left : Hid (NumIn _ _ _ _ _ _ _) := N_left.out.old (hb)
    replace N_right : Hid (NumIn _ _ _ _ _ _ _) := N_right.out.old (hb)
    have N_s2 : Hid (NumIn _ _ _ _ _ _ _) := n_s2
    have V_s2 : Hid (val B64 s_s2 = A + B) := by unfold Hid; rw [v_s2]; rw [V_a.out, V_b.out]
    have L_s2 : Hid (l_s2 ≤ 71) := by unfold Hid; have := L_a.out; have := L_b.out; omega
    clear n_s2 v_s2 b_s2 hb HC
    go_wp2_with fail
    have HC := Sub_yes a_s2 a_b l_s2 c_s2 l_b c_b s_s2 s_b w6 N_s2.out N_b.out (by rw [V_s2.out, V_b.out]; have := P_a.out; omega)
    refine HC.mono ?_
    rintro e w7 ⟨v, rfl, a_d, l_d, c_d, s_d, rfl, n_d, k_d, v_d, b_d, hb⟩
    replace BW : Hid (Below w.heap.size w w7) := BW.out.trans ((hb).mono BW.out.size)
    replace N_a : Hid (NumIn _ _ _ _ _ _ _) := N_a.out.old (hb)
    replace N_b : Hid (NumIn _ _ _ _ _ _ _) := N_b.out.old (hb)
    replace N_c : Hid (NumIn _ _ _ _ _ _ _) := N_c.out.old (hb)
    replace N_left : Hid (NumIn _ _ _ _ _ _ _) := N_left.out.old (hb)
    replace N_right : Hid (NumIn _ _ _ _ _ _ _) := N_right.out.old (hb)
    replace N_s2 : Hid (NumIn _ _ _ _ _ _ _) := N_s2.out.old (hb)
    have N_d : Hid (NumIn _ _ _ _ _ _ _) := n_d
    have V_d : Hid (val B64 s_d = A) := by unfold Hid; rw [v_d]; rw [V_s2.out, V_b.out]; omega
    have L_d : Hid (l_d ≤ 71) := by unfold Hid; have := L_s2.out; have := L_b.out; omega
    clear n_d v_d b_d hb HC
    clear N_s2 V_s2 L_s2
    go_wp2_with fail
    have HC := Cmp_any a_left a_right l_left c_left l_right c_right s_left s_right w7 N_left.out N_right.out
    rw [show cmpI (val B64 s_left) (val B64 s_right) = 0 from cmpI_eq (by rw [V_left.out, V_right.out, Int.mul_add])] at HC
    refine HC.mono ?_
    rintro e w8 ⟨rfl, hd⟩
    replace BW : Hid (Below w.heap.size w w8) := BW.out.trans ((hd.below _).mono BW.out.size)
    replace N_a : Hid (NumIn _ _ _ _ _ _ _) := N_a.out.old (hd.below _)
    replace N_b : Hid (NumIn _ _ _ _ _ _ _) := N_b.out.old (hd.below _)
    replace N_c : Hid (NumIn _ _ _ _ _ _ _) := N_c.out.old (hd.below _)
    replace N_left : Hid (NumIn _ _ _ _ _ _ _) := N_left.out.old (hd.below _)
    replace N_right : Hid (NumIn _ _ _ _ _ _ _) := N_right.out.old (hd.below _)
    replace N_d : Hid (NumIn _ _ _ _ _ _ _) := N_d.out.old (hd.below _)
    clear hd HC
    clear N_left V_left L_left
    clear N_right V_right L_right
    go_wp2_with fail
    have HC := Mul_any a_a a_b l_a c_a l_b c_b s_a s_b w8 N_a.out N_b.out (by have := L_a.out; have := L_b.out; omega)
    refine HC.mono ?_
    rintro e w9 ⟨v, rfl, a_q1, l_q1, c_q1, s_q1, rfl, n_q1, k_q1, v_q1, b_q1, hb⟩
    replace BW : Hid (Below w.heap.size w w9) := BW.out.trans ((hb).mono BW.out.size)
    replace N_a : Hid (NumIn _ _ _ _ _ _ _) := N_a.out.old (hb)
    replace N_b : Hid (NumIn _ _ _ _ _ _ _) := N_b.out.old (hb)
    replace N_c : Hid (NumIn _ _ _ _ _ _ _) := N_c.out.old (hb)
    replace N_d : Hid (NumIn _ _ _ _ _ _ _) := N_d.out.old (hb)
    have N_q1 : Hid (NumIn _ _ _ _ _ _ _) := n_q1
    have V_q1 : Hid (val B64 s_q1 = A * B) := by unfold Hid; rw [v_q1]; rw [V_a.out, V_b.out]
    have L_q1 : Hid (l_q1 ≤ 140) := by unfold Hid; have := L_a.out; have := L_b.out; omega
    clear n_q1 v_q1 b_q1 hb HC
    go_wp2_with fail
    have HC := Mul_any a_b a_a l_b c_b l_a c_a s_b s_a w9 N_b.out N_a.out (by have := L_b.out; have := L_a.out; omega)
    refine HC.mono ?_
    rintro e w10 ⟨v, rfl, a_q2, l_q2, c_q2, s_q2, rfl, n_q2, k_q2, v_q2, b_q2, hb⟩
    replace BW : Hid (Below w.heap.size w w10) := BW.out.trans ((hb).mono BW.out.size)
    replace N_a : Hid (NumIn _ _ _ _ _ _ _) := N_a.out.old (hb)
    replace N_b : Hid (NumIn _ _ _ _ _ _ _) := N_b.out.old (hb)
    replace N_c : Hid (NumIn _ _ _ _ _ _ _) := N_c.out.old (hb)
    replace N_d : Hid (NumIn _ _ _ _ _ _ _) := N_d.out.old (hb)
    replace N_q1 : Hid (NumIn _ _ _ _ _ _ _) := N_q1.out.old (hb)
    have N_q2 : Hid (NumIn _ _ _ _ _ _ _) := n_q2
    have V_q2 : Hid (val B64 s_q2 = B * A) := by unfold Hid; rw [v_q2]; rw [V_b.out, V_a.out]
    have L_q2 : Hid (l_q2 ≤ 140) := by unfold Hid; have := L_b.out; have := L_a.out; omega
    clear n_q2 v_q2 b_q2 hb HC
    go_wp2_with fail
    have HC := Cmp_any a_q1 a_q2 l_q1 c_q1 l_q2 c_q2 s_q1 s_q2 w10 N_q1.out N_q2.out
    rw [show cmpI (val B64 s_q1) (val B64 s_q2) = 0 from cmpI_eq (by rw [V_q1.out, V_q2.out, Int.mul_comm])] at HC
    refine HC.mono ?_
    rintro e w11 ⟨rfl, hd⟩
    replace BW : Hid (Below w.heap.size w w11) := BW.out.trans ((hd.below _).mono BW.out.size)
    replace N_a : Hid (NumIn _ _ _ _ _ _ _) := N_a.out.old (hd.below _)
    replace N_b : Hid (NumIn _ _ _ _ _ _ _) := N_b.out.old (hd.below _)
    replace N_c : Hid (NumIn _ _ _ _ _ _ _) := N_c.out.old (hd.below _)
    replace N_d : Hid (NumIn _ _ _ _ _ _ _) := N_d.out.old (hd.below _)
    replace N_q1 : Hid (NumIn _ _ _ _ _ _ _) := N_q1.out.old (hd.below _)
    replace N_q2 : Hid (NumIn _ _ _ _ _ _ _) := N_q2.out.old (hd.below _)
    clear hd HC
    clear N_q1 V_q1 L_q1
    clear N_q2 V_q2 L_q2
    go_wp2_with fail
    have HC := Mul_any a_a a_b l_a c_a l_b c_b s_a s_b w11 N_a.out N_b.out (by have := L_a.out; have := L_b.out; omega)
    refine HC.mono ?_
    rintro e w12 ⟨v, rfl, a_r1, l_r1, c_r1, s_r1, rfl, n_r1, k_r1, v_r1, b_r1, hb⟩
    replace BW : Hid (Below w.heap.size w w12) := BW.out.trans ((hb).mono BW.out.size)
    replace N_a : Hid (NumIn _ _ _ _ _ _ _) := N_a.out.old (hb)
    replace N_b : Hid (NumIn _ _ _ _ _ _ _) := N_b.out.old (hb)
    replace N_c : Hid (NumIn _ _ _ _ _ _ _) := N_c.out.old (hb)
    replace N_d : Hid (NumIn _ _ _ _ _ _ _) := N_d.out.old (hb)
    have N_r1 : Hid (NumIn _ _ _ _ _ _ _) := n_r1
    have V_r1 : Hid (val B64 s_r1 = A * B) := by unfold Hid; rw [v_r1]; rw [V_a.out, V_b.out]
    have L_r1 : Hid (l_r1 ≤ 140) := by unfold Hid; have := L_a.out; have := L_b.out; omega
    clear n_r1 v_r1 b_r1 hb HC
    go_wp2_with fail
    have HC := Mul_any a_r1 a_c l_r1 c_r1 l_c c_c s_r1 s_c w12 N_r1.out N_c.out (by have := L_r1.out; have := L_c.out; omega)
    refine HC.mono ?_
    rintro e w13 ⟨v, rfl, a_r2, l_r2, c_r2, s_r2, rfl, n_r2, k_r2, v_r2, b_r2, hb⟩
    replace BW : Hid (Below w.heap.size w w13) := BW.out.trans ((hb).mono BW.out.size)
    replace N_a : Hid (NumIn _ _ _ _ _ _ _) := N_a.out.old (hb)
    replace N_b : Hid (NumIn _ _ _ _ _ _ _) := N_b.out.old (hb)
    replace N_c : Hid (NumIn _ _ _ _ _ _ _) := N_c.out.old (hb)
    replace N_d : Hid (NumIn _ _ _ _ _ _ _) := N_d.out.old (hb)
    replace N_r1 : Hid (NumIn _ _ _ _ _ _ _) := N_r1.out.old (hb)
    have N_r2 : Hid (NumIn _ _ _ _ _ _ _) := n_r2
    have V_r2 : Hid (val B64 s_r2 = A * B * C) := by unfold Hid; rw [v_r2]; rw [V_r1.out, V_c.out]
    have L_r2 : Hid (l_r2 ≤ 210) := by unfold Hid; have := L_r1.out; have := L_c.out; omega
    clear n_r2 v_r2 b_r2 hb HC
    go_wp2_with fail
    have HC := Mul_any a_b a_c l_b c_b l_c c_c s_b s_c w13 N_b.out N_c.out (by have := L_b.out; have := L_c.out; omega)
    refine HC.mono ?_
    rintro e w14 ⟨v, rfl, a_r3, l_r3, c_r3, s_r3, rfl, n_r3, k_r3, v_r3, b_r3, hb⟩
    replace BW : Hid (Below w.heap.size w w14) := BW.out.trans ((hb).mono BW.out.size)
    replace N_a : Hid (NumIn _ _ _ _ _ _ _) := N_a.out.old (hb)
    replace N_b : Hid (NumIn _ _ _ _ _ _ _) := N_b.out.old (hb)
    replace N_c : Hid (NumIn _ _ _ _ _ _ _) := N_c.out.old (hb)
    replace N_d : Hid (NumIn _ _ _ _ _ _ _) := N_d.out.old (hb)
    replace N_r1 : Hid (NumIn _ _ _ _ _ _ _) := N_r1.out.old (hb)
    replace N_r2 : Hid (NumIn _ _ _ _ _ _ _) := N_r2.out.old (hb)
    have N_r3 : Hid (NumIn _ _ _ _ _ _ _) := n_r3
    have V_r3 : Hid (val B64 s_r3 = B * C) := by unfold Hid; rw [v_r3]; rw [V_b.out, V_c.out]
    have L_r3 : Hid (l_r3 ≤ 140) := by unfold Hid; have := L_b.out; have := L_c.out; omega
    clear n_r3 v_r3 b_r3 hb HC
    go_wp2_with fail
    have HC := Mul_any a_a a_r3 l_a c_a l_r3 c_r3 s_a s_r3 w14 N_a.out N_r3.out (by have := L_a.out; have := L_r3.out; omega)
    refine HC.mono ?_
    rintro e w15 ⟨v, rfl, a_r4, l_r4, c_r4, s_r4, rfl, n_r4, k_r4, v_r4, b_r4, hb⟩
    replace BW : Hid (Below w.heap.size w w15) := BW.out.trans ((hb).mono BW.out.size)
    replace N_a : Hid (NumIn _ _ _ _ _ _ _) := N_a.out.old (hb)
    replace N_b : Hid (NumIn _ _ _ _ _ _ _) := N_b.out.old (hb)
    replace N_c : Hid (NumIn _ _ _ _ _ _ _) := N_c.out.old (hb)
    replace N_d : Hid (NumIn _ _ _ _ _ _ _) := N_d.out.old (hb)
    replace N_r1 : Hid (NumIn _ _ _ _ _ _ _) := N_r1.out.old (hb)
    replace N_r2 : Hid (NumIn _ _ _ _ _ _ _) := N_r2.out.old (hb)
    replace N_r3 : Hid (NumIn _ _ _ _ _ _ _) := N_r3.out.old (hb)
    have N_r4 : Hid (NumIn _ _ _ _ _ _ _) := n_r4
    have V_r4 : Hid (val B64 s_r4 = A * (B * C)) := by unfold Hid; rw [v_r4]; rw [V_a.out, V_r3.out]
    have L_r4 : Hid (l_r4 ≤ 210) := by unfold Hid; have := L_a.out; have := L_r3.out; omega
    clear n_r4 v_r4 b_r4 hb HC
    go_wp2_with fail
    have HC := Cmp_any a_r2 a_r4 l_r2 c_r2 l_r4 c_r4 s_r2 s_r4 w15 N_r2.out N_r4.out
    rw [show cmpI (val B64 s_r2) (val B64 s_r4) = 0 from cmpI_eq (by rw [V_r2.out, V_r4.out, Int.mul_assoc])] at HC
    refine HC.mono ?_
    rintro e w16 ⟨rfl, hd⟩
    replace BW : Hid (Below w.heap.size w w16) := BW.out.trans ((hd.below _).mono BW.out.size)
    replace N_a : Hid (NumIn _ _ _ _ _ _ _) := N_a.out.old (hd.below _)
    replace N_b : Hid (NumIn _ _ _ _ _ _ _) := N_b.out.old (hd.below _)
    replace N_c : Hid (NumIn _ _ _ _ _ _ _) := N_c.out.old (hd.below _)
    replace N_d : Hid (NumIn _ _ _ _ _ _ _) := N_d.out.old (hd.below _)
    replace N_r1 : Hid (NumIn _ _ _ _ _ _ _) := N_r1.out.old (hd.below _)
    replace N_r2 : Hid (NumIn _ _ _ _ _ _ _) := N_r2.out.old (hd.below _)
    replace N_r3 : Hid (NumIn _ _ _ _ _ _ _) := N_r3.out.old (hd.below _)
    replace N_r4 : Hid (NumIn _ _ _ _ _ _ _) := N_r4.out.old (hd.below _)
    clear hd HC
    clear N_r1 V_r1 L_r1
    clear N_r2 V_r2 L_r2
    clear N_r3 V_r3 L_r3
    clear N_r4 V_r4 L_r4
    go_wp2_with fail
    have HC := Add_any a_a a_b l_a c_a l_b c_b s_a s_b w16 N_a.out N_b.out (by have := L_a.out; have := L_b.out; omega)
    refine HC.mono ?_
    rintro e w17 ⟨v, rfl, a_t1, l_t1, c_t1, s_t1, rfl, n_t1, k_t1, v_t1, b_t1, hb⟩
    replace BW : Hid (Below w.heap.size w w17) := BW.out.trans ((hb).mono BW.out.size)
    replace N_a : Hid (NumIn _ _ _ _ _ _ _) := N_a.out.old (hb)
    replace N_b : Hid (NumIn _ _ _ _ _ _ _) := N_b.out.old (hb)
    replace N_c : Hid (NumIn _ _ _ _ _ _ _) := N_c.out.old (hb)
    replace N_d : Hid (NumIn _ _ _ _ _ _ _) := N_d.out.old (hb)
    have N_t1 : Hid (NumIn _ _ _ _ _ _ _) := n_t1
    have V_t1 : Hid (val B64 s_t1 = A + B) := by unfold Hid; rw [v_t1]; rw [V_a.out, V_b.out]
    have L_t1 : Hid (l_t1 ≤ 71) := by unfold Hid; have := L_a.out; have := L_b.out; omega
    clear n_t1 v_t1 b_t1 hb HC
    go_wp2_with fail
    have HC := Add_any a_b a_a l_b c_b l_a c_a s_b s_a w17 N_b.out N_a.out (by have := L_b.out; have := L_a.out; omega)
    refine HC.mono ?_
    rintro e w18 ⟨v, rfl, a_t2, l_t2, c_t2, s_t2, rfl, n_t2, k_t2, v_t2, b_t2, hb⟩
    replace BW : Hid (Below w.heap.size w w18) := BW.out.trans ((hb).mono BW.out.size)
    replace N_a : Hid (NumIn _ _ _ _ _ _ _) := N_a.out.old (hb)
    replace N_b : Hid (NumIn _ _ _ _ _ _ _) := N_b.out.old (hb)
    replace N_c : Hid (NumIn _ _ _ _ _ _ _) := N_c.out.old (hb)
    replace N_d : Hid (NumIn _ _ _ _ _ _ _) := N_d.out.old (hb)
    replace N_t1 : Hid (NumIn _ _ _ _ _ _ _) := N_t1.out.old (hb)
    have N_t2 : Hid (NumIn _ _ _ _ _ _ _) := n_t2
    have V_t2 : Hid (val B64 s_t2 = B + A) := by unfold Hid; rw [v_t2]; rw [V_b.out, V_a.out]
    have L_t2 : Hid (l_t2 ≤ 71) := by unfold Hid; have := L_b.out; have := L_a.out; omega
    clear n_t2 v_t2 b_t2 hb HC
    go_wp2_with fail
    have HC := Cmp_any a_t1 a_t2 l_t1 c_t1 l_t2 c_t2 s_t1 s_t2 w18 N_t1.out N_t2.out
    rw [show cmpI (val B64 s_t1) (val B64 s_t2) = 0 from cmpI_eq (by rw [V_t1.out, V_t2.out, Int.add_comm])] at HC
    refine HC.mono ?_
    rintro e w19 ⟨rfl, hd⟩
    replace BW : Hid (Below w.heap.size w w19) := BW.out.trans ((hd.below _).mono BW.out.size)
    replace N_a : Hid (NumIn _ _ _ _ _ _ _) := N_a.out.old (hd.below _)
    replace N_b : Hid (NumIn _ _ _ _ _ _ _) := N_b.out.old (hd.below _)
    replace N_c : Hid (NumIn _ _ _ _ _ _ _) := N_c.out.old (hd.below _)
    replace N_d : Hid (NumIn _ _ _ _ _ _ _) := N_d.out.old (hd.below _)
    replace N_t1 : Hid (NumIn _ _ _ _ _ _ _) := N_t1.out.old (hd.below _)
    replace N_t2 : Hid (NumIn _ _ _ _ _ _ _) := N_t2.out.old (hd.below _)
    clear hd HC
    go_wp2_with fail
    have HC := Cmp_any a_d a_a l_d c_d l_a c_a s_d s_a w19 N_d.out N_a.out
    rw [show cmpI (val B64 s_d) (val B64 s_a) = 0 from cmpI_eq (by rw [V_d.out, V_a.out])] at HC
    refine HC.mono ?_
    rintro e w20 ⟨rfl, hd⟩
    replace BW : Hid (Below w.heap.size w w20) := BW.out.trans ((hd.below _).mono BW.out.size)
    replace N_a : Hid (NumIn _ _ _ _ _ _ _) := N_a.out.old (hd.below _)
    replace N_b : Hid (NumIn _ _ _ _ _ _ _) := N_b.out.old (hd.below _)
    replace N_c : Hid (NumIn _ _ _ _ _ _ _) := N_c.out.old (hd.below _)
    replace N_d : Hid (NumIn _ _ _ _ _ _ _) := N_d.out.old (hd.below _)
    replace N_t1 : Hid (NumIn _ _ _ _ _ _ _) := N_t1.out.old (hd.below _)
    replace N_t2 : Hid (NumIn _ _ _ _ _ _ _) := N_t2.out.old (hd.below _)
    clear hd HC
    clear N_a N_b N_c N_d N_t1 N_t2
    go_wp2
    go_ret
    exact ⟨rfl, BW.out⟩
end Go.Proofs.Ytiijnenbfhhdiab
