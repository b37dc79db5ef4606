/-
  The walk of NatOrder.
-/
import Derived.Test.YtiijnenbfhhdiacLaw0
namespace Go.Proofs.Ytiijnenbfhhdiac
open Go.RowKit
set_option linter.unusedVariables false
set_option linter.unusedSimpArgs false

theorem cmpI_cases (a b : Int) : (cmpI a b = -1 ∧ a < b) ∨ (cmpI a b = 0 ∧ a = b) ∨ (cmpI a b = 1 ∧ b < a) := by
  rcases Int.lt_trichotomy a b with h | h | h
  · exact .inl ⟨cmpI_lt h, h⟩
  · exact .inr (.inl ⟨cmpI_eq h, h⟩)
  · exact .inr (.inr ⟨cmpI_gt h, h⟩)
theorem cmpI_add (a b c : Int) : cmpI (a + c) (b + c) = cmpI a b := by
  rcases cmpI_cases a b with ⟨e, h⟩ | ⟨e, h⟩ | ⟨e, h⟩
  · rw [e, cmpI_lt (by omega)]
  · rw [e, cmpI_eq (by omega)]
  · rw [e, cmpI_gt (by omega)]
theorem cmpI_swap (a b : Int) : cmpI b a = -cmpI a b := by
  rcases cmpI_cases a b with ⟨e, h⟩ | ⟨e, h⟩ | ⟨e, h⟩
  · rw [e, cmpI_gt h]; rfl
  · rw [e, cmpI_eq h.symm]; rfl
  · rw [e, cmpI_lt h]
theorem blen_mono (m n : Nat) (h : m ≤ n) : blen m ≤ blen n := blen_le m (blen n) (Nat.lt_of_le_of_lt h (blen_lt n))

set_option maxHeartbeats 4000000 in
/-- Numbers stand in one order; a sum is no less than its parts; what is greater has at least as many bits. -/
theorem NatOrder_walk (a_a : Option Addr) (l_a c_a : Nat) (z_a : List Int) (a_b : Option Addr) (l_b c_b : Nat) (z_b : List Int) (a_c : Option Addr) (l_c c_c : Nat) (z_c : List Int) (w : World) (came_a : Came .u64 w a_a l_a c_a z_a) (came_b : Came .u64 w a_b l_b c_b z_b) (came_c : Came .u64 w a_c l_c c_c z_c) :
    Calls Try.prog 4 #[.slice a_a l_a c_a, .slice a_b l_b c_b, .slice a_c l_c c_c] w fun e w' => e = .returned (.bool true) ∧ Below w.heap.size w w' := by
  have le_a := came_a.le
  have le_b := came_b.le
  have le_c := came_c.le
  have C_a : Hid (Came .u64 w a_a l_a c_a z_a) := came_a
  have C_b : Hid (Came .u64 w a_b l_b c_b z_b) := came_b
  have C_c : Hid (Came .u64 w a_c l_c c_c z_c) := came_c
  clear came_a came_b came_c
  by_cases hlong : 70 < l_a ∨ 70 < l_b ∨ 70 < l_c
  · go_enter Try.func4, Try.ntmps4
    go_wp2_with fail
    refine (Awake_any w).mono ?_
    rintro e wA ⟨rfl, hb⟩
    have BW : Hid (Below w.heap.size w wA) := hb
    replace C_a : Hid (Came .u64 wA a_a l_a c_a z_a) := C_a.out.old hb
    replace C_b : Hid (Came .u64 wA a_b l_b c_b z_b) := C_b.out.old hb
    replace C_c : Hid (Came .u64 wA a_c l_c c_c z_c) := C_c.out.old hb
    clear hb
    have HC := long3 a_a a_b a_c l_a c_a l_b c_b l_c c_c wA le_a le_b le_c
    rw [decide_eq_true hlong] at HC
    go_wp2_with fail
    refine HC.mono ?_
    rintro e wB ⟨rfl, hb⟩
    replace BW : Hid (Below w.heap.size w wB) := BW.out.trans (hb.mono BW.out.size)
    replace C_a : Hid (Came .u64 wB a_a l_a c_a z_a) := C_a.out.old hb
    replace C_b : Hid (Came .u64 wB a_b l_b c_b z_b) := C_b.out.old hb
    replace C_c : Hid (Came .u64 wB a_c l_c c_c z_c) := C_c.out.old hb
    clear hb HC
    clear C_a C_b C_c
    go_wp2
    go_ret
    exact ⟨rfl, BW.out⟩
  · go_enter Try.func4, Try.ntmps4
    go_wp2_with fail
    refine (Awake_any w).mono ?_
    rintro e wA ⟨rfl, hb⟩
    have BW : Hid (Below w.heap.size w wA) := hb
    replace C_a : Hid (Came .u64 wA a_a l_a c_a z_a) := C_a.out.old hb
    replace C_b : Hid (Came .u64 wA a_b l_b c_b z_b) := C_b.out.old hb
    replace C_c : Hid (Came .u64 wA a_c l_c c_c z_c) := C_c.out.old hb
    clear hb
    have HC := long3 a_a a_b a_c l_a c_a l_b c_b l_c c_c wA le_a le_b le_c
    rw [decide_eq_false hlong] at HC
    go_wp2_with fail
    refine HC.mono ?_
    rintro e wB ⟨rfl, hb⟩
    replace BW : Hid (Below w.heap.size w wB) := BW.out.trans (hb.mono BW.out.size)
    replace C_a : Hid (Came .u64 wB a_a l_a c_a z_a) := C_a.out.old hb
    replace C_b : Hid (Came .u64 wB a_b l_b c_b z_b) := C_b.out.old hb
    replace C_c : Hid (Came .u64 wB a_c l_c c_c z_c) := C_c.out.old hb
    clear hb HC
    have N_a : Hid (NumIn .u64 B64 wB a_a l_a c_a (z_a.take l_a)) := C_a.out.nat (by omega)
    have L_a : Hid (l_a ≤ 70) := by unfold Hid; omega
    have N_b : Hid (NumIn .u64 B64 wB a_b l_b c_b (z_b.take l_b)) := C_b.out.nat (by omega)
    have L_b : Hid (l_b ≤ 70) := by unfold Hid; omega
    have N_c : Hid (NumIn .u64 B64 wB a_c l_c c_c (z_c.take l_c)) := C_c.out.nat (by omega)
    have L_c : Hid (l_c ≤ 70) := by unfold Hid; omega
    clear hlong C_a le_a C_b le_b C_c le_c
    generalize z_a.take l_a = s_a at *
    have P_a : Hid (0 ≤ val B64 s_a) := val_nonneg B64_pos N_a.out.dg
    obtain ⟨A, V_a⟩ : ∃ X, Hid (val B64 s_a = X) := ⟨_, rfl⟩
    replace P_a : Hid (0 ≤ A) := by have := P_a.out; rw [V_a.out] at this; exact this
    generalize z_b.take l_b = s_b at *
    have P_b : Hid (0 ≤ val B64 s_b) := val_nonneg B64_pos N_b.out.dg
    obtain ⟨B, V_b⟩ : ∃ X, Hid (val B64 s_b = X) := ⟨_, rfl⟩
    replace P_b : Hid (0 ≤ B) := by have := P_b.out; rw [V_b.out] at this; exact this
    generalize z_c.take l_c = s_c at *
    have P_c : Hid (0 ≤ val B64 s_c) := val_nonneg B64_pos N_c.out.dg
    obtain ⟨C, V_c⟩ : ∃ X, Hid (val B64 s_c = X) := ⟨_, rfl⟩
    replace P_c : Hid (0 ≤ C) := by have := P_c.out; rw [V_c.out] at this; exact this
    obtain ⟨vAB, HAB, hAB0⟩ : ∃ v, Hid (cmpI (A + B) A = v) ∧ 0 ≤ v := ⟨_, rfl, by have := P_b.out; rcases cmpI_cases (A + B) A with ⟨e, h⟩ | ⟨e, h⟩ | ⟨e, h⟩ <;> omega⟩
    have hsum := cmpI_add A B C
    have hba := cmpI_swap A B
    obtain ⟨na, ena⟩ : ∃ n, Hid (lenOf s_a = n) := ⟨_, rfl⟩
    obtain ⟨nb, enb⟩ : ∃ n, Hid (lenOf s_b = n) := ⟨_, rfl⟩
    have hlen : A ≤ B → na ≤ nb := fun h => by
      rw [← ena.out, ← enb.out, lenOf_eq _ N_a.out.dg, lenOf_eq _ N_b.out.dg, V_a.out, V_b.out]
      exact blen_mono _ _ (by omega)
    have hEB : A = B → cmpI A C = cmpI B C := fun h => by rw [h]
    rcases cmpI_cases A B with ⟨e1, h1⟩ | ⟨e1, h1⟩ | ⟨e1, h1⟩
    · have E1 : Hid _ := e1
      have E4 : Hid _ := hba.trans (congrArg (fun z : Int => -z) e1)
      have E5 : Hid _ := hsum.trans e1
      replace hlen : na ≤ nb := hlen (by omega)
      rcases cmpI_cases B C with ⟨e2, h2⟩ | ⟨e2, h2⟩ | ⟨e2, h2⟩ <;> rcases cmpI_cases A C with ⟨e3, h3⟩ | ⟨e3, h3⟩ | ⟨e3, h3⟩
      all_goals try (exfalso; omega)
      all_goals
        have E2 : Hid _ := e2
        have E3 : Hid _ := e3
        clear e1 e2 e3 h1 h2 h3 hsum hba hEB
        go_wp2_with fail
        have HC := Cmp_any a_a a_b l_a c_a l_b c_b s_a s_b wB N_a.out N_b.out
        rw [V_a.out, V_b.out, E1.out] at HC
        refine HC.mono ?_
        rintro e w1 ⟨rfl, hd⟩
        replace BW : Hid (Below w.heap.size w w1) := BW.out.trans ((hd.below _).mono BW.out.size)
        replace N_a : Hid (NumIn _ _ _ _ _ _ _) := N_a.out.old (hd.below _)
        replace N_b : Hid (NumIn _ _ _ _ _ _ _) := N_b.out.old (hd.below _)
        replace N_c : Hid (NumIn _ _ _ _ _ _ _) := N_c.out.old (hd.below _)
        clear hd HC
        go_wp2_with fail
        have HC := Cmp_any a_b a_c l_b c_b l_c c_c s_b s_c w1 N_b.out N_c.out
        rw [V_b.out, V_c.out, E2.out] at HC
        refine HC.mono ?_
        rintro e w2 ⟨rfl, hd⟩
        replace BW : Hid (Below w.heap.size w w2) := BW.out.trans ((hd.below _).mono BW.out.size)
        replace N_a : Hid (NumIn _ _ _ _ _ _ _) := N_a.out.old (hd.below _)
        replace N_b : Hid (NumIn _ _ _ _ _ _ _) := N_b.out.old (hd.below _)
        replace N_c : Hid (NumIn _ _ _ _ _ _ _) := N_c.out.old (hd.below _)
        clear hd HC
        go_wp2_with fail
        have HC := Cmp_any a_a a_c l_a c_a l_c c_c s_a s_c w2 N_a.out N_c.out
        rw [V_a.out, V_c.out, E3.out] at HC
        refine HC.mono ?_
        rintro e w3 ⟨rfl, hd⟩
        replace BW : Hid (Below w.heap.size w w3) := BW.out.trans ((hd.below _).mono BW.out.size)
        replace N_a : Hid (NumIn _ _ _ _ _ _ _) := N_a.out.old (hd.below _)
        replace N_b : Hid (NumIn _ _ _ _ _ _ _) := N_b.out.old (hd.below _)
        replace N_c : Hid (NumIn _ _ _ _ _ _ _) := N_c.out.old (hd.below _)
        clear hd HC
        go_wp2_with fail
        have HC := Cmp_any a_b a_a l_b c_b l_a c_a s_b s_a w3 N_b.out N_a.out
        rw [V_b.out, V_a.out, E4.out] at HC
        refine HC.mono ?_
        rintro e w4 ⟨rfl, hd⟩
        replace BW : Hid (Below w.heap.size w w4) := BW.out.trans ((hd.below _).mono BW.out.size)
        replace N_a : Hid (NumIn _ _ _ _ _ _ _) := N_a.out.old (hd.below _)
        replace N_b : Hid (NumIn _ _ _ _ _ _ _) := N_b.out.old (hd.below _)
        replace N_c : Hid (NumIn _ _ _ _ _ _ _) := N_c.out.old (hd.below _)
        clear hd HC
        go_wp2_with fail
        have HC := Len_any a_a l_a c_a s_a w4 N_a.out
        rw [ena.out] at HC
        refine HC.mono ?_
        rintro e w5 ⟨rfl, rfl⟩
        clear HC
        go_wp2_with fail
        have HC := Len_any a_b l_b c_b s_b w5 N_b.out
        rw [enb.out] at HC
        refine HC.mono ?_
        rintro e w6 ⟨rfl, rfl⟩
        clear HC
        go_wp2_with fail
        have HC := Add_any a_a a_b l_a c_a l_b c_b s_a s_b w6 N_a.out N_b.out (by have := L_a.out; have := L_b.out; omega)
        refine HC.mono ?_
        rintro e w7 ⟨v, rfl, a_s1, l_s1, c_s1, s_s1, rfl, n_s1, k_s1, v_s1, b_s1, hb⟩
        replace BW : Hid (Below w.heap.size w w7) := BW.out.trans ((hb).mono BW.out.size)
        replace N_a : Hid (NumIn _ _ _ _ _ _ _) := N_a.out.old (hb)
        replace N_b : Hid (NumIn _ _ _ _ _ _ _) := N_b.out.old (hb)
        replace N_c : Hid (NumIn _ _ _ _ _ _ _) := N_c.out.old (hb)
        have N_s1 : Hid (NumIn _ _ _ _ _ _ _) := n_s1
        have V_s1 : Hid (val B64 s_s1 = A + B) := by unfold Hid; rw [v_s1]; rw [V_a.out, V_b.out]
        have L_s1 : Hid (l_s1 ≤ 71) := by unfold Hid; have := L_a.out; have := L_b.out; omega
        clear n_s1 v_s1 b_s1 hb HC
        go_wp2_with fail
        have HC := Cmp_any a_s1 a_a l_s1 c_s1 l_a c_a s_s1 s_a w7 N_s1.out N_a.out
        rw [V_s1.out, V_a.out, HAB.out] at HC
        refine HC.mono ?_
        rintro e w8 ⟨rfl, hd⟩
        replace BW : Hid (Below w.heap.size w w8) := BW.out.trans ((hd.below _).mono BW.out.size)
        replace N_a : Hid (NumIn _ _ _ _ _ _ _) := N_a.out.old (hd.below _)
        replace N_b : Hid (NumIn _ _ _ _ _ _ _) := N_b.out.old (hd.below _)
        replace N_c : Hid (NumIn _ _ _ _ _ _ _) := N_c.out.old (hd.below _)
        replace N_s1 : Hid (NumIn _ _ _ _ _ _ _) := N_s1.out.old (hd.below _)
        clear hd HC
        go_wp2_with fail
        have HC := Add_any a_a a_c l_a c_a l_c c_c s_a s_c w8 N_a.out N_c.out (by have := L_a.out; have := L_c.out; omega)
        refine HC.mono ?_
        rintro e w9 ⟨v, rfl, a_s2, l_s2, c_s2, s_s2, rfl, n_s2, k_s2, v_s2, b_s2, hb⟩
        replace BW : Hid (Below w.heap.size w w9) := BW.out.trans ((hb).mono BW.out.size)
        replace N_a : Hid (NumIn _ _ _ _ _ _ _) := N_a.out.old (hb)
        replace N_b : Hid (NumIn _ _ _ _ _ _ _) := N_b.out.old (hb)
        replace N_c : Hid (NumIn _ _ _ _ _ _ _) := N_c.out.old (hb)
        replace N_s1 : Hid (NumIn _ _ _ _ _ _ _) := N_s1.out.old (hb)
        have N_s2 : Hid (NumIn _ _ _ _ _ _ _) := n_s2
        have V_s2 : Hid (val B64 s_s2 = A + C) := by unfold Hid; rw [v_s2]; rw [V_a.out, V_c.out]
        have L_s2 : Hid (l_s2 ≤ 71) := by unfold Hid; have := L_a.out; have := L_c.out; omega
        clear n_s2 v_s2 b_s2 hb HC
        go_wp2_with fail
        have HC := Add_any a_b a_c l_b c_b l_c c_c s_b s_c w9 N_b.out N_c.out (by have := L_b.out; have := L_c.out; omega)
        refine HC.mono ?_
        rintro e w10 ⟨v, rfl, a_s3, l_s3, c_s3, s_s3, rfl, n_s3, k_s3, v_s3, b_s3, hb⟩
        replace BW : Hid (Below w.heap.size w w10) := BW.out.trans ((hb).mono BW.out.size)
        replace N_a : Hid (NumIn _ _ _ _ _ _ _) := N_a.out.old (hb)
        replace N_b : Hid (NumIn _ _ _ _ _ _ _) := N_b.out.old (hb)
        replace N_c : Hid (NumIn _ _ _ _ _ _ _) := N_c.out.old (hb)
        replace N_s1 : Hid (NumIn _ _ _ _ _ _ _) := N_s1.out.old (hb)
        replace N_s2 : Hid (NumIn _ _ _ _ _ _ _) := N_s2.out.old (hb)
        have N_s3 : Hid (NumIn _ _ _ _ _ _ _) := n_s3
        have V_s3 : Hid (val B64 s_s3 = B + C) := by unfold Hid; rw [v_s3]; rw [V_b.out, V_c.out]
        have L_s3 : Hid (l_s3 ≤ 71) := by unfold Hid; have := L_b.out; have := L_c.out; omega
        clear n_s3 v_s3 b_s3 hb HC
        go_wp2_with fail
        have HC := Cmp_any a_s2 a_s3 l_s2 c_s2 l_s3 c_s3 s_s2 s_s3 w10 N_s2.out N_s3.out
        rw [V_s2.out, V_s3.out, E5.out] at HC
        refine HC.mono ?_
        rintro e w11 ⟨rfl, hd⟩
        replace BW : Hid (Below w.heap.size w w11) := BW.out.trans ((hd.below _).mono BW.out.size)
        replace N_a : Hid (NumIn _ _ _ _ _ _ _) := N_a.out.old (hd.below _)
        replace N_b : Hid (NumIn _ _ _ _ _ _ _) := N_b.out.old (hd.below _)
        replace N_c : Hid (NumIn _ _ _ _ _ _ _) := N_c.out.old (hd.below _)
        replace N_s1 : Hid (NumIn _ _ _ _ _ _ _) := N_s1.out.old (hd.below _)
        replace N_s2 : Hid (NumIn _ _ _ _ _ _ _) := N_s2.out.old (hd.below _)
        replace N_s3 : Hid (NumIn _ _ _ _ _ _ _) := N_s3.out.old (hd.below _)
        clear hd HC
        clear N_a N_b N_c N_s1 N_s2 N_s3
        go_wp2
        go_ret
        exact ⟨rfl, BW.out⟩
    · have E1 : Hid _ := e1
      have E4 : Hid _ := hba.trans (congrArg (fun z : Int => -z) e1)
      have E5 : Hid _ := hsum.trans e1
      replace hlen : na ≤ nb := hlen (by omega)
      rcases cmpI_cases B C with ⟨e2, h2⟩ | ⟨e2, h2⟩ | ⟨e2, h2⟩ <;> rcases cmpI_cases A C with ⟨e3, h3⟩ | ⟨e3, h3⟩ | ⟨e3, h3⟩
      all_goals try (exfalso; omega)
      all_goals
        have E2 : Hid _ := e2
        have E3 : Hid _ := e3
        clear e1 e2 e3 h1 h2 h3 hsum hba hEB
        go_wp2_with fail
        have HC := Cmp_any a_a a_b l_a c_a l_b c_b s_a s_b wB N_a.out N_b.out
        rw [V_a.out, V_b.out, E1.out] at HC
        refine HC.mono ?_
        rintro e w1 ⟨rfl, hd⟩
        replace BW : Hid (Below w.heap.size w w1) := BW.out.trans ((hd.below _).mono BW.out.size)
        replace N_a : Hid (NumIn _ _ _ _ _ _ _) := N_a.out.old (hd.below _)
        replace N_b : Hid (NumIn _ _ _ _ _ _ _) := N_b.out.old (hd.below _)
        replace N_c : Hid (NumIn _ _ _ _ _ _ _) := N_c.out.old (hd.below _)
        clear hd HC
        go_wp2_with fail
        have HC := Cmp_any a_b a_c l_b c_b l_c c_c s_b s_c w1 N_b.out N_c.out
        rw [V_b.out, V_c.out, E2.out] at HC
        refine HC.mono ?_
        rintro e w2 ⟨rfl, hd⟩
        replace BW : Hid (Below w.heap.size w w2) := BW.out.trans ((hd.below _).mono BW.out.size)
        replace N_a : Hid (NumIn _ _ _ _ _ _ _) := N_a.out.old (hd.below _)
        replace N_b : Hid (NumIn _ _ _ _ _ _ _) := N_b.out.old (hd.below _)
        replace N_c : Hid (NumIn _ _ _ _ _ _ _) := N_c.out.old (hd.below _)
        clear hd HC
        go_wp2_with fail
        have HC := Cmp_any a_a a_c l_a c_a l_c c_c s_a s_c w2 N_a.out N_c.out
        rw [V_a.out, V_c.out, E3.out] at HC
        refine HC.mono ?_
        rintro e w3 ⟨rfl, hd⟩
        replace BW : Hid (Below w.heap.size w w3) := BW.out.trans ((hd.below _).mono BW.out.size)
        replace N_a : Hid (NumIn _ _ _ _ _ _ _) := N_a.out.old (hd.below _)
        replace N_b : Hid (NumIn _ _ _ _ _ _ _) := N_b.out.old (hd.below _)
        replace N_c : Hid (NumIn _ _ _ _ _ _ _) := N_c.out.old (hd.below _)
        clear hd HC
        go_wp2_with fail
        have HC := Cmp_any a_b a_a l_b c_b l_a c_a s_b s_a w3 N_b.out N_a.out
        rw [V_b.out, V_a.out, E4.out] at HC
        refine HC.mono ?_
        rintro e w4 ⟨rfl, hd⟩
        replace BW : Hid (Below w.heap.size w w4) := BW.out.trans ((hd.below _).mono BW.out.size)
        replace N_a : Hid (NumIn _ _ _ _ _ _ _) := N_a.out.old (hd.below _)
        replace N_b : Hid (NumIn _ _ _ _ _ _ _) := N_b.out.old (hd.below _)
        replace N_c : Hid (NumIn _ _ _ _ _ _ _) := N_c.out.old (hd.below _)
        clear hd HC
        go_wp2_with fail
        have HC := Len_any a_a l_a c_a s_a w4 N_a.out
        rw [ena.out] at HC
        refine HC.mono ?_
        rintro e w5 ⟨rfl, rfl⟩
        clear HC
        go_wp2_with fail
        have HC := Len_any a_b l_b c_b s_b w5 N_b.out
        rw [enb.out] at HC
        refine HC.mono ?_
        rintro e w6 ⟨rfl, rfl⟩
        clear HC
        go_wp2_with fail
        have HC := Add_any a_a a_b l_a c_a l_b c_b s_a s_b w6 N_a.out N_b.out (by have := L_a.out; have := L_b.out; omega)
        refine HC.mono ?_
        rintro e w7 ⟨v, rfl, a_s1, l_s1, c_s1, s_s1, rfl, n_s1, k_s1, v_s1, b_s1, hb⟩
        replace BW : Hid (Below w.heap.size w w7) := BW.out.trans ((hb).mono BW.out.size)
        replace N_a : Hid (NumIn _ _ _ _ _ _ _) := N_a.out.old (hb)
        replace N_b : Hid (NumIn _ _ _ _ _ _ _) := N_b.out.old (hb)
        replace N_c : Hid (NumIn _ _ _ _ _ _ _) := N_c.out.old (hb)
        have N_s1 : Hid (NumIn _ _ _ _ _ _ _) := n_s1
        have V_s1 : Hid (val B64 s_s1 = A + B) := by unfold Hid; rw [v_s1]; rw [V_a.out, V_b.out]
        have L_s1 : Hid (l_s1 ≤ 71) := by unfold Hid; have := L_a.out; have := L_b.out; omega
        clear n_s1 v_s1 b_s1 hb HC
        go_wp2_with fail
        have HC := Cmp_any a_s1 a_a l_s1 c_s1 l_a c_a s_s1 s_a w7 N_s1.out N_a.out
        rw [V_s1.out, V_a.out, HAB.out] at HC
        refine HC.mono ?_
        rintro e w8 ⟨rfl, hd⟩
        replace BW : Hid (Below w.heap.size w w8) := BW.out.trans ((hd.below _).mono BW.out.size)
        replace N_a : Hid (NumIn _ _ _ _ _ _ _) := N_a.out.old (hd.below _)
        replace N_b : Hid (NumIn _ _ _ _ _ _ _) := N_b.out.old (hd.below _)
        replace N_c : Hid (NumIn _ _ _ _ _ _ _) := N_c.out.old (hd.below _)
        replace N_s1 : Hid (NumIn _ _ _ _ _ _ _) := N_s1.out.old (hd.below _)
        clear hd HC
        go_wp2_with fail
        have HC := Add_any a_a a_c l_a c_a l_c c_c s_a s_c w8 N_a.out N_c.out (by have := L_a.out; have := L_c.out; omega)
        refine HC.mono ?_
        rintro e w9 ⟨v, rfl, a_s2, l_s2, c_s2, s_s2, rfl, n_s2, k_s2, v_s2, b_s2, hb⟩
        replace BW : Hid (Below w.heap.size w w9) := BW.out.trans ((hb).mono BW.out.size)
        replace N_a : Hid (NumIn _ _ _ _ _ _ _) := N_a.out.old (hb)
        replace N_b : Hid (NumIn _ _ _ _ _ _ _) := N_b.out.old (hb)
        replace N_c : Hid (NumIn _ _ _ _ _ _ _) := N_c.out.old (hb)
        replace N_s1 : Hid (NumIn _ _ _ _ _ _ _) := N_s1.out.old (hb)
        have N_s2 : Hid (NumIn _ _ _ _ _ _ _) := n_s2
        have V_s2 : Hid (val B64 s_s2 = A + C) := by unfold Hid; rw [v_s2]; rw [V_a.out, V_c.out]
        have L_s2 : Hid (l_s2 ≤ 71) := by unfold Hid; have := L_a.out; have := L_c.out; omega
        clear n_s2 v_s2 b_s2 hb HC
        go_wp2_with fail
        have HC := Add_any a_b a_c l_b c_b l_c c_c s_b s_c w9 N_b.out N_c.out (by have := L_b.out; have := L_c.out; omega)
        refine HC.mono ?_
        rintro e w10 ⟨v, rfl, a_s3, l_s3, c_s3, s_s3, rfl, n_s3, k_s3, v_s3, b_s3, hb⟩
        replace BW : Hid (Below w.heap.size w w10) := BW.out.trans ((hb).mono BW.out.size)
        replace N_a : Hid (NumIn _ _ _ _ _ _ _) := N_a.out.old (hb)
        replace N_b : Hid (NumIn _ _ _ _ _ _ _) := N_b.out.old (hb)
        replace N_c : Hid (NumIn _ _ _ _ _ _ _) := N_c.out.old (hb)
        replace N_s1 : Hid (NumIn _ _ _ _ _ _ _) := N_s1.out.old (hb)
        replace N_s2 : Hid (NumIn _ _ _ _ _ _ _) := N_s2.out.old (hb)
        have N_s3 : Hid (NumIn _ _ _ _ _ _ _) := n_s3
        have V_s3 : Hid (val B64 s_s3 = B + C) := by unfold Hid; rw [v_s3]; rw [V_b.out, V_c.out]
        have L_s3 : Hid (l_s3 ≤ 71) := by unfold Hid; have := L_b.out; have := L_c.out; omega
        clear n_s3 v_s3 b_s3 hb HC
        go_wp2_with fail
        have HC := Cmp_any a_s2 a_s3 l_s2 c_s2 l_s3 c_s3 s_s2 s_s3 w10 N_s2.out N_s3.out
        rw [V_s2.out, V_s3.out, E5.out] at HC
        refine HC.mono ?_
        rintro e w11 ⟨rfl, hd⟩
        replace BW : Hid (Below w.heap.size w w11) := BW.out.trans ((hd.below _).mono BW.out.size)
        replace N_a : Hid (NumIn _ _ _ _ _ _ _) := N_a.out.old (hd.below _)
        replace N_b : Hid (NumIn _ _ _ _ _ _ _) := N_b.out.old (hd.below _)
        replace N_c : Hid (NumIn _ _ _ _ _ _ _) := N_c.out.old (hd.below _)
        replace N_s1 : Hid (NumIn _ _ _ _ _ _ _) := N_s1.out.old (hd.below _)
        replace N_s2 : Hid (NumIn _ _ _ _ _ _ _) := N_s2.out.old (hd.below _)
        replace N_s3 : Hid (NumIn _ _ _ _ _ _ _) := N_s3.out.old (hd.below _)
        clear hd HC
        clear N_a N_b N_c N_s1 N_s2 N_s3
        go_wp2
        go_ret
        exact ⟨rfl, BW.out⟩
    · have E1 : Hid _ := e1
      have E4 : Hid _ := hba.trans (congrArg (fun z : Int => -z) e1)
      have E5 : Hid _ := hsum.trans e1
      clear hlen
      rcases cmpI_cases B C with ⟨e2, h2⟩ | ⟨e2, h2⟩ | ⟨e2, h2⟩ <;> rcases cmpI_cases A C with ⟨e3, h3⟩ | ⟨e3, h3⟩ | ⟨e3, h3⟩
      all_goals try (exfalso; omega)
      all_goals
        have E2 : Hid _ := e2
        have E3 : Hid _ := e3
        clear e1 e2 e3 h1 h2 h3 hsum hba hEB
        go_wp2_with fail
        have HC := Cmp_any a_a a_b l_a c_a l_b c_b s_a s_b wB N_a.out N_b.out
        rw [V_a.out, V_b.out, E1.out] at HC
        refine HC.mono ?_
        rintro e w1 ⟨rfl, hd⟩
        replace BW : Hid (Below w.heap.size w w1) := BW.out.trans ((hd.below _).mono BW.out.size)
        replace N_a : Hid (NumIn _ _ _ _ _ _ _) := N_a.out.old (hd.below _)
        replace N_b : Hid (NumIn _ _ _ _ _ _ _) := N_b.out.old (hd.below _)
        replace N_c : Hid (NumIn _ _ _ _ _ _ _) := N_c.out.old (hd.below _)
        clear hd HC
        go_wp2_with fail
        have HC := Cmp_any a_b a_c l_b c_b l_c c_c s_b s_c w1 N_b.out N_c.out
        rw [V_b.out, V_c.out, E2.out] at HC
        refine HC.mono ?_
        rintro e w2 ⟨rfl, hd⟩
        replace BW : Hid (Below w.heap.size w w2) := BW.out.trans ((hd.below _).mono BW.out.size)
        replace N_a : Hid (NumIn _ _ _ _ _ _ _) := N_a.out.old (hd.below _)
        replace N_b : Hid (NumIn _ _ _ _ _ _ _) := N_b.out.old (hd.below _)
        replace N_c : Hid (NumIn _ _ _ _ _ _ _) := N_c.out.old (hd.below _)
        clear hd HC
        go_wp2_with fail
        have HC := Cmp_any a_a a_c l_a c_a l_c c_c s_a s_c w2 N_a.out N_c.out
        rw [V_a.out, V_c.out, E3.out] at HC
        refine HC.mono ?_
        rintro e w3 ⟨rfl, hd⟩
        replace BW : Hid (Below w.heap.size w w3) := BW.out.trans ((hd.below _).mono BW.out.size)
        replace N_a : Hid (NumIn _ _ _ _ _ _ _) := N_a.out.old (hd.below _)
        replace N_b : Hid (NumIn _ _ _ _ _ _ _) := N_b.out.old (hd.below _)
        replace N_c : Hid (NumIn _ _ _ _ _ _ _) := N_c.out.old (hd.below _)
        clear hd HC
        go_wp2_with fail
        have HC := Cmp_any a_b a_a l_b c_b l_a c_a s_b s_a w3 N_b.out N_a.out
        rw [V_b.out, V_a.out, E4.out] at HC
        refine HC.mono ?_
        rintro e w4 ⟨rfl, hd⟩
        replace BW : Hid (Below w.heap.size w w4) := BW.out.trans ((hd.below _).mono BW.out.size)
        replace N_a : Hid (NumIn _ _ _ _ _ _ _) := N_a.out.old (hd.below _)
        replace N_b : Hid (NumIn _ _ _ _ _ _ _) := N_b.out.old (hd.below _)
        replace N_c : Hid (NumIn _ _ _ _ _ _ _) := N_c.out.old (hd.below _)
        clear hd HC
        go_wp2_with fail
        have HC := Add_any a_a a_b l_a c_a l_b c_b s_a s_b w4 N_a.out N_b.out (by have := L_a.out; have := L_b.out; omega)
        refine HC.mono ?_
        rintro e w5 ⟨v, rfl, a_s1, l_s1, c_s1, s_s1, rfl, n_s1, k_s1, v_s1, b_s1, hb⟩
        replace BW : Hid (Below w.heap.size w w5) := BW.out.trans ((hb).mono BW.out.size)
        replace N_a : Hid (NumIn _ _ _ _ _ _ _) := N_a.out.old (hb)
        replace N_b : Hid (NumIn _ _ _ _ _ _ _) := N_b.out.old (hb)
        replace N_c : Hid (NumIn _ _ _ _ _ _ _) := N_c.out.old (hb)
        have N_s1 : Hid (NumIn _ _ _ _ _ _ _) := n_s1
        have V_s1 : Hid (val B64 s_s1 = A + B) := by unfold Hid; rw [v_s1]; rw [V_a.out, V_b.out]
        have L_s1 : Hid (l_s1 ≤ 71) := by unfold Hid; have := L_a.out; have := L_b.out; omega
        clear n_s1 v_s1 b_s1 hb HC
        go_wp2_with fail
        have HC := Cmp_any a_s1 a_a l_s1 c_s1 l_a c_a s_s1 s_a w5 N_s1.out N_a.out
        rw [V_s1.out, V_a.out, HAB.out] at HC
        refine HC.mono ?_
        rintro e w6 ⟨rfl, hd⟩
        replace BW : Hid (Below w.heap.size w w6) := BW.out.trans ((hd.below _).mono BW.out.size)
        replace N_a : Hid (NumIn _ _ _ _ _ _ _) := N_a.out.old (hd.below _)
        replace N_b : Hid (NumIn _ _ _ _ _ _ _) := N_b.out.old (hd.below _)
        replace N_c : Hid (NumIn _ _ _ _ _ _ _) := N_c.out.old (hd.below _)
        replace N_s1 : Hid (NumIn _ _ _ _ _ _ _) := N_s1.out.old (hd.below _)
        clear hd HC
        go_wp2_with fail
        have HC := Add_any a_a a_c l_a c_a l_c c_c s_a s_c w6 N_a.out N_c.out (by have := L_a.out; have := L_c.out; omega)
        refine HC.mono ?_
        rintro e w7 ⟨v, rfl, a_s2, l_s2, c_s2, s_s2, rfl, n_s2, k_s2, v_s2, b_s2, hb⟩
        replace BW : Hid (Below w.heap.size w w7) := BW.out.trans ((hb).mono BW.out.size)
        replace N_a : Hid (NumIn _ _ _ _ _ _ _) := N_a.out.old (hb)
        replace N_b : Hid (NumIn _ _ _ _ _ _ _) := N_b.out.old (hb)
        replace N_c : Hid (NumIn _ _ _ _ _ _ _) := N_c.out.old (hb)
        replace N_s1 : Hid (NumIn _ _ _ _ _ _ _) := N_s1.out.old (hb)
        have N_s2 : Hid (NumIn _ _ _ _ _ _ _) := n_s2
        have V_s2 : Hid (val B64 s_s2 = A + C) := by unfold Hid; rw [v_s2]; rw [V_a.out, V_c.out]
        have L_s2 : Hid (l_s2 ≤ 71) := by unfold Hid; have := L_a.out; have := L_c.out; omega
        clear n_s2 v_s2 b_s2 hb HC
        go_wp2_with fail
        have HC := Add_any a_b a_c l_b c_b l_c c_c s_b s_c w7 N_b.out N_c.out (by have := L_b.out; have := L_c.out; omega)
        refine HC.mono ?_
        rintro e w8 ⟨v, rfl, a_s3, l_s3, c_s3, s_s3, rfl, n_s3, k_s3, v_s3, b_s3, hb⟩
        replace BW : Hid (Below w.heap.size w w8) := BW.out.trans ((hb).mono BW.out.size)
        replace N_a : Hid (NumIn _ _ _ _ _ _ _) := N_a.out.old (hb)
        replace N_b : Hid (NumIn _ _ _ _ _ _ _) := N_b.out.old (hb)
        replace N_c : Hid (NumIn _ _ _ _ _ _ _) := N_c.out.old (hb)
        replace N_s1 : Hid (NumIn _ _ _ _ _ _ _) := N_s1.out.old (hb)
        replace N_s2 : Hid (NumIn _ _ _ _ _ _ _) := N_s2.out.old (hb)
        have N_s3 : Hid (NumIn _ _ _ _ _ _ _) := n_s3
        have V_s3 : Hid (val B64 s_s3 = B + C) := by unfold Hid; rw [v_s3]; rw [V_b.out, V_c.out]
        have L_s3 : Hid (l_s3 ≤ 71) := by unfold Hid; have := L_b.out; have := L_c.out; omega
        clear n_s3 v_s3 b_s3 hb HC
        go_wp2_with fail
        have HC := Cmp_any a_s2 a_s3 l_s2 c_s2 l_s3 c_s3 s_s2 s_s3 w8 N_s2.out N_s3.out
        rw [V_s2.out, V_s3.out, E5.out] at HC
        refine HC.mono ?_
        rintro e w9 ⟨rfl, hd⟩
        replace BW : Hid (Below w.heap.size w w9) := BW.out.trans ((hd.below _).mono BW.out.size)
        replace N_a : Hid (NumIn _ _ _ _ _ _ _) := N_a.out.old (hd.below _)
        replace N_b : Hid (NumIn _ _ _ _ _ _ _) := N_b.out.old (hd.below _)
        replace N_c : Hid (NumIn _ _ _ _ _ _ _) := N_c.out.old (hd.below _)
        replace N_s1 : Hid (NumIn _ _ _ _ _ _ _) := N_s1.out.old (hd.below _)
        replace N_s2 : Hid (NumIn _ _ _ _ _ _ _) := N_s2.out.old (hd.below _)
        replace N_s3 : Hid (NumIn _ _ _ _ _ _ _) := N_s3.out.old (hd.below _)
        clear hd HC
        clear N_a N_b N_c N_s1 N_s2 N_s3
        go_wp2
        go_ret
        exact ⟨rfl, BW.out⟩
end Go.Proofs.Ytiijnenbfhhdiac
