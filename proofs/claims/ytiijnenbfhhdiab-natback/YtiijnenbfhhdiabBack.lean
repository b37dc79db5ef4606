/-
  The walk of NatBack.
-/
import Derived.Test.YtiijnenbfhhdiabLaw0
namespace Go.Proofs.Ytiijnenbfhhdiab
open Go.RowKit
set_option linter.unusedVariables false
set_option linter.unusedSimpArgs false

set_option maxHeartbeats 4000000 in
/-- What is divided, multiplied again, with what is left, is what it was. -/
theorem NatBack_walk (a_a : Option Addr) (l_a c_a : Nat) (z_a : List Int) (a_b : Option Addr) (l_b c_b : Nat) (z_b : List Int) (w : World) (came_a : Came .u64 w a_a l_a c_a z_a) (came_b : Came .u64 w a_b l_b c_b z_b) :
    Calls Try.prog 3 #[.slice a_a l_a c_a, .slice a_b l_b c_b] w fun e w' => e = .returned (.bool true) ∧ Below w.heap.size w w' := by
  have le_a := came_a.le
  have le_b := came_b.le
  have C_a : Hid (Came .u64 w a_a l_a c_a z_a) := came_a
  have C_b : Hid (Came .u64 w a_b l_b c_b z_b) := came_b
  clear came_a came_b
  by_cases hlong : 70 < l_a ∨ 70 < l_b
  · go_enter Try.func3, Try.ntmps3
    go_wp2_with fail
    refine (Awake_any w).mono ?_
    rintro e wA ⟨rfl, hb⟩
    have BW : Hid (Below w.heap.size w wA) := hb
    replace C_a : Hid (Came .u64 wA a_a l_a c_a z_a) := C_a.out.old hb
    replace C_b : Hid (Came .u64 wA a_b l_b c_b z_b) := C_b.out.old hb
    clear hb
    have HC := long2 a_a a_b l_a c_a l_b c_b wA le_a le_b
    rw [decide_eq_true hlong] at HC
    go_wp2_with fail
    refine HC.mono ?_
    rintro e wB ⟨rfl, hb⟩
    replace BW : Hid (Below w.heap.size w wB) := BW.out.trans (hb.mono BW.out.size)
    replace C_a : Hid (Came .u64 wB a_a l_a c_a z_a) := C_a.out.old hb
    replace C_b : Hid (Came .u64 wB a_b l_b c_b z_b) := C_b.out.old hb
    clear hb HC
    clear C_a C_b
    go_wp2
    go_ret
    exact ⟨rfl, BW.out⟩
  · go_enter Try.func3, Try.ntmps3
    go_wp2_with fail
    refine (Awake_any w).mono ?_
    rintro e wA ⟨rfl, hb⟩
    have BW : Hid (Below w.heap.size w wA) := hb
    replace C_a : Hid (Came .u64 wA a_a l_a c_a z_a) := C_a.out.old hb
    replace C_b : Hid (Came .u64 wA a_b l_b c_b z_b) := C_b.out.old hb
    clear hb
    have HC := long2 a_a a_b l_a c_a l_b c_b wA le_a le_b
    rw [decide_eq_false hlong] at HC
    go_wp2_with fail
    refine HC.mono ?_
    rintro e wB ⟨rfl, hb⟩
    replace BW : Hid (Below w.heap.size w wB) := BW.out.trans (hb.mono BW.out.size)
    replace C_a : Hid (Came .u64 wB a_a l_a c_a z_a) := C_a.out.old hb
    replace C_b : Hid (Came .u64 wB a_b l_b c_b z_b) := C_b.out.old hb
    clear hb HC
    have N_a : Hid (NumIn .u64 B64 wB a_a l_a c_a (z_a.take l_a)) := C_a.out.nat (by omega)
    have L_a : Hid (l_a ≤ 70) := by unfold Hid; omega
    have N_b : Hid (NumIn .u64 B64 wB a_b l_b c_b (z_b.take l_b)) := C_b.out.nat (by omega)
    have L_b : Hid (l_b ≤ 70) := by unfold Hid; omega
    clear hlong C_a le_a C_b le_b
    generalize z_a.take l_a = s_a at *
    have P_a : Hid (0 ≤ val B64 s_a) := val_nonneg B64_pos N_a.out.dg
    obtain ⟨A, V_a⟩ : ∃ X, Hid (val B64 s_a = X) := ⟨_, rfl⟩
    replace P_a : Hid (0 ≤ A) := by have := P_a.out; rw [V_a.out] at this; exact this
    generalize z_b.take l_b = s_b at *
    have P_b : Hid (0 ≤ val B64 s_b) := val_nonneg B64_pos N_b.out.dg
    obtain ⟨B, V_b⟩ : ∃ X, Hid (val B64 s_b = X) := ⟨_, rfl⟩
    replace P_b : Hid (0 ≤ B) := by have := P_b.out; rw [V_b.out] at this; exact this
    by_cases hB0 : B = 0
    · have HC := Len_any a_b l_b c_b s_b wB N_b.out
      rw [show lenOf s_b = 0 from by rw [lenOf_eq _ N_b.out.dg, V_b.out, hB0]; rfl] at HC
      clear N_a N_b V_a V_b P_a P_b hB0
      go_wp2_with fail
      refine HC.mono ?_
      rintro e wC ⟨rfl, rfl⟩
      go_wp2
      go_ret
      exact ⟨rfl, BW.out⟩
    have HC := Len_any a_b l_b c_b s_b wB N_b.out
    obtain ⟨nb, hnb, hnz⟩ : ∃ nb : Nat, lenOf s_b = nb ∧ nb ≠ 0 := ⟨_, rfl, by rw [lenOf_eq _ N_b.out.dg, V_b.out]; have := blen_pos B.toNat (by have := P_b.out; omega); omega⟩
    rw [hnb] at HC
    have hnz' : ((nb : Int) == 0) = false := by simp; omega
    have HBP : Hid (0 < B) := by have := P_b.out; unfold Hid; omega
    clear hnb hnz hB0
    go_wp2_with fail
    refine HC.mono ?_
    rintro e wC ⟨rfl, rfl⟩
    clear HC
    go_wp2_with fail
    have HC := Div_any a_a a_b l_a c_a l_b c_b s_a s_b wC N_a.out N_b.out (by rw [V_b.out]; have := HBP.out; omega) (by have := L_a.out; have := L_b.out; omega)
    refine HC.mono ?_
    rintro e w1 ⟨vq, vr, rfl, ⟨a_q, l_q, c_q, s_q, rfl, n_q, k_q, v_q, b_q, hb⟩, ⟨a_r, l_r, c_r, s_r, rfl, n_r, k_r, v_r, b_r, hb'⟩⟩
    replace BW : Hid (Below w.heap.size w w1) := BW.out.trans ((hb).mono BW.out.size)
    replace N_a : Hid (NumIn _ _ _ _ _ _ _) := N_a.out.old (hb)
    replace N_b : Hid (NumIn _ _ _ _ _ _ _) := N_b.out.old (hb)
    have N_q : Hid (NumIn _ _ _ _ _ _ _) := n_q
    have V_q : Hid (val B64 s_q = A / B) := by unfold Hid; rw [v_q]; rw [V_a.out, V_b.out]
    have L_q : Hid (l_q ≤ 71) := by unfold Hid; have := L_a.out; have := L_b.out; omega
    have N_r : Hid (NumIn _ _ _ _ _ _ _) := n_r
    have V_r : Hid (val B64 s_r = A % B) := by unfold Hid; rw [v_r]; rw [V_a.out, V_b.out]
    have L_r : Hid (l_r ≤ 71) := by unfold Hid; have := L_a.out; have := L_b.out; omega
    clear n_q v_q b_q n_r v_r b_r hb hb' HC
    go_wp2_with fail
    have HC := Mul_any a_a a_b l_a c_a l_b c_b s_a s_b w1 N_a.out N_b.out (by have := L_a.out; have := L_b.out; omega)
    refine HC.mono ?_
    rintro e w2 ⟨v, rfl, a_m, l_m, c_m, s_m, rfl, n_m, k_m, v_m, b_m, hb⟩
    replace BW : Hid (Below w.heap.size w w2) := BW.out.trans ((hb).mono BW.out.size)
    replace N_a : Hid (NumIn _ _ _ _ _ _ _) := N_a.out.old (hb)
    replace N_b : Hid (NumIn _ _ _ _ _ _ _) := N_b.out.old (hb)
    replace N_q : Hid (NumIn _ _ _ _ _ _ _) := N_q.out.old (hb)
    replace N_r : Hid (NumIn _ _ _ _ _ _ _) := N_r.out.old (hb)
    have N_m : Hid (NumIn _ _ _ _ _ _ _) := n_m
    have V_m : Hid (val B64 s_m = A * B) := by unfold Hid; rw [v_m]; rw [V_a.out, V_b.out]
    have L_m : Hid (l_m ≤ 140) := by unfold Hid; have := L_a.out; have := L_b.out; omega
    clear n_m v_m b_m hb HC
    go_wp2_with fail
    have HC := Div_any a_m a_b l_m c_m l_b c_b s_m s_b w2 N_m.out N_b.out (by rw [V_b.out]; have := HBP.out; omega) (by have := L_m.out; have := L_b.out; omega)
    refine HC.mono ?_
    rintro e w3 ⟨vq, vr, rfl, ⟨a_p, l_p, c_p, s_p, rfl, n_p, k_p, v_p, b_p, hb⟩, ⟨a_t, l_t, c_t, s_t, rfl, n_t, k_t, v_t, b_t, hb'⟩⟩
    replace BW : Hid (Below w.heap.size w w3) := BW.out.trans ((hb).mono BW.out.size)
    replace N_a : Hid (NumIn _ _ _ _ _ _ _) := N_a.out.old (hb)
    replace N_b : Hid (NumIn _ _ _ _ _ _ _) := N_b.out.old (hb)
    replace N_q : Hid (NumIn _ _ _ _ _ _ _) := N_q.out.old (hb)
    replace N_r : Hid (NumIn _ _ _ _ _ _ _) := N_r.out.old (hb)
    replace N_m : Hid (NumIn _ _ _ _ _ _ _) := N_m.out.old (hb)
    have N_p : Hid (NumIn _ _ _ _ _ _ _) := n_p
    have V_p : Hid (val B64 s_p = A) := by unfold Hid; rw [v_p]; rw [V_m.out, V_b.out]; exact Int.mul_ediv_cancel _ (by have := HBP.out; omega)
    have L_p : Hid (l_p ≤ 141) := by unfold Hid; have := L_m.out; have := L_b.out; omega
    have N_t : Hid (NumIn _ _ _ _ _ _ _) := n_t
    have V_t : Hid (val B64 s_t = 0) := by unfold Hid; rw [v_t]; rw [V_m.out, V_b.out]; exact Int.mul_emod_left _ _
    have L_t : Hid (l_t ≤ 141) := by unfold Hid; have := L_m.out; have := L_b.out; omega
    clear n_p v_p b_p n_t v_t b_t hb hb' HC
    go_wp2_with fail
    have HC := Mul_any a_q a_b l_q c_q l_b c_b s_q s_b w3 N_q.out N_b.out (by have := L_q.out; have := L_b.out; omega)
    refine HC.mono ?_
    rintro e w4 ⟨v, rfl, a_x, l_x, c_x, s_x, rfl, n_x, k_x, v_x, b_x, hb⟩
    replace BW : Hid (Below w.heap.size w w4) := BW.out.trans ((hb).mono BW.out.size)
    replace N_a : Hid (NumIn _ _ _ _ _ _ _) := N_a.out.old (hb)
    replace N_b : Hid (NumIn _ _ _ _ _ _ _) := N_b.out.old (hb)
    replace N_q : Hid (NumIn _ _ _ _ _ _ _) := N_q.out.old (hb)
    replace N_r : Hid (NumIn _ _ _ _ _ _ _) := N_r.out.old (hb)
    replace N_m : Hid (NumIn _ _ _ _ _ _ _) := N_m.out.old (hb)
    replace N_p : Hid (NumIn _ _ _ _ _ _ _) := N_p.out.old (hb)
    replace N_t : Hid (NumIn _ _ _ _ _ _ _) := N_t.out.old (hb)
    have N_x : Hid (NumIn _ _ _ _ _ _ _) := n_x
    have V_x : Hid (val B64 s_x = A / B * B) := by unfold Hid; rw [v_x]; rw [V_q.out, V_b.out]
    have L_x : Hid (l_x ≤ 141) := by unfold Hid; have := L_q.out; have := L_b.out; omega
    clear n_x v_x b_x hb HC
    go_wp2_with fail
    have HC := Add_any a_x a_r l_x c_x l_r c_r s_x s_r w4 N_x.out N_r.out (by have := L_x.out; have := L_r.out; omega)
    refine HC.mono ?_
    rintro e w5 ⟨v, rfl, a_u, l_u, c_u, s_u, rfl, n_u, k_u, v_u, b_u, hb⟩
    replace BW : Hid (Below w.heap.size w w5) := BW.out.trans ((hb).mono BW.out.size)
    replace N_a : Hid (NumIn _ _ _ _ _ _ _) := N_a.out.old (hb)
    replace N_b : Hid (NumIn _ _ _ _ _ _ _) := N_b.out.old (hb)
    replace N_q : Hid (NumIn _ _ _ _ _ _ _) := N_q.out.old (hb)
    replace N_r : Hid (NumIn _ _ _ _ _ _ _) := N_r.out.old (hb)
    replace N_m : Hid (NumIn _ _ _ _ _ _ _) := N_m.out.old (hb)
    replace N_p : Hid (NumIn _ _ _ _ _ _ _) := N_p.out.old (hb)
    replace N_t : Hid (NumIn _ _ _ _ _ _ _) := N_t.out.old (hb)
    replace N_x : Hid (NumIn _ _ _ _ _ _ _) := N_x.out.old (hb)
    have N_u : Hid (NumIn _ _ _ _ _ _ _) := n_u
    have V_u : Hid (val B64 s_u = A) := by unfold Hid; rw [v_u]; rw [V_x.out, V_r.out]; have := Int.ediv_mul_add_emod A B; omega
    have L_u : Hid (l_u ≤ 142) := by unfold Hid; have := L_x.out; have := L_r.out; omega
    clear n_u v_u b_u hb HC
    go_wp2_with fail
    have HC := Cmp_any a_u a_a l_u c_u l_a c_a s_u s_a w5 N_u.out N_a.out
    rw [show cmpI (val B64 s_u) (val B64 s_a) = 0 from cmpI_eq (by rw [V_u.out, V_a.out])] at HC
    refine HC.mono ?_
    rintro e w6 ⟨rfl, hd⟩
    replace BW : Hid (Below w.heap.size w w6) := BW.out.trans ((hd.below _).mono BW.out.size)
    replace N_a : Hid (NumIn _ _ _ _ _ _ _) := N_a.out.old (hd.below _)
    replace N_b : Hid (NumIn _ _ _ _ _ _ _) := N_b.out.old (hd.below _)
    replace N_q : Hid (NumIn _ _ _ _ _ _ _) := N_q.out.old (hd.below _)
    replace N_r : Hid (NumIn _ _ _ _ _ _ _) := N_r.out.old (hd.below _)
    replace N_m : Hid (NumIn _ _ _ _ _ _ _) := N_m.out.old (hd.below _)
    replace N_p : Hid (NumIn _ _ _ _ _ _ _) := N_p.out.old (hd.below _)
    replace N_t : Hid (NumIn _ _ _ _ _ _ _) := N_t.out.old (hd.below _)
    replace N_x : Hid (NumIn _ _ _ _ _ _ _) := N_x.out.old (hd.below _)
    replace N_u : Hid (NumIn _ _ _ _ _ _ _) := N_u.out.old (hd.below _)
    clear hd HC
    go_wp2_with fail
    have HC := Cmp_any a_r a_b l_r c_r l_b c_b s_r s_b w6 N_r.out N_b.out
    rw [show cmpI (val B64 s_r) (val B64 s_b) = (-1) from cmpI_lt (by rw [V_r.out, V_b.out]; exact Int.emod_lt_of_pos _ HBP.out)] at HC
    refine HC.mono ?_
    rintro e w7 ⟨rfl, hd⟩
    replace BW : Hid (Below w.heap.size w w7) := BW.out.trans ((hd.below _).mono BW.out.size)
    replace N_a : Hid (NumIn _ _ _ _ _ _ _) := N_a.out.old (hd.below _)
    replace N_b : Hid (NumIn _ _ _ _ _ _ _) := N_b.out.old (hd.below _)
    replace N_q : Hid (NumIn _ _ _ _ _ _ _) := N_q.out.old (hd.below _)
    replace N_r : Hid (NumIn _ _ _ _ _ _ _) := N_r.out.old (hd.below _)
    replace N_m : Hid (NumIn _ _ _ _ _ _ _) := N_m.out.old (hd.below _)
    replace N_p : Hid (NumIn _ _ _ _ _ _ _) := N_p.out.old (hd.below _)
    replace N_t : Hid (NumIn _ _ _ _ _ _ _) := N_t.out.old (hd.below _)
    replace N_x : Hid (NumIn _ _ _ _ _ _ _) := N_x.out.old (hd.below _)
    replace N_u : Hid (NumIn _ _ _ _ _ _ _) := N_u.out.old (hd.below _)
    clear hd HC
    go_wp2_with fail
    have HC := Cmp_any a_p a_a l_p c_p l_a c_a s_p s_a w7 N_p.out N_a.out
    rw [show cmpI (val B64 s_p) (val B64 s_a) = 0 from cmpI_eq (by rw [V_p.out, V_a.out])] at HC
    refine HC.mono ?_
    rintro e w8 ⟨rfl, hd⟩
    replace BW : Hid (Below w.heap.size w w8) := BW.out.trans ((hd.below _).mono BW.out.size)
    replace N_a : Hid (NumIn _ _ _ _ _ _ _) := N_a.out.old (hd.below _)
    replace N_b : Hid (NumIn _ _ _ _ _ _ _) := N_b.out.old (hd.below _)
    replace N_q : Hid (NumIn _ _ _ _ _ _ _) := N_q.out.old (hd.below _)
    replace N_r : Hid (NumIn _ _ _ _ _ _ _) := N_r.out.old (hd.below _)
    replace N_m : Hid (NumIn _ _ _ _ _ _ _) := N_m.out.old (hd.below _)
    replace N_p : Hid (NumIn _ _ _ _ _ _ _) := N_p.out.old (hd.below _)
    replace N_t : Hid (NumIn _ _ _ _ _ _ _) := N_t.out.old (hd.below _)
    replace N_x : Hid (NumIn _ _ _ _ _ _ _) := N_x.out.old (hd.below _)
    replace N_u : Hid (NumIn _ _ _ _ _ _ _) := N_u.out.old (hd.below _)
    clear hd HC
    go_wp2_with fail
    have HC := Len_any a_t l_t c_t s_t w8 N_t.out
    rw [show lenOf s_t = 0 from by rw [lenOf_eq _ N_t.out.dg, V_t.out]; rfl] at HC
    refine HC.mono ?_
    rintro e w9 ⟨rfl, rfl⟩
    clear HC
    clear N_a N_b N_q N_r N_m N_p N_t N_x N_u
    go_wp2
    go_ret
    exact ⟨rfl, BW.out⟩
end Go.Proofs.Ytiijnenbfhhdiab
