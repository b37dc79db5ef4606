/-
  The walk of NatDivs.
-/
import Derived.Test.YtiijnenbfhhdiaaRefE
namespace Go.Proofs.Ytiijnenbfhhdiaa
open Go.RowKit
set_option linter.unusedVariables false
set_option linter.unusedSimpArgs false

set_option maxHeartbeats 4000000 in
/-- Any quotients, and what is left. -/
theorem NatDivs_walk (a_a : Option Addr) (l_a c_a : Nat) (z_a : List Int) (a_b : Option Addr) (l_b c_b : Nat) (z_b : List Int) (w : World) (came_a : Came .u64 w a_a l_a c_a z_a) (came_b : Came .u64 w a_b l_b c_b z_b) :
    Calls Try.prog 8 #[.slice a_a l_a c_a, .slice a_b l_b c_b] w fun e w' => e = .returned (.bool true) ∧ Below w.heap.size w w' := by
  have le_a := came_a.le
  have le_b := came_b.le
  have C_a : Hid (Came .u64 w a_a l_a c_a z_a) := came_a
  have C_b : Hid (Came .u64 w a_b l_b c_b z_b) := came_b
  clear came_a came_b
  by_cases hlong : 70 < l_a ∨ 70 < l_b
  · go_enter Try.func8, Try.ntmps8
    go_wp2_with fail
    refine (Awake_any w).mono ?_
    rintro e wA ⟨rfl, hb⟩
    have BW : Hid (Below w.heap.size w wA) := hb
    replace C_a : Hid (Came .u64 wA a_a l_a c_a z_a) := C_a.out.old hb
    replace C_b : Hid (Came .u64 wA a_b l_b c_b z_b) := C_b.out.old hb
    clear hb
    have HC := long2 a_a a_b l_a c_a l_b c_b wA le_a le_b
    rw [decide_eq_true hlong] at HC
    go_wp2_with fail
    refine HC.mono ?_
    rintro e wB ⟨rfl, hb⟩
    replace BW : Hid (Below w.heap.size w wB) := BW.out.trans (hb.mono BW.out.size)
    replace C_a : Hid (Came .u64 wB a_a l_a c_a z_a) := C_a.out.old hb
    replace C_b : Hid (Came .u64 wB a_b l_b c_b z_b) := C_b.out.old hb
    clear hb HC
    clear C_a C_b
    go_wp2
    go_ret
    exact ⟨rfl, BW.out⟩
  · go_enter Try.func8, Try.ntmps8
    go_wp2_with fail
    refine (Awake_any w).mono ?_
    rintro e wA ⟨rfl, hb⟩
    have BW : Hid (Below w.heap.size w wA) := hb
    replace C_a : Hid (Came .u64 wA a_a l_a c_a z_a) := C_a.out.old hb
    replace C_b : Hid (Came .u64 wA a_b l_b c_b z_b) := C_b.out.old hb
    clear hb
    have HC := long2 a_a a_b l_a c_a l_b c_b wA le_a le_b
    rw [decide_eq_false hlong] at HC
    go_wp2_with fail
    refine HC.mono ?_
    rintro e wB ⟨rfl, hb⟩
    replace BW : Hid (Below w.heap.size w wB) := BW.out.trans (hb.mono BW.out.size)
    replace C_a : Hid (Came .u64 wB a_a l_a c_a z_a) := C_a.out.old hb
    replace C_b : Hid (Came .u64 wB a_b l_b c_b z_b) := C_b.out.old hb
    clear hb HC
    have N_a : Hid (NumIn .u64 B64 wB a_a l_a c_a (z_a.take l_a)) := C_a.out.nat (by omega)
    have L_a : Hid (l_a ≤ 70) := by unfold Hid; omega
    have N_b : Hid (NumIn .u64 B64 wB a_b l_b c_b (z_b.take l_b)) := C_b.out.nat (by omega)
    have L_b : Hid (l_b ≤ 70) := by unfold Hid; omega
    clear hlong C_a le_a C_b le_b
    generalize z_a.take l_a = s_a at *
    have P_a : Hid (0 ≤ val B64 s_a) := val_nonneg B64_pos N_a.out.dg
    obtain ⟨A, V_a⟩ : ∃ X, Hid (val B64 s_a = X) := ⟨_, rfl⟩
    replace P_a : Hid (0 ≤ A) := by have := P_a.out; rw [V_a.out] at this; exact this
    generalize z_b.take l_b = s_b at *
    have P_b : Hid (0 ≤ val B64 s_b) := val_nonneg B64_pos N_b.out.dg
    obtain ⟨B, V_b⟩ : ∃ X, Hid (val B64 s_b = X) := ⟨_, rfl⟩
    replace P_b : Hid (0 ≤ B) := by have := P_b.out; rw [V_b.out] at this; exact this
    go_wp2_with fail
    have HC := rOf_any a_a l_a c_a s_a wB N_a.out (by have := L_a.out; omega)
    refine HC.mono ?_
    rintro e w1 ⟨v, rfl, a_d, l_d, c_d, s_d, rfl, n_d, k_d, v_d, b_d, hb⟩
    replace BW : Hid (Below w.heap.size w w1) := BW.out.trans ((hb).mono BW.out.size)
    replace N_a : Hid (NumIn _ _ _ _ _ _ _) := N_a.out.old (hb)
    replace N_b : Hid (NumIn _ _ _ _ _ _ _) := N_b.out.old (hb)
    have N_d : Hid (NumIn _ _ _ _ _ _ _) := n_d
    have K_d : Hid (Canon s_d) := k_d
    have V_d : Hid (val D16 s_d = A) := by unfold Hid; rw [v_d]; rw [V_a.out]
    have L_d : Hid (l_d ≤ 280) := by unfold Hid; have := L_a.out; omega
    clear n_d v_d b_d k_d hb HC
    go_wp2_with fail
    have HC := rOf_any a_b l_b c_b s_b w1 N_b.out (by have := L_b.out; omega)
    refine HC.mono ?_
    rintro e w2 ⟨v, rfl, a_e, l_e, c_e, s_e, rfl, n_e, k_e, v_e, b_e, hb⟩
    replace BW : Hid (Below w.heap.size w w2) := BW.out.trans ((hb).mono BW.out.size)
    replace N_a : Hid (NumIn _ _ _ _ _ _ _) := N_a.out.old (hb)
    replace N_b : Hid (NumIn _ _ _ _ _ _ _) := N_b.out.old (hb)
    replace N_d : Hid (NumIn _ _ _ _ _ _ _) := N_d.out.old (hb)
    have N_e : Hid (NumIn _ _ _ _ _ _ _) := n_e
    have K_e : Hid (Canon s_e) := k_e
    have V_e : Hid (val D16 s_e = B) := by unfold Hid; rw [v_e]; rw [V_b.out]
    have L_e : Hid (l_e ≤ 280) := by unfold Hid; have := L_b.out; omega
    clear n_e v_e b_e k_e hb HC
    by_cases hB0 : B = 0
    · have hle : l_e = 0 := by
        have h1 := K_e.out
        have h2 := N_e.out.len
        by_cases h0 : l_e = 0
        · exact h0
        · have h3 := val_ge D16_pos N_e.out.dg (l_e - 1) (by unfold Canon at h1; omega)
          have h4 : 0 < D16 ^ (l_e - 1) := Int.pow_pos D16_pos
          rw [V_e.out] at h3
          omega
      go_wp2_with fail
      have HC := Div_zero a_a a_b l_a c_a l_b c_b s_a s_b w2 N_a.out N_b.out (by rw [V_b.out]; exact hB0)
      refine HC.mono ?_
      rintro e w3 ⟨rfl, rfl⟩
      clear HC hB0
      subst hle
      clear N_a N_b N_d N_e
      go_wp2
      go_ret
      exact ⟨rfl, BW.out⟩
    have hle : 0 < l_e := by
      have h2 := N_e.out.len
      by_cases h0 : l_e = 0
      · exfalso
        have h3 : s_e = [] := List.eq_nil_of_length_eq_zero (by omega)
        have h4 := V_e.out
        rw [h3] at h4
        exact hB0 h4.symm
      · omega
    have hleI : ((l_e : Int) == 0) = false := by simp; omega
    have HBP : Hid (0 < B) := by have := P_b.out; unfold Hid; omega
    clear hB0
    go_wp2_with fail
    have HC := Div_any a_a a_b l_a c_a l_b c_b s_a s_b w2 N_a.out N_b.out (by rw [V_b.out]; have := HBP.out; omega) (by have := L_a.out; have := L_b.out; omega)
    refine HC.mono ?_
    rintro e w3 ⟨vq, vr, rfl, ⟨a_q, l_q, c_q, s_q, rfl, n_q, k_q, v_q, b_q, hb⟩, ⟨a_r, l_r, c_r, s_r, rfl, n_r, k_r, v_r, b_r, hb'⟩⟩
    replace BW : Hid (Below w.heap.size w w3) := BW.out.trans ((hb).mono BW.out.size)
    replace N_a : Hid (NumIn _ _ _ _ _ _ _) := N_a.out.old (hb)
    replace N_b : Hid (NumIn _ _ _ _ _ _ _) := N_b.out.old (hb)
    replace N_d : Hid (NumIn _ _ _ _ _ _ _) := N_d.out.old (hb)
    replace N_e : Hid (NumIn _ _ _ _ _ _ _) := N_e.out.old (hb)
    have N_q : Hid (NumIn _ _ _ _ _ _ _) := n_q
    have V_q : Hid (val B64 s_q = A / B) := by unfold Hid; rw [v_q]; rw [V_a.out, V_b.out]
    have L_q : Hid (l_q ≤ 140) := by unfold Hid; have := L_a.out; have := L_b.out; omega
    have N_r : Hid (NumIn _ _ _ _ _ _ _) := n_r
    have V_r : Hid (val B64 s_r = A % B) := by unfold Hid; rw [v_r]; rw [V_a.out, V_b.out]
    have L_r : Hid (l_r ≤ 140) := by unfold Hid; have := L_a.out; have := L_b.out; omega
    clear n_q v_q b_q n_r v_r b_r hb hb' HC
    go_wp2_with fail
    have HC := rDiv_any a_d a_e l_d c_d l_e c_e s_d s_e w3 N_d.out N_e.out K_e.out hle (by have := L_d.out; omega) (by have := L_e.out; omega)
    refine HC.mono ?_
    rintro e w4 ⟨vq, vr, rfl, ⟨a_p, l_p, c_p, s_p, rfl, n_p, k_p, v_p, b_p, hb⟩, ⟨a_s, l_s, c_s, s_s, rfl, n_s, k_s, v_s, b_s, hb'⟩⟩
    replace BW : Hid (Below w.heap.size w w4) := BW.out.trans ((hb).mono BW.out.size)
    replace N_a : Hid (NumIn _ _ _ _ _ _ _) := N_a.out.old (hb)
    replace N_b : Hid (NumIn _ _ _ _ _ _ _) := N_b.out.old (hb)
    replace N_d : Hid (NumIn _ _ _ _ _ _ _) := N_d.out.old (hb)
    replace N_e : Hid (NumIn _ _ _ _ _ _ _) := N_e.out.old (hb)
    replace N_q : Hid (NumIn _ _ _ _ _ _ _) := N_q.out.old (hb)
    replace N_r : Hid (NumIn _ _ _ _ _ _ _) := N_r.out.old (hb)
    have N_p : Hid (NumIn _ _ _ _ _ _ _) := n_p
    have K_p : Hid (Canon s_p) := k_p
    have V_p : Hid (val D16 s_p = A / B) := by unfold Hid; rw [v_p, V_d.out, V_e.out]
    have L_p : Hid (l_p ≤ 280) := by unfold Hid; have := L_d.out; have := L_e.out; omega
    have N_s : Hid (NumIn _ _ _ _ _ _ _) := n_s
    have K_s : Hid (Canon s_s) := k_s
    have V_s : Hid (val D16 s_s = A % B) := by unfold Hid; rw [v_s, V_d.out, V_e.out]
    have L_s : Hid (l_s ≤ 280) := by unfold Hid; have := L_d.out; have := L_e.out; omega
    clear n_p v_p b_p k_p n_s v_s b_s k_s hb hb' HC
    go_wp2_with fail
    have HC := is_yes a_q a_p l_q c_q l_p c_p s_q s_p w4 N_q.out k_q N_p.out K_p.out (by rw [V_q.out, V_p.out]) (by have := L_p.out; omega)
    refine HC.mono ?_
    rintro e w5 ⟨rfl, hb⟩
    replace BW : Hid (Below w.heap.size w w5) := BW.out.trans ((hb).mono BW.out.size)
    replace N_a : Hid (NumIn _ _ _ _ _ _ _) := N_a.out.old (hb)
    replace N_b : Hid (NumIn _ _ _ _ _ _ _) := N_b.out.old (hb)
    replace N_d : Hid (NumIn _ _ _ _ _ _ _) := N_d.out.old (hb)
    replace N_e : Hid (NumIn _ _ _ _ _ _ _) := N_e.out.old (hb)
    replace N_q : Hid (NumIn _ _ _ _ _ _ _) := N_q.out.old (hb)
    replace N_r : Hid (NumIn _ _ _ _ _ _ _) := N_r.out.old (hb)
    replace N_p : Hid (NumIn _ _ _ _ _ _ _) := N_p.out.old (hb)
    replace N_s : Hid (NumIn _ _ _ _ _ _ _) := N_s.out.old (hb)
    clear hb HC
    go_wp2_with fail
    have HC := is_yes a_r a_s l_r c_r l_s c_s s_r s_s w5 N_r.out k_r N_s.out K_s.out (by rw [V_r.out, V_s.out]) (by have := L_s.out; omega)
    refine HC.mono ?_
    rintro e w6 ⟨rfl, hb⟩
    replace BW : Hid (Below w.heap.size w w6) := BW.out.trans ((hb).mono BW.out.size)
    replace N_a : Hid (NumIn _ _ _ _ _ _ _) := N_a.out.old (hb)
    replace N_b : Hid (NumIn _ _ _ _ _ _ _) := N_b.out.old (hb)
    replace N_d : Hid (NumIn _ _ _ _ _ _ _) := N_d.out.old (hb)
    replace N_e : Hid (NumIn _ _ _ _ _ _ _) := N_e.out.old (hb)
    replace N_q : Hid (NumIn _ _ _ _ _ _ _) := N_q.out.old (hb)
    replace N_r : Hid (NumIn _ _ _ _ _ _ _) := N_r.out.old (hb)
    replace N_p : Hid (NumIn _ _ _ _ _ _ _) := N_p.out.old (hb)
    replace N_s : Hid (NumIn _ _ _ _ _ _ _) := N_s.out.old (hb)
    clear hb HC
    clear N_a N_b N_d N_e N_q N_r N_p N_s
    go_wp2
    go_ret
    exact ⟨rfl, BW.out⟩
end Go.Proofs.Ytiijnenbfhhdiaa
