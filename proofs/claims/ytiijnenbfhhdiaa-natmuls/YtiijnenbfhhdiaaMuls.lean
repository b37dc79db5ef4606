/-
  The walk of NatMuls.
-/
import Derived.Test.YtiijnenbfhhdiaaRefM
namespace Go.Proofs.Ytiijnenbfhhdiaa
open Go.RowKit
set_option linter.unusedVariables false
set_option linter.unusedSimpArgs false

set_option maxHeartbeats 4000000 in
/-- Any products. -/
theorem NatMuls_walk (a_a : Option Addr) (l_a c_a : Nat) (z_a : List Int) (a_b : Option Addr) (l_b c_b : Nat) (z_b : List Int) (w : World) (came_a : Came .u64 w a_a l_a c_a z_a) (came_b : Came .u64 w a_b l_b c_b z_b) :
    Calls Try.prog 7 #[.slice a_a l_a c_a, .slice a_b l_b c_b] w fun e w' => e = .returned (.bool true) ∧ Below w.heap.size w w' := by
  have le_a := came_a.le
  have le_b := came_b.le
  have C_a : Hid (Came .u64 w a_a l_a c_a z_a) := came_a
  have C_b : Hid (Came .u64 w a_b l_b c_b z_b) := came_b
  clear came_a came_b
  by_cases hlong : 70 < l_a ∨ 70 < l_b
  · go_enter Try.func7, Try.ntmps7
    go_wp2_with fail
    refine (Awake_any w).mono ?_
    rintro e wA ⟨rfl, hb⟩
    have BW : Hid (Below w.heap.size w wA) := hb
    replace C_a : Hid (Came .u64 wA a_a l_a c_a z_a) := C_a.out.old hb
    replace C_b : Hid (Came .u64 wA a_b l_b c_b z_b) := C_b.out.old hb
    clear hb
    have HC := long2 a_a a_b l_a c_a l_b c_b wA le_a le_b
    rw [decide_eq_true hlong] at HC
    go_wp2_with fail
    refine HC.mono ?_
    rintro e wB ⟨rfl, hb⟩
    replace BW : Hid (Below w.heap.size w wB) := BW.out.trans (hb.mono BW.out.size)
    replace C_a : Hid (Came .u64 wB a_a l_a c_a z_a) := C_a.out.old hb
    replace C_b : Hid (Came .u64 wB a_b l_b c_b z_b) := C_b.out.old hb
    clear hb HC
    clear C_a C_b
    go_wp2
    go_ret
    exact ⟨rfl, BW.out⟩
  · go_enter Try.func7, Try.ntmps7
    go_wp2_with fail
    refine (Awake_any w).mono ?_
    rintro e wA ⟨rfl, hb⟩
    have BW : Hid (Below w.heap.size w wA) := hb
    replace C_a : Hid (Came .u64 wA a_a l_a c_a z_a) := C_a.out.old hb
    replace C_b : Hid (Came .u64 wA a_b l_b c_b z_b) := C_b.out.old hb
    clear hb
    have HC := long2 a_a a_b l_a c_a l_b c_b wA le_a le_b
    rw [decide_eq_false hlong] at HC
    go_wp2_with fail
    refine HC.mono ?_
    rintro e wB ⟨rfl, hb⟩
    replace BW : Hid (Below w.heap.size w wB) := BW.out.trans (hb.mono BW.out.size)
    replace C_a : Hid (Came .u64 wB a_a l_a c_a z_a) := C_a.out.old hb
    replace C_b : Hid (Came .u64 wB a_b l_b c_b z_b) := C_b.out.old hb
    clear hb HC
    have N_a : Hid (NumIn .u64 B64 wB a_a l_a c_a (z_a.take l_a)) := C_a.out.nat (by omega)
    have L_a : Hid (l_a ≤ 70) := by unfold Hid; omega
    have N_b : Hid (NumIn .u64 B64 wB a_b l_b c_b (z_b.take l_b)) := C_b.out.nat (by omega)
    have L_b : Hid (l_b ≤ 70) := by unfold Hid; omega
    clear hlong C_a le_a C_b le_b
    generalize z_a.take l_a = s_a at *
    have P_a : Hid (0 ≤ val B64 s_a) := val_nonneg B64_pos N_a.out.dg
    obtain ⟨A, V_a⟩ : ∃ X, Hid (val B64 s_a = X) := ⟨_, rfl⟩
    replace P_a : Hid (0 ≤ A) := by have := P_a.out; rw [V_a.out] at this; exact this
    generalize z_b.take l_b = s_b at *
    have P_b : Hid (0 ≤ val B64 s_b) := val_nonneg B64_pos N_b.out.dg
    obtain ⟨B, V_b⟩ : ∃ X, Hid (val B64 s_b = X) := ⟨_, rfl⟩
    replace P_b : Hid (0 ≤ B) := by have := P_b.out; rw [V_b.out] at this; exact this
    go_wp2_with fail
    have HC := Mul_any a_a a_b l_a c_a l_b c_b s_a s_b wB N_a.out N_b.out (by have := L_a.out; have := L_b.out; omega)
    refine HC.mono ?_
    rintro e w1 ⟨v, rfl, a_m, l_m, c_m, s_m, rfl, n_m, k_m, v_m, b_m, hb⟩
    replace BW : Hid (Below w.heap.size w w1) := BW.out.trans ((hb).mono BW.out.size)
    replace N_a : Hid (NumIn _ _ _ _ _ _ _) := N_a.out.old (hb)
    replace N_b : Hid (NumIn _ _ _ _ _ _ _) := N_b.out.old (hb)
    have N_m : Hid (NumIn _ _ _ _ _ _ _) := n_m
    have V_m : Hid (val B64 s_m = A * B) := by unfold Hid; rw [v_m]; rw [V_a.out, V_b.out]
    have L_m : Hid (l_m ≤ 140) := by unfold Hid; have := L_a.out; have := L_b.out; omega
    clear n_m v_m b_m hb HC
    go_wp2_with fail
    have HC := rOf_any a_a l_a c_a s_a w1 N_a.out (by have := L_a.out; omega)
    refine HC.mono ?_
    rintro e w2 ⟨v, rfl, a_d, l_d, c_d, s_d, rfl, n_d, k_d, v_d, b_d, hb⟩
    replace BW : Hid (Below w.heap.size w w2) := BW.out.trans ((hb).mono BW.out.size)
    replace N_a : Hid (NumIn _ _ _ _ _ _ _) := N_a.out.old (hb)
    replace N_b : Hid (NumIn _ _ _ _ _ _ _) := N_b.out.old (hb)
    replace N_m : Hid (NumIn _ _ _ _ _ _ _) := N_m.out.old (hb)
    have N_d : Hid (NumIn _ _ _ _ _ _ _) := n_d
    have K_d : Hid (Canon s_d) := k_d
    have V_d : Hid (val D16 s_d = A) := by unfold Hid; rw [v_d]; rw [V_a.out]
    have L_d : Hid (l_d ≤ 280) := by unfold Hid; have := L_a.out; omega
    clear n_d v_d b_d k_d hb HC
    go_wp2_with fail
    have HC := rOf_any a_b l_b c_b s_b w2 N_b.out (by have := L_b.out; omega)
    refine HC.mono ?_
    rintro e w3 ⟨v, rfl, a_e, l_e, c_e, s_e, rfl, n_e, k_e, v_e, b_e, hb⟩
    replace BW : Hid (Below w.heap.size w w3) := BW.out.trans ((hb).mono BW.out.size)
    replace N_a : Hid (NumIn _ _ _ _ _ _ _) := N_a.out.old (hb)
    replace N_b : Hid (NumIn _ _ _ _ _ _ _) := N_b.out.old (hb)
    replace N_m : Hid (NumIn _ _ _ _ _ _ _) := N_m.out.old (hb)
    replace N_d : Hid (NumIn _ _ _ _ _ _ _) := N_d.out.old (hb)
    have N_e : Hid (NumIn _ _ _ _ _ _ _) := n_e
    have K_e : Hid (Canon s_e) := k_e
    have V_e : Hid (val D16 s_e = B) := by unfold Hid; rw [v_e]; rw [V_b.out]
    have L_e : Hid (l_e ≤ 280) := by unfold Hid; have := L_b.out; omega
    clear n_e v_e b_e k_e hb HC
    go_wp2_with fail
    have HC := rMul_any a_d a_e l_d c_d l_e c_e s_d s_e w3 N_d.out N_e.out (by have := L_d.out; omega) (by have := L_e.out; omega)
    refine HC.mono ?_
    rintro e w4 ⟨v, rfl, a_p, l_p, c_p, s_p, rfl, n_p, k_p, v_p, b_p, hb⟩
    replace BW : Hid (Below w.heap.size w w4) := BW.out.trans ((hb).mono BW.out.size)
    replace N_a : Hid (NumIn _ _ _ _ _ _ _) := N_a.out.old (hb)
    replace N_b : Hid (NumIn _ _ _ _ _ _ _) := N_b.out.old (hb)
    replace N_m : Hid (NumIn _ _ _ _ _ _ _) := N_m.out.old (hb)
    replace N_d : Hid (NumIn _ _ _ _ _ _ _) := N_d.out.old (hb)
    replace N_e : Hid (NumIn _ _ _ _ _ _ _) := N_e.out.old (hb)
    have N_p : Hid (NumIn _ _ _ _ _ _ _) := n_p
    have K_p : Hid (Canon s_p) := k_p
    have V_p : Hid (val D16 s_p = A * B) := by unfold Hid; rw [v_p]; rw [V_d.out, V_e.out]
    have L_p : Hid (l_p ≤ 561) := by unfold Hid; have := L_d.out; have := L_e.out; omega
    clear n_p v_p b_p k_p hb HC
    go_wp2_with fail
    have HC := is_yes a_m a_p l_m c_m l_p c_p s_m s_p w4 N_m.out k_m N_p.out K_p.out (by rw [V_m.out, V_p.out]) (by have := L_p.out; omega)
    refine HC.mono ?_
    rintro e w5 ⟨rfl, hb⟩
    replace BW : Hid (Below w.heap.size w w5) := BW.out.trans ((hb).mono BW.out.size)
    replace N_a : Hid (NumIn _ _ _ _ _ _ _) := N_a.out.old (hb)
    replace N_b : Hid (NumIn _ _ _ _ _ _ _) := N_b.out.old (hb)
    replace N_m : Hid (NumIn _ _ _ _ _ _ _) := N_m.out.old (hb)
    replace N_d : Hid (NumIn _ _ _ _ _ _ _) := N_d.out.old (hb)
    replace N_e : Hid (NumIn _ _ _ _ _ _ _) := N_e.out.old (hb)
    replace N_p : Hid (NumIn _ _ _ _ _ _ _) := N_p.out.old (hb)
    clear hb HC
    clear N_a N_b N_m N_d N_e N_p
    go_wp2
    go_ret
    exact ⟨rfl, BW.out⟩
end Go.Proofs.Ytiijnenbfhhdiaa
