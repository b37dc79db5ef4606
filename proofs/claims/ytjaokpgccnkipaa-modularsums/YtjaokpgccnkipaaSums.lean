/-
  The walk of ModularSums.
-/
import Derived.Test.YtjaokpgccnkipaaModT
import Derived.Test.YtjaokpgccnkipaaModW
namespace Go.Proofs.Ytjaokpgccnkipaa
open Go.RowKit
set_option linter.unusedVariables false
set_option linter.unusedSimpArgs false

theorem sub_doc (a b m : Int) : (a - b) % m = (a % m + m - b % m) % m := by
  refine Cg.emod ?_
  have h := ((Cg.mod m a).sub (Cg.mod m b)).symm
  exact h.trans ⟨-1, by grind⟩
theorem pow_doc (a m : Int) (n : Nat) : a ^ n % m = (a % m) ^ n % m := ((Cg.mod m a).symm.pow n).emod

set_option maxHeartbeats 4000000 in
/-- Any numbers, sums, products, below any modulus. -/
theorem ModularSums_walk (a_a : Option Addr) (l_a c_a : Nat) (z_a : List Int) (a_b : Option Addr) (l_b c_b : Nat) (z_b : List Int) (a_m : Option Addr) (l_m c_m : Nat) (z_m : List Int) (w : World) (came_a : Came .u64 w a_a l_a c_a z_a) (came_b : Came .u64 w a_b l_b c_b z_b) (came_m : Came .u64 w a_m l_m c_m z_m) :
    Calls Try.prog 3 #[.slice a_a l_a c_a, .slice a_b l_b c_b, .slice a_m l_m c_m] w fun e w' => e = .returned (.bool true) ∧ Below w.heap.size w w' := by
  have le_a := came_a.le
  have le_b := came_b.le
  have le_m := came_m.le
  have C_a : Hid (Came .u64 w a_a l_a c_a z_a) := came_a
  have C_b : Hid (Came .u64 w a_b l_b c_b z_b) := came_b
  have C_m : Hid (Came .u64 w a_m l_m c_m z_m) := came_m
  clear came_a came_b came_m
  by_cases hlong : 40 < l_a ∨ 40 < l_b ∨ 40 < l_m
  · go_enter Try.func3, Try.ntmps3
    go_wp2_with fail
    refine (Awake_any w).mono ?_
    rintro e wA ⟨rfl, hb⟩
    have BW : Hid (Below w.heap.size w wA) := hb
    replace C_a : Hid (Came .u64 wA a_a l_a c_a z_a) := C_a.out.old hb
    replace C_b : Hid (Came .u64 wA a_b l_b c_b z_b) := C_b.out.old hb
    replace C_m : Hid (Came .u64 wA a_m l_m c_m z_m) := C_m.out.old hb
    clear hb
    have HC := long3 a_a a_b a_m l_a c_a l_b c_b l_m c_m 40 wA (by decide) le_a le_b le_m
    rw [decide_eq_true hlong] at HC
    go_wp2_with fail
    refine HC.mono ?_
    rintro e wB ⟨rfl, hb⟩
    replace BW : Hid (Below w.heap.size w wB) := BW.out.trans (hb.mono BW.out.size)
    replace C_a : Hid (Came .u64 wB a_a l_a c_a z_a) := C_a.out.old hb
    replace C_b : Hid (Came .u64 wB a_b l_b c_b z_b) := C_b.out.old hb
    replace C_m : Hid (Came .u64 wB a_m l_m c_m z_m) := C_m.out.old hb
    clear hb HC
    clear C_a C_b C_m
    go_wp2
    go_ret
    exact ⟨rfl, BW.out⟩
  · go_enter Try.func3, Try.ntmps3
    go_wp2_with fail
    refine (Awake_any w).mono ?_
    rintro e wA ⟨rfl, hb⟩
    have BW : Hid (Below w.heap.size w wA) := hb
    replace C_a : Hid (Came .u64 wA a_a l_a c_a z_a) := C_a.out.old hb
    replace C_b : Hid (Came .u64 wA a_b l_b c_b z_b) := C_b.out.old hb
    replace C_m : Hid (Came .u64 wA a_m l_m c_m z_m) := C_m.out.old hb
    clear hb
    have HC := long3 a_a a_b a_m l_a c_a l_b c_b l_m c_m 40 wA (by decide) le_a le_b le_m
    rw [decide_eq_false hlong] at HC
    go_wp2_with fail
    refine HC.mono ?_
    rintro e wB ⟨rfl, hb⟩
    replace BW : Hid (Below w.heap.size w wB) := BW.out.trans (hb.mono BW.out.size)
    replace C_a : Hid (Came .u64 wB a_a l_a c_a z_a) := C_a.out.old hb
    replace C_b : Hid (Came .u64 wB a_b l_b c_b z_b) := C_b.out.old hb
    replace C_m : Hid (Came .u64 wB a_m l_m c_m z_m) := C_m.out.old hb
    clear hb HC
    have N_a : Hid (NumIn .u64 B64 wB a_a l_a c_a (z_a.take l_a)) := C_a.out.nat (by omega)
    have L_a : Hid (l_a ≤ 40) := by unfold Hid; omega
    have N_b : Hid (NumIn .u64 B64 wB a_b l_b c_b (z_b.take l_b)) := C_b.out.nat (by omega)
    have L_b : Hid (l_b ≤ 40) := by unfold Hid; omega
    have N_m : Hid (NumIn .u64 B64 wB a_m l_m c_m (z_m.take l_m)) := C_m.out.nat (by omega)
    have L_m : Hid (l_m ≤ 40) := by unfold Hid; omega
    clear hlong C_a le_a C_b le_b C_m le_m
    generalize z_a.take l_a = s_a at *
    have P_a : Hid (0 ≤ val B64 s_a) := val_nonneg B64_pos N_a.out.dg
    obtain ⟨A, V_a⟩ : ∃ X, Hid (val B64 s_a = X) := ⟨_, rfl⟩
    replace P_a : Hid (0 ≤ A) := by have := P_a.out; rw [V_a.out] at this; exact this
    generalize z_b.take l_b = s_b at *
    have P_b : Hid (0 ≤ val B64 s_b) := val_nonneg B64_pos N_b.out.dg
    obtain ⟨B, V_b⟩ : ∃ X, Hid (val B64 s_b = X) := ⟨_, rfl⟩
    replace P_b : Hid (0 ≤ B) := by have := P_b.out; rw [V_b.out] at this; exact this
    generalize z_m.take l_m = s_m at *
    have P_m : Hid (0 ≤ val B64 s_m) := val_nonneg B64_pos N_m.out.dg
    obtain ⟨M, V_m⟩ : ∃ X, Hid (val B64 s_m = X) := ⟨_, rfl⟩
    replace P_m : Hid (0 ≤ M) := by have := P_m.out; rw [V_m.out] at this; exact this
    go_wp2_with fail
    have HC := rOf_any a_a l_a c_a s_a wB N_a.out (by have := L_a.out; omega)
    refine HC.mono ?_
    rintro e w1 ⟨v, rfl, a_x, l_x, c_x, s_x, rfl, n_x, k_x, v_x, b_x, hb⟩
    replace BW : Hid (Below w.heap.size w w1) := BW.out.trans ((hb).mono BW.out.size)
    replace N_a : Hid (NumIn _ _ _ _ _ _ _) := N_a.out.old (hb)
    replace N_b : Hid (NumIn _ _ _ _ _ _ _) := N_b.out.old (hb)
    replace N_m : Hid (NumIn _ _ _ _ _ _ _) := N_m.out.old (hb)
    have N_x : Hid (NumIn _ _ _ _ _ _ _) := n_x
    have K_x : Hid (Canon s_x) := k_x
    have V_x : Hid (val D16 s_x = A) := by unfold Hid; rw [v_x]; exact V_a.out
    have L_x : Hid (l_x ≤ 160) := by unfold Hid; have := L_a.out; omega
    clear n_x v_x b_x k_x hb HC
    go_wp2_with fail
    have HC := rOf_any a_b l_b c_b s_b w1 N_b.out (by have := L_b.out; omega)
    refine HC.mono ?_
    rintro e w2 ⟨v, rfl, a_y, l_y, c_y, s_y, rfl, n_y, k_y, v_y, b_y, hb⟩
    replace BW : Hid (Below w.heap.size w w2) := BW.out.trans ((hb).mono BW.out.size)
    replace N_a : Hid (NumIn _ _ _ _ _ _ _) := N_a.out.old (hb)
    replace N_b : Hid (NumIn _ _ _ _ _ _ _) := N_b.out.old (hb)
    replace N_m : Hid (NumIn _ _ _ _ _ _ _) := N_m.out.old (hb)
    replace N_x : Hid (NumIn _ _ _ _ _ _ _) := N_x.out.old (hb)
    have N_y : Hid (NumIn _ _ _ _ _ _ _) := n_y
    have K_y : Hid (Canon s_y) := k_y
    have V_y : Hid (val D16 s_y = B) := by unfold Hid; rw [v_y]; exact V_b.out
    have L_y : Hid (l_y ≤ 160) := by unfold Hid; have := L_b.out; omega
    clear n_y v_y b_y k_y hb HC
    go_wp2_with fail
    have HC := rOf_any a_m l_m c_m s_m w2 N_m.out (by have := L_m.out; omega)
    refine HC.mono ?_
    rintro e w3 ⟨v, rfl, a_n, l_n, c_n, s_n, rfl, n_n, k_n, v_n, b_n, hb⟩
    replace BW : Hid (Below w.heap.size w w3) := BW.out.trans ((hb).mono BW.out.size)
    replace N_a : Hid (NumIn _ _ _ _ _ _ _) := N_a.out.old (hb)
    replace N_b : Hid (NumIn _ _ _ _ _ _ _) := N_b.out.old (hb)
    replace N_m : Hid (NumIn _ _ _ _ _ _ _) := N_m.out.old (hb)
    replace N_x : Hid (NumIn _ _ _ _ _ _ _) := N_x.out.old (hb)
    replace N_y : Hid (NumIn _ _ _ _ _ _ _) := N_y.out.old (hb)
    have N_n : Hid (NumIn _ _ _ _ _ _ _) := n_n
    have K_n : Hid (Canon s_n) := k_n
    have V_n : Hid (val D16 s_n = M) := by unfold Hid; rw [v_n]; exact V_m.out
    have L_n : Hid (l_n ≤ 160) := by unfold Hid; have := L_m.out; omega
    clear n_n v_n b_n k_n hb HC
    go_wp2_with fail
    have hb : Below w3.heap.size w3 (((w3.alloc (.cells #[.slice a_x l_x c_x] 27)).alloc (.cells #[.slice a_y l_y c_y] 27)).alloc (.cells #[.slice a_n l_n c_n] 27)) := (((Below.refl _ _).alloc (Nat.le_refl _) _).alloc (by simp) _).alloc (by simp; omega) _
    have G_x : Hid (Kc (((w3.alloc (.cells #[.slice a_x l_x c_x] 27)).alloc (.cells #[.slice a_y l_y c_y] 27)).alloc (.cells #[.slice a_n l_n c_n] 27)) (w3.heap.size) (.slice a_x l_x c_x)) := ((Kc.new _ _ _ _ (rfl)).alloc _).alloc _
    have G_y : Hid (Kc (((w3.alloc (.cells #[.slice a_x l_x c_x] 27)).alloc (.cells #[.slice a_y l_y c_y] 27)).alloc (.cells #[.slice a_n l_n c_n] 27)) (w3.heap.size + 1) (.slice a_y l_y c_y)) := (Kc.new _ _ _ _ (by simp)).alloc _
    have G_n : Hid (Kc (((w3.alloc (.cells #[.slice a_x l_x c_x] 27)).alloc (.cells #[.slice a_y l_y c_y] 27)).alloc (.cells #[.slice a_n l_n c_n] 27)) (w3.heap.size + 1 + 1) (.slice a_n l_n c_n)) := Kc.new _ _ _ _ (by simp)
    replace BW : Hid (Below w.heap.size w (((w3.alloc (.cells #[.slice a_x l_x c_x] 27)).alloc (.cells #[.slice a_y l_y c_y] 27)).alloc (.cells #[.slice a_n l_n c_n] 27))) := BW.out.trans ((hb).mono BW.out.size)
    replace N_a : Hid (NumIn _ _ _ _ _ _ _) := N_a.out.old (hb)
    replace N_b : Hid (NumIn _ _ _ _ _ _ _) := N_b.out.old (hb)
    replace N_m : Hid (NumIn _ _ _ _ _ _ _) := N_m.out.old (hb)
    replace N_x : Hid (NumIn _ _ _ _ _ _ _) := N_x.out.old (hb)
    replace N_y : Hid (NumIn _ _ _ _ _ _ _) := N_y.out.old (hb)
    replace N_n : Hid (NumIn _ _ _ _ _ _ _) := N_n.out.old (hb)
    clear hb
    generalize (((w3.alloc (.cells #[.slice a_x l_x c_x] 27)).alloc (.cells #[.slice a_y l_y c_y] 27)).alloc (.cells #[.slice a_n l_n c_n] 27)) = w4 at *
    by_cases hz : M = 0
    · have hl0 : l_n = 0 := big_zero D16_one N_n.out K_n.out (by rw [V_n.out]; exact hz)
      have HL0 : Hid (l_n = 0) := hl0
      clear hl0
      have HC := mOf_zero a_a a_m l_a c_a l_m c_m s_a s_m w4 N_a.out N_m.out (by rw [V_m.out]; exact hz)
      go_wp2_with fail
      refine HC.mono ?_
      rintro e w5 ⟨rfl, rfl⟩
      clear HC
      have HC := mAdd_zero a_a a_b a_m l_a c_a l_b c_b l_m c_m s_a s_b s_m w5 N_a.out N_b.out N_m.out (by rw [V_m.out]; exact hz) (by have := L_a.out; have := L_b.out; have := L_m.out; omega)
      go_wp2_with fail
      refine HC.mono ?_
      rintro e w6 ⟨rfl, hb⟩
      replace BW : Hid (Below w.heap.size w w6) := BW.out.trans ((hb).mono BW.out.size)
      replace N_a : Hid (NumIn _ _ _ _ _ _ _) := N_a.out.old (hb)
      replace N_b : Hid (NumIn _ _ _ _ _ _ _) := N_b.out.old (hb)
      replace N_m : Hid (NumIn _ _ _ _ _ _ _) := N_m.out.old (hb)
      replace N_x : Hid (NumIn _ _ _ _ _ _ _) := N_x.out.old (hb)
      replace N_y : Hid (NumIn _ _ _ _ _ _ _) := N_y.out.old (hb)
      replace N_n : Hid (NumIn _ _ _ _ _ _ _) := N_n.out.old (hb)
      replace G_x : Hid (Kc w6 (w3.heap.size) (.slice a_x l_x c_x)) := G_x.out.old (hb)
      replace G_y : Hid (Kc w6 (w3.heap.size + 1) (.slice a_y l_y c_y)) := G_y.out.old (hb)
      replace G_n : Hid (Kc w6 (w3.heap.size + 1 + 1) (.slice a_n l_n c_n)) := G_n.out.old (hb)
      clear hb HC
      have HC := mMul_zero a_a a_b a_m l_a c_a l_b c_b l_m c_m s_a s_b s_m w6 N_a.out N_b.out N_m.out (by rw [V_m.out]; exact hz) (by have := L_a.out; have := L_b.out; have := L_m.out; omega)
      go_wp2_with fail
      refine HC.mono ?_
      rintro e w7 ⟨rfl, hb⟩
      replace BW : Hid (Below w.heap.size w w7) := BW.out.trans ((hb).mono BW.out.size)
      replace N_a : Hid (NumIn _ _ _ _ _ _ _) := N_a.out.old (hb)
      replace N_b : Hid (NumIn _ _ _ _ _ _ _) := N_b.out.old (hb)
      replace N_m : Hid (NumIn _ _ _ _ _ _ _) := N_m.out.old (hb)
      replace N_x : Hid (NumIn _ _ _ _ _ _ _) := N_x.out.old (hb)
      replace N_y : Hid (NumIn _ _ _ _ _ _ _) := N_y.out.old (hb)
      replace N_n : Hid (NumIn _ _ _ _ _ _ _) := N_n.out.old (hb)
      replace G_x : Hid (Kc w7 (w3.heap.size) (.slice a_x l_x c_x)) := G_x.out.old (hb)
      replace G_y : Hid (Kc w7 (w3.heap.size + 1) (.slice a_y l_y c_y)) := G_y.out.old (hb)
      replace G_n : Hid (Kc w7 (w3.heap.size + 1 + 1) (.slice a_n l_n c_n)) := G_n.out.old (hb)
      clear hb HC
      obtain rfl : l_n = 0 := HL0.out
      clear HL0
      have kn := G_n.out.1
      have HC := told_zero a_n c_n
      go_wp2_with fail
      refine (HC _ _).mono ?_
      rintro e w8 ⟨rfl, rfl⟩
      clear HC kn
      have kn := G_n.out.1
      have HC := told_zero a_n c_n
      go_wp2_with fail
      refine (HC _ _).mono ?_
      rintro e w9 ⟨rfl, rfl⟩
      clear HC kn
      have kn := G_n.out.1
      have HC := told_zero a_n c_n
      go_wp2_with fail
      refine (HC _ _).mono ?_
      rintro e w10 ⟨rfl, rfl⟩
      clear HC kn
      go_wp2
      go_ret
      exact ⟨rfl, BW.out⟩
    · have HZ : Hid (M ≠ 0) := hz
      clear hz
      go_wp2_with fail
      have HC := mOf_any a_a a_m l_a c_a l_m c_m s_a s_m w4 N_a.out N_m.out (by rw [V_m.out]; exact HZ.out) (by have := L_a.out; have := L_m.out; omega)
      refine HC.mono ?_
      rintro e w5 ⟨v, rfl, a_p, l_p, c_p, s_p, rfl, n_p, k_p, v_p, b_p, hb⟩
      have K_p : Hid (Canon s_p) := k_p
      clear k_p
      replace BW : Hid (Below w.heap.size w w5) := BW.out.trans ((hb).mono BW.out.size)
      replace N_a : Hid (NumIn _ _ _ _ _ _ _) := N_a.out.old (hb)
      replace N_b : Hid (NumIn _ _ _ _ _ _ _) := N_b.out.old (hb)
      replace N_m : Hid (NumIn _ _ _ _ _ _ _) := N_m.out.old (hb)
      replace N_x : Hid (NumIn _ _ _ _ _ _ _) := N_x.out.old (hb)
      replace N_y : Hid (NumIn _ _ _ _ _ _ _) := N_y.out.old (hb)
      replace N_n : Hid (NumIn _ _ _ _ _ _ _) := N_n.out.old (hb)
      replace G_x : Hid (Kc w5 (w3.heap.size) (.slice a_x l_x c_x)) := G_x.out.old (hb)
      replace G_y : Hid (Kc w5 (w3.heap.size + 1) (.slice a_y l_y c_y)) := G_y.out.old (hb)
      replace G_n : Hid (Kc w5 (w3.heap.size + 1 + 1) (.slice a_n l_n c_n)) := G_n.out.old (hb)
      have N_p : Hid (NumIn _ _ _ _ _ _ _) := n_p
      have V_p : Hid (val B64 s_p = A % M) := by unfold Hid; rw [v_p]; rw [V_a.out, V_m.out]
      have L_p : Hid (l_p ≤ 40) := by unfold Hid; have := L_m.out; omega
      clear n_p v_p b_p hb HC
      go_wp2_with fail
      have HC := mAdd_any a_a a_b a_m l_a c_a l_b c_b l_m c_m s_a s_b s_m w5 N_a.out N_b.out N_m.out (by rw [V_m.out]; exact HZ.out) (by have := L_a.out; have := L_b.out; have := L_m.out; omega)
      refine HC.mono ?_
      rintro e w6 ⟨v, rfl, a_q, l_q, c_q, s_q, rfl, n_q, k_q, v_q, b_q, hb⟩
      have K_q : Hid (Canon s_q) := k_q
      clear k_q
      replace BW : Hid (Below w.heap.size w w6) := BW.out.trans ((hb).mono BW.out.size)
      replace N_a : Hid (NumIn _ _ _ _ _ _ _) := N_a.out.old (hb)
      replace N_b : Hid (NumIn _ _ _ _ _ _ _) := N_b.out.old (hb)
      replace N_m : Hid (NumIn _ _ _ _ _ _ _) := N_m.out.old (hb)
      replace N_x : Hid (NumIn _ _ _ _ _ _ _) := N_x.out.old (hb)
      replace N_y : Hid (NumIn _ _ _ _ _ _ _) := N_y.out.old (hb)
      replace N_n : Hid (NumIn _ _ _ _ _ _ _) := N_n.out.old (hb)
      replace N_p : Hid (NumIn _ _ _ _ _ _ _) := N_p.out.old (hb)
      replace G_x : Hid (Kc w6 (w3.heap.size) (.slice a_x l_x c_x)) := G_x.out.old (hb)
      replace G_y : Hid (Kc w6 (w3.heap.size + 1) (.slice a_y l_y c_y)) := G_y.out.old (hb)
      replace G_n : Hid (Kc w6 (w3.heap.size + 1 + 1) (.slice a_n l_n c_n)) := G_n.out.old (hb)
      have N_q : Hid (NumIn _ _ _ _ _ _ _) := n_q
      have V_q : Hid (val B64 s_q = (A + B) % M) := by unfold Hid; rw [v_q]; rw [V_a.out, V_b.out, V_m.out]
      have L_q : Hid (l_q ≤ 40) := by unfold Hid; have := L_m.out; omega
      clear n_q v_q b_q hb HC
      go_wp2_with fail
      have HC := mMul_any a_a a_b a_m l_a c_a l_b c_b l_m c_m s_a s_b s_m w6 N_a.out N_b.out N_m.out (by rw [V_m.out]; exact HZ.out) (by have := L_a.out; have := L_b.out; have := L_m.out; omega)
      refine HC.mono ?_
      rintro e w7 ⟨v, rfl, a_r, l_r, c_r, s_r, rfl, n_r, k_r, v_r, b_r, hb⟩
      have K_r : Hid (Canon s_r) := k_r
      clear k_r
      replace BW : Hid (Below w.heap.size w w7) := BW.out.trans ((hb).mono BW.out.size)
      replace N_a : Hid (NumIn _ _ _ _ _ _ _) := N_a.out.old (hb)
      replace N_b : Hid (NumIn _ _ _ _ _ _ _) := N_b.out.old (hb)
      replace N_m : Hid (NumIn _ _ _ _ _ _ _) := N_m.out.old (hb)
      replace N_x : Hid (NumIn _ _ _ _ _ _ _) := N_x.out.old (hb)
      replace N_y : Hid (NumIn _ _ _ _ _ _ _) := N_y.out.old (hb)
      replace N_n : Hid (NumIn _ _ _ _ _ _ _) := N_n.out.old (hb)
      replace N_p : Hid (NumIn _ _ _ _ _ _ _) := N_p.out.old (hb)
      replace N_q : Hid (NumIn _ _ _ _ _ _ _) := N_q.out.old (hb)
      replace G_x : Hid (Kc w7 (w3.heap.size) (.slice a_x l_x c_x)) := G_x.out.old (hb)
      replace G_y : Hid (Kc w7 (w3.heap.size + 1) (.slice a_y l_y c_y)) := G_y.out.old (hb)
      replace G_n : Hid (Kc w7 (w3.heap.size + 1 + 1) (.slice a_n l_n c_n)) := G_n.out.old (hb)
      have N_r : Hid (NumIn _ _ _ _ _ _ _) := n_r
      have V_r : Hid (val B64 s_r = (A * B) % M) := by unfold Hid; rw [v_r]; rw [V_a.out, V_b.out, V_m.out]
      have L_r : Hid (l_r ≤ 40) := by unfold Hid; have := L_m.out; omega
      clear n_r v_r b_r hb HC
      have kn := G_n.out.1
      have HC := told_sums1 a_p l_p c_p s_p (w3.heap.size + 1 + 1) (w3.heap.size) a_n a_x l_n c_n l_x c_x s_n s_x w7 N_p.out K_p.out G_n.out G_x.out N_n.out N_x.out K_n.out K_x.out (by rw [V_n.out]; exact HZ.out) (by have := L_n.out; omega) (by have := L_x.out; omega) (by rw [V_p.out, V_n.out, V_x.out])
      go_wp2_with fail
      refine HC.mono ?_
      rintro e w8 ⟨rfl, hb⟩
      replace BW : Hid (Below w.heap.size w w8) := BW.out.trans ((hb).mono BW.out.size)
      replace N_a : Hid (NumIn _ _ _ _ _ _ _) := N_a.out.old (hb)
      replace N_b : Hid (NumIn _ _ _ _ _ _ _) := N_b.out.old (hb)
      replace N_m : Hid (NumIn _ _ _ _ _ _ _) := N_m.out.old (hb)
      replace N_x : Hid (NumIn _ _ _ _ _ _ _) := N_x.out.old (hb)
      replace N_y : Hid (NumIn _ _ _ _ _ _ _) := N_y.out.old (hb)
      replace N_n : Hid (NumIn _ _ _ _ _ _ _) := N_n.out.old (hb)
      replace N_p : Hid (NumIn _ _ _ _ _ _ _) := N_p.out.old (hb)
      replace N_q : Hid (NumIn _ _ _ _ _ _ _) := N_q.out.old (hb)
      replace N_r : Hid (NumIn _ _ _ _ _ _ _) := N_r.out.old (hb)
      replace G_x : Hid (Kc w8 (w3.heap.size) (.slice a_x l_x c_x)) := G_x.out.old (hb)
      replace G_y : Hid (Kc w8 (w3.heap.size + 1) (.slice a_y l_y c_y)) := G_y.out.old (hb)
      replace G_n : Hid (Kc w8 (w3.heap.size + 1 + 1) (.slice a_n l_n c_n)) := G_n.out.old (hb)
      clear hb HC kn
      have kn := G_n.out.1
      have HC := told_sums2 a_q l_q c_q s_q (w3.heap.size + 1 + 1) (w3.heap.size) (w3.heap.size + 1) a_n a_x a_y l_n c_n l_x c_x l_y c_y s_n s_x s_y w8 N_q.out K_q.out G_n.out G_x.out G_y.out N_n.out N_x.out N_y.out K_n.out K_x.out K_y.out (by rw [V_n.out]; exact HZ.out) (by have := L_n.out; omega) (by have := L_x.out; omega) (by have := L_y.out; omega) (by rw [V_q.out, V_n.out, V_x.out, V_y.out])
      go_wp2_with fail
      refine HC.mono ?_
      rintro e w9 ⟨rfl, hb⟩
      replace BW : Hid (Below w.heap.size w w9) := BW.out.trans ((hb).mono BW.out.size)
      replace N_a : Hid (NumIn _ _ _ _ _ _ _) := N_a.out.old (hb)
      replace N_b : Hid (NumIn _ _ _ _ _ _ _) := N_b.out.old (hb)
      replace N_m : Hid (NumIn _ _ _ _ _ _ _) := N_m.out.old (hb)
      replace N_x : Hid (NumIn _ _ _ _ _ _ _) := N_x.out.old (hb)
      replace N_y : Hid (NumIn _ _ _ _ _ _ _) := N_y.out.old (hb)
      replace N_n : Hid (NumIn _ _ _ _ _ _ _) := N_n.out.old (hb)
      replace N_p : Hid (NumIn _ _ _ _ _ _ _) := N_p.out.old (hb)
      replace N_q : Hid (NumIn _ _ _ _ _ _ _) := N_q.out.old (hb)
      replace N_r : Hid (NumIn _ _ _ _ _ _ _) := N_r.out.old (hb)
      replace G_x : Hid (Kc w9 (w3.heap.size) (.slice a_x l_x c_x)) := G_x.out.old (hb)
      replace G_y : Hid (Kc w9 (w3.heap.size + 1) (.slice a_y l_y c_y)) := G_y.out.old (hb)
      replace G_n : Hid (Kc w9 (w3.heap.size + 1 + 1) (.slice a_n l_n c_n)) := G_n.out.old (hb)
      clear hb HC kn
      have kn := G_n.out.1
      have HC := told_sums3 a_r l_r c_r s_r (w3.heap.size + 1 + 1) (w3.heap.size) (w3.heap.size + 1) a_n a_x a_y l_n c_n l_x c_x l_y c_y s_n s_x s_y w9 N_r.out K_r.out G_n.out G_x.out G_y.out N_n.out N_x.out N_y.out K_n.out K_x.out K_y.out (by rw [V_n.out]; exact HZ.out) (by have := L_n.out; omega) (by have := L_x.out; omega) (by have := L_y.out; omega) (by rw [V_r.out, V_n.out, V_x.out, V_y.out])
      go_wp2_with fail
      refine HC.mono ?_
      rintro e w10 ⟨rfl, hb⟩
      replace BW : Hid (Below w.heap.size w w10) := BW.out.trans ((hb).mono BW.out.size)
      replace N_a : Hid (NumIn _ _ _ _ _ _ _) := N_a.out.old (hb)
      replace N_b : Hid (NumIn _ _ _ _ _ _ _) := N_b.out.old (hb)
      replace N_m : Hid (NumIn _ _ _ _ _ _ _) := N_m.out.old (hb)
      replace N_x : Hid (NumIn _ _ _ _ _ _ _) := N_x.out.old (hb)
      replace N_y : Hid (NumIn _ _ _ _ _ _ _) := N_y.out.old (hb)
      replace N_n : Hid (NumIn _ _ _ _ _ _ _) := N_n.out.old (hb)
      replace N_p : Hid (NumIn _ _ _ _ _ _ _) := N_p.out.old (hb)
      replace N_q : Hid (NumIn _ _ _ _ _ _ _) := N_q.out.old (hb)
      replace N_r : Hid (NumIn _ _ _ _ _ _ _) := N_r.out.old (hb)
      replace G_x : Hid (Kc w10 (w3.heap.size) (.slice a_x l_x c_x)) := G_x.out.old (hb)
      replace G_y : Hid (Kc w10 (w3.heap.size + 1) (.slice a_y l_y c_y)) := G_y.out.old (hb)
      replace G_n : Hid (Kc w10 (w3.heap.size + 1 + 1) (.slice a_n l_n c_n)) := G_n.out.old (hb)
      clear hb HC kn
      go_wp2
      go_ret
      exact ⟨rfl, BW.out⟩
end Go.Proofs.Ytjaokpgccnkipaa
