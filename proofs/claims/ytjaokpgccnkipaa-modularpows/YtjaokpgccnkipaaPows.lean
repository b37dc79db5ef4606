/-
  The walk of ModularPows.
-/
import Derived.Test.YtjaokpgccnkipaaModT
import Derived.Test.YtjaokpgccnkipaaModW
namespace Go.Proofs.Ytjaokpgccnkipaa
open Go.RowKit
set_option linter.unusedVariables false
set_option linter.unusedSimpArgs false

theorem sub_doc (a b m : Int) : (a - b) % m = (a % m + m - b % m) % m := by
  refine Cg.emod ?_
  have h := ((Cg.mod m a).sub (Cg.mod m b)).symm
  exact h.trans ⟨-1, by grind⟩
theorem pow_doc (a m : Int) (n : Nat) : a ^ n % m = (a % m) ^ n % m := ((Cg.mod m a).symm.pow n).emod

set_option maxHeartbeats 4000000 in
/-- Any powers. -/
theorem ModularPows_walk (a_a : Option Addr) (l_a c_a : Nat) (z_a : List Int) (a_q : Option Addr) (l_q c_q : Nat) (z_q : List Int) (a_m : Option Addr) (l_m c_m : Nat) (z_m : List Int) (w : World) (came_a : Came .u64 w a_a l_a c_a z_a) (came_q : Came .u64 w a_q l_q c_q z_q) (came_m : Came .u64 w a_m l_m c_m z_m) :
    Calls Try.prog 5 #[.slice a_a l_a c_a, .slice a_q l_q c_q, .slice a_m l_m c_m] w fun e w' => e = .returned (.bool true) ∧ Below w.heap.size w w' := by
  have le_a := came_a.le
  have le_q := came_q.le
  have le_m := came_m.le
  have C_a : Hid (Came .u64 w a_a l_a c_a z_a) := came_a
  have C_q : Hid (Came .u64 w a_q l_q c_q z_q) := came_q
  have C_m : Hid (Came .u64 w a_m l_m c_m z_m) := came_m
  clear came_a came_q came_m
  by_cases h1 : 5 < l_a ∨ 5 < l_m
  · go_enter Try.func5, Try.ntmps5
    go_wp2_with fail
    refine (Awake_any w).mono ?_
    rintro e wA ⟨rfl, hb⟩
    have BW : Hid (Below w.heap.size w wA) := hb
    replace C_a : Hid (Came .u64 wA a_a l_a c_a z_a) := C_a.out.old hb
    replace C_q : Hid (Came .u64 wA a_q l_q c_q z_q) := C_q.out.old hb
    replace C_m : Hid (Came .u64 wA a_m l_m c_m z_m) := C_m.out.old hb
    clear hb
    have HC := long2 a_a a_m l_a c_a l_m c_m 5 wA (by decide) le_a le_m
    rw [decide_eq_true h1] at HC
    go_wp2_with fail
    refine HC.mono ?_
    rintro e wB ⟨rfl, hb⟩
    replace BW : Hid (Below w.heap.size w wB) := BW.out.trans (hb.mono BW.out.size)
    replace C_a : Hid (Came .u64 wB a_a l_a c_a z_a) := C_a.out.old hb
    replace C_q : Hid (Came .u64 wB a_q l_q c_q z_q) := C_q.out.old hb
    replace C_m : Hid (Came .u64 wB a_m l_m c_m z_m) := C_m.out.old hb
    clear hb
    clear HC
    clear C_a C_q C_m
    go_wp2
    go_ret
    exact ⟨rfl, BW.out⟩
  by_cases h2 : 2 < l_q
  · go_enter Try.func5, Try.ntmps5
    go_wp2_with fail
    refine (Awake_any w).mono ?_
    rintro e wA ⟨rfl, hb⟩
    have BW : Hid (Below w.heap.size w wA) := hb
    replace C_a : Hid (Came .u64 wA a_a l_a c_a z_a) := C_a.out.old hb
    replace C_q : Hid (Came .u64 wA a_q l_q c_q z_q) := C_q.out.old hb
    replace C_m : Hid (Came .u64 wA a_m l_m c_m z_m) := C_m.out.old hb
    clear hb
    have HC := long2 a_a a_m l_a c_a l_m c_m 5 wA (by decide) le_a le_m
    rw [decide_eq_false h1] at HC
    go_wp2_with fail
    refine HC.mono ?_
    rintro e wB ⟨rfl, hb⟩
    replace BW : Hid (Below w.heap.size w wB) := BW.out.trans (hb.mono BW.out.size)
    replace C_a : Hid (Came .u64 wB a_a l_a c_a z_a) := C_a.out.old hb
    replace C_q : Hid (Came .u64 wB a_q l_q c_q z_q) := C_q.out.old hb
    replace C_m : Hid (Came .u64 wB a_m l_m c_m z_m) := C_m.out.old hb
    clear hb
    clear HC
    have HC := long1 a_q l_q c_q 2 wB (by decide) le_q
    rw [decide_eq_true h2] at HC
    go_wp2_with fail
    refine HC.mono ?_
    rintro e wC ⟨rfl, hb⟩
    replace BW : Hid (Below w.heap.size w wC) := BW.out.trans (hb.mono BW.out.size)
    replace C_a : Hid (Came .u64 wC a_a l_a c_a z_a) := C_a.out.old hb
    replace C_q : Hid (Came .u64 wC a_q l_q c_q z_q) := C_q.out.old hb
    replace C_m : Hid (Came .u64 wC a_m l_m c_m z_m) := C_m.out.old hb
    clear hb
    clear HC
    clear C_a C_q C_m
    go_wp2
    go_ret
    exact ⟨rfl, BW.out⟩
  · go_enter Try.func5, Try.ntmps5
    go_wp2_with fail
    refine (Awake_any w).mono ?_
    rintro e wA ⟨rfl, hb⟩
    have BW : Hid (Below w.heap.size w wA) := hb
    replace C_a : Hid (Came .u64 wA a_a l_a c_a z_a) := C_a.out.old hb
    replace C_q : Hid (Came .u64 wA a_q l_q c_q z_q) := C_q.out.old hb
    replace C_m : Hid (Came .u64 wA a_m l_m c_m z_m) := C_m.out.old hb
    clear hb
    have HC := long2 a_a a_m l_a c_a l_m c_m 5 wA (by decide) le_a le_m
    rw [decide_eq_false h1] at HC
    go_wp2_with fail
    refine HC.mono ?_
    rintro e wB ⟨rfl, hb⟩
    replace BW : Hid (Below w.heap.size w wB) := BW.out.trans (hb.mono BW.out.size)
    replace C_a : Hid (Came .u64 wB a_a l_a c_a z_a) := C_a.out.old hb
    replace C_q : Hid (Came .u64 wB a_q l_q c_q z_q) := C_q.out.old hb
    replace C_m : Hid (Came .u64 wB a_m l_m c_m z_m) := C_m.out.old hb
    clear hb
    clear HC
    have HC := long1 a_q l_q c_q 2 wB (by decide) le_q
    rw [decide_eq_false h2] at HC
    go_wp2_with fail
    refine HC.mono ?_
    rintro e wC ⟨rfl, hb⟩
    replace BW : Hid (Below w.heap.size w wC) := BW.out.trans (hb.mono BW.out.size)
    replace C_a : Hid (Came .u64 wC a_a l_a c_a z_a) := C_a.out.old hb
    replace C_q : Hid (Came .u64 wC a_q l_q c_q z_q) := C_q.out.old hb
    replace C_m : Hid (Came .u64 wC a_m l_m c_m z_m) := C_m.out.old hb
    clear hb
    clear HC
    have N_a : Hid (NumIn .u64 B64 wC a_a l_a c_a (z_a.take l_a)) := C_a.out.nat (by omega)
    have L_a : Hid (l_a ≤ 5) := by unfold Hid; omega
    have N_q : Hid (NumIn .u64 B64 wC a_q l_q c_q (z_q.take l_q)) := C_q.out.nat (by omega)
    have L_q : Hid (l_q ≤ 5) := by unfold Hid; omega
    have N_m : Hid (NumIn .u64 B64 wC a_m l_m c_m (z_m.take l_m)) := C_m.out.nat (by omega)
    have L_m : Hid (l_m ≤ 5) := by unfold Hid; omega
    clear h1 h2 C_a le_a C_q le_q C_m le_m
    generalize z_a.take l_a = s_a at *
    have P_a : Hid (0 ≤ val B64 s_a) := val_nonneg B64_pos N_a.out.dg
    obtain ⟨A, V_a⟩ : ∃ X, Hid (val B64 s_a = X) := ⟨_, rfl⟩
    replace P_a : Hid (0 ≤ A) := by have := P_a.out; rw [V_a.out] at this; exact this
    generalize z_q.take l_q = s_q at *
    have P_q : Hid (0 ≤ val B64 s_q) := val_nonneg B64_pos N_q.out.dg
    obtain ⟨Q, V_q⟩ : ∃ X, Hid (val B64 s_q = X) := ⟨_, rfl⟩
    replace P_q : Hid (0 ≤ Q) := by have := P_q.out; rw [V_q.out] at this; exact this
    generalize z_m.take l_m = s_m at *
    have P_m : Hid (0 ≤ val B64 s_m) := val_nonneg B64_pos N_m.out.dg
    obtain ⟨M, V_m⟩ : ∃ X, Hid (val B64 s_m = X) := ⟨_, rfl⟩
    replace P_m : Hid (0 ≤ M) := by have := P_m.out; rw [V_m.out] at this; exact this
    go_wp2_with fail
    have HC := rOf_any a_a l_a c_a s_a wC N_a.out (by have := L_a.out; omega)
    refine HC.mono ?_
    rintro e w1 ⟨v, rfl, a_x, l_x, c_x, s_x, rfl, n_x, k_x, v_x, b_x, hb⟩
    replace BW : Hid (Below w.heap.size w w1) := BW.out.trans ((hb).mono BW.out.size)
    replace N_a : Hid (NumIn _ _ _ _ _ _ _) := N_a.out.old (hb)
    replace N_q : Hid (NumIn _ _ _ _ _ _ _) := N_q.out.old (hb)
    replace N_m : Hid (NumIn _ _ _ _ _ _ _) := N_m.out.old (hb)
    have N_x : Hid (NumIn _ _ _ _ _ _ _) := n_x
    have K_x : Hid (Canon s_x) := k_x
    have V_x : Hid (val D16 s_x = A) := by unfold Hid; rw [v_x]; exact V_a.out
    have L_x : Hid (l_x ≤ 20) := by unfold Hid; have := L_a.out; omega
    clear n_x v_x b_x k_x hb HC
    go_wp2_with fail
    have HC := rOf_any a_q l_q c_q s_q w1 N_q.out (by have := L_q.out; omega)
    refine HC.mono ?_
    rintro e w2 ⟨v, rfl, a_k, l_k, c_k, s_k, rfl, n_k, k_k, v_k, b_k, hb⟩
    replace BW : Hid (Below w.heap.size w w2) := BW.out.trans ((hb).mono BW.out.size)
    replace N_a : Hid (NumIn _ _ _ _ _ _ _) := N_a.out.old (hb)
    replace N_q : Hid (NumIn _ _ _ _ _ _ _) := N_q.out.old (hb)
    replace N_m : Hid (NumIn _ _ _ _ _ _ _) := N_m.out.old (hb)
    replace N_x : Hid (NumIn _ _ _ _ _ _ _) := N_x.out.old (hb)
    have N_k : Hid (NumIn _ _ _ _ _ _ _) := n_k
    have K_k : Hid (Canon s_k) := k_k
    have V_k : Hid (val D16 s_k = Q) := by unfold Hid; rw [v_k]; exact V_q.out
    have L_k : Hid (l_k ≤ 20) := by unfold Hid; have := L_q.out; omega
    clear n_k v_k b_k k_k hb HC
    go_wp2_with fail
    have HC := rOf_any a_m l_m c_m s_m w2 N_m.out (by have := L_m.out; omega)
    refine HC.mono ?_
    rintro e w3 ⟨v, rfl, a_n, l_n, c_n, s_n, rfl, n_n, k_n, v_n, b_n, hb⟩
    replace BW : Hid (Below w.heap.size w w3) := BW.out.trans ((hb).mono BW.out.size)
    replace N_a : Hid (NumIn _ _ _ _ _ _ _) := N_a.out.old (hb)
    replace N_q : Hid (NumIn _ _ _ _ _ _ _) := N_q.out.old (hb)
    replace N_m : Hid (NumIn _ _ _ _ _ _ _) := N_m.out.old (hb)
    replace N_x : Hid (NumIn _ _ _ _ _ _ _) := N_x.out.old (hb)
    replace N_k : Hid (NumIn _ _ _ _ _ _ _) := N_k.out.old (hb)
    have N_n : Hid (NumIn _ _ _ _ _ _ _) := n_n
    have K_n : Hid (Canon s_n) := k_n
    have V_n : Hid (val D16 s_n = M) := by unfold Hid; rw [v_n]; exact V_m.out
    have L_n : Hid (l_n ≤ 20) := by unfold Hid; have := L_m.out; omega
    clear n_n v_n b_n k_n hb HC
    go_wp2_with fail
    have hb : Below w3.heap.size w3 (((w3.alloc (.cells #[.slice a_x l_x c_x] 27)).alloc (.cells #[.slice a_k l_k c_k] 27)).alloc (.cells #[.slice a_n l_n c_n] 27)) := (((Below.refl _ _).alloc (Nat.le_refl _) _).alloc (by simp) _).alloc (by simp; omega) _
    have G_x : Hid (Kc (((w3.alloc (.cells #[.slice a_x l_x c_x] 27)).alloc (.cells #[.slice a_k l_k c_k] 27)).alloc (.cells #[.slice a_n l_n c_n] 27)) (w3.heap.size) (.slice a_x l_x c_x)) := ((Kc.new _ _ _ _ (rfl)).alloc _).alloc _
    have G_k : Hid (Kc (((w3.alloc (.cells #[.slice a_x l_x c_x] 27)).alloc (.cells #[.slice a_k l_k c_k] 27)).alloc (.cells #[.slice a_n l_n c_n] 27)) (w3.heap.size + 1) (.slice a_k l_k c_k)) := (Kc.new _ _ _ _ (by simp)).alloc _
    have G_n : Hid (Kc (((w3.alloc (.cells #[.slice a_x l_x c_x] 27)).alloc (.cells #[.slice a_k l_k c_k] 27)).alloc (.cells #[.slice a_n l_n c_n] 27)) (w3.heap.size + 1 + 1) (.slice a_n l_n c_n)) := Kc.new _ _ _ _ (by simp)
    replace BW : Hid (Below w.heap.size w (((w3.alloc (.cells #[.slice a_x l_x c_x] 27)).alloc (.cells #[.slice a_k l_k c_k] 27)).alloc (.cells #[.slice a_n l_n c_n] 27))) := BW.out.trans ((hb).mono BW.out.size)
    replace N_a : Hid (NumIn _ _ _ _ _ _ _) := N_a.out.old (hb)
    replace N_q : Hid (NumIn _ _ _ _ _ _ _) := N_q.out.old (hb)
    replace N_m : Hid (NumIn _ _ _ _ _ _ _) := N_m.out.old (hb)
    replace N_x : Hid (NumIn _ _ _ _ _ _ _) := N_x.out.old (hb)
    replace N_k : Hid (NumIn _ _ _ _ _ _ _) := N_k.out.old (hb)
    replace N_n : Hid (NumIn _ _ _ _ _ _ _) := N_n.out.old (hb)
    clear hb
    generalize (((w3.alloc (.cells #[.slice a_x l_x c_x] 27)).alloc (.cells #[.slice a_k l_k c_k] 27)).alloc (.cells #[.slice a_n l_n c_n] 27)) = w4 at *
    by_cases hz : M = 0
    · have hl0 : l_n = 0 := big_zero D16_one N_n.out K_n.out (by rw [V_n.out]; exact hz)
      have HL0 : Hid (l_n = 0) := hl0
      clear hl0
      have HC := mPow_zero a_a a_q a_m l_a c_a l_q c_q l_m c_m s_a s_m w4 N_a.out N_m.out (by rw [V_m.out]; exact hz)
      go_wp2_with fail
      refine HC.mono ?_
      rintro e w5 ⟨rfl, hb⟩
      replace BW : Hid (Below w.heap.size w w5) := BW.out.trans ((hb).mono BW.out.size)
      replace N_a : Hid (NumIn _ _ _ _ _ _ _) := N_a.out.old (hb)
      replace N_q : Hid (NumIn _ _ _ _ _ _ _) := N_q.out.old (hb)
      replace N_m : Hid (NumIn _ _ _ _ _ _ _) := N_m.out.old (hb)
      replace N_x : Hid (NumIn _ _ _ _ _ _ _) := N_x.out.old (hb)
      replace N_k : Hid (NumIn _ _ _ _ _ _ _) := N_k.out.old (hb)
      replace N_n : Hid (NumIn _ _ _ _ _ _ _) := N_n.out.old (hb)
      replace G_x : Hid (Kc w5 (w3.heap.size) (.slice a_x l_x c_x)) := G_x.out.old (hb)
      replace G_k : Hid (Kc w5 (w3.heap.size + 1) (.slice a_k l_k c_k)) := G_k.out.old (hb)
      replace G_n : Hid (Kc w5 (w3.heap.size + 1 + 1) (.slice a_n l_n c_n)) := G_n.out.old (hb)
      clear hb HC
      obtain rfl : l_n = 0 := HL0.out
      clear HL0
      have kn := G_n.out.1
      have HC := told_zero a_n c_n
      go_wp2_with fail
      refine (HC _ _).mono ?_
      rintro e w6 ⟨rfl, rfl⟩
      clear HC kn
      go_wp2
      go_ret
      exact ⟨rfl, BW.out⟩
    · have HZ : Hid (M ≠ 0) := hz
      clear hz
      go_wp2_with fail
      have HC := mPow_any a_a a_q a_m l_a c_a l_q c_q l_m c_m s_a s_q s_m w4 N_a.out N_q.out N_m.out (by rw [V_m.out]; exact HZ.out) (by have := L_q.out; omega) (by have := L_a.out; have := L_m.out; omega)
      refine HC.mono ?_
      rintro e w5 ⟨v, rfl, a_p, l_p, c_p, s_p, rfl, n_p, k_p, v_p, b_p, hb⟩
      have K_p : Hid (Canon s_p) := k_p
      clear k_p
      replace BW : Hid (Below w.heap.size w w5) := BW.out.trans ((hb).mono BW.out.size)
      replace N_a : Hid (NumIn _ _ _ _ _ _ _) := N_a.out.old (hb)
      replace N_q : Hid (NumIn _ _ _ _ _ _ _) := N_q.out.old (hb)
      replace N_m : Hid (NumIn _ _ _ _ _ _ _) := N_m.out.old (hb)
      replace N_x : Hid (NumIn _ _ _ _ _ _ _) := N_x.out.old (hb)
      replace N_k : Hid (NumIn _ _ _ _ _ _ _) := N_k.out.old (hb)
      replace N_n : Hid (NumIn _ _ _ _ _ _ _) := N_n.out.old (hb)
      replace G_x : Hid (Kc w5 (w3.heap.size) (.slice a_x l_x c_x)) := G_x.out.old (hb)
      replace G_k : Hid (Kc w5 (w3.heap.size + 1) (.slice a_k l_k c_k)) := G_k.out.old (hb)
      replace G_n : Hid (Kc w5 (w3.heap.size + 1 + 1) (.slice a_n l_n c_n)) := G_n.out.old (hb)
      have N_p : Hid (NumIn _ _ _ _ _ _ _) := n_p
      have V_p : Hid (val B64 s_p = (A % M) ^ Q.toNat % M) := by unfold Hid; rw [v_p]; rw [V_a.out, V_q.out, V_m.out]; exact pow_doc A M _
      have L_p : Hid (l_p ≤ 40) := by unfold Hid; have := L_m.out; omega
      clear n_p v_p b_p hb HC
      have kn := G_n.out.1
      have HC := told_pows1 a_p l_p c_p s_p (w3.heap.size + 1) (w3.heap.size + 1 + 1) (w3.heap.size) a_k a_n a_x l_k c_k l_n c_n l_x c_x s_k s_n s_x w5 N_p.out K_p.out G_k.out G_n.out G_x.out N_k.out N_n.out N_x.out K_k.out K_n.out K_x.out (by rw [V_n.out]; exact HZ.out) (by have := L_k.out; omega) (by have := L_n.out; omega) (by have := L_x.out; omega) (by rw [V_p.out, V_k.out, V_n.out, V_x.out])
      go_wp2_with fail
      refine HC.mono ?_
      rintro e w6 ⟨rfl, hb⟩
      replace BW : Hid (Below w.heap.size w w6) := BW.out.trans ((hb).mono BW.out.size)
      replace N_a : Hid (NumIn _ _ _ _ _ _ _) := N_a.out.old (hb)
      replace N_q : Hid (NumIn _ _ _ _ _ _ _) := N_q.out.old (hb)
      replace N_m : Hid (NumIn _ _ _ _ _ _ _) := N_m.out.old (hb)
      replace N_x : Hid (NumIn _ _ _ _ _ _ _) := N_x.out.old (hb)
      replace N_k : Hid (NumIn _ _ _ _ _ _ _) := N_k.out.old (hb)
      replace N_n : Hid (NumIn _ _ _ _ _ _ _) := N_n.out.old (hb)
      replace N_p : Hid (NumIn _ _ _ _ _ _ _) := N_p.out.old (hb)
      replace G_x : Hid (Kc w6 (w3.heap.size) (.slice a_x l_x c_x)) := G_x.out.old (hb)
      replace G_k : Hid (Kc w6 (w3.heap.size + 1) (.slice a_k l_k c_k)) := G_k.out.old (hb)
      replace G_n : Hid (Kc w6 (w3.heap.size + 1 + 1) (.slice a_n l_n c_n)) := G_n.out.old (hb)
      clear hb HC kn
      go_wp2
      go_ret
      exact ⟨rfl, BW.out⟩
end Go.Proofs.Ytjaokpgccnkipaa
