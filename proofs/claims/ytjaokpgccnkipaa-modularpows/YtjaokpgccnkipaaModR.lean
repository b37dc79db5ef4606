/-
  Contracts of the laws' closures over the document's numbers.
-/
import Derived.Test.YtjaokpgccnkipaaRefG
import Derived.Deep.RegionHeld3
import Derived.Deep.Light
namespace Go.Proofs.Ytjaokpgccnkipaa
open Go.RowKit
set_option linter.unusedVariables false
set_option linter.unusedSimpArgs false

set_option maxHeartbeats 4000000 in
/-- latchkeylaw02.ModularSums$1. -/
theorem sums1_any (g_n g_x : Nat) (a_n a_x : Option Addr) (l_n c_n l_x c_x : Nat) (s_n s_x : List Int) (w : World) (h_n : Kc w g_n (.slice a_n l_n c_n)) (h_x : Kc w g_x (.slice a_x l_x c_x)) (n_n : NumIn .i64 D16 w a_n l_n c_n s_n) (n_x : NumIn .i64 D16 w a_x l_x c_x s_x) (k_n : Canon s_n) (k_x : Canon s_x) (h0 : val D16 s_n ≠ 0) (b_n : l_n ≤ 200) (b_x : l_x ≤ 200) :
    Calls Try.prog 16 #[.pointer (some ⟨g_x, 0, none⟩), .pointer (some ⟨g_n, 0, none⟩)] w fun e w' => ∃ v, e = .returned v ∧ NumOut .i64 D16 w w' v (val D16 s_x % val D16 s_n) l_n := by
  have hD : Below w.heap.size w w := Below.refl _ _
  have BW : Hid (Below w.heap.size w w) := hD
  have N_n : Hid (NumIn .i64 D16 w a_n l_n c_n s_n) := n_n.old hD
  have K_n : Hid (Canon s_n) := k_n
  have L_n : Hid (l_n ≤ 200) := b_n
  have H_n : Hid (Kc w g_n (.slice a_n l_n c_n)) := h_n
  obtain ⟨N, V_n⟩ : ∃ X, Hid (val D16 s_n = X) := ⟨_, rfl⟩
  have N_x : Hid (NumIn .i64 D16 w a_x l_x c_x s_x) := n_x.old hD
  have K_x : Hid (Canon s_x) := k_x
  have L_x : Hid (l_x ≤ 200) := b_x
  have H_x : Hid (Kc w g_x (.slice a_x l_x c_x)) := h_x
  obtain ⟨X, V_x⟩ : ∃ X, Hid (val D16 s_x = X) := ⟨_, rfl⟩
  have HZ : Hid (N ≠ 0) := by have := h0; rw [V_n.out] at this; exact this
  have P_n : Hid (0 ≤ N) := by have := val_nonneg D16_pos N_n.out.dg; rw [V_n.out] at this; exact this
  rw [V_n.out, V_x.out]
  have hS : w.cell? ⟨g_n, 0, none⟩ = some (.slice a_n l_n c_n) ∧ w.cell? ⟨g_x, 0, none⟩ = some (.slice a_x l_x c_x) := ⟨h_n.1, h_x.1⟩
  have F0 : Hid True := trivial
  clear hD h0 n_n k_n b_n h_n n_x k_x b_x h_x
  go_enter Try.func16, Try.ntmps16
  obtain ⟨c_n_, c_x_⟩ := hS
  go_wp2_with fail
  refine (rMod_any a_x a_n l_x c_x l_n c_n s_x s_n w N_x.out N_n.out K_n.out (by rw [V_n.out]; exact HZ.out) (by have := L_x.out; omega) (by have := L_n.out; omega)).mono ?_
  rintro e w1 ⟨v, rfl, a_r, l_r, c_r, s_r, rfl, n_r, k_r, v_r, b_r, hb⟩
  have BW : Hid (Below w.heap.size w w1) := hb
  replace N_n : Hid (NumIn _ _ _ _ _ _ _) := N_n.out.old (hb)
  replace N_x : Hid (NumIn _ _ _ _ _ _ _) := N_x.out.old (hb)
  have N_r : Hid (NumIn .i64 D16 w1 a_r l_r c_r s_r) := n_r
  have K_r : Hid (Canon s_r) := k_r
  have V_r : Hid (val D16 s_r = X % N) := by unfold Hid; rw [v_r]; rw [V_x.out, V_n.out]
  have L_r : Hid (l_r ≤ l_n) := by unfold Hid; omega
  have hS0 : True := trivial
  clear n_r k_r v_r b_r hb F0
  have HF : Hid (NumOut .i64 D16 w w1 (.slice a_r l_r c_r) (X % N) l_n) := ⟨a_r, l_r, c_r, s_r, rfl, N_r.out, K_r.out, V_r.out, L_r.out, BW.out⟩
  go_wp2
  go_ret
  exact ⟨_, rfl, HF.out⟩
set_option maxHeartbeats 4000000 in
/-- latchkeylaw02.ModularSums$2. -/
theorem sums2_any (g_n g_x g_y : Nat) (a_n a_x a_y : Option Addr) (l_n c_n l_x c_x l_y c_y : Nat) (s_n s_x s_y : List Int) (w : World) (h_n : Kc w g_n (.slice a_n l_n c_n)) (h_x : Kc w g_x (.slice a_x l_x c_x)) (h_y : Kc w g_y (.slice a_y l_y c_y)) (n_n : NumIn .i64 D16 w a_n l_n c_n s_n) (n_x : NumIn .i64 D16 w a_x l_x c_x s_x) (n_y : NumIn .i64 D16 w a_y l_y c_y s_y) (k_n : Canon s_n) (k_x : Canon s_x) (k_y : Canon s_y) (h0 : val D16 s_n ≠ 0) (b_n : l_n ≤ 200) (b_x : l_x ≤ 200) (b_y : l_y ≤ 200) :
    Calls Try.prog 18 #[.pointer (some ⟨g_x, 0, none⟩), .pointer (some ⟨g_y, 0, none⟩), .pointer (some ⟨g_n, 0, none⟩)] w fun e w' => ∃ v, e = .returned v ∧ NumOut .i64 D16 w w' v ((val D16 s_x + val D16 s_y) % val D16 s_n) l_n := by
  have hD : Below w.heap.size w w.drew := (Below.refl _ _).drew
  have BW : Hid (Below w.heap.size w w.drew) := hD
  have N_n : Hid (NumIn .i64 D16 w.drew a_n l_n c_n s_n) := n_n.old hD
  have K_n : Hid (Canon s_n) := k_n
  have L_n : Hid (l_n ≤ 200) := b_n
  have H_n : Hid (Kc w g_n (.slice a_n l_n c_n)) := h_n
  obtain ⟨N, V_n⟩ : ∃ X, Hid (val D16 s_n = X) := ⟨_, rfl⟩
  have N_x : Hid (NumIn .i64 D16 w.drew a_x l_x c_x s_x) := n_x.old hD
  have K_x : Hid (Canon s_x) := k_x
  have L_x : Hid (l_x ≤ 200) := b_x
  have H_x : Hid (Kc w g_x (.slice a_x l_x c_x)) := h_x
  obtain ⟨X, V_x⟩ : ∃ X, Hid (val D16 s_x = X) := ⟨_, rfl⟩
  have N_y : Hid (NumIn .i64 D16 w.drew a_y l_y c_y s_y) := n_y.old hD
  have K_y : Hid (Canon s_y) := k_y
  have L_y : Hid (l_y ≤ 200) := b_y
  have H_y : Hid (Kc w g_y (.slice a_y l_y c_y)) := h_y
  obtain ⟨Y, V_y⟩ : ∃ X, Hid (val D16 s_y = X) := ⟨_, rfl⟩
  have HZ : Hid (N ≠ 0) := by have := h0; rw [V_n.out] at this; exact this
  have P_n : Hid (0 ≤ N) := by have := val_nonneg D16_pos N_n.out.dg; rw [V_n.out] at this; exact this
  rw [V_n.out, V_x.out, V_y.out]
  have hS : w.cell? ⟨g_n, 0, none⟩ = some (.slice a_n l_n c_n) ∧ w.cell? ⟨g_x, 0, none⟩ = some (.slice a_x l_x c_x) ∧ w.cell? ⟨g_y, 0, none⟩ = some (.slice a_y l_y c_y) := ⟨h_n.1, h_x.1, h_y.1⟩
  have F0 : Hid True := trivial
  have F1 : Hid True := trivial
  clear hD h0 n_n k_n b_n h_n n_x k_x b_x h_x n_y k_y b_y h_y
  go_enter Try.func18, Try.ntmps18
  go_wp2_with fail
  go_region_held3 (fun W => W.cell? ⟨g_n, 0, none⟩ = some (.slice a_n l_n c_n) ∧ W.cell? ⟨g_x, 0, none⟩ = some (.slice a_x l_x c_x) ∧ W.cell? ⟨g_y, 0, none⟩ = some (.slice a_y l_y c_y)) (first | assumption | exact hS) (first
    | (go_at_call 19; have f := F0; refine (rAdd_any a_x a_y l_x c_x l_y c_y s_x s_y w.drew N_x.out N_y.out K_x.out K_y.out (by have := L_x.out; omega) (by have := L_y.out; omega)).mono ?_; rintro e w1 ⟨v, rfl, a_t, l_t, c_t, s_t, rfl, n_t, k_t, v_t, b_t, hb⟩
       replace BW : Hid (Below w.heap.size w w1) := BW.out.trans ((hb).mono BW.out.size)
       replace N_n : Hid (NumIn _ _ _ _ _ _ _) := N_n.out.old (hb)
       replace N_x : Hid (NumIn _ _ _ _ _ _ _) := N_x.out.old (hb)
       replace N_y : Hid (NumIn _ _ _ _ _ _ _) := N_y.out.old (hb)
       have N_t : Hid (NumIn .i64 D16 w1 a_t l_t c_t s_t) := n_t
       have K_t : Hid (Canon s_t) := k_t
       have V_t : Hid (val D16 s_t = X + Y) := by unfold Hid; rw [v_t]; rw [V_x.out, V_y.out]
       have L_t : Hid (l_t ≤ 1000) := by unfold Hid; have := L_x.out; have := L_y.out; omega
       have hS0 : w1.cell? ⟨g_n, 0, none⟩ = some (.slice a_n l_n c_n) ∧ w1.cell? ⟨g_x, 0, none⟩ = some (.slice a_x l_x c_x) ∧ w1.cell? ⟨g_y, 0, none⟩ = some (.slice a_y l_y c_y) := ⟨(H_n.out.old BW.out).1, (H_x.out.old BW.out).1, (H_y.out.old BW.out).1⟩
       clear n_t k_t v_t b_t hb F0 f)
    | (go_at_call 17; have f := F1; refine (rMod_any a_t a_n l_t c_t l_n c_n s_t s_n w1 N_t.out N_n.out K_n.out (by rw [V_n.out]; exact HZ.out) (by have := L_t.out; omega) (by have := L_n.out; omega)).mono ?_; rintro e w2 ⟨v, rfl, a_r, l_r, c_r, s_r, rfl, n_r, k_r, v_r, b_r, hb⟩
       replace BW : Hid (Below w.heap.size w w2) := BW.out.trans ((hb).mono BW.out.size)
       replace N_n : Hid (NumIn _ _ _ _ _ _ _) := N_n.out.old (hb)
       replace N_x : Hid (NumIn _ _ _ _ _ _ _) := N_x.out.old (hb)
       replace N_y : Hid (NumIn _ _ _ _ _ _ _) := N_y.out.old (hb)
       replace N_t : Hid (NumIn _ _ _ _ _ _ _) := N_t.out.old (hb)
       have N_r : Hid (NumIn .i64 D16 w2 a_r l_r c_r s_r) := n_r
       have K_r : Hid (Canon s_r) := k_r
       have V_r : Hid (val D16 s_r = (X + Y) % N) := by unfold Hid; rw [v_r]; rw [V_t.out, V_n.out]
       have L_r : Hid (l_r ≤ l_n) := by unfold Hid; omega
       have hS1 : w2.cell? ⟨g_n, 0, none⟩ = some (.slice a_n l_n c_n) ∧ w2.cell? ⟨g_x, 0, none⟩ = some (.slice a_x l_x c_x) ∧ w2.cell? ⟨g_y, 0, none⟩ = some (.slice a_y l_y c_y) := ⟨(H_n.out.old BW.out).1, (H_x.out.old BW.out).1, (H_y.out.old BW.out).1⟩
       clear n_r k_r v_r b_r hb F1 f))
  all_goals
    have HF : Hid (NumOut .i64 D16 w w2 (.slice a_r l_r c_r) ((X + Y) % N) l_n) := ⟨a_r, l_r, c_r, s_r, rfl, N_r.out, K_r.out, V_r.out, L_r.out, BW.out⟩
    go_wp2
    go_ret
    exact ⟨_, rfl, HF.out⟩
set_option maxHeartbeats 4000000 in
/-- latchkeylaw02.ModularSums$3. -/
theorem sums3_any (g_n g_x g_y : Nat) (a_n a_x a_y : Option Addr) (l_n c_n l_x c_x l_y c_y : Nat) (s_n s_x s_y : List Int) (w : World) (h_n : Kc w g_n (.slice a_n l_n c_n)) (h_x : Kc w g_x (.slice a_x l_x c_x)) (h_y : Kc w g_y (.slice a_y l_y c_y)) (n_n : NumIn .i64 D16 w a_n l_n c_n s_n) (n_x : NumIn .i64 D16 w a_x l_x c_x s_x) (n_y : NumIn .i64 D16 w a_y l_y c_y s_y) (k_n : Canon s_n) (k_x : Canon s_x) (k_y : Canon s_y) (h0 : val D16 s_n ≠ 0) (b_n : l_n ≤ 200) (b_x : l_x ≤ 200) (b_y : l_y ≤ 200) :
    Calls Try.prog 20 #[.pointer (some ⟨g_x, 0, none⟩), .pointer (some ⟨g_y, 0, none⟩), .pointer (some ⟨g_n, 0, none⟩)] w fun e w' => ∃ v, e = .returned v ∧ NumOut .i64 D16 w w' v ((val D16 s_x * val D16 s_y) % val D16 s_n) l_n := by
  have hD : Below w.heap.size w w.drew := (Below.refl _ _).drew
  have BW : Hid (Below w.heap.size w w.drew) := hD
  have N_n : Hid (NumIn .i64 D16 w.drew a_n l_n c_n s_n) := n_n.old hD
  have K_n : Hid (Canon s_n) := k_n
  have L_n : Hid (l_n ≤ 200) := b_n
  have H_n : Hid (Kc w g_n (.slice a_n l_n c_n)) := h_n
  obtain ⟨N, V_n⟩ : ∃ X, Hid (val D16 s_n = X) := ⟨_, rfl⟩
  have N_x : Hid (NumIn .i64 D16 w.drew a_x l_x c_x s_x) := n_x.old hD
  have K_x : Hid (Canon s_x) := k_x
  have L_x : Hid (l_x ≤ 200) := b_x
  have H_x : Hid (Kc w g_x (.slice a_x l_x c_x)) := h_x
  obtain ⟨X, V_x⟩ : ∃ X, Hid (val D16 s_x = X) := ⟨_, rfl⟩
  have N_y : Hid (NumIn .i64 D16 w.drew a_y l_y c_y s_y) := n_y.old hD
  have K_y : Hid (Canon s_y) := k_y
  have L_y : Hid (l_y ≤ 200) := b_y
  have H_y : Hid (Kc w g_y (.slice a_y l_y c_y)) := h_y
  obtain ⟨Y, V_y⟩ : ∃ X, Hid (val D16 s_y = X) := ⟨_, rfl⟩
  have HZ : Hid (N ≠ 0) := by have := h0; rw [V_n.out] at this; exact this
  have P_n : Hid (0 ≤ N) := by have := val_nonneg D16_pos N_n.out.dg; rw [V_n.out] at this; exact this
  rw [V_n.out, V_x.out, V_y.out]
  have hS : w.cell? ⟨g_n, 0, none⟩ = some (.slice a_n l_n c_n) ∧ w.cell? ⟨g_x, 0, none⟩ = some (.slice a_x l_x c_x) ∧ w.cell? ⟨g_y, 0, none⟩ = some (.slice a_y l_y c_y) := ⟨h_n.1, h_x.1, h_y.1⟩
  have F0 : Hid True := trivial
  have F1 : Hid True := trivial
  clear hD h0 n_n k_n b_n h_n n_x k_x b_x h_x n_y k_y b_y h_y
  go_enter Try.func20, Try.ntmps20
  go_wp2_with fail
  go_region_held3 (fun W => W.cell? ⟨g_n, 0, none⟩ = some (.slice a_n l_n c_n) ∧ W.cell? ⟨g_x, 0, none⟩ = some (.slice a_x l_x c_x) ∧ W.cell? ⟨g_y, 0, none⟩ = some (.slice a_y l_y c_y)) (first | assumption | exact hS) (first
    | (go_at_call 21; have f := F0; refine (rMul_any a_x a_y l_x c_x l_y c_y s_x s_y w.drew N_x.out N_y.out (by have := L_x.out; omega) (by have := L_y.out; omega)).mono ?_; rintro e w1 ⟨v, rfl, a_t, l_t, c_t, s_t, rfl, n_t, k_t, v_t, b_t, hb⟩
       replace BW : Hid (Below w.heap.size w w1) := BW.out.trans ((hb).mono BW.out.size)
       replace N_n : Hid (NumIn _ _ _ _ _ _ _) := N_n.out.old (hb)
       replace N_x : Hid (NumIn _ _ _ _ _ _ _) := N_x.out.old (hb)
       replace N_y : Hid (NumIn _ _ _ _ _ _ _) := N_y.out.old (hb)
       have N_t : Hid (NumIn .i64 D16 w1 a_t l_t c_t s_t) := n_t
       have K_t : Hid (Canon s_t) := k_t
       have V_t : Hid (val D16 s_t = X * Y) := by unfold Hid; rw [v_t]; rw [V_x.out, V_y.out]
       have L_t : Hid (l_t ≤ 1000) := by unfold Hid; have := L_x.out; have := L_y.out; omega
       have hS0 : w1.cell? ⟨g_n, 0, none⟩ = some (.slice a_n l_n c_n) ∧ w1.cell? ⟨g_x, 0, none⟩ = some (.slice a_x l_x c_x) ∧ w1.cell? ⟨g_y, 0, none⟩ = some (.slice a_y l_y c_y) := ⟨(H_n.out.old BW.out).1, (H_x.out.old BW.out).1, (H_y.out.old BW.out).1⟩
       clear n_t k_t v_t b_t hb F0 f)
    | (go_at_call 17; have f := F1; refine (rMod_any a_t a_n l_t c_t l_n c_n s_t s_n w1 N_t.out N_n.out K_n.out (by rw [V_n.out]; exact HZ.out) (by have := L_t.out; omega) (by have := L_n.out; omega)).mono ?_; rintro e w2 ⟨v, rfl, a_r, l_r, c_r, s_r, rfl, n_r, k_r, v_r, b_r, hb⟩
       replace BW : Hid (Below w.heap.size w w2) := BW.out.trans ((hb).mono BW.out.size)
       replace N_n : Hid (NumIn _ _ _ _ _ _ _) := N_n.out.old (hb)
       replace N_x : Hid (NumIn _ _ _ _ _ _ _) := N_x.out.old (hb)
       replace N_y : Hid (NumIn _ _ _ _ _ _ _) := N_y.out.old (hb)
       replace N_t : Hid (NumIn _ _ _ _ _ _ _) := N_t.out.old (hb)
       have N_r : Hid (NumIn .i64 D16 w2 a_r l_r c_r s_r) := n_r
       have K_r : Hid (Canon s_r) := k_r
       have V_r : Hid (val D16 s_r = (X * Y) % N) := by unfold Hid; rw [v_r]; rw [V_t.out, V_n.out]
       have L_r : Hid (l_r ≤ l_n) := by unfold Hid; omega
       have hS1 : w2.cell? ⟨g_n, 0, none⟩ = some (.slice a_n l_n c_n) ∧ w2.cell? ⟨g_x, 0, none⟩ = some (.slice a_x l_x c_x) ∧ w2.cell? ⟨g_y, 0, none⟩ = some (.slice a_y l_y c_y) := ⟨(H_n.out.old BW.out).1, (H_x.out.old BW.out).1, (H_y.out.old BW.out).1⟩
       clear n_r k_r v_r b_r hb F1 f))
  all_goals
    have HF : Hid (NumOut .i64 D16 w w2 (.slice a_r l_r c_r) ((X * Y) % N) l_n) := ⟨a_r, l_r, c_r, s_r, rfl, N_r.out, K_r.out, V_r.out, L_r.out, BW.out⟩
    go_wp2
    go_ret
    exact ⟨_, rfl, HF.out⟩
set_option maxHeartbeats 4000000 in
/-- latchkeylaw02.ModularSubs$1. -/
theorem subs1_any (g_n g_x g_y : Nat) (a_n a_x a_y : Option Addr) (l_n c_n l_x c_x l_y c_y : Nat) (s_n s_x s_y : List Int) (w : World) (h_n : Kc w g_n (.slice a_n l_n c_n)) (h_x : Kc w g_x (.slice a_x l_x c_x)) (h_y : Kc w g_y (.slice a_y l_y c_y)) (n_n : NumIn .i64 D16 w a_n l_n c_n s_n) (n_x : NumIn .i64 D16 w a_x l_x c_x s_x) (n_y : NumIn .i64 D16 w a_y l_y c_y s_y) (k_n : Canon s_n) (k_x : Canon s_x) (k_y : Canon s_y) (h0 : val D16 s_n ≠ 0) (b_n : l_n ≤ 200) (b_x : l_x ≤ 200) (b_y : l_y ≤ 200) :
    Calls Try.prog 23 #[.pointer (some ⟨g_x, 0, none⟩), .pointer (some ⟨g_n, 0, none⟩), .pointer (some ⟨g_y, 0, none⟩)] w fun e w' => ∃ v, e = .returned v ∧ NumOut .i64 D16 w w' v ((val D16 s_x % val D16 s_n + val D16 s_n - val D16 s_y % val D16 s_n) % val D16 s_n) l_n := by
  have hD : Below w.heap.size w w.drew := (Below.refl _ _).drew
  have BW : Hid (Below w.heap.size w w.drew) := hD
  have N_n : Hid (NumIn .i64 D16 w.drew a_n l_n c_n s_n) := n_n.old hD
  have K_n : Hid (Canon s_n) := k_n
  have L_n : Hid (l_n ≤ 200) := b_n
  have H_n : Hid (Kc w g_n (.slice a_n l_n c_n)) := h_n
  obtain ⟨N, V_n⟩ : ∃ X, Hid (val D16 s_n = X) := ⟨_, rfl⟩
  have N_x : Hid (NumIn .i64 D16 w.drew a_x l_x c_x s_x) := n_x.old hD
  have K_x : Hid (Canon s_x) := k_x
  have L_x : Hid (l_x ≤ 200) := b_x
  have H_x : Hid (Kc w g_x (.slice a_x l_x c_x)) := h_x
  obtain ⟨X, V_x⟩ : ∃ X, Hid (val D16 s_x = X) := ⟨_, rfl⟩
  have N_y : Hid (NumIn .i64 D16 w.drew a_y l_y c_y s_y) := n_y.old hD
  have K_y : Hid (Canon s_y) := k_y
  have L_y : Hid (l_y ≤ 200) := b_y
  have H_y : Hid (Kc w g_y (.slice a_y l_y c_y)) := h_y
  obtain ⟨Y, V_y⟩ : ∃ X, Hid (val D16 s_y = X) := ⟨_, rfl⟩
  have HZ : Hid (N ≠ 0) := by have := h0; rw [V_n.out] at this; exact this
  have P_n : Hid (0 ≤ N) := by have := val_nonneg D16_pos N_n.out.dg; rw [V_n.out] at this; exact this
  have HLE : Hid (Y % N ≤ X % N + N) := by
    unfold Hid
    have h1 := mod_range X N P_n.out HZ.out
    have h2 := mod_range Y N P_n.out HZ.out
    omega
  rw [V_n.out, V_x.out, V_y.out]
  have hS : w.cell? ⟨g_n, 0, none⟩ = some (.slice a_n l_n c_n) ∧ w.cell? ⟨g_x, 0, none⟩ = some (.slice a_x l_x c_x) ∧ w.cell? ⟨g_y, 0, none⟩ = some (.slice a_y l_y c_y) := ⟨h_n.1, h_x.1, h_y.1⟩
  have F0 : Hid True := trivial
  have F1 : Hid True := trivial
  have F2 : Hid True := trivial
  have F3 : Hid True := trivial
  have F4 : Hid True := trivial
  clear hD h0 n_n k_n b_n h_n n_x k_x b_x h_x n_y k_y b_y h_y
  go_enter Try.func23, Try.ntmps23
  go_wp2_with fail
  go_region_held3 (fun W => W.cell? ⟨g_n, 0, none⟩ = some (.slice a_n l_n c_n) ∧ W.cell? ⟨g_x, 0, none⟩ = some (.slice a_x l_x c_x) ∧ W.cell? ⟨g_y, 0, none⟩ = some (.slice a_y l_y c_y)) (first | assumption | exact hS) (first
    | (go_at_call 17; have f := F0; refine (rMod_any a_x a_n l_x c_x l_n c_n s_x s_n w.drew N_x.out N_n.out K_n.out (by rw [V_n.out]; exact HZ.out) (by have := L_x.out; omega) (by have := L_n.out; omega)).mono ?_; rintro e w1 ⟨v, rfl, a_p, l_p, c_p, s_p, rfl, n_p, k_p, v_p, b_p, hb⟩
       replace BW : Hid (Below w.heap.size w w1) := BW.out.trans ((hb).mono BW.out.size)
       replace N_n : Hid (NumIn _ _ _ _ _ _ _) := N_n.out.old (hb)
       replace N_x : Hid (NumIn _ _ _ _ _ _ _) := N_x.out.old (hb)
       replace N_y : Hid (NumIn _ _ _ _ _ _ _) := N_y.out.old (hb)
       have N_p : Hid (NumIn .i64 D16 w1 a_p l_p c_p s_p) := n_p
       have K_p : Hid (Canon s_p) := k_p
       have V_p : Hid (val D16 s_p = X % N) := by unfold Hid; rw [v_p]; rw [V_x.out, V_n.out]
       have L_p : Hid (l_p ≤ 200) := by unfold Hid; have := L_x.out; have := L_n.out; omega
       have hS0 : w1.cell? ⟨g_n, 0, none⟩ = some (.slice a_n l_n c_n) ∧ w1.cell? ⟨g_x, 0, none⟩ = some (.slice a_x l_x c_x) ∧ w1.cell? ⟨g_y, 0, none⟩ = some (.slice a_y l_y c_y) := ⟨(H_n.out.old BW.out).1, (H_x.out.old BW.out).1, (H_y.out.old BW.out).1⟩
       clear n_p k_p v_p b_p hb F0 f)
    | (go_at_call 19; have f := F1; refine (rAdd_any a_p a_n l_p c_p l_n c_n s_p s_n w1 N_p.out N_n.out K_p.out K_n.out (by have := L_p.out; omega) (by have := L_n.out; omega)).mono ?_; rintro e w2 ⟨v, rfl, a_q, l_q, c_q, s_q, rfl, n_q, k_q, v_q, b_q, hb⟩
       replace BW : Hid (Below w.heap.size w w2) := BW.out.trans ((hb).mono BW.out.size)
       replace N_n : Hid (NumIn _ _ _ _ _ _ _) := N_n.out.old (hb)
       replace N_x : Hid (NumIn _ _ _ _ _ _ _) := N_x.out.old (hb)
       replace N_y : Hid (NumIn _ _ _ _ _ _ _) := N_y.out.old (hb)
       replace N_p : Hid (NumIn _ _ _ _ _ _ _) := N_p.out.old (hb)
       have N_q : Hid (NumIn .i64 D16 w2 a_q l_q c_q s_q) := n_q
       have K_q : Hid (Canon s_q) := k_q
       have V_q : Hid (val D16 s_q = X % N + N) := by unfold Hid; rw [v_q]; rw [V_p.out, V_n.out]
       have L_q : Hid (l_q ≤ 1000) := by unfold Hid; have := L_p.out; have := L_n.out; omega
       have hS1 : w2.cell? ⟨g_n, 0, none⟩ = some (.slice a_n l_n c_n) ∧ w2.cell? ⟨g_x, 0, none⟩ = some (.slice a_x l_x c_x) ∧ w2.cell? ⟨g_y, 0, none⟩ = some (.slice a_y l_y c_y) := ⟨(H_n.out.old BW.out).1, (H_x.out.old BW.out).1, (H_y.out.old BW.out).1⟩
       clear n_q k_q v_q b_q hb F1 f)
    | (go_at_call 17; have f := F2; refine (rMod_any a_y a_n l_y c_y l_n c_n s_y s_n w2 N_y.out N_n.out K_n.out (by rw [V_n.out]; exact HZ.out) (by have := L_y.out; omega) (by have := L_n.out; omega)).mono ?_; rintro e w3 ⟨v, rfl, a_r, l_r, c_r, s_r, rfl, n_r, k_r, v_r, b_r, hb⟩
       replace BW : Hid (Below w.heap.size w w3) := BW.out.trans ((hb).mono BW.out.size)
       replace N_n : Hid (NumIn _ _ _ _ _ _ _) := N_n.out.old (hb)
       replace N_x : Hid (NumIn _ _ _ _ _ _ _) := N_x.out.old (hb)
       replace N_y : Hid (NumIn _ _ _ _ _ _ _) := N_y.out.old (hb)
       replace N_p : Hid (NumIn _ _ _ _ _ _ _) := N_p.out.old (hb)
       replace N_q : Hid (NumIn _ _ _ _ _ _ _) := N_q.out.old (hb)
       have N_r : Hid (NumIn .i64 D16 w3 a_r l_r c_r s_r) := n_r
       have K_r : Hid (Canon s_r) := k_r
       have V_r : Hid (val D16 s_r = Y % N) := by unfold Hid; rw [v_r]; rw [V_y.out, V_n.out]
       have L_r : Hid (l_r ≤ 200) := by unfold Hid; have := L_y.out; have := L_n.out; omega
       have hS2 : w3.cell? ⟨g_n, 0, none⟩ = some (.slice a_n l_n c_n) ∧ w3.cell? ⟨g_x, 0, none⟩ = some (.slice a_x l_x c_x) ∧ w3.cell? ⟨g_y, 0, none⟩ = some (.slice a_y l_y c_y) := ⟨(H_n.out.old BW.out).1, (H_x.out.old BW.out).1, (H_y.out.old BW.out).1⟩
       clear n_r k_r v_r b_r hb F2 f)
    | (go_at_call 24; have f := F3; refine (rSub_any a_q a_r l_q c_q l_r c_r s_q s_r w3 N_q.out N_r.out K_q.out K_r.out (by rw [V_q.out, V_r.out]; exact HLE.out) (by have := L_q.out; omega) (by have := L_r.out; omega)).mono ?_; rintro e w4 ⟨v, rfl, a_t, l_t, c_t, s_t, rfl, n_t, k_t, v_t, b_t, hb⟩
       replace BW : Hid (Below w.heap.size w w4) := BW.out.trans ((hb).mono BW.out.size)
       replace N_n : Hid (NumIn _ _ _ _ _ _ _) := N_n.out.old (hb)
       replace N_x : Hid (NumIn _ _ _ _ _ _ _) := N_x.out.old (hb)
       replace N_y : Hid (NumIn _ _ _ _ _ _ _) := N_y.out.old (hb)
       replace N_p : Hid (NumIn _ _ _ _ _ _ _) := N_p.out.old (hb)
       replace N_q : Hid (NumIn _ _ _ _ _ _ _) := N_q.out.old (hb)
       replace N_r : Hid (NumIn _ _ _ _ _ _ _) := N_r.out.old (hb)
       have N_t : Hid (NumIn .i64 D16 w4 a_t l_t c_t s_t) := n_t
       have K_t : Hid (Canon s_t) := k_t
       have V_t : Hid (val D16 s_t = X % N + N - Y % N) := by unfold Hid; rw [v_t]; rw [V_q.out, V_r.out]
       have L_t : Hid (l_t ≤ 1000) := by unfold Hid; have := L_q.out; have := L_r.out; omega
       have hS3 : w4.cell? ⟨g_n, 0, none⟩ = some (.slice a_n l_n c_n) ∧ w4.cell? ⟨g_x, 0, none⟩ = some (.slice a_x l_x c_x) ∧ w4.cell? ⟨g_y, 0, none⟩ = some (.slice a_y l_y c_y) := ⟨(H_n.out.old BW.out).1, (H_x.out.old BW.out).1, (H_y.out.old BW.out).1⟩
       clear n_t k_t v_t b_t hb F3 f)
    | (go_at_call 17; have f := F4; refine (rMod_any a_t a_n l_t c_t l_n c_n s_t s_n w4 N_t.out N_n.out K_n.out (by rw [V_n.out]; exact HZ.out) (by have := L_t.out; omega) (by have := L_n.out; omega)).mono ?_; rintro e w5 ⟨v, rfl, a_u, l_u, c_u, s_u, rfl, n_u, k_u, v_u, b_u, hb⟩
       replace BW : Hid (Below w.heap.size w w5) := BW.out.trans ((hb).mono BW.out.size)
       replace N_n : Hid (NumIn _ _ _ _ _ _ _) := N_n.out.old (hb)
       replace N_x : Hid (NumIn _ _ _ _ _ _ _) := N_x.out.old (hb)
       replace N_y : Hid (NumIn _ _ _ _ _ _ _) := N_y.out.old (hb)
       replace N_p : Hid (NumIn _ _ _ _ _ _ _) := N_p.out.old (hb)
       replace N_q : Hid (NumIn _ _ _ _ _ _ _) := N_q.out.old (hb)
       replace N_r : Hid (NumIn _ _ _ _ _ _ _) := N_r.out.old (hb)
       replace N_t : Hid (NumIn _ _ _ _ _ _ _) := N_t.out.old (hb)
       have N_u : Hid (NumIn .i64 D16 w5 a_u l_u c_u s_u) := n_u
       have K_u : Hid (Canon s_u) := k_u
       have V_u : Hid (val D16 s_u = (X % N + N - Y % N) % N) := by unfold Hid; rw [v_u]; rw [V_t.out, V_n.out]
       have L_u : Hid (l_u ≤ l_n) := by unfold Hid; omega
       have hS4 : w5.cell? ⟨g_n, 0, none⟩ = some (.slice a_n l_n c_n) ∧ w5.cell? ⟨g_x, 0, none⟩ = some (.slice a_x l_x c_x) ∧ w5.cell? ⟨g_y, 0, none⟩ = some (.slice a_y l_y c_y) := ⟨(H_n.out.old BW.out).1, (H_x.out.old BW.out).1, (H_y.out.old BW.out).1⟩
       clear n_u k_u v_u b_u hb F4 f))
  all_goals
    have HF : Hid (NumOut .i64 D16 w w5 (.slice a_u l_u c_u) ((X % N + N - Y % N) % N) l_n) := ⟨a_u, l_u, c_u, s_u, rfl, N_u.out, K_u.out, V_u.out, L_u.out, BW.out⟩
    go_wp2
    go_ret
    exact ⟨_, rfl, HF.out⟩
set_option maxHeartbeats 4000000 in
/-- latchkeylaw02.ModularPows$1. -/
theorem pows1_any (g_k g_n g_x : Nat) (a_k a_n a_x : Option Addr) (l_k c_k l_n c_n l_x c_x : Nat) (s_k s_n s_x : List Int) (w : World) (h_k : Kc w g_k (.slice a_k l_k c_k)) (h_n : Kc w g_n (.slice a_n l_n c_n)) (h_x : Kc w g_x (.slice a_x l_x c_x)) (n_k : NumIn .i64 D16 w a_k l_k c_k s_k) (n_n : NumIn .i64 D16 w a_n l_n c_n s_n) (n_x : NumIn .i64 D16 w a_x l_x c_x s_x) (k_k : Canon s_k) (k_n : Canon s_n) (k_x : Canon s_x) (h0 : val D16 s_n ≠ 0) (b_k : l_k ≤ 200) (b_n : l_n ≤ 200) (b_x : l_x ≤ 200) :
    Calls Try.prog 26 #[.pointer (some ⟨g_x, 0, none⟩), .pointer (some ⟨g_n, 0, none⟩), .pointer (some ⟨g_k, 0, none⟩)] w fun e w' => ∃ v, e = .returned v ∧ NumOut .i64 D16 w w' v ((val D16 s_x % val D16 s_n) ^ (val D16 s_k).toNat % val D16 s_n) l_n := by
  have hD : Below w.heap.size w w.drew := (Below.refl _ _).drew
  have BW : Hid (Below w.heap.size w w.drew) := hD
  have N_k : Hid (NumIn .i64 D16 w.drew a_k l_k c_k s_k) := n_k.old hD
  have K_k : Hid (Canon s_k) := k_k
  have L_k : Hid (l_k ≤ 200) := b_k
  have H_k : Hid (Kc w g_k (.slice a_k l_k c_k)) := h_k
  obtain ⟨K, V_k⟩ : ∃ X, Hid (val D16 s_k = X) := ⟨_, rfl⟩
  have N_n : Hid (NumIn .i64 D16 w.drew a_n l_n c_n s_n) := n_n.old hD
  have K_n : Hid (Canon s_n) := k_n
  have L_n : Hid (l_n ≤ 200) := b_n
  have H_n : Hid (Kc w g_n (.slice a_n l_n c_n)) := h_n
  obtain ⟨N, V_n⟩ : ∃ X, Hid (val D16 s_n = X) := ⟨_, rfl⟩
  have N_x : Hid (NumIn .i64 D16 w.drew a_x l_x c_x s_x) := n_x.old hD
  have K_x : Hid (Canon s_x) := k_x
  have L_x : Hid (l_x ≤ 200) := b_x
  have H_x : Hid (Kc w g_x (.slice a_x l_x c_x)) := h_x
  obtain ⟨X, V_x⟩ : ∃ X, Hid (val D16 s_x = X) := ⟨_, rfl⟩
  have HZ : Hid (N ≠ 0) := by have := h0; rw [V_n.out] at this; exact this
  have P_n : Hid (0 ≤ N) := by have := val_nonneg D16_pos N_n.out.dg; rw [V_n.out] at this; exact this
  rw [V_k.out, V_n.out, V_x.out]
  have hS : w.cell? ⟨g_k, 0, none⟩ = some (.slice a_k l_k c_k) ∧ w.cell? ⟨g_n, 0, none⟩ = some (.slice a_n l_n c_n) ∧ w.cell? ⟨g_x, 0, none⟩ = some (.slice a_x l_x c_x) := ⟨h_k.1, h_n.1, h_x.1⟩
  have F0 : Hid True := trivial
  have F1 : Hid True := trivial
  clear hD h0 n_k k_k b_k h_k n_n k_n b_n h_n n_x k_x b_x h_x
  go_enter Try.func26, Try.ntmps26
  go_wp2_with fail
  go_region_held3 (fun W => W.cell? ⟨g_k, 0, none⟩ = some (.slice a_k l_k c_k) ∧ W.cell? ⟨g_n, 0, none⟩ = some (.slice a_n l_n c_n) ∧ W.cell? ⟨g_x, 0, none⟩ = some (.slice a_x l_x c_x)) (first | assumption | exact hS) (first
    | (go_at_call 17; have f := F0; refine (rMod_any a_x a_n l_x c_x l_n c_n s_x s_n w.drew N_x.out N_n.out K_n.out (by rw [V_n.out]; exact HZ.out) (by have := L_x.out; omega) (by have := L_n.out; omega)).mono ?_; rintro e w1 ⟨v, rfl, a_p, l_p, c_p, s_p, rfl, n_p, k_p, v_p, b_p, hb⟩
       replace BW : Hid (Below w.heap.size w w1) := BW.out.trans ((hb).mono BW.out.size)
       replace N_k : Hid (NumIn _ _ _ _ _ _ _) := N_k.out.old (hb)
       replace N_n : Hid (NumIn _ _ _ _ _ _ _) := N_n.out.old (hb)
       replace N_x : Hid (NumIn _ _ _ _ _ _ _) := N_x.out.old (hb)
       have N_p : Hid (NumIn .i64 D16 w1 a_p l_p c_p s_p) := n_p
       have K_p : Hid (Canon s_p) := k_p
       have V_p : Hid (val D16 s_p = X % N) := by unfold Hid; rw [v_p]; rw [V_x.out, V_n.out]
       have L_p : Hid (l_p ≤ 200) := by unfold Hid; have := L_x.out; have := L_n.out; omega
       have hS0 : w1.cell? ⟨g_k, 0, none⟩ = some (.slice a_k l_k c_k) ∧ w1.cell? ⟨g_n, 0, none⟩ = some (.slice a_n l_n c_n) ∧ w1.cell? ⟨g_x, 0, none⟩ = some (.slice a_x l_x c_x) := ⟨(H_k.out.old BW.out).1, (H_n.out.old BW.out).1, (H_x.out.old BW.out).1⟩
       clear n_p k_p v_p b_p hb F0 f)
    | (go_at_call 27; have f := F1; refine (rPow_any a_p a_k a_n l_p c_p l_k c_k l_n c_n s_p s_k s_n w1 N_p.out N_k.out N_n.out K_p.out K_k.out K_n.out (by rw [V_n.out]; exact HZ.out) (by have := L_p.out; omega) (by have := L_k.out; omega) (by have := L_n.out; omega)).mono ?_; rintro e w2 ⟨v, rfl, a_u, l_u, c_u, s_u, rfl, n_u, k_u, v_u, b_u, hb⟩
       replace BW : Hid (Below w.heap.size w w2) := BW.out.trans ((hb).mono BW.out.size)
       replace N_k : Hid (NumIn _ _ _ _ _ _ _) := N_k.out.old (hb)
       replace N_n : Hid (NumIn _ _ _ _ _ _ _) := N_n.out.old (hb)
       replace N_x : Hid (NumIn _ _ _ _ _ _ _) := N_x.out.old (hb)
       replace N_p : Hid (NumIn _ _ _ _ _ _ _) := N_p.out.old (hb)
       have N_u : Hid (NumIn .i64 D16 w2 a_u l_u c_u s_u) := n_u
       have K_u : Hid (Canon s_u) := k_u
       have V_u : Hid (val D16 s_u = (X % N) ^ K.toNat % N) := by unfold Hid; rw [v_u]; rw [V_p.out, V_k.out, V_n.out]
       have L_u : Hid (l_u ≤ l_n) := by unfold Hid; omega
       have hS1 : w2.cell? ⟨g_k, 0, none⟩ = some (.slice a_k l_k c_k) ∧ w2.cell? ⟨g_n, 0, none⟩ = some (.slice a_n l_n c_n) ∧ w2.cell? ⟨g_x, 0, none⟩ = some (.slice a_x l_x c_x) := ⟨(H_k.out.old BW.out).1, (H_n.out.old BW.out).1, (H_x.out.old BW.out).1⟩
       clear n_u k_u v_u b_u hb F1 f))
  all_goals
    have HF : Hid (NumOut .i64 D16 w w2 (.slice a_u l_u c_u) ((X % N) ^ K.toNat % N) l_n) := ⟨a_u, l_u, c_u, s_u, rfl, N_u.out, K_u.out, V_u.out, L_u.out, BW.out⟩
    go_wp2
    go_ret
    exact ⟨_, rfl, HF.out⟩
end Go.Proofs.Ytjaokpgccnkipaa
