/-
  The walk of NatAdds.
-/
import Derived.Test.YtiijnenbfhhdiaaRefA
namespace Go.Proofs.Ytiijnenbfhhdiaa
open Go.RowKit
set_option linter.unusedVariables false
set_option linter.unusedSimpArgs false

set_option maxHeartbeats 4000000 in
/-- Any sums, and differences. -/
theorem NatAdds_walk (a_a : Option Addr) (l_a c_a : Nat) (z_a : List Int) (a_b : Option Addr) (l_b c_b : Nat) (z_b : List Int) (w : World) (came_a : Came .u64 w a_a l_a c_a z_a) (came_b : Came .u64 w a_b l_b c_b z_b) :
    Calls Try.prog 6 #[.slice a_a l_a c_a, .slice a_b l_b c_b] w fun e w' => e = .returned (.bool true) ∧ Below w.heap.size w w' := by
  have le_a := came_a.le
  have le_b := came_b.le
  have C_a : Hid (Came .u64 w a_a l_a c_a z_a) := came_a
  have C_b : Hid (Came .u64 w a_b l_b c_b z_b) := came_b
  clear came_a came_b
  by_cases hlong : 70 < l_a ∨ 70 < l_b
  · go_enter Try.func6, Try.ntmps6
    go_wp2_with fail
    refine (Awake_any w).mono ?_
    rintro e wA ⟨rfl, hb⟩
    have BW : Hid (Below w.heap.size w wA) := hb
    replace C_a : Hid (Came .u64 wA a_a l_a c_a z_a) := C_a.out.old hb
    replace C_b : Hid (Came .u64 wA a_b l_b c_b z_b) := C_b.out.old hb
    clear hb
    have HC := long2 a_a a_b l_a c_a l_b c_b wA le_a le_b
    rw [decide_eq_true hlong] at HC
    go_wp2_with fail
    refine HC.mono ?_
    rintro e wB ⟨rfl, hb⟩
    replace BW : Hid (Below w.heap.size w wB) := BW.out.trans (hb.mono BW.out.size)
    replace C_a : Hid (Came .u64 wB a_a l_a c_a z_a) := C_a.out.old hb
    replace C_b : Hid (Came .u64 wB a_b l_b c_b z_b) := C_b.out.old hb
    clear hb HC
    clear C_a C_b
    go_wp2
    go_ret
    exact ⟨rfl, BW.out⟩
  · go_enter Try.func6, Try.ntmps6
    go_wp2_with fail
    refine (Awake_any w).mono ?_
    rintro e wA ⟨rfl, hb⟩
    have BW : Hid (Below w.heap.size w wA) := hb
    replace C_a : Hid (Came .u64 wA a_a l_a c_a z_a) := C_a.out.old hb
    replace C_b : Hid (Came .u64 wA a_b l_b c_b z_b) := C_b.out.old hb
    clear hb
    have HC := long2 a_a a_b l_a c_a l_b c_b wA le_a le_b
    rw [decide_eq_false hlong] at HC
    go_wp2_with fail
    refine HC.mono ?_
    rintro e wB ⟨rfl, hb⟩
    replace BW : Hid (Below w.heap.size w wB) := BW.out.trans (hb.mono BW.out.size)
    replace C_a : Hid (Came .u64 wB a_a l_a c_a z_a) := C_a.out.old hb
    replace C_b : Hid (Came .u64 wB a_b l_b c_b z_b) := C_b.out.old hb
    clear hb HC
    have N_a : Hid (NumIn .u64 B64 wB a_a l_a c_a (z_a.take l_a)) := C_a.out.nat (by omega)
    have L_a : Hid (l_a ≤ 70) := by unfold Hid; omega
    have N_b : Hid (NumIn .u64 B64 wB a_b l_b c_b (z_b.take l_b)) := C_b.out.nat (by omega)
    have L_b : Hid (l_b ≤ 70) := by unfold Hid; omega
    clear hlong C_a le_a C_b le_b
    generalize z_a.take l_a = s_a at *
    have P_a : Hid (0 ≤ val B64 s_a) := val_nonneg B64_pos N_a.out.dg
    obtain ⟨A, V_a⟩ : ∃ X, Hid (val B64 s_a = X) := ⟨_, rfl⟩
    replace P_a : Hid (0 ≤ A) := by have := P_a.out; rw [V_a.out] at this; exact this
    generalize z_b.take l_b = s_b at *
    have P_b : Hid (0 ≤ val B64 s_b) := val_nonneg B64_pos N_b.out.dg
    obtain ⟨B, V_b⟩ : ∃ X, Hid (val B64 s_b = X) := ⟨_, rfl⟩
    replace P_b : Hid (0 ≤ B) := by have := P_b.out; rw [V_b.out] at this; exact this
    go_wp2_with fail
    have HC := rOf_any a_a l_a c_a s_a wB N_a.out (by have := L_a.out; omega)
    refine HC.mono ?_
    rintro e w1 ⟨v, rfl, a_d, l_d, c_d, s_d, rfl, n_d, k_d, v_d, b_d, hb⟩
    replace BW : Hid (Below w.heap.size w w1) := BW.out.trans ((hb).mono BW.out.size)
    replace N_a : Hid (NumIn _ _ _ _ _ _ _) := N_a.out.old (hb)
    replace N_b : Hid (NumIn _ _ _ _ _ _ _) := N_b.out.old (hb)
    have N_d : Hid (NumIn _ _ _ _ _ _ _) := n_d
    have K_d : Hid (Canon s_d) := k_d
    have V_d : Hid (val D16 s_d = A) := by unfold Hid; rw [v_d]; rw [V_a.out]
    have L_d : Hid (l_d ≤ 280) := by unfold Hid; have := L_a.out; omega
    clear n_d v_d b_d k_d hb HC
    go_wp2_with fail
    have HC := rOf_any a_b l_b c_b s_b w1 N_b.out (by have := L_b.out; omega)
    refine HC.mono ?_
    rintro e w2 ⟨v, rfl, a_e, l_e, c_e, s_e, rfl, n_e, k_e, v_e, b_e, hb⟩
    replace BW : Hid (Below w.heap.size w w2) := BW.out.trans ((hb).mono BW.out.size)
    replace N_a : Hid (NumIn _ _ _ _ _ _ _) := N_a.out.old (hb)
    replace N_b : Hid (NumIn _ _ _ _ _ _ _) := N_b.out.old (hb)
    replace N_d : Hid (NumIn _ _ _ _ _ _ _) := N_d.out.old (hb)
    have N_e : Hid (NumIn _ _ _ _ _ _ _) := n_e
    have K_e : Hid (Canon s_e) := k_e
    have V_e : Hid (val D16 s_e = B) := by unfold Hid; rw [v_e]; rw [V_b.out]
    have L_e : Hid (l_e ≤ 280) := by unfold Hid; have := L_b.out; omega
    clear n_e v_e b_e k_e hb HC
    rcases Int.lt_trichotomy A B with hab | hab | hab
    · go_wp2_with fail
      have HC := Sub_no a_a a_b l_a c_a l_b c_b s_a s_b w2 N_a.out N_b.out (by rw [V_a.out, V_b.out]; exact hab)
      refine HC.mono ?_
      rintro e w3 ⟨rfl, hb⟩
      replace BW : Hid (Below w.heap.size w w3) := BW.out.trans ((hb).mono BW.out.size)
      replace N_a : Hid (NumIn _ _ _ _ _ _ _) := N_a.out.old (hb)
      replace N_b : Hid (NumIn _ _ _ _ _ _ _) := N_b.out.old (hb)
      replace N_d : Hid (NumIn _ _ _ _ _ _ _) := N_d.out.old (hb)
      replace N_e : Hid (NumIn _ _ _ _ _ _ _) := N_e.out.old (hb)
      clear HC hb
      go_wp2_with fail
      have HC := rCmp_any a_d a_e l_d c_d l_e c_e s_d s_e w3 N_d.out N_e.out K_d.out K_e.out (by have := L_d.out; omega) (by have := L_e.out; omega)
      rw [show cmpI (val D16 s_d) (val D16 s_e) = (-1) from cmpI_lt (by rw [V_d.out, V_e.out]; exact hab)] at HC
      refine HC.mono ?_
      rintro e w4 ⟨rfl, hd⟩
      replace BW : Hid (Below w.heap.size w w4) := BW.out.trans ((hd.below _).mono BW.out.size)
      replace N_a : Hid (NumIn _ _ _ _ _ _ _) := N_a.out.old (hd.below _)
      replace N_b : Hid (NumIn _ _ _ _ _ _ _) := N_b.out.old (hd.below _)
      replace N_d : Hid (NumIn _ _ _ _ _ _ _) := N_d.out.old (hd.below _)
      replace N_e : Hid (NumIn _ _ _ _ _ _ _) := N_e.out.old (hd.below _)
      clear hd HC
      clear hab
      go_wp2_with fail
      have HC := Add_any a_a a_b l_a c_a l_b c_b s_a s_b w4 N_a.out N_b.out (by have := L_a.out; have := L_b.out; omega)
      refine HC.mono ?_
      rintro e w5 ⟨v, rfl, a_s, l_s, c_s, s_s, rfl, n_s, k_s, v_s, b_s, hb⟩
      replace BW : Hid (Below w.heap.size w w5) := BW.out.trans ((hb).mono BW.out.size)
      replace N_a : Hid (NumIn _ _ _ _ _ _ _) := N_a.out.old (hb)
      replace N_b : Hid (NumIn _ _ _ _ _ _ _) := N_b.out.old (hb)
      replace N_d : Hid (NumIn _ _ _ _ _ _ _) := N_d.out.old (hb)
      replace N_e : Hid (NumIn _ _ _ _ _ _ _) := N_e.out.old (hb)
      have N_s : Hid (NumIn _ _ _ _ _ _ _) := n_s
      have V_s : Hid (val B64 s_s = A + B) := by unfold Hid; rw [v_s]; rw [V_a.out, V_b.out]
      have L_s : Hid (l_s ≤ 140) := by unfold Hid; have := L_a.out; have := L_b.out; omega
      clear n_s v_s b_s hb HC
      go_wp2_with fail
      have HC := rAdd_any a_d a_e l_d c_d l_e c_e s_d s_e w5 N_d.out N_e.out K_d.out K_e.out  (by have := L_d.out; omega) (by have := L_e.out; omega)
      refine HC.mono ?_
      rintro e w6 ⟨v, rfl, a_t, l_t, c_t, s_t, rfl, n_t, k_t, v_t, b_t, hb⟩
      replace BW : Hid (Below w.heap.size w w6) := BW.out.trans ((hb).mono BW.out.size)
      replace N_a : Hid (NumIn _ _ _ _ _ _ _) := N_a.out.old (hb)
      replace N_b : Hid (NumIn _ _ _ _ _ _ _) := N_b.out.old (hb)
      replace N_d : Hid (NumIn _ _ _ _ _ _ _) := N_d.out.old (hb)
      replace N_e : Hid (NumIn _ _ _ _ _ _ _) := N_e.out.old (hb)
      replace N_s : Hid (NumIn _ _ _ _ _ _ _) := N_s.out.old (hb)
      have N_t : Hid (NumIn _ _ _ _ _ _ _) := n_t
      have K_t : Hid (Canon s_t) := k_t
      have V_t : Hid (val D16 s_t = A + B) := by unfold Hid; rw [v_t]; rw [V_d.out, V_e.out]
      have L_t : Hid (l_t ≤ 561) := by unfold Hid; have := L_d.out; have := L_e.out; omega
      clear n_t v_t b_t k_t hb HC
      go_wp2_with fail
      have HC := is_yes a_s a_t l_s c_s l_t c_t s_s s_t w6 N_s.out k_s N_t.out K_t.out (by rw [V_s.out, V_t.out]) (by have := L_t.out; omega)
      refine HC.mono ?_
      rintro e w7 ⟨rfl, hb⟩
      replace BW : Hid (Below w.heap.size w w7) := BW.out.trans ((hb).mono BW.out.size)
      replace N_a : Hid (NumIn _ _ _ _ _ _ _) := N_a.out.old (hb)
      replace N_b : Hid (NumIn _ _ _ _ _ _ _) := N_b.out.old (hb)
      replace N_d : Hid (NumIn _ _ _ _ _ _ _) := N_d.out.old (hb)
      replace N_e : Hid (NumIn _ _ _ _ _ _ _) := N_e.out.old (hb)
      replace N_s : Hid (NumIn _ _ _ _ _ _ _) := N_s.out.old (hb)
      replace N_t : Hid (NumIn _ _ _ _ _ _ _) := N_t.out.old (hb)
      clear hb HC
      clear N_a N_b N_d N_e N_s N_t
      go_wp2
      go_ret
      exact ⟨rfl, BW.out⟩
    · go_wp2_with fail
      have HC := Sub_yes a_a a_b l_a c_a l_b c_b s_a s_b w2 N_a.out N_b.out (by rw [V_a.out, V_b.out]; omega)
      refine HC.mono ?_
      rintro e w3 ⟨v, rfl, a_f, l_f, c_f, s_f, rfl, n_f, k_f, v_f, b_f, hb⟩
      replace BW : Hid (Below w.heap.size w w3) := BW.out.trans ((hb).mono BW.out.size)
      replace N_a : Hid (NumIn _ _ _ _ _ _ _) := N_a.out.old (hb)
      replace N_b : Hid (NumIn _ _ _ _ _ _ _) := N_b.out.old (hb)
      replace N_d : Hid (NumIn _ _ _ _ _ _ _) := N_d.out.old (hb)
      replace N_e : Hid (NumIn _ _ _ _ _ _ _) := N_e.out.old (hb)
      have N_f : Hid (NumIn _ _ _ _ _ _ _) := n_f
      have V_f : Hid (val B64 s_f = A - B) := by unfold Hid; rw [v_f]; rw [V_a.out, V_b.out]
      have L_f : Hid (l_f ≤ 140) := by unfold Hid; have := L_a.out; have := L_b.out; omega
      clear n_f v_f b_f hb HC
      go_wp2_with fail
      have HC := rCmp_any a_d a_e l_d c_d l_e c_e s_d s_e w3 N_d.out N_e.out K_d.out K_e.out (by have := L_d.out; omega) (by have := L_e.out; omega)
      rw [show cmpI (val D16 s_d) (val D16 s_e) = 0 from cmpI_eq (by rw [V_d.out, V_e.out]; exact hab)] at HC
      refine HC.mono ?_
      rintro e w4 ⟨rfl, hd⟩
      replace BW : Hid (Below w.heap.size w w4) := BW.out.trans ((hd.below _).mono BW.out.size)
      replace N_a : Hid (NumIn _ _ _ _ _ _ _) := N_a.out.old (hd.below _)
      replace N_b : Hid (NumIn _ _ _ _ _ _ _) := N_b.out.old (hd.below _)
      replace N_d : Hid (NumIn _ _ _ _ _ _ _) := N_d.out.old (hd.below _)
      replace N_e : Hid (NumIn _ _ _ _ _ _ _) := N_e.out.old (hd.below _)
      replace N_f : Hid (NumIn _ _ _ _ _ _ _) := N_f.out.old (hd.below _)
      clear hd HC
      go_wp2_with fail
      have HC := rSub_any a_d a_e l_d c_d l_e c_e s_d s_e w4 N_d.out N_e.out K_d.out K_e.out (by rw [V_d.out, V_e.out]; omega) (by have := L_d.out; omega) (by have := L_e.out; omega)
      refine HC.mono ?_
      rintro e w5 ⟨v, rfl, a_g, l_g, c_g, s_g, rfl, n_g, k_g, v_g, b_g, hb⟩
      replace BW : Hid (Below w.heap.size w w5) := BW.out.trans ((hb).mono BW.out.size)
      replace N_a : Hid (NumIn _ _ _ _ _ _ _) := N_a.out.old (hb)
      replace N_b : Hid (NumIn _ _ _ _ _ _ _) := N_b.out.old (hb)
      replace N_d : Hid (NumIn _ _ _ _ _ _ _) := N_d.out.old (hb)
      replace N_e : Hid (NumIn _ _ _ _ _ _ _) := N_e.out.old (hb)
      replace N_f : Hid (NumIn _ _ _ _ _ _ _) := N_f.out.old (hb)
      have N_g : Hid (NumIn _ _ _ _ _ _ _) := n_g
      have K_g : Hid (Canon s_g) := k_g
      have V_g : Hid (val D16 s_g = A - B) := by unfold Hid; rw [v_g]; rw [V_d.out, V_e.out]
      have L_g : Hid (l_g ≤ 280) := by unfold Hid; have := L_d.out; have := L_e.out; omega
      clear n_g v_g b_g k_g hb HC
      go_wp2_with fail
      have HC := is_yes a_f a_g l_f c_f l_g c_g s_f s_g w5 N_f.out k_f N_g.out K_g.out (by rw [V_f.out, V_g.out]) (by have := L_g.out; omega)
      refine HC.mono ?_
      rintro e w6 ⟨rfl, hb⟩
      replace BW : Hid (Below w.heap.size w w6) := BW.out.trans ((hb).mono BW.out.size)
      replace N_a : Hid (NumIn _ _ _ _ _ _ _) := N_a.out.old (hb)
      replace N_b : Hid (NumIn _ _ _ _ _ _ _) := N_b.out.old (hb)
      replace N_d : Hid (NumIn _ _ _ _ _ _ _) := N_d.out.old (hb)
      replace N_e : Hid (NumIn _ _ _ _ _ _ _) := N_e.out.old (hb)
      replace N_f : Hid (NumIn _ _ _ _ _ _ _) := N_f.out.old (hb)
      replace N_g : Hid (NumIn _ _ _ _ _ _ _) := N_g.out.old (hb)
      clear hb HC
      clear hab
      go_wp2_with fail
      have HC := Add_any a_a a_b l_a c_a l_b c_b s_a s_b w6 N_a.out N_b.out (by have := L_a.out; have := L_b.out; omega)
      refine HC.mono ?_
      rintro e w7 ⟨v, rfl, a_s, l_s, c_s, s_s, rfl, n_s, k_s, v_s, b_s, hb⟩
      replace BW : Hid (Below w.heap.size w w7) := BW.out.trans ((hb).mono BW.out.size)
      replace N_a : Hid (NumIn _ _ _ _ _ _ _) := N_a.out.old (hb)
      replace N_b : Hid (NumIn _ _ _ _ _ _ _) := N_b.out.old (hb)
      replace N_d : Hid (NumIn _ _ _ _ _ _ _) := N_d.out.old (hb)
      replace N_e : Hid (NumIn _ _ _ _ _ _ _) := N_e.out.old (hb)
      replace N_f : Hid (NumIn _ _ _ _ _ _ _) := N_f.out.old (hb)
      replace N_g : Hid (NumIn _ _ _ _ _ _ _) := N_g.out.old (hb)
      have N_s : Hid (NumIn _ _ _ _ _ _ _) := n_s
      have V_s : Hid (val B64 s_s = A + B) := by unfold Hid; rw [v_s]; rw [V_a.out, V_b.out]
      have L_s : Hid (l_s ≤ 140) := by unfold Hid; have := L_a.out; have := L_b.out; omega
      clear n_s v_s b_s hb HC
      go_wp2_with fail
      have HC := rAdd_any a_d a_e l_d c_d l_e c_e s_d s_e w7 N_d.out N_e.out K_d.out K_e.out  (by have := L_d.out; omega) (by have := L_e.out; omega)
      refine HC.mono ?_
      rintro e w8 ⟨v, rfl, a_t, l_t, c_t, s_t, rfl, n_t, k_t, v_t, b_t, hb⟩
      replace BW : Hid (Below w.heap.size w w8) := BW.out.trans ((hb).mono BW.out.size)
      replace N_a : Hid (NumIn _ _ _ _ _ _ _) := N_a.out.old (hb)
      replace N_b : Hid (NumIn _ _ _ _ _ _ _) := N_b.out.old (hb)
      replace N_d : Hid (NumIn _ _ _ _ _ _ _) := N_d.out.old (hb)
      replace N_e : Hid (NumIn _ _ _ _ _ _ _) := N_e.out.old (hb)
      replace N_f : Hid (NumIn _ _ _ _ _ _ _) := N_f.out.old (hb)
      replace N_g : Hid (NumIn _ _ _ _ _ _ _) := N_g.out.old (hb)
      replace N_s : Hid (NumIn _ _ _ _ _ _ _) := N_s.out.old (hb)
      have N_t : Hid (NumIn _ _ _ _ _ _ _) := n_t
      have K_t : Hid (Canon s_t) := k_t
      have V_t : Hid (val D16 s_t = A + B) := by unfold Hid; rw [v_t]; rw [V_d.out, V_e.out]
      have L_t : Hid (l_t ≤ 561) := by unfold Hid; have := L_d.out; have := L_e.out; omega
      clear n_t v_t b_t k_t hb HC
      go_wp2_with fail
      have HC := is_yes a_s a_t l_s c_s l_t c_t s_s s_t w8 N_s.out k_s N_t.out K_t.out (by rw [V_s.out, V_t.out]) (by have := L_t.out; omega)
      refine HC.mono ?_
      rintro e w9 ⟨rfl, hb⟩
      replace BW : Hid (Below w.heap.size w w9) := BW.out.trans ((hb).mono BW.out.size)
      replace N_a : Hid (NumIn _ _ _ _ _ _ _) := N_a.out.old (hb)
      replace N_b : Hid (NumIn _ _ _ _ _ _ _) := N_b.out.old (hb)
      replace N_d : Hid (NumIn _ _ _ _ _ _ _) := N_d.out.old (hb)
      replace N_e : Hid (NumIn _ _ _ _ _ _ _) := N_e.out.old (hb)
      replace N_f : Hid (NumIn _ _ _ _ _ _ _) := N_f.out.old (hb)
      replace N_g : Hid (NumIn _ _ _ _ _ _ _) := N_g.out.old (hb)
      replace N_s : Hid (NumIn _ _ _ _ _ _ _) := N_s.out.old (hb)
      replace N_t : Hid (NumIn _ _ _ _ _ _ _) := N_t.out.old (hb)
      clear hb HC
      clear N_a N_b N_d N_e N_f N_g N_s N_t
      go_wp2
      go_ret
      exact ⟨rfl, BW.out⟩
    · go_wp2_with fail
      have HC := Sub_yes a_a a_b l_a c_a l_b c_b s_a s_b w2 N_a.out N_b.out (by rw [V_a.out, V_b.out]; omega)
      refine HC.mono ?_
      rintro e w3 ⟨v, rfl, a_f, l_f, c_f, s_f, rfl, n_f, k_f, v_f, b_f, hb⟩
      replace BW : Hid (Below w.heap.size w w3) := BW.out.trans ((hb).mono BW.out.size)
      replace N_a : Hid (NumIn _ _ _ _ _ _ _) := N_a.out.old (hb)
      replace N_b : Hid (NumIn _ _ _ _ _ _ _) := N_b.out.old (hb)
      replace N_d : Hid (NumIn _ _ _ _ _ _ _) := N_d.out.old (hb)
      replace N_e : Hid (NumIn _ _ _ _ _ _ _) := N_e.out.old (hb)
      have N_f : Hid (NumIn _ _ _ _ _ _ _) := n_f
      have V_f : Hid (val B64 s_f = A - B) := by unfold Hid; rw [v_f]; rw [V_a.out, V_b.out]
      have L_f : Hid (l_f ≤ 140) := by unfold Hid; have := L_a.out; have := L_b.out; omega
      clear n_f v_f b_f hb HC
      go_wp2_with fail
      have HC := rCmp_any a_d a_e l_d c_d l_e c_e s_d s_e w3 N_d.out N_e.out K_d.out K_e.out (by have := L_d.out; omega) (by have := L_e.out; omega)
      rw [show cmpI (val D16 s_d) (val D16 s_e) = 1 from cmpI_gt (by rw [V_d.out, V_e.out]; exact hab)] at HC
      refine HC.mono ?_
      rintro e w4 ⟨rfl, hd⟩
      replace BW : Hid (Below w.heap.size w w4) := BW.out.trans ((hd.below _).mono BW.out.size)
      replace N_a : Hid (NumIn _ _ _ _ _ _ _) := N_a.out.old (hd.below _)
      replace N_b : Hid (NumIn _ _ _ _ _ _ _) := N_b.out.old (hd.below _)
      replace N_d : Hid (NumIn _ _ _ _ _ _ _) := N_d.out.old (hd.below _)
      replace N_e : Hid (NumIn _ _ _ _ _ _ _) := N_e.out.old (hd.below _)
      replace N_f : Hid (NumIn _ _ _ _ _ _ _) := N_f.out.old (hd.below _)
      clear hd HC
      go_wp2_with fail
      have HC := rSub_any a_d a_e l_d c_d l_e c_e s_d s_e w4 N_d.out N_e.out K_d.out K_e.out (by rw [V_d.out, V_e.out]; omega) (by have := L_d.out; omega) (by have := L_e.out; omega)
      refine HC.mono ?_
      rintro e w5 ⟨v, rfl, a_g, l_g, c_g, s_g, rfl, n_g, k_g, v_g, b_g, hb⟩
      replace BW : Hid (Below w.heap.size w w5) := BW.out.trans ((hb).mono BW.out.size)
      replace N_a : Hid (NumIn _ _ _ _ _ _ _) := N_a.out.old (hb)
      replace N_b : Hid (NumIn _ _ _ _ _ _ _) := N_b.out.old (hb)
      replace N_d : Hid (NumIn _ _ _ _ _ _ _) := N_d.out.old (hb)
      replace N_e : Hid (NumIn _ _ _ _ _ _ _) := N_e.out.old (hb)
      replace N_f : Hid (NumIn _ _ _ _ _ _ _) := N_f.out.old (hb)
      have N_g : Hid (NumIn _ _ _ _ _ _ _) := n_g
      have K_g : Hid (Canon s_g) := k_g
      have V_g : Hid (val D16 s_g = A - B) := by unfold Hid; rw [v_g]; rw [V_d.out, V_e.out]
      have L_g : Hid (l_g ≤ 280) := by unfold Hid; have := L_d.out; have := L_e.out; omega
      clear n_g v_g b_g k_g hb HC
      go_wp2_with fail
      have HC := is_yes a_f a_g l_f c_f l_g c_g s_f s_g w5 N_f.out k_f N_g.out K_g.out (by rw [V_f.out, V_g.out]) (by have := L_g.out; omega)
      refine HC.mono ?_
      rintro e w6 ⟨rfl, hb⟩
      replace BW : Hid (Below w.heap.size w w6) := BW.out.trans ((hb).mono BW.out.size)
      replace N_a : Hid (NumIn _ _ _ _ _ _ _) := N_a.out.old (hb)
      replace N_b : Hid (NumIn _ _ _ _ _ _ _) := N_b.out.old (hb)
      replace N_d : Hid (NumIn _ _ _ _ _ _ _) := N_d.out.old (hb)
      replace N_e : Hid (NumIn _ _ _ _ _ _ _) := N_e.out.old (hb)
      replace N_f : Hid (NumIn _ _ _ _ _ _ _) := N_f.out.old (hb)
      replace N_g : Hid (NumIn _ _ _ _ _ _ _) := N_g.out.old (hb)
      clear hb HC
      clear hab
      go_wp2_with fail
      have HC := Add_any a_a a_b l_a c_a l_b c_b s_a s_b w6 N_a.out N_b.out (by have := L_a.out; have := L_b.out; omega)
      refine HC.mono ?_
      rintro e w7 ⟨v, rfl, a_s, l_s, c_s, s_s, rfl, n_s, k_s, v_s, b_s, hb⟩
      replace BW : Hid (Below w.heap.size w w7) := BW.out.trans ((hb).mono BW.out.size)
      replace N_a : Hid (NumIn _ _ _ _ _ _ _) := N_a.out.old (hb)
      replace N_b : Hid (NumIn _ _ _ _ _ _ _) := N_b.out.old (hb)
      replace N_d : Hid (NumIn _ _ _ _ _ _ _) := N_d.out.old (hb)
      replace N_e : Hid (NumIn _ _ _ _ _ _ _) := N_e.out.old (hb)
      replace N_f : Hid (NumIn _ _ _ _ _ _ _) := N_f.out.old (hb)
      replace N_g : Hid (NumIn _ _ _ _ _ _ _) := N_g.out.old (hb)
      have N_s : Hid (NumIn _ _ _ _ _ _ _) := n_s
      have V_s : Hid (val B64 s_s = A + B) := by unfold Hid; rw [v_s]; rw [V_a.out, V_b.out]
      have L_s : Hid (l_s ≤ 140) := by unfold Hid; have := L_a.out; have := L_b.out; omega
      clear n_s v_s b_s hb HC
      go_wp2_with fail
      have HC := rAdd_any a_d a_e l_d c_d l_e c_e s_d s_e w7 N_d.out N_e.out K_d.out K_e.out  (by have := L_d.out; omega) (by have := L_e.out; omega)
      refine HC.mono ?_
      rintro e w8 ⟨v, rfl, a_t, l_t, c_t, s_t, rfl, n_t, k_t, v_t, b_t, hb⟩
      replace BW : Hid (Below w.heap.size w w8) := BW.out.trans ((hb).mono BW.out.size)
      replace N_a : Hid (NumIn _ _ _ _ _ _ _) := N_a.out.old (hb)
      replace N_b : Hid (NumIn _ _ _ _ _ _ _) := N_b.out.old (hb)
      replace N_d : Hid (NumIn _ _ _ _ _ _ _) := N_d.out.old (hb)
      replace N_e : Hid (NumIn _ _ _ _ _ _ _) := N_e.out.old (hb)
      replace N_f : Hid (NumIn _ _ _ _ _ _ _) := N_f.out.old (hb)
      replace N_g : Hid (NumIn _ _ _ _ _ _ _) := N_g.out.old (hb)
      replace N_s : Hid (NumIn _ _ _ _ _ _ _) := N_s.out.old (hb)
      have N_t : Hid (NumIn _ _ _ _ _ _ _) := n_t
      have K_t : Hid (Canon s_t) := k_t
      have V_t : Hid (val D16 s_t = A + B) := by unfold Hid; rw [v_t]; rw [V_d.out, V_e.out]
      have L_t : Hid (l_t ≤ 561) := by unfold Hid; have := L_d.out; have := L_e.out; omega
      clear n_t v_t b_t k_t hb HC
      go_wp2_with fail
      have HC := is_yes a_s a_t l_s c_s l_t c_t s_s s_t w8 N_s.out k_s N_t.out K_t.out (by rw [V_s.out, V_t.out]) (by have := L_t.out; omega)
      refine HC.mono ?_
      rintro e w9 ⟨rfl, hb⟩
      replace BW : Hid (Below w.heap.size w w9) := BW.out.trans ((hb).mono BW.out.size)
      replace N_a : Hid (NumIn _ _ _ _ _ _ _) := N_a.out.old (hb)
      replace N_b : Hid (NumIn _ _ _ _ _ _ _) := N_b.out.old (hb)
      replace N_d : Hid (NumIn _ _ _ _ _ _ _) := N_d.out.old (hb)
      replace N_e : Hid (NumIn _ _ _ _ _ _ _) := N_e.out.old (hb)
      replace N_f : Hid (NumIn _ _ _ _ _ _ _) := N_f.out.old (hb)
      replace N_g : Hid (NumIn _ _ _ _ _ _ _) := N_g.out.old (hb)
      replace N_s : Hid (NumIn _ _ _ _ _ _ _) := N_s.out.old (hb)
      replace N_t : Hid (NumIn _ _ _ _ _ _ _) := N_t.out.old (hb)
      clear hb HC
      clear N_a N_b N_d N_e N_f N_g N_s N_t
      go_wp2
      go_ret
      exact ⟨rfl, BW.out⟩
end Go.Proofs.Ytiijnenbfhhdiaa
