/-
  The walk of ModularInvs.
-/
import Derived.Test.YtjaokpgccnkipaaRefG
import Derived.Test.YtjaokpgccnkipaaModW
namespace Go.Proofs.Ytjaokpgccnkipaa
open Go.RowKit
set_option linter.unusedVariables false
set_option linter.unusedSimpArgs false

theorem big_zero {k : IntKind} {B : Int} (hB : 1 < B) {w : World} {ao : Option Addr} {len cap : Nat} {xs : List Int} (h : NumIn k B w ao len cap xs) (hc : Canon xs) (hv : val B xs = 0) : len = 0 := by
  have h1 := h.len
  have h2 := len_fit hB h.dg hc (Dg.nil B) (by rw [hv]; exact Int.le_refl _)
  simp at h2
  rw [h2] at h1
  simpa using h1.symm
theorem big_pos {k : IntKind} {B : Int} {w : World} {ao : Option Addr} {len cap : Nat} {xs : List Int} (h : NumIn k B w ao len cap xs) (hv : val B xs ≠ 0) : 0 < len := by
  rcases Nat.eq_zero_or_pos len with e | e
  · have h1 := h.len
    have h2 : xs = [] := List.eq_nil_of_length_eq_zero (by omega)
    rw [h2] at hv
    exact absurd rfl hv
  · exact e

set_option maxHeartbeats 4000000 in
/-- What has an inverse, and what hasn't. -/
theorem ModularInvs_walk (a_a : Option Addr) (l_a c_a : Nat) (z_a : List Int) (a_m : Option Addr) (l_m c_m : Nat) (z_m : List Int) (w : World) (came_a : Came .u64 w a_a l_a c_a z_a) (came_m : Came .u64 w a_m l_m c_m z_m) :
    Calls Try.prog 6 #[.slice a_a l_a c_a, .slice a_m l_m c_m] w fun e w' => e = .returned (.bool true) ∧ Below w.heap.size w w' := by
  have le_a := came_a.le
  have le_m := came_m.le
  have C_a : Hid (Came .u64 w a_a l_a c_a z_a) := came_a
  have C_m : Hid (Came .u64 w a_m l_m c_m z_m) := came_m
  clear came_a came_m
  by_cases hlong : 6 < l_a ∨ 6 < l_m
  · go_enter Try.func6, Try.ntmps6
    go_wp2_with fail
    refine (Awake_any w).mono ?_
    rintro e wA ⟨rfl, hb⟩
    have BW : Hid (Below w.heap.size w wA) := hb
    replace C_a : Hid (Came .u64 wA a_a l_a c_a z_a) := C_a.out.old hb
    replace C_m : Hid (Came .u64 wA a_m l_m c_m z_m) := C_m.out.old hb
    clear hb
    have HC := long2 a_a a_m l_a c_a l_m c_m 6 wA (by decide) le_a le_m
    rw [decide_eq_true hlong] at HC
    go_wp2_with fail
    refine HC.mono ?_
    rintro e wB ⟨rfl, hb⟩
    replace BW : Hid (Below w.heap.size w wB) := BW.out.trans (hb.mono BW.out.size)
    replace C_a : Hid (Came .u64 wB a_a l_a c_a z_a) := C_a.out.old hb
    replace C_m : Hid (Came .u64 wB a_m l_m c_m z_m) := C_m.out.old hb
    clear hb HC
    clear C_a C_m
    go_wp2
    go_ret
    exact ⟨rfl, BW.out⟩
  · go_enter Try.func6, Try.ntmps6
    go_wp2_with fail
    refine (Awake_any w).mono ?_
    rintro e wA ⟨rfl, hb⟩
    have BW : Hid (Below w.heap.size w wA) := hb
    replace C_a : Hid (Came .u64 wA a_a l_a c_a z_a) := C_a.out.old hb
    replace C_m : Hid (Came .u64 wA a_m l_m c_m z_m) := C_m.out.old hb
    clear hb
    have HC := long2 a_a a_m l_a c_a l_m c_m 6 wA (by decide) le_a le_m
    rw [decide_eq_false hlong] at HC
    go_wp2_with fail
    refine HC.mono ?_
    rintro e wB ⟨rfl, hb⟩
    replace BW : Hid (Below w.heap.size w wB) := BW.out.trans (hb.mono BW.out.size)
    replace C_a : Hid (Came .u64 wB a_a l_a c_a z_a) := C_a.out.old hb
    replace C_m : Hid (Came .u64 wB a_m l_m c_m z_m) := C_m.out.old hb
    clear hb HC
    have N_a : Hid (NumIn .u64 B64 wB a_a l_a c_a (z_a.take l_a)) := C_a.out.nat (by omega)
    have L_a : Hid (l_a ≤ 6) := by unfold Hid; omega
    have N_m : Hid (NumIn .u64 B64 wB a_m l_m c_m (z_m.take l_m)) := C_m.out.nat (by omega)
    have L_m : Hid (l_m ≤ 6) := by unfold Hid; omega
    clear hlong C_a le_a C_m le_m
    generalize z_a.take l_a = s_a at *
    have P_a : Hid (0 ≤ val B64 s_a) := val_nonneg B64_pos N_a.out.dg
    obtain ⟨A, V_a⟩ : ∃ X, Hid (val B64 s_a = X) := ⟨_, rfl⟩
    replace P_a : Hid (0 ≤ A) := by have := P_a.out; rw [V_a.out] at this; exact this
    generalize z_m.take l_m = s_m at *
    have P_m : Hid (0 ≤ val B64 s_m) := val_nonneg B64_pos N_m.out.dg
    obtain ⟨M, V_m⟩ : ∃ X, Hid (val B64 s_m = X) := ⟨_, rfl⟩
    replace P_m : Hid (0 ≤ M) := by have := P_m.out; rw [V_m.out] at this; exact this
    go_wp2_with fail
    have HC := rOf_any a_a l_a c_a s_a wB N_a.out (by have := L_a.out; omega)
    refine HC.mono ?_
    rintro e w1 ⟨v, rfl, a_x, l_x, c_x, s_x, rfl, n_x, k_x, v_x, b_x, hb⟩
    replace BW : Hid (Below w.heap.size w w1) := BW.out.trans ((hb).mono BW.out.size)
    replace N_a : Hid (NumIn _ _ _ _ _ _ _) := N_a.out.old (hb)
    replace N_m : Hid (NumIn _ _ _ _ _ _ _) := N_m.out.old (hb)
    have N_x : Hid (NumIn _ _ _ _ _ _ _) := n_x
    have K_x : Hid (Canon s_x) := k_x
    have V_x : Hid (val D16 s_x = A) := by unfold Hid; rw [v_x]; exact V_a.out
    have L_x : Hid (l_x ≤ 24) := by unfold Hid; have := L_a.out; omega
    clear n_x v_x b_x k_x hb HC
    go_wp2_with fail
    have HC := rOf_any a_m l_m c_m s_m w1 N_m.out (by have := L_m.out; omega)
    refine HC.mono ?_
    rintro e w2 ⟨v, rfl, a_n, l_n, c_n, s_n, rfl, n_n, k_n, v_n, b_n, hb⟩
    replace BW : Hid (Below w.heap.size w w2) := BW.out.trans ((hb).mono BW.out.size)
    replace N_a : Hid (NumIn _ _ _ _ _ _ _) := N_a.out.old (hb)
    replace N_m : Hid (NumIn _ _ _ _ _ _ _) := N_m.out.old (hb)
    replace N_x : Hid (NumIn _ _ _ _ _ _ _) := N_x.out.old (hb)
    have N_n : Hid (NumIn _ _ _ _ _ _ _) := n_n
    have K_n : Hid (Canon s_n) := k_n
    have V_n : Hid (val D16 s_n = M) := by unfold Hid; rw [v_n]; exact V_m.out
    have L_n : Hid (l_n ≤ 24) := by unfold Hid; have := L_m.out; omega
    clear n_n v_n b_n k_n hb HC
    by_cases hz : M = 0
    · have HC := mInv_zero a_a a_m l_a c_a l_m c_m s_a s_m w2 N_a.out N_m.out (by rw [V_m.out]; exact hz)
      go_wp2_with fail
      refine HC.mono ?_
      rintro e w3 ⟨rfl, rfl⟩
      clear HC
      obtain rfl : l_n = 0 := big_zero D16_one N_n.out K_n.out (by rw [V_n.out]; exact hz)
      go_wp2
      go_ret
      exact ⟨rfl, BW.out⟩
    · have HZ : Hid (M ≠ 0) := hz
      have hlp : 0 < l_n := big_pos N_n.out (by rw [V_n.out]; exact hz)
      have hle : l_n ≤ 24 := L_n.out
      have hbe : ((l_n : Int) == 0) = false := by simp; omega
      clear hz
      by_cases hg : gd M (A % M) = 1
      · have HG : Hid (gd M (A % M) = 1) := hg
        clear hg
        go_wp2_with fail
        have HC := mInv_yes a_a a_m l_a c_a l_m c_m s_a s_m w2 N_a.out N_m.out (by rw [V_m.out]; exact HZ.out) (by rw [V_m.out, V_a.out]; exact HG.out) (by have := L_a.out; have := L_m.out; omega)
        rw [V_m.out, V_a.out] at HC
        refine HC.mono ?_
        rintro e w3 ⟨v, Z_i, rfl, ⟨a_i, l_i, c_i, s_i, rfl, n_i, k_i, v_i, b_i, hb⟩, i0, i1, icg⟩
        replace BW : Hid (Below w.heap.size w w3) := BW.out.trans ((hb).mono BW.out.size)
        replace N_a : Hid (NumIn _ _ _ _ _ _ _) := N_a.out.old (hb)
        replace N_m : Hid (NumIn _ _ _ _ _ _ _) := N_m.out.old (hb)
        replace N_x : Hid (NumIn _ _ _ _ _ _ _) := N_x.out.old (hb)
        replace N_n : Hid (NumIn _ _ _ _ _ _ _) := N_n.out.old (hb)
        have R_i : Hid (0 ≤ Z_i ∧ Z_i < M) := ⟨i0, i1⟩
        have I_i : Hid (Cg M (Z_i * A) 1) := icg
        have K_i : Hid (Canon s_i) := k_i
        have C_i : Hid (Cg M Z_i Z_i) := Cg.refl _ _
        have N_i : Hid (NumIn _ _ _ _ _ _ _) := n_i
        have V_i : Hid (val B64 s_i = Z_i) := v_i
        have L_i : Hid (l_i ≤ 6) := by unfold Hid; have := L_m.out; omega
        clear n_i v_i b_i k_i i0 i1 icg hb HC
        go_wp2_with fail
        have HC := rSmall_any 1 w3 (by decide) (by decide)
        refine HC.mono ?_
        rintro e w4 ⟨v, rfl, a_one, l_one, c_one, s_one, rfl, n_one, k_one, v_one, b_one, hb⟩
        replace BW : Hid (Below w.heap.size w w4) := BW.out.trans ((hb).mono BW.out.size)
        replace N_a : Hid (NumIn _ _ _ _ _ _ _) := N_a.out.old (hb)
        replace N_m : Hid (NumIn _ _ _ _ _ _ _) := N_m.out.old (hb)
        replace N_x : Hid (NumIn _ _ _ _ _ _ _) := N_x.out.old (hb)
        replace N_n : Hid (NumIn _ _ _ _ _ _ _) := N_n.out.old (hb)
        replace N_i : Hid (NumIn _ _ _ _ _ _ _) := N_i.out.old (hb)
        have N_one : Hid (NumIn _ _ _ _ _ _ _) := n_one
        have K_one : Hid (Canon s_one) := k_one
        have V_one : Hid (val D16 s_one = 1) := by unfold Hid; rw [v_one]
        have L_one : Hid (l_one ≤ 4) := by unfold Hid; omega
        clear n_one v_one b_one k_one hb HC
        go_wp2_with fail
        have HC := rMod_any a_x a_n l_x c_x l_n c_n s_x s_n w4 N_x.out N_n.out K_n.out (by rw [V_n.out]; exact HZ.out) (by have := L_x.out; omega) (by have := L_n.out; omega)
        refine HC.mono ?_
        rintro e w5 ⟨v, rfl, a_xm, l_xm, c_xm, s_xm, rfl, n_xm, k_xm, v_xm, b_xm, hb⟩
        replace BW : Hid (Below w.heap.size w w5) := BW.out.trans ((hb).mono BW.out.size)
        replace N_a : Hid (NumIn _ _ _ _ _ _ _) := N_a.out.old (hb)
        replace N_m : Hid (NumIn _ _ _ _ _ _ _) := N_m.out.old (hb)
        replace N_x : Hid (NumIn _ _ _ _ _ _ _) := N_x.out.old (hb)
        replace N_n : Hid (NumIn _ _ _ _ _ _ _) := N_n.out.old (hb)
        replace N_i : Hid (NumIn _ _ _ _ _ _ _) := N_i.out.old (hb)
        replace N_one : Hid (NumIn _ _ _ _ _ _ _) := N_one.out.old (hb)
        have N_xm : Hid (NumIn _ _ _ _ _ _ _) := n_xm
        have K_xm : Hid (Canon s_xm) := k_xm
        have V_xm : Hid (val D16 s_xm = A % M) := by unfold Hid; rw [v_xm]; rw [V_x.out, V_n.out]
        have L_xm : Hid (l_xm ≤ 24) := by unfold Hid; have := L_n.out; omega
        clear n_xm v_xm b_xm k_xm hb HC
        go_wp2_with fail
        have HC := rGcd_any a_n a_xm l_n c_n l_xm c_xm s_n s_xm w5 N_n.out N_xm.out K_n.out K_xm.out 24 (by have := L_n.out; omega) (by have := L_xm.out; omega) (by decide)
        refine HC.mono ?_
        rintro e w6 ⟨v, rfl, a_g, l_g, c_g, s_g, rfl, n_g, k_g, v_g, b_g, hb⟩
        replace BW : Hid (Below w.heap.size w w6) := BW.out.trans ((hb).mono BW.out.size)
        replace N_a : Hid (NumIn _ _ _ _ _ _ _) := N_a.out.old (hb)
        replace N_m : Hid (NumIn _ _ _ _ _ _ _) := N_m.out.old (hb)
        replace N_x : Hid (NumIn _ _ _ _ _ _ _) := N_x.out.old (hb)
        replace N_n : Hid (NumIn _ _ _ _ _ _ _) := N_n.out.old (hb)
        replace N_i : Hid (NumIn _ _ _ _ _ _ _) := N_i.out.old (hb)
        replace N_one : Hid (NumIn _ _ _ _ _ _ _) := N_one.out.old (hb)
        replace N_xm : Hid (NumIn _ _ _ _ _ _ _) := N_xm.out.old (hb)
        have N_g : Hid (NumIn _ _ _ _ _ _ _) := n_g
        have K_g : Hid (Canon s_g) := k_g
        have V_g : Hid (val D16 s_g = gd M (A % M)) := by unfold Hid; rw [v_g]; rw [V_n.out, V_xm.out]
        have L_g : Hid (l_g ≤ 24) := by unfold Hid; have := L_n.out; have := L_xm.out; omega
        clear n_g v_g b_g k_g hb HC
        go_wp2_with fail
        have HC := rCmp_any a_g a_one l_g c_g l_one c_one s_g s_one w6 N_g.out N_one.out K_g.out K_one.out (by have := L_g.out; omega) (by have := L_one.out; omega)
        rw [show cmpI (val D16 s_g) (val D16 s_one) = 0 from by rw [V_g.out, V_one.out, HG.out]; exact cmpI_eq rfl] at HC
        refine HC.mono ?_
        rintro e w7 ⟨rfl, hd⟩
        replace BW : Hid (Below w.heap.size w w7) := BW.out.trans ((hd.below _).mono BW.out.size)
        replace N_a : Hid (NumIn _ _ _ _ _ _ _) := N_a.out.old (hd.below _)
        replace N_m : Hid (NumIn _ _ _ _ _ _ _) := N_m.out.old (hd.below _)
        replace N_x : Hid (NumIn _ _ _ _ _ _ _) := N_x.out.old (hd.below _)
        replace N_n : Hid (NumIn _ _ _ _ _ _ _) := N_n.out.old (hd.below _)
        replace N_i : Hid (NumIn _ _ _ _ _ _ _) := N_i.out.old (hd.below _)
        replace N_one : Hid (NumIn _ _ _ _ _ _ _) := N_one.out.old (hd.below _)
        replace N_xm : Hid (NumIn _ _ _ _ _ _ _) := N_xm.out.old (hd.below _)
        replace N_g : Hid (NumIn _ _ _ _ _ _ _) := N_g.out.old (hd.below _)
        clear hd HC
        go_wp2_with fail
        have HC := rOf_any a_i l_i c_i s_i w7 N_i.out (by have := L_i.out; omega)
        refine HC.mono ?_
        rintro e w8 ⟨v, rfl, a_y, l_y, c_y, s_y, rfl, n_y, k_y, v_y, b_y, hb⟩
        replace BW : Hid (Below w.heap.size w w8) := BW.out.trans ((hb).mono BW.out.size)
        replace N_a : Hid (NumIn _ _ _ _ _ _ _) := N_a.out.old (hb)
        replace N_m : Hid (NumIn _ _ _ _ _ _ _) := N_m.out.old (hb)
        replace N_x : Hid (NumIn _ _ _ _ _ _ _) := N_x.out.old (hb)
        replace N_n : Hid (NumIn _ _ _ _ _ _ _) := N_n.out.old (hb)
        replace N_i : Hid (NumIn _ _ _ _ _ _ _) := N_i.out.old (hb)
        replace N_one : Hid (NumIn _ _ _ _ _ _ _) := N_one.out.old (hb)
        replace N_xm : Hid (NumIn _ _ _ _ _ _ _) := N_xm.out.old (hb)
        replace N_g : Hid (NumIn _ _ _ _ _ _ _) := N_g.out.old (hb)
        have N_y : Hid (NumIn _ _ _ _ _ _ _) := n_y
        have K_y : Hid (Canon s_y) := k_y
        have V_y : Hid (val D16 s_y = Z_i) := by unfold Hid; rw [v_y]; exact V_i.out
        have L_y : Hid (l_y ≤ 24) := by unfold Hid; have := L_i.out; omega
        clear n_y v_y b_y k_y hb HC
        go_wp2_with fail
        have HC := rCmp_any a_y a_n l_y c_y l_n c_n s_y s_n w8 N_y.out N_n.out K_y.out K_n.out (by have := L_y.out; omega) (by have := L_n.out; omega)
        rw [show cmpI (val D16 s_y) (val D16 s_n) = -1 from by rw [V_y.out, V_n.out]; exact cmpI_lt R_i.out.2] at HC
        refine HC.mono ?_
        rintro e w9 ⟨rfl, hd⟩
        replace BW : Hid (Below w.heap.size w w9) := BW.out.trans ((hd.below _).mono BW.out.size)
        replace N_a : Hid (NumIn _ _ _ _ _ _ _) := N_a.out.old (hd.below _)
        replace N_m : Hid (NumIn _ _ _ _ _ _ _) := N_m.out.old (hd.below _)
        replace N_x : Hid (NumIn _ _ _ _ _ _ _) := N_x.out.old (hd.below _)
        replace N_n : Hid (NumIn _ _ _ _ _ _ _) := N_n.out.old (hd.below _)
        replace N_i : Hid (NumIn _ _ _ _ _ _ _) := N_i.out.old (hd.below _)
        replace N_one : Hid (NumIn _ _ _ _ _ _ _) := N_one.out.old (hd.below _)
        replace N_xm : Hid (NumIn _ _ _ _ _ _ _) := N_xm.out.old (hd.below _)
        replace N_g : Hid (NumIn _ _ _ _ _ _ _) := N_g.out.old (hd.below _)
        replace N_y : Hid (NumIn _ _ _ _ _ _ _) := N_y.out.old (hd.below _)
        clear hd HC
        go_wp2_with fail
        have HC := rNat_any a_y l_y c_y s_y w9 N_y.out K_y.out (by have := L_y.out; omega)
        refine HC.mono ?_
        rintro e w10 ⟨v, rfl, a_t, l_t, c_t, s_t, rfl, n_t, k_t, v_t, b_t, hb⟩
        have K_t : Hid (Canon s_t) := k_t
        clear k_t
        replace BW : Hid (Below w.heap.size w w10) := BW.out.trans ((hb).mono BW.out.size)
        replace N_a : Hid (NumIn _ _ _ _ _ _ _) := N_a.out.old (hb)
        replace N_m : Hid (NumIn _ _ _ _ _ _ _) := N_m.out.old (hb)
        replace N_x : Hid (NumIn _ _ _ _ _ _ _) := N_x.out.old (hb)
        replace N_n : Hid (NumIn _ _ _ _ _ _ _) := N_n.out.old (hb)
        replace N_i : Hid (NumIn _ _ _ _ _ _ _) := N_i.out.old (hb)
        replace N_one : Hid (NumIn _ _ _ _ _ _ _) := N_one.out.old (hb)
        replace N_xm : Hid (NumIn _ _ _ _ _ _ _) := N_xm.out.old (hb)
        replace N_g : Hid (NumIn _ _ _ _ _ _ _) := N_g.out.old (hb)
        replace N_y : Hid (NumIn _ _ _ _ _ _ _) := N_y.out.old (hb)
        have N_t : Hid (NumIn _ _ _ _ _ _ _) := n_t
        have V_t : Hid (val B64 s_t = Z_i) := by unfold Hid; rw [v_t]; exact V_y.out
        have L_t : Hid (l_t ≤ 24) := by unfold Hid; have := L_y.out; omega
        clear n_t v_t b_t hb HC
        have he := canon_inj B64_one N_i.out.dg N_t.out.dg K_i.out K_t.out (by rw [V_i.out, V_t.out])
        have hl1 := N_i.out.len
        have hl2 := N_t.out.len
        subst he
        obtain rfl : l_i = l_t := by omega
        go_wp2_with fail
        have HC := Same_yes a_i a_t _ c_i c_t _ w10 N_i.out.lies N_t.out.lies N_i.out.sm
        clear hl1 hl2
        refine HC.mono ?_
        rintro e w11 ⟨rfl, hd⟩
        replace BW : Hid (Below w.heap.size w w11) := BW.out.trans ((hd.below _).mono BW.out.size)
        replace N_a : Hid (NumIn _ _ _ _ _ _ _) := N_a.out.old (hd.below _)
        replace N_m : Hid (NumIn _ _ _ _ _ _ _) := N_m.out.old (hd.below _)
        replace N_x : Hid (NumIn _ _ _ _ _ _ _) := N_x.out.old (hd.below _)
        replace N_n : Hid (NumIn _ _ _ _ _ _ _) := N_n.out.old (hd.below _)
        replace N_i : Hid (NumIn _ _ _ _ _ _ _) := N_i.out.old (hd.below _)
        replace N_one : Hid (NumIn _ _ _ _ _ _ _) := N_one.out.old (hd.below _)
        replace N_xm : Hid (NumIn _ _ _ _ _ _ _) := N_xm.out.old (hd.below _)
        replace N_g : Hid (NumIn _ _ _ _ _ _ _) := N_g.out.old (hd.below _)
        replace N_y : Hid (NumIn _ _ _ _ _ _ _) := N_y.out.old (hd.below _)
        replace N_t : Hid (NumIn _ _ _ _ _ _ _) := N_t.out.old (hd.below _)
        clear hd HC
        clear N_t V_t K_t L_t
        go_wp2_with fail
        have HC := rMul_any a_x a_y l_x c_x l_y c_y s_x s_y w11 N_x.out N_y.out (by have := L_x.out; omega) (by have := L_y.out; omega)
        refine HC.mono ?_
        rintro e w12 ⟨v, rfl, a_xy, l_xy, c_xy, s_xy, rfl, n_xy, k_xy, v_xy, b_xy, hb⟩
        replace BW : Hid (Below w.heap.size w w12) := BW.out.trans ((hb).mono BW.out.size)
        replace N_a : Hid (NumIn _ _ _ _ _ _ _) := N_a.out.old (hb)
        replace N_m : Hid (NumIn _ _ _ _ _ _ _) := N_m.out.old (hb)
        replace N_x : Hid (NumIn _ _ _ _ _ _ _) := N_x.out.old (hb)
        replace N_n : Hid (NumIn _ _ _ _ _ _ _) := N_n.out.old (hb)
        replace N_i : Hid (NumIn _ _ _ _ _ _ _) := N_i.out.old (hb)
        replace N_one : Hid (NumIn _ _ _ _ _ _ _) := N_one.out.old (hb)
        replace N_xm : Hid (NumIn _ _ _ _ _ _ _) := N_xm.out.old (hb)
        replace N_g : Hid (NumIn _ _ _ _ _ _ _) := N_g.out.old (hb)
        replace N_y : Hid (NumIn _ _ _ _ _ _ _) := N_y.out.old (hb)
        have N_xy : Hid (NumIn _ _ _ _ _ _ _) := n_xy
        have K_xy : Hid (Canon s_xy) := k_xy
        have V_xy : Hid (val D16 s_xy = A * Z_i) := by unfold Hid; rw [v_xy]; rw [V_x.out, V_y.out]
        have L_xy : Hid (l_xy ≤ 49) := by unfold Hid; have := L_x.out; have := L_y.out; omega
        clear n_xy v_xy b_xy k_xy hb HC
        go_wp2_with fail
        have HC := rMod_any a_xy a_n l_xy c_xy l_n c_n s_xy s_n w12 N_xy.out N_n.out K_n.out (by rw [V_n.out]; exact HZ.out) (by have := L_xy.out; omega) (by have := L_n.out; omega)
        refine HC.mono ?_
        rintro e w13 ⟨v, rfl, a_xr, l_xr, c_xr, s_xr, rfl, n_xr, k_xr, v_xr, b_xr, hb⟩
        replace BW : Hid (Below w.heap.size w w13) := BW.out.trans ((hb).mono BW.out.size)
        replace N_a : Hid (NumIn _ _ _ _ _ _ _) := N_a.out.old (hb)
        replace N_m : Hid (NumIn _ _ _ _ _ _ _) := N_m.out.old (hb)
        replace N_x : Hid (NumIn _ _ _ _ _ _ _) := N_x.out.old (hb)
        replace N_n : Hid (NumIn _ _ _ _ _ _ _) := N_n.out.old (hb)
        replace N_i : Hid (NumIn _ _ _ _ _ _ _) := N_i.out.old (hb)
        replace N_one : Hid (NumIn _ _ _ _ _ _ _) := N_one.out.old (hb)
        replace N_xm : Hid (NumIn _ _ _ _ _ _ _) := N_xm.out.old (hb)
        replace N_g : Hid (NumIn _ _ _ _ _ _ _) := N_g.out.old (hb)
        replace N_y : Hid (NumIn _ _ _ _ _ _ _) := N_y.out.old (hb)
        replace N_xy : Hid (NumIn _ _ _ _ _ _ _) := N_xy.out.old (hb)
        have N_xr : Hid (NumIn _ _ _ _ _ _ _) := n_xr
        have K_xr : Hid (Canon s_xr) := k_xr
        have V_xr : Hid (val D16 s_xr = 1 % M) := by unfold Hid; rw [v_xr]; rw [V_xy.out, V_n.out, Int.mul_comm]; exact I_i.out.emod
        have L_xr : Hid (l_xr ≤ 24) := by unfold Hid; have := L_n.out; omega
        clear n_xr v_xr b_xr k_xr hb HC
        go_wp2_with fail
        have HC := rMod_any a_one a_n l_one c_one l_n c_n s_one s_n w13 N_one.out N_n.out K_n.out (by rw [V_n.out]; exact HZ.out) (by have := L_one.out; omega) (by have := L_n.out; omega)
        refine HC.mono ?_
        rintro e w14 ⟨v, rfl, a_oo, l_oo, c_oo, s_oo, rfl, n_oo, k_oo, v_oo, b_oo, hb⟩
        replace BW : Hid (Below w.heap.size w w14) := BW.out.trans ((hb).mono BW.out.size)
        replace N_a : Hid (NumIn _ _ _ _ _ _ _) := N_a.out.old (hb)
        replace N_m : Hid (NumIn _ _ _ _ _ _ _) := N_m.out.old (hb)
        replace N_x : Hid (NumIn _ _ _ _ _ _ _) := N_x.out.old (hb)
        replace N_n : Hid (NumIn _ _ _ _ _ _ _) := N_n.out.old (hb)
        replace N_i : Hid (NumIn _ _ _ _ _ _ _) := N_i.out.old (hb)
        replace N_one : Hid (NumIn _ _ _ _ _ _ _) := N_one.out.old (hb)
        replace N_xm : Hid (NumIn _ _ _ _ _ _ _) := N_xm.out.old (hb)
        replace N_g : Hid (NumIn _ _ _ _ _ _ _) := N_g.out.old (hb)
        replace N_y : Hid (NumIn _ _ _ _ _ _ _) := N_y.out.old (hb)
        replace N_xy : Hid (NumIn _ _ _ _ _ _ _) := N_xy.out.old (hb)
        replace N_xr : Hid (NumIn _ _ _ _ _ _ _) := N_xr.out.old (hb)
        have N_oo : Hid (NumIn _ _ _ _ _ _ _) := n_oo
        have K_oo : Hid (Canon s_oo) := k_oo
        have V_oo : Hid (val D16 s_oo = 1 % M) := by unfold Hid; rw [v_oo]; rw [V_one.out, V_n.out]
        have L_oo : Hid (l_oo ≤ 24) := by unfold Hid; have := L_n.out; omega
        clear n_oo v_oo b_oo k_oo hb HC
        go_wp2_with fail
        have HC := rCmp_any a_xr a_oo l_xr c_xr l_oo c_oo s_xr s_oo w14 N_xr.out N_oo.out K_xr.out K_oo.out (by have := L_xr.out; omega) (by have := L_oo.out; omega)
        rw [show cmpI (val D16 s_xr) (val D16 s_oo) = 0 from by rw [V_xr.out, V_oo.out]; exact cmpI_eq rfl] at HC
        refine HC.mono ?_
        rintro e w15 ⟨rfl, hd⟩
        replace BW : Hid (Below w.heap.size w w15) := BW.out.trans ((hd.below _).mono BW.out.size)
        replace N_a : Hid (NumIn _ _ _ _ _ _ _) := N_a.out.old (hd.below _)
        replace N_m : Hid (NumIn _ _ _ _ _ _ _) := N_m.out.old (hd.below _)
        replace N_x : Hid (NumIn _ _ _ _ _ _ _) := N_x.out.old (hd.below _)
        replace N_n : Hid (NumIn _ _ _ _ _ _ _) := N_n.out.old (hd.below _)
        replace N_i : Hid (NumIn _ _ _ _ _ _ _) := N_i.out.old (hd.below _)
        replace N_one : Hid (NumIn _ _ _ _ _ _ _) := N_one.out.old (hd.below _)
        replace N_xm : Hid (NumIn _ _ _ _ _ _ _) := N_xm.out.old (hd.below _)
        replace N_g : Hid (NumIn _ _ _ _ _ _ _) := N_g.out.old (hd.below _)
        replace N_y : Hid (NumIn _ _ _ _ _ _ _) := N_y.out.old (hd.below _)
        replace N_xy : Hid (NumIn _ _ _ _ _ _ _) := N_xy.out.old (hd.below _)
        replace N_xr : Hid (NumIn _ _ _ _ _ _ _) := N_xr.out.old (hd.below _)
        replace N_oo : Hid (NumIn _ _ _ _ _ _ _) := N_oo.out.old (hd.below _)
        clear hd HC
        go_wp2
        go_ret
        exact ⟨rfl, BW.out⟩
      · have HG : Hid (gd M (A % M) ≠ 1) := hg
        clear hg
        go_wp2_with fail
        have HC := mInv_no a_a a_m l_a c_a l_m c_m s_a s_m w2 N_a.out N_m.out (by rw [V_m.out]; exact HZ.out) (by rw [V_m.out, V_a.out]; exact HG.out) (by have := L_a.out; have := L_m.out; omega)
        refine HC.mono ?_
        rintro e w3 ⟨rfl, hb⟩
        replace BW : Hid (Below w.heap.size w w3) := BW.out.trans ((hb).mono BW.out.size)
        replace N_a : Hid (NumIn _ _ _ _ _ _ _) := N_a.out.old (hb)
        replace N_m : Hid (NumIn _ _ _ _ _ _ _) := N_m.out.old (hb)
        replace N_x : Hid (NumIn _ _ _ _ _ _ _) := N_x.out.old (hb)
        replace N_n : Hid (NumIn _ _ _ _ _ _ _) := N_n.out.old (hb)
        clear hb HC
        go_wp2_with fail
        have HC := rSmall_any 1 w3 (by decide) (by decide)
        refine HC.mono ?_
        rintro e w4 ⟨v, rfl, a_one, l_one, c_one, s_one, rfl, n_one, k_one, v_one, b_one, hb⟩
        replace BW : Hid (Below w.heap.size w w4) := BW.out.trans ((hb).mono BW.out.size)
        replace N_a : Hid (NumIn _ _ _ _ _ _ _) := N_a.out.old (hb)
        replace N_m : Hid (NumIn _ _ _ _ _ _ _) := N_m.out.old (hb)
        replace N_x : Hid (NumIn _ _ _ _ _ _ _) := N_x.out.old (hb)
        replace N_n : Hid (NumIn _ _ _ _ _ _ _) := N_n.out.old (hb)
        have N_one : Hid (NumIn _ _ _ _ _ _ _) := n_one
        have K_one : Hid (Canon s_one) := k_one
        have V_one : Hid (val D16 s_one = 1) := by unfold Hid; rw [v_one]
        have L_one : Hid (l_one ≤ 4) := by unfold Hid; omega
        clear n_one v_one b_one k_one hb HC
        go_wp2_with fail
        have HC := rMod_any a_x a_n l_x c_x l_n c_n s_x s_n w4 N_x.out N_n.out K_n.out (by rw [V_n.out]; exact HZ.out) (by have := L_x.out; omega) (by have := L_n.out; omega)
        refine HC.mono ?_
        rintro e w5 ⟨v, rfl, a_xm, l_xm, c_xm, s_xm, rfl, n_xm, k_xm, v_xm, b_xm, hb⟩
        replace BW : Hid (Below w.heap.size w w5) := BW.out.trans ((hb).mono BW.out.size)
        replace N_a : Hid (NumIn _ _ _ _ _ _ _) := N_a.out.old (hb)
        replace N_m : Hid (NumIn _ _ _ _ _ _ _) := N_m.out.old (hb)
        replace N_x : Hid (NumIn _ _ _ _ _ _ _) := N_x.out.old (hb)
        replace N_n : Hid (NumIn _ _ _ _ _ _ _) := N_n.out.old (hb)
        replace N_one : Hid (NumIn _ _ _ _ _ _ _) := N_one.out.old (hb)
        have N_xm : Hid (NumIn _ _ _ _ _ _ _) := n_xm
        have K_xm : Hid (Canon s_xm) := k_xm
        have V_xm : Hid (val D16 s_xm = A % M) := by unfold Hid; rw [v_xm]; rw [V_x.out, V_n.out]
        have L_xm : Hid (l_xm ≤ 24) := by unfold Hid; have := L_n.out; omega
        clear n_xm v_xm b_xm k_xm hb HC
        go_wp2_with fail
        have HC := rGcd_any a_n a_xm l_n c_n l_xm c_xm s_n s_xm w5 N_n.out N_xm.out K_n.out K_xm.out 24 (by have := L_n.out; omega) (by have := L_xm.out; omega) (by decide)
        refine HC.mono ?_
        rintro e w6 ⟨v, rfl, a_g, l_g, c_g, s_g, rfl, n_g, k_g, v_g, b_g, hb⟩
        replace BW : Hid (Below w.heap.size w w6) := BW.out.trans ((hb).mono BW.out.size)
        replace N_a : Hid (NumIn _ _ _ _ _ _ _) := N_a.out.old (hb)
        replace N_m : Hid (NumIn _ _ _ _ _ _ _) := N_m.out.old (hb)
        replace N_x : Hid (NumIn _ _ _ _ _ _ _) := N_x.out.old (hb)
        replace N_n : Hid (NumIn _ _ _ _ _ _ _) := N_n.out.old (hb)
        replace N_one : Hid (NumIn _ _ _ _ _ _ _) := N_one.out.old (hb)
        replace N_xm : Hid (NumIn _ _ _ _ _ _ _) := N_xm.out.old (hb)
        have N_g : Hid (NumIn _ _ _ _ _ _ _) := n_g
        have K_g : Hid (Canon s_g) := k_g
        have V_g : Hid (val D16 s_g = gd M (A % M)) := by unfold Hid; rw [v_g]; rw [V_n.out, V_xm.out]
        have L_g : Hid (l_g ≤ 24) := by unfold Hid; have := L_n.out; have := L_xm.out; omega
        clear n_g v_g b_g k_g hb HC
        go_wp2_with fail
        have HC := rCmp_any a_g a_one l_g c_g l_one c_one s_g s_one w6 N_g.out N_one.out K_g.out K_one.out (by have := L_g.out; omega) (by have := L_one.out; omega)
        rw [V_g.out, V_one.out] at HC
        have hcc : (cmpI (gd M (A % M)) 1 != 0) = true := by
          rcases Int.lt_trichotomy (gd M (A % M)) 1 with g | g | g
          · rw [cmpI_lt g]; decide
          · exact absurd g HG.out
          · rw [cmpI_gt g]; decide
        generalize cmpI (gd M (A % M)) 1 = cc at HC hcc
        refine HC.mono ?_
        rintro e w7 ⟨rfl, hd⟩
        replace BW : Hid (Below w.heap.size w w7) := BW.out.trans ((hd.below _).mono BW.out.size)
        replace N_a : Hid (NumIn _ _ _ _ _ _ _) := N_a.out.old (hd.below _)
        replace N_m : Hid (NumIn _ _ _ _ _ _ _) := N_m.out.old (hd.below _)
        replace N_x : Hid (NumIn _ _ _ _ _ _ _) := N_x.out.old (hd.below _)
        replace N_n : Hid (NumIn _ _ _ _ _ _ _) := N_n.out.old (hd.below _)
        replace N_one : Hid (NumIn _ _ _ _ _ _ _) := N_one.out.old (hd.below _)
        replace N_xm : Hid (NumIn _ _ _ _ _ _ _) := N_xm.out.old (hd.below _)
        replace N_g : Hid (NumIn _ _ _ _ _ _ _) := N_g.out.old (hd.below _)
        clear hd HC
        go_wp2
        go_ret
        exact ⟨rfl, BW.out⟩
end Go.Proofs.Ytjaokpgccnkipaa
