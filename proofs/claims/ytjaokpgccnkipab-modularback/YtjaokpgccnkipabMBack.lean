/-
  The walk of ModularBack.
-/
import Derived.Test.YtjaokpgccnkipabModW
namespace Go.Proofs.Ytjaokpgccnkipab
open Go.RowKit
set_option linter.unusedVariables false
set_option linter.unusedSimpArgs false

set_option maxHeartbeats 4000000 in
/-- What is added is taken away again; what is multiplied by a number with an inverse is multiplied back. -/
theorem ModularBack_walk (a_a : Option Addr) (l_a c_a : Nat) (z_a : List Int) (a_b : Option Addr) (l_b c_b : Nat) (z_b : List Int) (a_m : Option Addr) (l_m c_m : Nat) (z_m : List Int) (w : World) (came_a : Came .u64 w a_a l_a c_a z_a) (came_b : Came .u64 w a_b l_b c_b z_b) (came_m : Came .u64 w a_m l_m c_m z_m) :
    Calls Try.prog 3 #[.slice a_a l_a c_a, .slice a_b l_b c_b, .slice a_m l_m c_m] w fun e w' => e = .returned (.bool true) ∧ Below w.heap.size w w' := by
  have le_a := came_a.le
  have le_b := came_b.le
  have le_m := came_m.le
  have C_a : Hid (Came .u64 w a_a l_a c_a z_a) := came_a
  have C_b : Hid (Came .u64 w a_b l_b c_b z_b) := came_b
  have C_m : Hid (Came .u64 w a_m l_m c_m z_m) := came_m
  clear came_a came_b came_m
  by_cases hlong : 6 < l_a ∨ 6 < l_b ∨ 6 < l_m
  · go_enter Try.func3, Try.ntmps3
    go_wp2_with fail
    refine (Awake_any w).mono ?_
    rintro e wA ⟨rfl, hb⟩
    have BW : Hid (Below w.heap.size w wA) := hb
    replace C_a : Hid (Came .u64 wA a_a l_a c_a z_a) := C_a.out.old hb
    replace C_b : Hid (Came .u64 wA a_b l_b c_b z_b) := C_b.out.old hb
    replace C_m : Hid (Came .u64 wA a_m l_m c_m z_m) := C_m.out.old hb
    clear hb
    have HC := long3 a_a a_b a_m l_a c_a l_b c_b l_m c_m 6 wA (by decide) le_a le_b le_m
    rw [decide_eq_true hlong] at HC
    go_wp2_with fail
    refine HC.mono ?_
    rintro e wB ⟨rfl, hb⟩
    replace BW : Hid (Below w.heap.size w wB) := BW.out.trans (hb.mono BW.out.size)
    replace C_a : Hid (Came .u64 wB a_a l_a c_a z_a) := C_a.out.old hb
    replace C_b : Hid (Came .u64 wB a_b l_b c_b z_b) := C_b.out.old hb
    replace C_m : Hid (Came .u64 wB a_m l_m c_m z_m) := C_m.out.old hb
    clear hb HC
    clear C_a C_b C_m
    go_wp2
    go_ret
    exact ⟨rfl, BW.out⟩
  · go_enter Try.func3, Try.ntmps3
    go_wp2_with fail
    refine (Awake_any w).mono ?_
    rintro e wA ⟨rfl, hb⟩
    have BW : Hid (Below w.heap.size w wA) := hb
    replace C_a : Hid (Came .u64 wA a_a l_a c_a z_a) := C_a.out.old hb
    replace C_b : Hid (Came .u64 wA a_b l_b c_b z_b) := C_b.out.old hb
    replace C_m : Hid (Came .u64 wA a_m l_m c_m z_m) := C_m.out.old hb
    clear hb
    have HC := long3 a_a a_b a_m l_a c_a l_b c_b l_m c_m 6 wA (by decide) le_a le_b le_m
    rw [decide_eq_false hlong] at HC
    go_wp2_with fail
    refine HC.mono ?_
    rintro e wB ⟨rfl, hb⟩
    replace BW : Hid (Below w.heap.size w wB) := BW.out.trans (hb.mono BW.out.size)
    replace C_a : Hid (Came .u64 wB a_a l_a c_a z_a) := C_a.out.old hb
    replace C_b : Hid (Came .u64 wB a_b l_b c_b z_b) := C_b.out.old hb
    replace C_m : Hid (Came .u64 wB a_m l_m c_m z_m) := C_m.out.old hb
    clear hb HC
    have N_a : Hid (NumIn .u64 B64 wB a_a l_a c_a (z_a.take l_a)) := C_a.out.nat (by omega)
    have L_a : Hid (l_a ≤ 6) := by unfold Hid; omega
    have N_b : Hid (NumIn .u64 B64 wB a_b l_b c_b (z_b.take l_b)) := C_b.out.nat (by omega)
    have L_b : Hid (l_b ≤ 6) := by unfold Hid; omega
    have N_m : Hid (NumIn .u64 B64 wB a_m l_m c_m (z_m.take l_m)) := C_m.out.nat (by omega)
    have L_m : Hid (l_m ≤ 6) := by unfold Hid; omega
    clear hlong C_a le_a C_b le_b C_m le_m
    generalize z_a.take l_a = s_a at *
    have P_a : Hid (0 ≤ val B64 s_a) := val_nonneg B64_pos N_a.out.dg
    obtain ⟨A, V_a⟩ : ∃ X, Hid (val B64 s_a = X) := ⟨_, rfl⟩
    replace P_a : Hid (0 ≤ A) := by have := P_a.out; rw [V_a.out] at this; exact this
    generalize z_b.take l_b = s_b at *
    have P_b : Hid (0 ≤ val B64 s_b) := val_nonneg B64_pos N_b.out.dg
    obtain ⟨B, V_b⟩ : ∃ X, Hid (val B64 s_b = X) := ⟨_, rfl⟩
    replace P_b : Hid (0 ≤ B) := by have := P_b.out; rw [V_b.out] at this; exact this
    generalize z_m.take l_m = s_m at *
    have P_m : Hid (0 ≤ val B64 s_m) := val_nonneg B64_pos N_m.out.dg
    obtain ⟨M, V_m⟩ : ∃ X, Hid (val B64 s_m = X) := ⟨_, rfl⟩
    replace P_m : Hid (0 ≤ M) := by have := P_m.out; rw [V_m.out] at this; exact this
    by_cases hz : M = 0
    · go_wp2_with fail
      have HC := Len_any a_m l_m c_m s_m wB N_m.out
      rw [show lenOf s_m = 0 from lenOf_zero N_m.out.dg (by rw [V_m.out]; exact hz)] at HC
      refine HC.mono ?_
      rintro e w1 ⟨rfl, rfl⟩
      clear HC
      clear N_a N_b N_m
      go_wp2
      go_ret
      exact ⟨rfl, BW.out⟩
    · have HZ : Hid (M ≠ 0) := hz
      have hlp : 0 < lenOf s_m := lenOf_pos N_m.out.dg (by rw [V_m.out]; have := P_m.out; omega)
      have hle : lenOf s_m ≤ 64 * 1000 := lenOf_le N_m.out.dg 1000 (by rw [N_m.out.len]; have := L_m.out; omega)
      clear hz
      have HC := Len_any a_m l_m c_m s_m wB N_m.out
      generalize lenOf s_m = len_m at *
      have hbe : ((len_m : Int) == 0) = false := by simp; omega
      go_wp2_with fail
      refine HC.mono ?_
      rintro e w1 ⟨rfl, rfl⟩
      clear HC
      have C_a : Hid (Cg M A A) := Cg.refl _ _
      have C_b : Hid (Cg M B B) := Cg.refl _ _
      have C_m : Hid (Cg M M M) := Cg.refl _ _
      go_wp2_with fail
      have HC := mOf_any a_a a_m l_a c_a l_m c_m s_a s_m w1 N_a.out N_m.out (by rw [V_m.out]; exact HZ.out) (by have := L_a.out; have := L_m.out; omega)
      refine HC.mono ?_
      rintro e w2 ⟨v, rfl, a_low, l_low, c_low, s_low, rfl, n_low, k_low, v_low, b_low, hb⟩
      replace BW : Hid (Below w.heap.size w w2) := BW.out.trans ((hb).mono BW.out.size)
      replace N_a : Hid (NumIn _ _ _ _ _ _ _) := N_a.out.old (hb)
      replace N_b : Hid (NumIn _ _ _ _ _ _ _) := N_b.out.old (hb)
      replace N_m : Hid (NumIn _ _ _ _ _ _ _) := N_m.out.old (hb)
      simp only [V_a.out, V_m.out] at v_low
      obtain ⟨Z_low, hZ⟩ : ∃ Z, A % M = Z := ⟨_, rfl⟩
      have R_low : Hid (0 ≤ Z_low ∧ Z_low < M) := hZ ▸ mod_range _ _ P_m.out HZ.out
      have C_low : Hid (Cg M Z_low A) := hZ ▸ (Cg.mod M _).trans C_a.out
      rw [hZ] at v_low
      have N_low : Hid (NumIn _ _ _ _ _ _ _) := n_low
      have V_low : Hid (val B64 s_low = Z_low) := v_low
      have L_low : Hid (l_low ≤ 6) := by unfold Hid; have := L_m.out; omega
      clear n_low v_low b_low k_low hZ hb HC
      go_wp2_with fail
      have HC := mAdd_any a_a a_b a_m l_a c_a l_b c_b l_m c_m s_a s_b s_m w2 N_a.out N_b.out N_m.out (by rw [V_m.out]; exact HZ.out) (by have := L_a.out; have := L_b.out; have := L_m.out; omega)
      refine HC.mono ?_
      rintro e w3 ⟨v, rfl, a_s, l_s, c_s, s_s, rfl, n_s, k_s, v_s, b_s, hb⟩
      replace BW : Hid (Below w.heap.size w w3) := BW.out.trans ((hb).mono BW.out.size)
      replace N_a : Hid (NumIn _ _ _ _ _ _ _) := N_a.out.old (hb)
      replace N_b : Hid (NumIn _ _ _ _ _ _ _) := N_b.out.old (hb)
      replace N_m : Hid (NumIn _ _ _ _ _ _ _) := N_m.out.old (hb)
      replace N_low : Hid (NumIn _ _ _ _ _ _ _) := N_low.out.old (hb)
      simp only [V_a.out, V_b.out, V_m.out] at v_s
      obtain ⟨Z_s, hZ⟩ : ∃ Z, (A + B) % M = Z := ⟨_, rfl⟩
      have R_s : Hid (0 ≤ Z_s ∧ Z_s < M) := hZ ▸ mod_range _ _ P_m.out HZ.out
      have C_s : Hid (Cg M Z_s (A + B)) := hZ ▸ (Cg.mod M _).trans (C_a.out.add C_b.out)
      rw [hZ] at v_s
      have N_s : Hid (NumIn _ _ _ _ _ _ _) := n_s
      have V_s : Hid (val B64 s_s = Z_s) := v_s
      have L_s : Hid (l_s ≤ 6) := by unfold Hid; have := L_m.out; omega
      clear n_s v_s b_s k_s hZ hb HC
      go_wp2_with fail
      have HC := mSub_any a_s a_b a_m l_s c_s l_b c_b l_m c_m s_s s_b s_m w3 N_s.out N_b.out N_m.out (by rw [V_m.out]; exact HZ.out) (by have := L_s.out; have := L_b.out; have := L_m.out; omega)
      refine HC.mono ?_
      rintro e w4 ⟨v, rfl, a_d, l_d, c_d, s_d, rfl, n_d, k_d, v_d, b_d, hb⟩
      replace BW : Hid (Below w.heap.size w w4) := BW.out.trans ((hb).mono BW.out.size)
      replace N_a : Hid (NumIn _ _ _ _ _ _ _) := N_a.out.old (hb)
      replace N_b : Hid (NumIn _ _ _ _ _ _ _) := N_b.out.old (hb)
      replace N_m : Hid (NumIn _ _ _ _ _ _ _) := N_m.out.old (hb)
      replace N_low : Hid (NumIn _ _ _ _ _ _ _) := N_low.out.old (hb)
      replace N_s : Hid (NumIn _ _ _ _ _ _ _) := N_s.out.old (hb)
      simp only [V_s.out, V_b.out, V_m.out] at v_d
      obtain ⟨Z_d, hZ⟩ : ∃ Z, (Z_s - B) % M = Z := ⟨_, rfl⟩
      have R_d : Hid (0 ≤ Z_d ∧ Z_d < M) := hZ ▸ mod_range _ _ P_m.out HZ.out
      have C_d : Hid (Cg M Z_d ((A + B) - B)) := hZ ▸ (Cg.mod M _).trans (C_s.out.sub C_b.out)
      rw [hZ] at v_d
      have N_d : Hid (NumIn _ _ _ _ _ _ _) := n_d
      have V_d : Hid (val B64 s_d = Z_d) := v_d
      have L_d : Hid (l_d ≤ 6) := by unfold Hid; have := L_m.out; omega
      clear n_d v_d b_d k_d hZ hb HC
      go_wp2_with fail
      have HC := Cmp_any a_d a_low l_d c_d l_low c_low s_d s_low w4 N_d.out N_low.out
      rw [show cmpI (val B64 s_d) (val B64 s_low) = 0 from by rw [V_d.out, V_low.out]; exact cmpI_eq (((C_d.out.trans (Cg.of_eq (by grind))).trans C_low.out.symm).eq R_d.out.1 R_d.out.2 R_low.out.1 R_low.out.2)] at HC
      refine HC.mono ?_
      rintro e w5 ⟨rfl, hd⟩
      replace BW : Hid (Below w.heap.size w w5) := BW.out.trans ((hd.below _).mono BW.out.size)
      replace N_a : Hid (NumIn _ _ _ _ _ _ _) := N_a.out.old (hd.below _)
      replace N_b : Hid (NumIn _ _ _ _ _ _ _) := N_b.out.old (hd.below _)
      replace N_m : Hid (NumIn _ _ _ _ _ _ _) := N_m.out.old (hd.below _)
      replace N_low : Hid (NumIn _ _ _ _ _ _ _) := N_low.out.old (hd.below _)
      replace N_s : Hid (NumIn _ _ _ _ _ _ _) := N_s.out.old (hd.below _)
      replace N_d : Hid (NumIn _ _ _ _ _ _ _) := N_d.out.old (hd.below _)
      clear hd HC
      clear N_s V_s L_s
      clear N_d V_d L_d
      by_cases hg : gd M (B % M) = 1
      · have HG : Hid (gd M (B % M) = 1) := hg
        clear hg
        go_wp2_with fail
        have HC := mInv_yes a_b a_m l_b c_b l_m c_m s_b s_m w5 N_b.out N_m.out (by rw [V_m.out]; exact HZ.out) (by rw [V_m.out, V_b.out]; exact HG.out) (by have := L_b.out; have := L_m.out; omega)
        rw [V_m.out, V_b.out] at HC
        refine HC.mono ?_
        rintro e w6 ⟨v, Z_i, rfl, ⟨a_i, l_i, c_i, s_i, rfl, n_i, k_i, v_i, b_i, hb⟩, i0, i1, icg⟩
        replace BW : Hid (Below w.heap.size w w6) := BW.out.trans ((hb).mono BW.out.size)
        replace N_a : Hid (NumIn _ _ _ _ _ _ _) := N_a.out.old (hb)
        replace N_b : Hid (NumIn _ _ _ _ _ _ _) := N_b.out.old (hb)
        replace N_m : Hid (NumIn _ _ _ _ _ _ _) := N_m.out.old (hb)
        replace N_low : Hid (NumIn _ _ _ _ _ _ _) := N_low.out.old (hb)
        have R_i : Hid (0 ≤ Z_i ∧ Z_i < M) := ⟨i0, i1⟩
        have I_i : Hid (Cg M (Z_i * B) 1) := icg
        have C_i : Hid (Cg M Z_i Z_i) := Cg.refl _ _
        have N_i : Hid (NumIn _ _ _ _ _ _ _) := n_i
        have V_i : Hid (val B64 s_i = Z_i) := v_i
        have L_i : Hid (l_i ≤ 6) := by unfold Hid; have := L_m.out; omega
        clear n_i v_i b_i k_i i0 i1 icg hb HC
        go_wp2_with fail
        have HC := mMul_any a_a a_b a_m l_a c_a l_b c_b l_m c_m s_a s_b s_m w6 N_a.out N_b.out N_m.out (by rw [V_m.out]; exact HZ.out) (by have := L_a.out; have := L_b.out; have := L_m.out; omega)
        refine HC.mono ?_
        rintro e w7 ⟨v, rfl, a_p, l_p, c_p, s_p, rfl, n_p, k_p, v_p, b_p, hb⟩
        replace BW : Hid (Below w.heap.size w w7) := BW.out.trans ((hb).mono BW.out.size)
        replace N_a : Hid (NumIn _ _ _ _ _ _ _) := N_a.out.old (hb)
        replace N_b : Hid (NumIn _ _ _ _ _ _ _) := N_b.out.old (hb)
        replace N_m : Hid (NumIn _ _ _ _ _ _ _) := N_m.out.old (hb)
        replace N_low : Hid (NumIn _ _ _ _ _ _ _) := N_low.out.old (hb)
        replace N_i : Hid (NumIn _ _ _ _ _ _ _) := N_i.out.old (hb)
        simp only [V_a.out, V_b.out, V_m.out] at v_p
        obtain ⟨Z_p, hZ⟩ : ∃ Z, (A * B) % M = Z := ⟨_, rfl⟩
        have R_p : Hid (0 ≤ Z_p ∧ Z_p < M) := hZ ▸ mod_range _ _ P_m.out HZ.out
        have C_p : Hid (Cg M Z_p (A * B)) := hZ ▸ (Cg.mod M _).trans (C_a.out.mul C_b.out)
        rw [hZ] at v_p
        have N_p : Hid (NumIn _ _ _ _ _ _ _) := n_p
        have V_p : Hid (val B64 s_p = Z_p) := v_p
        have L_p : Hid (l_p ≤ 6) := by unfold Hid; have := L_m.out; omega
        clear n_p v_p b_p k_p hZ hb HC
        go_wp2_with fail
        have HC := mMul_any a_p a_i a_m l_p c_p l_i c_i l_m c_m s_p s_i s_m w7 N_p.out N_i.out N_m.out (by rw [V_m.out]; exact HZ.out) (by have := L_p.out; have := L_i.out; have := L_m.out; omega)
        refine HC.mono ?_
        rintro e w8 ⟨v, rfl, a_q, l_q, c_q, s_q, rfl, n_q, k_q, v_q, b_q, hb⟩
        replace BW : Hid (Below w.heap.size w w8) := BW.out.trans ((hb).mono BW.out.size)
        replace N_a : Hid (NumIn _ _ _ _ _ _ _) := N_a.out.old (hb)
        replace N_b : Hid (NumIn _ _ _ _ _ _ _) := N_b.out.old (hb)
        replace N_m : Hid (NumIn _ _ _ _ _ _ _) := N_m.out.old (hb)
        replace N_low : Hid (NumIn _ _ _ _ _ _ _) := N_low.out.old (hb)
        replace N_i : Hid (NumIn _ _ _ _ _ _ _) := N_i.out.old (hb)
        replace N_p : Hid (NumIn _ _ _ _ _ _ _) := N_p.out.old (hb)
        simp only [V_p.out, V_i.out, V_m.out] at v_q
        obtain ⟨Z_q, hZ⟩ : ∃ Z, (Z_p * Z_i) % M = Z := ⟨_, rfl⟩
        have R_q : Hid (0 ≤ Z_q ∧ Z_q < M) := hZ ▸ mod_range _ _ P_m.out HZ.out
        have C_q : Hid (Cg M Z_q ((A * B) * Z_i)) := hZ ▸ (Cg.mod M _).trans (C_p.out.mul C_i.out)
        rw [hZ] at v_q
        have N_q : Hid (NumIn _ _ _ _ _ _ _) := n_q
        have V_q : Hid (val B64 s_q = Z_q) := v_q
        have L_q : Hid (l_q ≤ 6) := by unfold Hid; have := L_m.out; omega
        clear n_q v_q b_q k_q hZ hb HC
        have HG2 : Hid (gd M (Z_i % M) = 1) := gd_of_inv (i := B) (by have := P_m.out; have := HZ.out; omega) (Int.emod_nonneg _ HZ.out) (((Cg.refl M B).mul (Cg.mod M Z_i)).trans ((Cg.of_eq (Int.mul_comm _ _)).trans I_i.out))
        go_wp2_with fail
        have HC := mInv_yes a_i a_m l_i c_i l_m c_m s_i s_m w8 N_i.out N_m.out (by rw [V_m.out]; exact HZ.out) (by rw [V_m.out, V_i.out]; exact HG2.out) (by have := L_i.out; have := L_m.out; omega)
        rw [V_m.out, V_i.out] at HC
        refine HC.mono ?_
        rintro e w9 ⟨v, Z_again, rfl, ⟨a_again, l_again, c_again, s_again, rfl, n_again, k_again, v_again, b_again, hb⟩, i0, i1, icg⟩
        replace BW : Hid (Below w.heap.size w w9) := BW.out.trans ((hb).mono BW.out.size)
        replace N_a : Hid (NumIn _ _ _ _ _ _ _) := N_a.out.old (hb)
        replace N_b : Hid (NumIn _ _ _ _ _ _ _) := N_b.out.old (hb)
        replace N_m : Hid (NumIn _ _ _ _ _ _ _) := N_m.out.old (hb)
        replace N_low : Hid (NumIn _ _ _ _ _ _ _) := N_low.out.old (hb)
        replace N_i : Hid (NumIn _ _ _ _ _ _ _) := N_i.out.old (hb)
        replace N_p : Hid (NumIn _ _ _ _ _ _ _) := N_p.out.old (hb)
        replace N_q : Hid (NumIn _ _ _ _ _ _ _) := N_q.out.old (hb)
        have R_again : Hid (0 ≤ Z_again ∧ Z_again < M) := ⟨i0, i1⟩
        have I_again : Hid (Cg M (Z_again * Z_i) 1) := icg
        have C_again : Hid (Cg M Z_again Z_again) := Cg.refl _ _
        have N_again : Hid (NumIn _ _ _ _ _ _ _) := n_again
        have V_again : Hid (val B64 s_again = Z_again) := v_again
        have L_again : Hid (l_again ≤ 6) := by unfold Hid; have := L_m.out; omega
        clear n_again v_again b_again k_again i0 i1 icg hb HC
        go_wp2_with fail
        have HC := mOf_any a_b a_m l_b c_b l_m c_m s_b s_m w9 N_b.out N_m.out (by rw [V_m.out]; exact HZ.out) (by have := L_b.out; have := L_m.out; omega)
        refine HC.mono ?_
        rintro e w10 ⟨v, rfl, a_of, l_of, c_of, s_of, rfl, n_of, k_of, v_of, b_of, hb⟩
        replace BW : Hid (Below w.heap.size w w10) := BW.out.trans ((hb).mono BW.out.size)
        replace N_a : Hid (NumIn _ _ _ _ _ _ _) := N_a.out.old (hb)
        replace N_b : Hid (NumIn _ _ _ _ _ _ _) := N_b.out.old (hb)
        replace N_m : Hid (NumIn _ _ _ _ _ _ _) := N_m.out.old (hb)
        replace N_low : Hid (NumIn _ _ _ _ _ _ _) := N_low.out.old (hb)
        replace N_i : Hid (NumIn _ _ _ _ _ _ _) := N_i.out.old (hb)
        replace N_p : Hid (NumIn _ _ _ _ _ _ _) := N_p.out.old (hb)
        replace N_q : Hid (NumIn _ _ _ _ _ _ _) := N_q.out.old (hb)
        replace N_again : Hid (NumIn _ _ _ _ _ _ _) := N_again.out.old (hb)
        simp only [V_b.out, V_m.out] at v_of
        obtain ⟨Z_of, hZ⟩ : ∃ Z, B % M = Z := ⟨_, rfl⟩
        have R_of : Hid (0 ≤ Z_of ∧ Z_of < M) := hZ ▸ mod_range _ _ P_m.out HZ.out
        have C_of : Hid (Cg M Z_of B) := hZ ▸ (Cg.mod M _).trans C_b.out
        rw [hZ] at v_of
        have N_of : Hid (NumIn _ _ _ _ _ _ _) := n_of
        have V_of : Hid (val B64 s_of = Z_of) := v_of
        have L_of : Hid (l_of ≤ 6) := by unfold Hid; have := L_m.out; omega
        clear n_of v_of b_of k_of hZ hb HC
        go_wp2_with fail
        have HC := Cmp_any a_q a_low l_q c_q l_low c_low s_q s_low w10 N_q.out N_low.out
        rw [show cmpI (val B64 s_q) (val B64 s_low) = 0 from by rw [V_q.out, V_low.out]; exact cmpI_eq (((C_q.out.trans ((Cg.of_eq (by grind : (A * B) * Z_i = A * (Z_i * B))).trans (((Cg.refl M A).mul I_i.out).trans (Cg.of_eq (by grind))))).trans C_low.out.symm).eq R_q.out.1 R_q.out.2 R_low.out.1 R_low.out.2)] at HC
        refine HC.mono ?_
        rintro e w11 ⟨rfl, hd⟩
        replace BW : Hid (Below w.heap.size w w11) := BW.out.trans ((hd.below _).mono BW.out.size)
        replace N_a : Hid (NumIn _ _ _ _ _ _ _) := N_a.out.old (hd.below _)
        replace N_b : Hid (NumIn _ _ _ _ _ _ _) := N_b.out.old (hd.below _)
        replace N_m : Hid (NumIn _ _ _ _ _ _ _) := N_m.out.old (hd.below _)
        replace N_low : Hid (NumIn _ _ _ _ _ _ _) := N_low.out.old (hd.below _)
        replace N_i : Hid (NumIn _ _ _ _ _ _ _) := N_i.out.old (hd.below _)
        replace N_p : Hid (NumIn _ _ _ _ _ _ _) := N_p.out.old (hd.below _)
        replace N_q : Hid (NumIn _ _ _ _ _ _ _) := N_q.out.old (hd.below _)
        replace N_again : Hid (NumIn _ _ _ _ _ _ _) := N_again.out.old (hd.below _)
        replace N_of : Hid (NumIn _ _ _ _ _ _ _) := N_of.out.old (hd.below _)
        clear hd HC
        go_wp2_with fail
        have HC := Cmp_any a_again a_of l_again c_again l_of c_of s_again s_of w11 N_again.out N_of.out
        rw [show cmpI (val B64 s_again) (val B64 s_of) = 0 from by rw [V_again.out, V_of.out]; exact cmpI_eq (((inv_one I_again.out ((Cg.of_eq (Int.mul_comm B Z_i)).trans I_i.out)).trans C_of.out.symm).eq R_again.out.1 R_again.out.2 R_of.out.1 R_of.out.2)] at HC
        refine HC.mono ?_
        rintro e w12 ⟨rfl, hd⟩
        replace BW : Hid (Below w.heap.size w w12) := BW.out.trans ((hd.below _).mono BW.out.size)
        replace N_a : Hid (NumIn _ _ _ _ _ _ _) := N_a.out.old (hd.below _)
        replace N_b : Hid (NumIn _ _ _ _ _ _ _) := N_b.out.old (hd.below _)
        replace N_m : Hid (NumIn _ _ _ _ _ _ _) := N_m.out.old (hd.below _)
        replace N_low : Hid (NumIn _ _ _ _ _ _ _) := N_low.out.old (hd.below _)
        replace N_i : Hid (NumIn _ _ _ _ _ _ _) := N_i.out.old (hd.below _)
        replace N_p : Hid (NumIn _ _ _ _ _ _ _) := N_p.out.old (hd.below _)
        replace N_q : Hid (NumIn _ _ _ _ _ _ _) := N_q.out.old (hd.below _)
        replace N_again : Hid (NumIn _ _ _ _ _ _ _) := N_again.out.old (hd.below _)
        replace N_of : Hid (NumIn _ _ _ _ _ _ _) := N_of.out.old (hd.below _)
        clear hd HC
        go_wp2
        go_ret
        exact ⟨rfl, BW.out⟩
      · have HG : Hid (gd M (B % M) ≠ 1) := hg
        clear hg
        go_wp2_with fail
        have HC := mInv_no a_b a_m l_b c_b l_m c_m s_b s_m w5 N_b.out N_m.out (by rw [V_m.out]; exact HZ.out) (by rw [V_m.out, V_b.out]; exact HG.out) (by have := L_b.out; have := L_m.out; omega)
        refine HC.mono ?_
        rintro e w6 ⟨rfl, hb⟩
        replace BW : Hid (Below w.heap.size w w6) := BW.out.trans ((hb).mono BW.out.size)
        replace N_a : Hid (NumIn _ _ _ _ _ _ _) := N_a.out.old (hb)
        replace N_b : Hid (NumIn _ _ _ _ _ _ _) := N_b.out.old (hb)
        replace N_m : Hid (NumIn _ _ _ _ _ _ _) := N_m.out.old (hb)
        replace N_low : Hid (NumIn _ _ _ _ _ _ _) := N_low.out.old (hb)
        clear hb HC
        go_wp2
        go_ret
        exact ⟨rfl, BW.out⟩
end Go.Proofs.Ytjaokpgccnkipab
