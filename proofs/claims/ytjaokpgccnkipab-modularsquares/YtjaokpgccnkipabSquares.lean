/-
  The walk of ModularSquares.
-/
import Derived.Test.YtjaokpgccnkipabModK
namespace Go.Proofs.Ytjaokpgccnkipab
open Go.RowKit
set_option linter.unusedVariables false
set_option linter.unusedSimpArgs false

set_option maxHeartbeats 4000000 in
/-- The square of a sum; the product of a sum and a difference. -/
theorem ModularSquares_walk (a_a : Option Addr) (l_a c_a : Nat) (z_a : List Int) (a_b : Option Addr) (l_b c_b : Nat) (z_b : List Int) (a_m : Option Addr) (l_m c_m : Nat) (z_m : List Int) (w : World) (came_a : Came .u64 w a_a l_a c_a z_a) (came_b : Came .u64 w a_b l_b c_b z_b) (came_m : Came .u64 w a_m l_m c_m z_m) :
    Calls Try.prog 4 #[.slice a_a l_a c_a, .slice a_b l_b c_b, .slice a_m l_m c_m] w fun e w' => e = .returned (.bool true) ∧ Below w.heap.size w w' := by
  have le_a := came_a.le
  have le_b := came_b.le
  have le_m := came_m.le
  have C_a : Hid (Came .u64 w a_a l_a c_a z_a) := came_a
  have C_b : Hid (Came .u64 w a_b l_b c_b z_b) := came_b
  have C_m : Hid (Came .u64 w a_m l_m c_m z_m) := came_m
  clear came_a came_b came_m
  obtain ⟨w0, hw0⟩ : ∃ w0, w.alloc (.cells #[.slice a_m l_m c_m] 23) = w0 := ⟨_, rfl⟩
  have hb0 : Below w.heap.size w (w.alloc (.cells #[.slice a_m l_m c_m] 23)) := (Below.refl _ _).alloc (Nat.le_refl _) _
  have K_m : Hid (Kc (w.alloc (.cells #[.slice a_m l_m c_m] 23)) w.heap.size (.slice a_m l_m c_m)) := Kc.new _ _ _ _ rfl
  rw [hw0] at hb0 K_m
  replace C_a : Hid (Came .u64 w0 a_a l_a c_a z_a) := C_a.out.old hb0
  replace C_b : Hid (Came .u64 w0 a_b l_b c_b z_b) := C_b.out.old hb0
  replace C_m : Hid (Came .u64 w0 a_m l_m c_m z_m) := C_m.out.old hb0
  have BW : Hid (Below w.heap.size w w0) := hb0
  clear hb0
  by_cases hlong : 10 < l_a ∨ 10 < l_b ∨ 10 < l_m
  · go_enter Try.func4, Try.ntmps4
    go_wp2_with fail
    refine (Awake_any w0).mono ?_
    rintro e wA ⟨rfl, hb⟩
    replace BW : Hid (Below w.heap.size w wA) := BW.out.trans (hb.mono BW.out.size)
    replace K_m : Hid (Kc wA w.heap.size (.slice a_m l_m c_m)) := K_m.out.old hb
    have km := K_m.out.1
    clear hw0
    replace C_a : Hid (Came .u64 wA a_a l_a c_a z_a) := C_a.out.old hb
    replace C_b : Hid (Came .u64 wA a_b l_b c_b z_b) := C_b.out.old hb
    replace C_m : Hid (Came .u64 wA a_m l_m c_m z_m) := C_m.out.old hb
    clear hb
    have HC := long3 a_a a_b a_m l_a c_a l_b c_b l_m c_m 10 wA (by decide) le_a le_b le_m
    rw [decide_eq_true hlong] at HC
    go_wp2_with fail
    refine HC.mono ?_
    rintro e wB ⟨rfl, hb⟩
    replace BW : Hid (Below w.heap.size w wB) := BW.out.trans (hb.mono BW.out.size)
    replace K_m : Hid (Kc wB w.heap.size (.slice a_m l_m c_m)) := K_m.out.old hb
    replace km := K_m.out.1
    replace C_a : Hid (Came .u64 wB a_a l_a c_a z_a) := C_a.out.old hb
    replace C_b : Hid (Came .u64 wB a_b l_b c_b z_b) := C_b.out.old hb
    replace C_m : Hid (Came .u64 wB a_m l_m c_m z_m) := C_m.out.old hb
    clear hb HC
    clear C_a C_b C_m
    go_wp2
    go_ret
    exact ⟨rfl, BW.out⟩
  · go_enter Try.func4, Try.ntmps4
    go_wp2_with fail
    refine (Awake_any w0).mono ?_
    rintro e wA ⟨rfl, hb⟩
    replace BW : Hid (Below w.heap.size w wA) := BW.out.trans (hb.mono BW.out.size)
    replace K_m : Hid (Kc wA w.heap.size (.slice a_m l_m c_m)) := K_m.out.old hb
    have km := K_m.out.1
    clear hw0
    replace C_a : Hid (Came .u64 wA a_a l_a c_a z_a) := C_a.out.old hb
    replace C_b : Hid (Came .u64 wA a_b l_b c_b z_b) := C_b.out.old hb
    replace C_m : Hid (Came .u64 wA a_m l_m c_m z_m) := C_m.out.old hb
    clear hb
    have HC := long3 a_a a_b a_m l_a c_a l_b c_b l_m c_m 10 wA (by decide) le_a le_b le_m
    rw [decide_eq_false hlong] at HC
    go_wp2_with fail
    refine HC.mono ?_
    rintro e wB ⟨rfl, hb⟩
    replace BW : Hid (Below w.heap.size w wB) := BW.out.trans (hb.mono BW.out.size)
    replace K_m : Hid (Kc wB w.heap.size (.slice a_m l_m c_m)) := K_m.out.old hb
    replace km := K_m.out.1
    replace C_a : Hid (Came .u64 wB a_a l_a c_a z_a) := C_a.out.old hb
    replace C_b : Hid (Came .u64 wB a_b l_b c_b z_b) := C_b.out.old hb
    replace C_m : Hid (Came .u64 wB a_m l_m c_m z_m) := C_m.out.old hb
    clear hb HC
    have N_a : Hid (NumIn .u64 B64 wB a_a l_a c_a (z_a.take l_a)) := C_a.out.nat (by omega)
    have L_a : Hid (l_a ≤ 10) := by unfold Hid; omega
    have N_b : Hid (NumIn .u64 B64 wB a_b l_b c_b (z_b.take l_b)) := C_b.out.nat (by omega)
    have L_b : Hid (l_b ≤ 10) := by unfold Hid; omega
    have N_m : Hid (NumIn .u64 B64 wB a_m l_m c_m (z_m.take l_m)) := C_m.out.nat (by omega)
    have L_m : Hid (l_m ≤ 10) := by unfold Hid; omega
    clear hlong C_a le_a C_b le_b C_m le_m
    generalize z_a.take l_a = s_a at *
    have P_a : Hid (0 ≤ val B64 s_a) := val_nonneg B64_pos N_a.out.dg
    obtain ⟨A, V_a⟩ : ∃ X, Hid (val B64 s_a = X) := ⟨_, rfl⟩
    replace P_a : Hid (0 ≤ A) := by have := P_a.out; rw [V_a.out] at this; exact this
    generalize z_b.take l_b = s_b at *
    have P_b : Hid (0 ≤ val B64 s_b) := val_nonneg B64_pos N_b.out.dg
    obtain ⟨B, V_b⟩ : ∃ X, Hid (val B64 s_b = X) := ⟨_, rfl⟩
    replace P_b : Hid (0 ≤ B) := by have := P_b.out; rw [V_b.out] at this; exact this
    generalize z_m.take l_m = s_m at *
    have P_m : Hid (0 ≤ val B64 s_m) := val_nonneg B64_pos N_m.out.dg
    obtain ⟨M, V_m⟩ : ∃ X, Hid (val B64 s_m = X) := ⟨_, rfl⟩
    replace P_m : Hid (0 ≤ M) := by have := P_m.out; rw [V_m.out] at this; exact this
    by_cases hz : M = 0
    · go_wp2_with fail
      have HC := Len_any a_m l_m c_m s_m wB N_m.out
      rw [show lenOf s_m = 0 from lenOf_zero N_m.out.dg (by rw [V_m.out]; exact hz)] at HC
      refine HC.mono ?_
      rintro e w1 ⟨rfl, rfl⟩
      clear HC
      clear N_a N_b N_m
      go_wp2
      go_ret
      exact ⟨rfl, BW.out⟩
    · have HZ : Hid (M ≠ 0) := hz
      have hlp : 0 < lenOf s_m := lenOf_pos N_m.out.dg (by rw [V_m.out]; have := P_m.out; omega)
      have hle : lenOf s_m ≤ 64 * 1000 := lenOf_le N_m.out.dg 1000 (by rw [N_m.out.len]; have := L_m.out; omega)
      clear hz
      have HC := Len_any a_m l_m c_m s_m wB N_m.out
      generalize lenOf s_m = len_m at *
      have hbe : ((len_m : Int) == 0) = false := by simp; omega
      go_wp2_with fail
      refine HC.mono ?_
      rintro e w1 ⟨rfl, rfl⟩
      clear HC
      have C_a : Hid (Cg M A A) := Cg.refl _ _
      have C_b : Hid (Cg M B B) := Cg.refl _ _
      have C_m : Hid (Cg M M M) := Cg.refl _ _
      clear km
      go_wp2_with fail
      have HC := sqAdd_any w.heap.size a_a a_b a_m l_a c_a l_b c_b l_m c_m s_a s_b s_m w1 K_m.out N_a.out N_b.out N_m.out (by rw [V_m.out]; exact HZ.out) (by have := L_a.out; have := L_b.out; have := L_m.out; omega)
      refine HC.mono ?_
      rintro e w2 ⟨v, rfl, a_s, l_s, c_s, s_s, rfl, n_s, k_s, v_s, b_s, hb⟩
      replace BW : Hid (Below w.heap.size w w2) := BW.out.trans ((hb).mono BW.out.size)
      replace N_a : Hid (NumIn _ _ _ _ _ _ _) := N_a.out.old (hb)
      replace N_b : Hid (NumIn _ _ _ _ _ _ _) := N_b.out.old (hb)
      replace N_m : Hid (NumIn _ _ _ _ _ _ _) := N_m.out.old (hb)
      replace K_m : Hid (Kc w2 w.heap.size (.slice a_m l_m c_m)) := K_m.out.old (hb)
      simp only [V_a.out, V_b.out, V_m.out] at v_s
      obtain ⟨Z_s, hZ⟩ : ∃ Z, (A + B) % M = Z := ⟨_, rfl⟩
      have R_s : Hid (0 ≤ Z_s ∧ Z_s < M) := hZ ▸ mod_range _ _ P_m.out HZ.out
      have C_s : Hid (Cg M Z_s (A + B)) := hZ ▸ (Cg.mod M _).trans (C_a.out.add C_b.out)
      rw [hZ] at v_s
      have N_s : Hid (NumIn _ _ _ _ _ _ _) := n_s
      have V_s : Hid (val B64 s_s = Z_s) := v_s
      have L_s : Hid (l_s ≤ 10) := by unfold Hid; have := L_m.out; omega
      clear n_s v_s b_s k_s hZ hb HC
      go_wp2_with fail
      have HC := sqSub_any w.heap.size a_a a_b a_m l_a c_a l_b c_b l_m c_m s_a s_b s_m w2 K_m.out N_a.out N_b.out N_m.out (by rw [V_m.out]; exact HZ.out) (by have := L_a.out; have := L_b.out; have := L_m.out; omega)
      refine HC.mono ?_
      rintro e w3 ⟨v, rfl, a_d, l_d, c_d, s_d, rfl, n_d, k_d, v_d, b_d, hb⟩
      replace BW : Hid (Below w.heap.size w w3) := BW.out.trans ((hb).mono BW.out.size)
      replace N_a : Hid (NumIn _ _ _ _ _ _ _) := N_a.out.old (hb)
      replace N_b : Hid (NumIn _ _ _ _ _ _ _) := N_b.out.old (hb)
      replace N_m : Hid (NumIn _ _ _ _ _ _ _) := N_m.out.old (hb)
      replace N_s : Hid (NumIn _ _ _ _ _ _ _) := N_s.out.old (hb)
      replace K_m : Hid (Kc w3 w.heap.size (.slice a_m l_m c_m)) := K_m.out.old (hb)
      simp only [V_a.out, V_b.out, V_m.out] at v_d
      obtain ⟨Z_d, hZ⟩ : ∃ Z, (A - B) % M = Z := ⟨_, rfl⟩
      have R_d : Hid (0 ≤ Z_d ∧ Z_d < M) := hZ ▸ mod_range _ _ P_m.out HZ.out
      have C_d : Hid (Cg M Z_d (A - B)) := hZ ▸ (Cg.mod M _).trans (C_a.out.sub C_b.out)
      rw [hZ] at v_d
      have N_d : Hid (NumIn _ _ _ _ _ _ _) := n_d
      have V_d : Hid (val B64 s_d = Z_d) := v_d
      have L_d : Hid (l_d ≤ 10) := by unfold Hid; have := L_m.out; omega
      clear n_d v_d b_d k_d hZ hb HC
      go_wp2_with fail
      have HC := sqMul_any w.heap.size a_a a_b a_m l_a c_a l_b c_b l_m c_m s_a s_b s_m w3 K_m.out N_a.out N_b.out N_m.out (by rw [V_m.out]; exact HZ.out) (by have := L_a.out; have := L_b.out; have := L_m.out; omega)
      refine HC.mono ?_
      rintro e w4 ⟨v, rfl, a_ta, l_ta, c_ta, s_ta, rfl, n_ta, k_ta, v_ta, b_ta, hb⟩
      replace BW : Hid (Below w.heap.size w w4) := BW.out.trans ((hb).mono BW.out.size)
      replace N_a : Hid (NumIn _ _ _ _ _ _ _) := N_a.out.old (hb)
      replace N_b : Hid (NumIn _ _ _ _ _ _ _) := N_b.out.old (hb)
      replace N_m : Hid (NumIn _ _ _ _ _ _ _) := N_m.out.old (hb)
      replace N_s : Hid (NumIn _ _ _ _ _ _ _) := N_s.out.old (hb)
      replace N_d : Hid (NumIn _ _ _ _ _ _ _) := N_d.out.old (hb)
      replace K_m : Hid (Kc w4 w.heap.size (.slice a_m l_m c_m)) := K_m.out.old (hb)
      simp only [V_a.out, V_b.out, V_m.out] at v_ta
      obtain ⟨Z_ta, hZ⟩ : ∃ Z, (A * B) % M = Z := ⟨_, rfl⟩
      have R_ta : Hid (0 ≤ Z_ta ∧ Z_ta < M) := hZ ▸ mod_range _ _ P_m.out HZ.out
      have C_ta : Hid (Cg M Z_ta (A * B)) := hZ ▸ (Cg.mod M _).trans (C_a.out.mul C_b.out)
      rw [hZ] at v_ta
      have N_ta : Hid (NumIn _ _ _ _ _ _ _) := n_ta
      have V_ta : Hid (val B64 s_ta = Z_ta) := v_ta
      have L_ta : Hid (l_ta ≤ 10) := by unfold Hid; have := L_m.out; omega
      clear n_ta v_ta b_ta k_ta hZ hb HC
      go_wp2_with fail
      have HC := sqMul_any w.heap.size a_a a_b a_m l_a c_a l_b c_b l_m c_m s_a s_b s_m w4 K_m.out N_a.out N_b.out N_m.out (by rw [V_m.out]; exact HZ.out) (by have := L_a.out; have := L_b.out; have := L_m.out; omega)
      refine HC.mono ?_
      rintro e w5 ⟨v, rfl, a_tb, l_tb, c_tb, s_tb, rfl, n_tb, k_tb, v_tb, b_tb, hb⟩
      replace BW : Hid (Below w.heap.size w w5) := BW.out.trans ((hb).mono BW.out.size)
      replace N_a : Hid (NumIn _ _ _ _ _ _ _) := N_a.out.old (hb)
      replace N_b : Hid (NumIn _ _ _ _ _ _ _) := N_b.out.old (hb)
      replace N_m : Hid (NumIn _ _ _ _ _ _ _) := N_m.out.old (hb)
      replace N_s : Hid (NumIn _ _ _ _ _ _ _) := N_s.out.old (hb)
      replace N_d : Hid (NumIn _ _ _ _ _ _ _) := N_d.out.old (hb)
      replace N_ta : Hid (NumIn _ _ _ _ _ _ _) := N_ta.out.old (hb)
      replace K_m : Hid (Kc w5 w.heap.size (.slice a_m l_m c_m)) := K_m.out.old (hb)
      simp only [V_a.out, V_b.out, V_m.out] at v_tb
      obtain ⟨Z_tb, hZ⟩ : ∃ Z, (A * B) % M = Z := ⟨_, rfl⟩
      have R_tb : Hid (0 ≤ Z_tb ∧ Z_tb < M) := hZ ▸ mod_range _ _ P_m.out HZ.out
      have C_tb : Hid (Cg M Z_tb (A * B)) := hZ ▸ (Cg.mod M _).trans (C_a.out.mul C_b.out)
      rw [hZ] at v_tb
      have N_tb : Hid (NumIn _ _ _ _ _ _ _) := n_tb
      have V_tb : Hid (val B64 s_tb = Z_tb) := v_tb
      have L_tb : Hid (l_tb ≤ 10) := by unfold Hid; have := L_m.out; omega
      clear n_tb v_tb b_tb k_tb hZ hb HC
      go_wp2_with fail
      have HC := sqAdd_any w.heap.size a_ta a_tb a_m l_ta c_ta l_tb c_tb l_m c_m s_ta s_tb s_m w5 K_m.out N_ta.out N_tb.out N_m.out (by rw [V_m.out]; exact HZ.out) (by have := L_ta.out; have := L_tb.out; have := L_m.out; omega)
      refine HC.mono ?_
      rintro e w6 ⟨v, rfl, a_two, l_two, c_two, s_two, rfl, n_two, k_two, v_two, b_two, hb⟩
      replace BW : Hid (Below w.heap.size w w6) := BW.out.trans ((hb).mono BW.out.size)
      replace N_a : Hid (NumIn _ _ _ _ _ _ _) := N_a.out.old (hb)
      replace N_b : Hid (NumIn _ _ _ _ _ _ _) := N_b.out.old (hb)
      replace N_m : Hid (NumIn _ _ _ _ _ _ _) := N_m.out.old (hb)
      replace N_s : Hid (NumIn _ _ _ _ _ _ _) := N_s.out.old (hb)
      replace N_d : Hid (NumIn _ _ _ _ _ _ _) := N_d.out.old (hb)
      replace N_ta : Hid (NumIn _ _ _ _ _ _ _) := N_ta.out.old (hb)
      replace N_tb : Hid (NumIn _ _ _ _ _ _ _) := N_tb.out.old (hb)
      replace K_m : Hid (Kc w6 w.heap.size (.slice a_m l_m c_m)) := K_m.out.old (hb)
      simp only [V_ta.out, V_tb.out, V_m.out] at v_two
      obtain ⟨Z_two, hZ⟩ : ∃ Z, (Z_ta + Z_tb) % M = Z := ⟨_, rfl⟩
      have R_two : Hid (0 ≤ Z_two ∧ Z_two < M) := hZ ▸ mod_range _ _ P_m.out HZ.out
      have C_two : Hid (Cg M Z_two ((A * B) + (A * B))) := hZ ▸ (Cg.mod M _).trans (C_ta.out.add C_tb.out)
      rw [hZ] at v_two
      have N_two : Hid (NumIn _ _ _ _ _ _ _) := n_two
      have V_two : Hid (val B64 s_two = Z_two) := v_two
      have L_two : Hid (l_two ≤ 10) := by unfold Hid; have := L_m.out; omega
      clear n_two v_two b_two k_two hZ hb HC
      clear N_ta V_ta L_ta
      clear N_tb V_tb L_tb
      have km := K_m.out.1
      have bD : Hid (Below w6.heap.size w6 w6.drew) := (Below.refl _ _).drew
      go_wp2_with fail
      go_region_with (first
        | (go_at_call 18; refine (Of_any 2 _ (by decide) (by decide)).mono ?_; rintro e wP ⟨v4, rfl, a_2, l_2, c_2, s_2, rfl, n_2, k_2, v_2, b_2, o5⟩
           have hbP : Below w6.heap.size w6 wP := bD.out.trans (o5.mono (Nat.le_refl _))
           replace BW : Hid (Below w.heap.size w wP) := BW.out.trans ((hbP).mono BW.out.size)
           replace N_a : Hid (NumIn _ _ _ _ _ _ _) := N_a.out.old (hbP)
           replace N_b : Hid (NumIn _ _ _ _ _ _ _) := N_b.out.old (hbP)
           replace N_m : Hid (NumIn _ _ _ _ _ _ _) := N_m.out.old (hbP)
           replace N_s : Hid (NumIn _ _ _ _ _ _ _) := N_s.out.old (hbP)
           replace N_d : Hid (NumIn _ _ _ _ _ _ _) := N_d.out.old (hbP)
           replace N_two : Hid (NumIn _ _ _ _ _ _ _) := N_two.out.old (hbP)
           replace K_m : Hid (Kc wP w.heap.size (.slice a_m l_m c_m)) := K_m.out.old (hbP)
           replace km := K_m.out.1
           have N_2 : Hid (NumIn .u64 B64 wP a_2 l_2 c_2 s_2) := n_2
           have V_2 : Hid (val B64 s_2 = 2) := v_2
           have L_2 : Hid (l_2 ≤ 1) := b_2
           clear n_2 k_2 v_2 b_2 o5 hbP)
        | (go_at_call 17; refine (mPow_any a_s a_2 a_m l_s c_s l_2 c_2 l_m c_m s_s s_2 s_m wP N_s.out N_2.out N_m.out (by rw [V_m.out]; exact HZ.out) (by have := L_2.out; omega) (by have := L_s.out; have := L_m.out; omega)).mono ?_; rintro e wQ ⟨v, rfl, a_p, l_p, c_p, s_p, rfl, n_p, k_p, v_p, b_p, hb⟩
           simp only [V_2.out] at v_p
           replace BW : Hid (Below w.heap.size w wQ) := BW.out.trans ((hb).mono BW.out.size)
           replace N_a : Hid (NumIn _ _ _ _ _ _ _) := N_a.out.old (hb)
           replace N_b : Hid (NumIn _ _ _ _ _ _ _) := N_b.out.old (hb)
           replace N_m : Hid (NumIn _ _ _ _ _ _ _) := N_m.out.old (hb)
           replace N_s : Hid (NumIn _ _ _ _ _ _ _) := N_s.out.old (hb)
           replace N_d : Hid (NumIn _ _ _ _ _ _ _) := N_d.out.old (hb)
           replace N_two : Hid (NumIn _ _ _ _ _ _ _) := N_two.out.old (hb)
           replace N_2 : Hid (NumIn _ _ _ _ _ _ _) := N_2.out.old (hb)
           replace K_m : Hid (Kc wQ w.heap.size (.slice a_m l_m c_m)) := K_m.out.old (hb)
           simp only [V_s.out, V_m.out] at v_p
           obtain ⟨Z_p, hZ⟩ : ∃ Z, Z_s ^ Int.toNat (2) % M = Z := ⟨_, rfl⟩
           have R_p : Hid (0 ≤ Z_p ∧ Z_p < M) := hZ ▸ mod_range _ _ P_m.out HZ.out
           have C_p : Hid (Cg M Z_p (((A + B)) ^ Int.toNat (2))) := hZ ▸ (Cg.mod M _).trans (C_s.out.pow _)
           rw [hZ] at v_p
           have N_p : Hid (NumIn _ _ _ _ _ _ _) := n_p
           have V_p : Hid (val B64 s_p = Z_p) := v_p
           have L_p : Hid (l_p ≤ 10) := by unfold Hid; have := L_m.out; omega
           clear n_p v_p b_p k_p hZ hb))
      all_goals
        clear km
        clear N_2 V_2 L_2
        go_wp2_with fail
        have HC := sqMul_any w.heap.size a_s a_s a_m l_s c_s l_s c_s l_m c_m s_s s_s s_m wQ K_m.out N_s.out N_s.out N_m.out (by rw [V_m.out]; exact HZ.out) (by have := L_s.out; have := L_m.out; omega)
        refine HC.mono ?_
        rintro e w7 ⟨v, rfl, a_ss, l_ss, c_ss, s_ss, rfl, n_ss, k_ss, v_ss, b_ss, hb⟩
        replace BW : Hid (Below w.heap.size w w7) := BW.out.trans ((hb).mono BW.out.size)
        replace N_a : Hid (NumIn _ _ _ _ _ _ _) := N_a.out.old (hb)
        replace N_b : Hid (NumIn _ _ _ _ _ _ _) := N_b.out.old (hb)
        replace N_m : Hid (NumIn _ _ _ _ _ _ _) := N_m.out.old (hb)
        replace N_s : Hid (NumIn _ _ _ _ _ _ _) := N_s.out.old (hb)
        replace N_d : Hid (NumIn _ _ _ _ _ _ _) := N_d.out.old (hb)
        replace N_two : Hid (NumIn _ _ _ _ _ _ _) := N_two.out.old (hb)
        replace N_p : Hid (NumIn _ _ _ _ _ _ _) := N_p.out.old (hb)
        replace K_m : Hid (Kc w7 w.heap.size (.slice a_m l_m c_m)) := K_m.out.old (hb)
        simp only [V_s.out, V_m.out] at v_ss
        obtain ⟨Z_ss, hZ⟩ : ∃ Z, (Z_s * Z_s) % M = Z := ⟨_, rfl⟩
        have R_ss : Hid (0 ≤ Z_ss ∧ Z_ss < M) := hZ ▸ mod_range _ _ P_m.out HZ.out
        have C_ss : Hid (Cg M Z_ss ((A + B) * (A + B))) := hZ ▸ (Cg.mod M _).trans (C_s.out.mul C_s.out)
        rw [hZ] at v_ss
        have N_ss : Hid (NumIn _ _ _ _ _ _ _) := n_ss
        have V_ss : Hid (val B64 s_ss = Z_ss) := v_ss
        have L_ss : Hid (l_ss ≤ 10) := by unfold Hid; have := L_m.out; omega
        clear n_ss v_ss b_ss k_ss hZ hb HC
        go_wp2_with fail
        have HC := Cmp_any a_ss a_p l_ss c_ss l_p c_p s_ss s_p w7 N_ss.out N_p.out
        rw [show cmpI (val B64 s_ss) (val B64 s_p) = 0 from by rw [V_ss.out, V_p.out]; exact cmpI_eq (((C_ss.out.trans (Cg.of_eq (by simp; grind))).trans C_p.out.symm).eq R_ss.out.1 R_ss.out.2 R_p.out.1 R_p.out.2)] at HC
        refine HC.mono ?_
        rintro e w8 ⟨rfl, hd⟩
        replace BW : Hid (Below w.heap.size w w8) := BW.out.trans ((hd.below _).mono BW.out.size)
        replace N_a : Hid (NumIn _ _ _ _ _ _ _) := N_a.out.old (hd.below _)
        replace N_b : Hid (NumIn _ _ _ _ _ _ _) := N_b.out.old (hd.below _)
        replace N_m : Hid (NumIn _ _ _ _ _ _ _) := N_m.out.old (hd.below _)
        replace N_s : Hid (NumIn _ _ _ _ _ _ _) := N_s.out.old (hd.below _)
        replace N_d : Hid (NumIn _ _ _ _ _ _ _) := N_d.out.old (hd.below _)
        replace N_two : Hid (NumIn _ _ _ _ _ _ _) := N_two.out.old (hd.below _)
        replace N_p : Hid (NumIn _ _ _ _ _ _ _) := N_p.out.old (hd.below _)
        replace N_ss : Hid (NumIn _ _ _ _ _ _ _) := N_ss.out.old (hd.below _)
        replace K_m : Hid (Kc w8 w.heap.size (.slice a_m l_m c_m)) := K_m.out.old (hd.below _)
        clear hd HC
        go_wp2_with fail
        have HC := sqMul_any w.heap.size a_a a_a a_m l_a c_a l_a c_a l_m c_m s_a s_a s_m w8 K_m.out N_a.out N_a.out N_m.out (by rw [V_m.out]; exact HZ.out) (by have := L_a.out; have := L_m.out; omega)
        refine HC.mono ?_
        rintro e w9 ⟨v, rfl, a_aa, l_aa, c_aa, s_aa, rfl, n_aa, k_aa, v_aa, b_aa, hb⟩
        replace BW : Hid (Below w.heap.size w w9) := BW.out.trans ((hb).mono BW.out.size)
        replace N_a : Hid (NumIn _ _ _ _ _ _ _) := N_a.out.old (hb)
        replace N_b : Hid (NumIn _ _ _ _ _ _ _) := N_b.out.old (hb)
        replace N_m : Hid (NumIn _ _ _ _ _ _ _) := N_m.out.old (hb)
        replace N_s : Hid (NumIn _ _ _ _ _ _ _) := N_s.out.old (hb)
        replace N_d : Hid (NumIn _ _ _ _ _ _ _) := N_d.out.old (hb)
        replace N_two : Hid (NumIn _ _ _ _ _ _ _) := N_two.out.old (hb)
        replace N_p : Hid (NumIn _ _ _ _ _ _ _) := N_p.out.old (hb)
        replace N_ss : Hid (NumIn _ _ _ _ _ _ _) := N_ss.out.old (hb)
        replace K_m : Hid (Kc w9 w.heap.size (.slice a_m l_m c_m)) := K_m.out.old (hb)
        simp only [V_a.out, V_m.out] at v_aa
        obtain ⟨Z_aa, hZ⟩ : ∃ Z, (A * A) % M = Z := ⟨_, rfl⟩
        have R_aa : Hid (0 ≤ Z_aa ∧ Z_aa < M) := hZ ▸ mod_range _ _ P_m.out HZ.out
        have C_aa : Hid (Cg M Z_aa (A * A)) := hZ ▸ (Cg.mod M _).trans (C_a.out.mul C_a.out)
        rw [hZ] at v_aa
        have N_aa : Hid (NumIn _ _ _ _ _ _ _) := n_aa
        have V_aa : Hid (val B64 s_aa = Z_aa) := v_aa
        have L_aa : Hid (l_aa ≤ 10) := by unfold Hid; have := L_m.out; omega
        clear n_aa v_aa b_aa k_aa hZ hb HC
        go_wp2_with fail
        have HC := sqAdd_any w.heap.size a_aa a_two a_m l_aa c_aa l_two c_two l_m c_m s_aa s_two s_m w9 K_m.out N_aa.out N_two.out N_m.out (by rw [V_m.out]; exact HZ.out) (by have := L_aa.out; have := L_two.out; have := L_m.out; omega)
        refine HC.mono ?_
        rintro e w10 ⟨v, rfl, a_u, l_u, c_u, s_u, rfl, n_u, k_u, v_u, b_u, hb⟩
        replace BW : Hid (Below w.heap.size w w10) := BW.out.trans ((hb).mono BW.out.size)
        replace N_a : Hid (NumIn _ _ _ _ _ _ _) := N_a.out.old (hb)
        replace N_b : Hid (NumIn _ _ _ _ _ _ _) := N_b.out.old (hb)
        replace N_m : Hid (NumIn _ _ _ _ _ _ _) := N_m.out.old (hb)
        replace N_s : Hid (NumIn _ _ _ _ _ _ _) := N_s.out.old (hb)
        replace N_d : Hid (NumIn _ _ _ _ _ _ _) := N_d.out.old (hb)
        replace N_two : Hid (NumIn _ _ _ _ _ _ _) := N_two.out.old (hb)
        replace N_p : Hid (NumIn _ _ _ _ _ _ _) := N_p.out.old (hb)
        replace N_ss : Hid (NumIn _ _ _ _ _ _ _) := N_ss.out.old (hb)
        replace N_aa : Hid (NumIn _ _ _ _ _ _ _) := N_aa.out.old (hb)
        replace K_m : Hid (Kc w10 w.heap.size (.slice a_m l_m c_m)) := K_m.out.old (hb)
        simp only [V_aa.out, V_two.out, V_m.out] at v_u
        obtain ⟨Z_u, hZ⟩ : ∃ Z, (Z_aa + Z_two) % M = Z := ⟨_, rfl⟩
        have R_u : Hid (0 ≤ Z_u ∧ Z_u < M) := hZ ▸ mod_range _ _ P_m.out HZ.out
        have C_u : Hid (Cg M Z_u ((A * A) + ((A * B) + (A * B)))) := hZ ▸ (Cg.mod M _).trans (C_aa.out.add C_two.out)
        rw [hZ] at v_u
        have N_u : Hid (NumIn _ _ _ _ _ _ _) := n_u
        have V_u : Hid (val B64 s_u = Z_u) := v_u
        have L_u : Hid (l_u ≤ 10) := by unfold Hid; have := L_m.out; omega
        clear n_u v_u b_u k_u hZ hb HC
        go_wp2_with fail
        have HC := sqMul_any w.heap.size a_b a_b a_m l_b c_b l_b c_b l_m c_m s_b s_b s_m w10 K_m.out N_b.out N_b.out N_m.out (by rw [V_m.out]; exact HZ.out) (by have := L_b.out; have := L_m.out; omega)
        refine HC.mono ?_
        rintro e w11 ⟨v, rfl, a_bb, l_bb, c_bb, s_bb, rfl, n_bb, k_bb, v_bb, b_bb, hb⟩
        replace BW : Hid (Below w.heap.size w w11) := BW.out.trans ((hb).mono BW.out.size)
        replace N_a : Hid (NumIn _ _ _ _ _ _ _) := N_a.out.old (hb)
        replace N_b : Hid (NumIn _ _ _ _ _ _ _) := N_b.out.old (hb)
        replace N_m : Hid (NumIn _ _ _ _ _ _ _) := N_m.out.old (hb)
        replace N_s : Hid (NumIn _ _ _ _ _ _ _) := N_s.out.old (hb)
        replace N_d : Hid (NumIn _ _ _ _ _ _ _) := N_d.out.old (hb)
        replace N_two : Hid (NumIn _ _ _ _ _ _ _) := N_two.out.old (hb)
        replace N_p : Hid (NumIn _ _ _ _ _ _ _) := N_p.out.old (hb)
        replace N_ss : Hid (NumIn _ _ _ _ _ _ _) := N_ss.out.old (hb)
        replace N_aa : Hid (NumIn _ _ _ _ _ _ _) := N_aa.out.old (hb)
        replace N_u : Hid (NumIn _ _ _ _ _ _ _) := N_u.out.old (hb)
        replace K_m : Hid (Kc w11 w.heap.size (.slice a_m l_m c_m)) := K_m.out.old (hb)
        simp only [V_b.out, V_m.out] at v_bb
        obtain ⟨Z_bb, hZ⟩ : ∃ Z, (B * B) % M = Z := ⟨_, rfl⟩
        have R_bb : Hid (0 ≤ Z_bb ∧ Z_bb < M) := hZ ▸ mod_range _ _ P_m.out HZ.out
        have C_bb : Hid (Cg M Z_bb (B * B)) := hZ ▸ (Cg.mod M _).trans (C_b.out.mul C_b.out)
        rw [hZ] at v_bb
        have N_bb : Hid (NumIn _ _ _ _ _ _ _) := n_bb
        have V_bb : Hid (val B64 s_bb = Z_bb) := v_bb
        have L_bb : Hid (l_bb ≤ 10) := by unfold Hid; have := L_m.out; omega
        clear n_bb v_bb b_bb k_bb hZ hb HC
        go_wp2_with fail
        have HC := sqAdd_any w.heap.size a_u a_bb a_m l_u c_u l_bb c_bb l_m c_m s_u s_bb s_m w11 K_m.out N_u.out N_bb.out N_m.out (by rw [V_m.out]; exact HZ.out) (by have := L_u.out; have := L_bb.out; have := L_m.out; omega)
        refine HC.mono ?_
        rintro e w12 ⟨v, rfl, a_vv, l_vv, c_vv, s_vv, rfl, n_vv, k_vv, v_vv, b_vv, hb⟩
        replace BW : Hid (Below w.heap.size w w12) := BW.out.trans ((hb).mono BW.out.size)
        replace N_a : Hid (NumIn _ _ _ _ _ _ _) := N_a.out.old (hb)
        replace N_b : Hid (NumIn _ _ _ _ _ _ _) := N_b.out.old (hb)
        replace N_m : Hid (NumIn _ _ _ _ _ _ _) := N_m.out.old (hb)
        replace N_s : Hid (NumIn _ _ _ _ _ _ _) := N_s.out.old (hb)
        replace N_d : Hid (NumIn _ _ _ _ _ _ _) := N_d.out.old (hb)
        replace N_two : Hid (NumIn _ _ _ _ _ _ _) := N_two.out.old (hb)
        replace N_p : Hid (NumIn _ _ _ _ _ _ _) := N_p.out.old (hb)
        replace N_ss : Hid (NumIn _ _ _ _ _ _ _) := N_ss.out.old (hb)
        replace N_aa : Hid (NumIn _ _ _ _ _ _ _) := N_aa.out.old (hb)
        replace N_u : Hid (NumIn _ _ _ _ _ _ _) := N_u.out.old (hb)
        replace N_bb : Hid (NumIn _ _ _ _ _ _ _) := N_bb.out.old (hb)
        replace K_m : Hid (Kc w12 w.heap.size (.slice a_m l_m c_m)) := K_m.out.old (hb)
        simp only [V_u.out, V_bb.out, V_m.out] at v_vv
        obtain ⟨Z_vv, hZ⟩ : ∃ Z, (Z_u + Z_bb) % M = Z := ⟨_, rfl⟩
        have R_vv : Hid (0 ≤ Z_vv ∧ Z_vv < M) := hZ ▸ mod_range _ _ P_m.out HZ.out
        have C_vv : Hid (Cg M Z_vv (((A * A) + ((A * B) + (A * B))) + (B * B))) := hZ ▸ (Cg.mod M _).trans (C_u.out.add C_bb.out)
        rw [hZ] at v_vv
        have N_vv : Hid (NumIn _ _ _ _ _ _ _) := n_vv
        have V_vv : Hid (val B64 s_vv = Z_vv) := v_vv
        have L_vv : Hid (l_vv ≤ 10) := by unfold Hid; have := L_m.out; omega
        clear n_vv v_vv b_vv k_vv hZ hb HC
        go_wp2_with fail
        have HC := Cmp_any a_p a_vv l_p c_p l_vv c_vv s_p s_vv w12 N_p.out N_vv.out
        rw [show cmpI (val B64 s_p) (val B64 s_vv) = 0 from by rw [V_p.out, V_vv.out]; exact cmpI_eq (((C_p.out.trans (Cg.of_eq (by simp; grind))).trans C_vv.out.symm).eq R_p.out.1 R_p.out.2 R_vv.out.1 R_vv.out.2)] at HC
        refine HC.mono ?_
        rintro e w13 ⟨rfl, hd⟩
        replace BW : Hid (Below w.heap.size w w13) := BW.out.trans ((hd.below _).mono BW.out.size)
        replace N_a : Hid (NumIn _ _ _ _ _ _ _) := N_a.out.old (hd.below _)
        replace N_b : Hid (NumIn _ _ _ _ _ _ _) := N_b.out.old (hd.below _)
        replace N_m : Hid (NumIn _ _ _ _ _ _ _) := N_m.out.old (hd.below _)
        replace N_s : Hid (NumIn _ _ _ _ _ _ _) := N_s.out.old (hd.below _)
        replace N_d : Hid (NumIn _ _ _ _ _ _ _) := N_d.out.old (hd.below _)
        replace N_two : Hid (NumIn _ _ _ _ _ _ _) := N_two.out.old (hd.below _)
        replace N_p : Hid (NumIn _ _ _ _ _ _ _) := N_p.out.old (hd.below _)
        replace N_ss : Hid (NumIn _ _ _ _ _ _ _) := N_ss.out.old (hd.below _)
        replace N_aa : Hid (NumIn _ _ _ _ _ _ _) := N_aa.out.old (hd.below _)
        replace N_u : Hid (NumIn _ _ _ _ _ _ _) := N_u.out.old (hd.below _)
        replace N_bb : Hid (NumIn _ _ _ _ _ _ _) := N_bb.out.old (hd.below _)
        replace N_vv : Hid (NumIn _ _ _ _ _ _ _) := N_vv.out.old (hd.below _)
        replace K_m : Hid (Kc w13 w.heap.size (.slice a_m l_m c_m)) := K_m.out.old (hd.below _)
        clear hd HC
        go_wp2_with fail
        have HC := sqMul_any w.heap.size a_s a_d a_m l_s c_s l_d c_d l_m c_m s_s s_d s_m w13 K_m.out N_s.out N_d.out N_m.out (by rw [V_m.out]; exact HZ.out) (by have := L_s.out; have := L_d.out; have := L_m.out; omega)
        refine HC.mono ?_
        rintro e w14 ⟨v, rfl, a_sd, l_sd, c_sd, s_sd, rfl, n_sd, k_sd, v_sd, b_sd, hb⟩
        replace BW : Hid (Below w.heap.size w w14) := BW.out.trans ((hb).mono BW.out.size)
        replace N_a : Hid (NumIn _ _ _ _ _ _ _) := N_a.out.old (hb)
        replace N_b : Hid (NumIn _ _ _ _ _ _ _) := N_b.out.old (hb)
        replace N_m : Hid (NumIn _ _ _ _ _ _ _) := N_m.out.old (hb)
        replace N_s : Hid (NumIn _ _ _ _ _ _ _) := N_s.out.old (hb)
        replace N_d : Hid (NumIn _ _ _ _ _ _ _) := N_d.out.old (hb)
        replace N_two : Hid (NumIn _ _ _ _ _ _ _) := N_two.out.old (hb)
        replace N_p : Hid (NumIn _ _ _ _ _ _ _) := N_p.out.old (hb)
        replace N_ss : Hid (NumIn _ _ _ _ _ _ _) := N_ss.out.old (hb)
        replace N_aa : Hid (NumIn _ _ _ _ _ _ _) := N_aa.out.old (hb)
        replace N_u : Hid (NumIn _ _ _ _ _ _ _) := N_u.out.old (hb)
        replace N_bb : Hid (NumIn _ _ _ _ _ _ _) := N_bb.out.old (hb)
        replace N_vv : Hid (NumIn _ _ _ _ _ _ _) := N_vv.out.old (hb)
        replace K_m : Hid (Kc w14 w.heap.size (.slice a_m l_m c_m)) := K_m.out.old (hb)
        simp only [V_s.out, V_d.out, V_m.out] at v_sd
        obtain ⟨Z_sd, hZ⟩ : ∃ Z, (Z_s * Z_d) % M = Z := ⟨_, rfl⟩
        have R_sd : Hid (0 ≤ Z_sd ∧ Z_sd < M) := hZ ▸ mod_range _ _ P_m.out HZ.out
        have C_sd : Hid (Cg M Z_sd ((A + B) * (A - B))) := hZ ▸ (Cg.mod M _).trans (C_s.out.mul C_d.out)
        rw [hZ] at v_sd
        have N_sd : Hid (NumIn _ _ _ _ _ _ _) := n_sd
        have V_sd : Hid (val B64 s_sd = Z_sd) := v_sd
        have L_sd : Hid (l_sd ≤ 10) := by unfold Hid; have := L_m.out; omega
        clear n_sd v_sd b_sd k_sd hZ hb HC
        go_wp2_with fail
        have HC := sqMul_any w.heap.size a_a a_a a_m l_a c_a l_a c_a l_m c_m s_a s_a s_m w14 K_m.out N_a.out N_a.out N_m.out (by rw [V_m.out]; exact HZ.out) (by have := L_a.out; have := L_m.out; omega)
        refine HC.mono ?_
        rintro e w15 ⟨v, rfl, a_ab, l_ab, c_ab, s_ab, rfl, n_ab, k_ab, v_ab, b_ab, hb⟩
        replace BW : Hid (Below w.heap.size w w15) := BW.out.trans ((hb).mono BW.out.size)
        replace N_a : Hid (NumIn _ _ _ _ _ _ _) := N_a.out.old (hb)
        replace N_b : Hid (NumIn _ _ _ _ _ _ _) := N_b.out.old (hb)
        replace N_m : Hid (NumIn _ _ _ _ _ _ _) := N_m.out.old (hb)
        replace N_s : Hid (NumIn _ _ _ _ _ _ _) := N_s.out.old (hb)
        replace N_d : Hid (NumIn _ _ _ _ _ _ _) := N_d.out.old (hb)
        replace N_two : Hid (NumIn _ _ _ _ _ _ _) := N_two.out.old (hb)
        replace N_p : Hid (NumIn _ _ _ _ _ _ _) := N_p.out.old (hb)
        replace N_ss : Hid (NumIn _ _ _ _ _ _ _) := N_ss.out.old (hb)
        replace N_aa : Hid (NumIn _ _ _ _ _ _ _) := N_aa.out.old (hb)
        replace N_u : Hid (NumIn _ _ _ _ _ _ _) := N_u.out.old (hb)
        replace N_bb : Hid (NumIn _ _ _ _ _ _ _) := N_bb.out.old (hb)
        replace N_vv : Hid (NumIn _ _ _ _ _ _ _) := N_vv.out.old (hb)
        replace N_sd : Hid (NumIn _ _ _ _ _ _ _) := N_sd.out.old (hb)
        replace K_m : Hid (Kc w15 w.heap.size (.slice a_m l_m c_m)) := K_m.out.old (hb)
        simp only [V_a.out, V_m.out] at v_ab
        obtain ⟨Z_ab, hZ⟩ : ∃ Z, (A * A) % M = Z := ⟨_, rfl⟩
        have R_ab : Hid (0 ≤ Z_ab ∧ Z_ab < M) := hZ ▸ mod_range _ _ P_m.out HZ.out
        have C_ab : Hid (Cg M Z_ab (A * A)) := hZ ▸ (Cg.mod M _).trans (C_a.out.mul C_a.out)
        rw [hZ] at v_ab
        have N_ab : Hid (NumIn _ _ _ _ _ _ _) := n_ab
        have V_ab : Hid (val B64 s_ab = Z_ab) := v_ab
        have L_ab : Hid (l_ab ≤ 10) := by unfold Hid; have := L_m.out; omega
        clear n_ab v_ab b_ab k_ab hZ hb HC
        go_wp2_with fail
        have HC := sqMul_any w.heap.size a_b a_b a_m l_b c_b l_b c_b l_m c_m s_b s_b s_m w15 K_m.out N_b.out N_b.out N_m.out (by rw [V_m.out]; exact HZ.out) (by have := L_b.out; have := L_m.out; omega)
        refine HC.mono ?_
        rintro e w16 ⟨v, rfl, a_ba, l_ba, c_ba, s_ba, rfl, n_ba, k_ba, v_ba, b_ba, hb⟩
        replace BW : Hid (Below w.heap.size w w16) := BW.out.trans ((hb).mono BW.out.size)
        replace N_a : Hid (NumIn _ _ _ _ _ _ _) := N_a.out.old (hb)
        replace N_b : Hid (NumIn _ _ _ _ _ _ _) := N_b.out.old (hb)
        replace N_m : Hid (NumIn _ _ _ _ _ _ _) := N_m.out.old (hb)
        replace N_s : Hid (NumIn _ _ _ _ _ _ _) := N_s.out.old (hb)
        replace N_d : Hid (NumIn _ _ _ _ _ _ _) := N_d.out.old (hb)
        replace N_two : Hid (NumIn _ _ _ _ _ _ _) := N_two.out.old (hb)
        replace N_p : Hid (NumIn _ _ _ _ _ _ _) := N_p.out.old (hb)
        replace N_ss : Hid (NumIn _ _ _ _ _ _ _) := N_ss.out.old (hb)
        replace N_aa : Hid (NumIn _ _ _ _ _ _ _) := N_aa.out.old (hb)
        replace N_u : Hid (NumIn _ _ _ _ _ _ _) := N_u.out.old (hb)
        replace N_bb : Hid (NumIn _ _ _ _ _ _ _) := N_bb.out.old (hb)
        replace N_vv : Hid (NumIn _ _ _ _ _ _ _) := N_vv.out.old (hb)
        replace N_sd : Hid (NumIn _ _ _ _ _ _ _) := N_sd.out.old (hb)
        replace N_ab : Hid (NumIn _ _ _ _ _ _ _) := N_ab.out.old (hb)
        replace K_m : Hid (Kc w16 w.heap.size (.slice a_m l_m c_m)) := K_m.out.old (hb)
        simp only [V_b.out, V_m.out] at v_ba
        obtain ⟨Z_ba, hZ⟩ : ∃ Z, (B * B) % M = Z := ⟨_, rfl⟩
        have R_ba : Hid (0 ≤ Z_ba ∧ Z_ba < M) := hZ ▸ mod_range _ _ P_m.out HZ.out
        have C_ba : Hid (Cg M Z_ba (B * B)) := hZ ▸ (Cg.mod M _).trans (C_b.out.mul C_b.out)
        rw [hZ] at v_ba
        have N_ba : Hid (NumIn _ _ _ _ _ _ _) := n_ba
        have V_ba : Hid (val B64 s_ba = Z_ba) := v_ba
        have L_ba : Hid (l_ba ≤ 10) := by unfold Hid; have := L_m.out; omega
        clear n_ba v_ba b_ba k_ba hZ hb HC
        go_wp2_with fail
        have HC := sqSub_any w.heap.size a_ab a_ba a_m l_ab c_ab l_ba c_ba l_m c_m s_ab s_ba s_m w16 K_m.out N_ab.out N_ba.out N_m.out (by rw [V_m.out]; exact HZ.out) (by have := L_ab.out; have := L_ba.out; have := L_m.out; omega)
        refine HC.mono ?_
        rintro e w17 ⟨v, rfl, a_df, l_df, c_df, s_df, rfl, n_df, k_df, v_df, b_df, hb⟩
        replace BW : Hid (Below w.heap.size w w17) := BW.out.trans ((hb).mono BW.out.size)
        replace N_a : Hid (NumIn _ _ _ _ _ _ _) := N_a.out.old (hb)
        replace N_b : Hid (NumIn _ _ _ _ _ _ _) := N_b.out.old (hb)
        replace N_m : Hid (NumIn _ _ _ _ _ _ _) := N_m.out.old (hb)
        replace N_s : Hid (NumIn _ _ _ _ _ _ _) := N_s.out.old (hb)
        replace N_d : Hid (NumIn _ _ _ _ _ _ _) := N_d.out.old (hb)
        replace N_two : Hid (NumIn _ _ _ _ _ _ _) := N_two.out.old (hb)
        replace N_p : Hid (NumIn _ _ _ _ _ _ _) := N_p.out.old (hb)
        replace N_ss : Hid (NumIn _ _ _ _ _ _ _) := N_ss.out.old (hb)
        replace N_aa : Hid (NumIn _ _ _ _ _ _ _) := N_aa.out.old (hb)
        replace N_u : Hid (NumIn _ _ _ _ _ _ _) := N_u.out.old (hb)
        replace N_bb : Hid (NumIn _ _ _ _ _ _ _) := N_bb.out.old (hb)
        replace N_vv : Hid (NumIn _ _ _ _ _ _ _) := N_vv.out.old (hb)
        replace N_sd : Hid (NumIn _ _ _ _ _ _ _) := N_sd.out.old (hb)
        replace N_ab : Hid (NumIn _ _ _ _ _ _ _) := N_ab.out.old (hb)
        replace N_ba : Hid (NumIn _ _ _ _ _ _ _) := N_ba.out.old (hb)
        replace K_m : Hid (Kc w17 w.heap.size (.slice a_m l_m c_m)) := K_m.out.old (hb)
        simp only [V_ab.out, V_ba.out, V_m.out] at v_df
        obtain ⟨Z_df, hZ⟩ : ∃ Z, (Z_ab - Z_ba) % M = Z := ⟨_, rfl⟩
        have R_df : Hid (0 ≤ Z_df ∧ Z_df < M) := hZ ▸ mod_range _ _ P_m.out HZ.out
        have C_df : Hid (Cg M Z_df ((A * A) - (B * B))) := hZ ▸ (Cg.mod M _).trans (C_ab.out.sub C_ba.out)
        rw [hZ] at v_df
        have N_df : Hid (NumIn _ _ _ _ _ _ _) := n_df
        have V_df : Hid (val B64 s_df = Z_df) := v_df
        have L_df : Hid (l_df ≤ 10) := by unfold Hid; have := L_m.out; omega
        clear n_df v_df b_df k_df hZ hb HC
        go_wp2_with fail
        have HC := Cmp_any a_sd a_df l_sd c_sd l_df c_df s_sd s_df w17 N_sd.out N_df.out
        rw [show cmpI (val B64 s_sd) (val B64 s_df) = 0 from by rw [V_sd.out, V_df.out]; exact cmpI_eq (((C_sd.out.trans (Cg.of_eq (by grind))).trans C_df.out.symm).eq R_sd.out.1 R_sd.out.2 R_df.out.1 R_df.out.2)] at HC
        refine HC.mono ?_
        rintro e w18 ⟨rfl, hd⟩
        replace BW : Hid (Below w.heap.size w w18) := BW.out.trans ((hd.below _).mono BW.out.size)
        replace N_a : Hid (NumIn _ _ _ _ _ _ _) := N_a.out.old (hd.below _)
        replace N_b : Hid (NumIn _ _ _ _ _ _ _) := N_b.out.old (hd.below _)
        replace N_m : Hid (NumIn _ _ _ _ _ _ _) := N_m.out.old (hd.below _)
        replace N_s : Hid (NumIn _ _ _ _ _ _ _) := N_s.out.old (hd.below _)
        replace N_d : Hid (NumIn _ _ _ _ _ _ _) := N_d.out.old (hd.below _)
        replace N_two : Hid (NumIn _ _ _ _ _ _ _) := N_two.out.old (hd.below _)
        replace N_p : Hid (NumIn _ _ _ _ _ _ _) := N_p.out.old (hd.below _)
        replace N_ss : Hid (NumIn _ _ _ _ _ _ _) := N_ss.out.old (hd.below _)
        replace N_aa : Hid (NumIn _ _ _ _ _ _ _) := N_aa.out.old (hd.below _)
        replace N_u : Hid (NumIn _ _ _ _ _ _ _) := N_u.out.old (hd.below _)
        replace N_bb : Hid (NumIn _ _ _ _ _ _ _) := N_bb.out.old (hd.below _)
        replace N_vv : Hid (NumIn _ _ _ _ _ _ _) := N_vv.out.old (hd.below _)
        replace N_sd : Hid (NumIn _ _ _ _ _ _ _) := N_sd.out.old (hd.below _)
        replace N_ab : Hid (NumIn _ _ _ _ _ _ _) := N_ab.out.old (hd.below _)
        replace N_ba : Hid (NumIn _ _ _ _ _ _ _) := N_ba.out.old (hd.below _)
        replace N_df : Hid (NumIn _ _ _ _ _ _ _) := N_df.out.old (hd.below _)
        replace K_m : Hid (Kc w18 w.heap.size (.slice a_m l_m c_m)) := K_m.out.old (hd.below _)
        clear hd HC
        go_wp2
        go_ret
        exact ⟨rfl, BW.out⟩
end Go.Proofs.Ytjaokpgccnkipab
