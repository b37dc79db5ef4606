/-
  The walk of ModularPowers.
-/
import Derived.Test.YtjaokpgccnkipaaModK
namespace Go.Proofs.Ytjaokpgccnkipaa
open Go.RowKit
set_option linter.unusedVariables false
set_option linter.unusedSimpArgs false

theorem word_u16 {x : Int} (h : (Lit.int .u16 x).wf = true) : 0 ≤ x ∧ x < 65536 := by
  simp [Lit.wf, IntKind.min, IntKind.max, IntKind.signed, IntKind.bits] at h
  exact ⟨by omega, by omega⟩

set_option maxHeartbeats 4000000 in
/-- Powers of a sum of exponents, of a product, of a product of numbers. -/
theorem ModularPowers_walk (a_a : Option Addr) (l_a c_a : Nat) (z_a : List Int) (a_b : Option Addr) (l_b c_b : Nat) (z_b : List Int) (a_m : Option Addr) (l_m c_m : Nat) (z_m : List Int) (j k : Int) (w : World) (came_a : Came .u64 w a_a l_a c_a z_a) (came_b : Came .u64 w a_b l_b c_b z_b) (came_m : Came .u64 w a_m l_m c_m z_m) (w_j : (Lit.int .u16 j).wf = true) (w_k : (Lit.int .u16 k).wf = true) :
    Calls Try.prog 7 #[.slice a_a l_a c_a, .slice a_b l_b c_b, .slice a_m l_m c_m, .int .u16 j, .int .u16 k] w fun e w' => e = .returned (.bool true) ∧ Below w.heap.size w w' := by
  obtain ⟨hj0, hj1⟩ := word_u16 w_j
  obtain ⟨hk0, hk1⟩ := word_u16 w_k
  clear w_j w_k
  obtain ⟨jn, rfl⟩ := Int.eq_ofNat_of_zero_le hj0
  obtain ⟨kn, rfl⟩ := Int.eq_ofNat_of_zero_le hk0
  obtain ⟨qn, hqn⟩ : ∃ q, kn % 64 = q := ⟨_, rfl⟩
  have hqI : (kn : Int) % 64 = (qn : Int) := by omega
  have hq64 : qn < 64 := by omega
  have hjn : jn < 65536 := by omega
  have hjq0 : (0 : Int) ≤ (jn : Int) * (qn : Int) := Int.mul_nonneg (by omega) (by omega)
  have hjq1 : (jn : Int) * (qn : Int) < 18446744073709551616 := by
    have h1 : (jn : Int) * (qn : Int) ≤ 65535 * 63 := Int.mul_le_mul (by omega) (by omega) (by omega) (by omega)
    omega
  have hwr : IntKind.u64.wrap ((jn : Int) * (qn : Int)) = (jn : Int) * (qn : Int) := IntWalk.u64_in _ ⟨hjq0, by omega⟩
  clear hqn hj0 hj1
  have le_a := came_a.le
  have le_b := came_b.le
  have le_m := came_m.le
  have C_a : Hid (Came .u64 w a_a l_a c_a z_a) := came_a
  have C_b : Hid (Came .u64 w a_b l_b c_b z_b) := came_b
  have C_m : Hid (Came .u64 w a_m l_m c_m z_m) := came_m
  clear came_a came_b came_m
  obtain ⟨w0, hw0⟩ : ∃ w0, w.alloc (.cells #[.slice a_m l_m c_m] 23) = w0 := ⟨_, rfl⟩
  have hb0 : Below w.heap.size w (w.alloc (.cells #[.slice a_m l_m c_m] 23)) := (Below.refl _ _).alloc (Nat.le_refl _) _
  have K_m : Hid (Kc (w.alloc (.cells #[.slice a_m l_m c_m] 23)) w.heap.size (.slice a_m l_m c_m)) := Kc.new _ _ _ _ rfl
  rw [hw0] at hb0 K_m
  replace C_a : Hid (Came .u64 w0 a_a l_a c_a z_a) := C_a.out.old hb0
  replace C_b : Hid (Came .u64 w0 a_b l_b c_b z_b) := C_b.out.old hb0
  replace C_m : Hid (Came .u64 w0 a_m l_m c_m z_m) := C_m.out.old hb0
  have BW : Hid (Below w.heap.size w w0) := hb0
  clear hb0
  by_cases hlong : 4 < l_a ∨ 4 < l_b ∨ 4 < l_m
  · go_enter Try.func7, Try.ntmps7
    go_wp2_with fail
    refine (Awake_any w0).mono ?_
    rintro e wA ⟨rfl, hb⟩
    replace BW : Hid (Below w.heap.size w wA) := BW.out.trans (hb.mono BW.out.size)
    replace K_m : Hid (Kc wA w.heap.size (.slice a_m l_m c_m)) := K_m.out.old hb
    have km := K_m.out.1
    clear hw0
    replace C_a : Hid (Came .u64 wA a_a l_a c_a z_a) := C_a.out.old hb
    replace C_b : Hid (Came .u64 wA a_b l_b c_b z_b) := C_b.out.old hb
    replace C_m : Hid (Came .u64 wA a_m l_m c_m z_m) := C_m.out.old hb
    clear hb
    have HC := long3 a_a a_b a_m l_a c_a l_b c_b l_m c_m 4 wA (by decide) le_a le_b le_m
    rw [decide_eq_true hlong] at HC
    go_wp2_with fail
    refine HC.mono ?_
    rintro e wB ⟨rfl, hb⟩
    replace BW : Hid (Below w.heap.size w wB) := BW.out.trans (hb.mono BW.out.size)
    replace K_m : Hid (Kc wB w.heap.size (.slice a_m l_m c_m)) := K_m.out.old hb
    replace km := K_m.out.1
    replace C_a : Hid (Came .u64 wB a_a l_a c_a z_a) := C_a.out.old hb
    replace C_b : Hid (Came .u64 wB a_b l_b c_b z_b) := C_b.out.old hb
    replace C_m : Hid (Came .u64 wB a_m l_m c_m z_m) := C_m.out.old hb
    clear hb HC
    clear C_a C_b C_m
    go_wp2
    go_ret
    exact ⟨rfl, BW.out⟩
  · go_enter Try.func7, Try.ntmps7
    go_wp2_with fail
    refine (Awake_any w0).mono ?_
    rintro e wA ⟨rfl, hb⟩
    replace BW : Hid (Below w.heap.size w wA) := BW.out.trans (hb.mono BW.out.size)
    replace K_m : Hid (Kc wA w.heap.size (.slice a_m l_m c_m)) := K_m.out.old hb
    have km := K_m.out.1
    clear hw0
    replace C_a : Hid (Came .u64 wA a_a l_a c_a z_a) := C_a.out.old hb
    replace C_b : Hid (Came .u64 wA a_b l_b c_b z_b) := C_b.out.old hb
    replace C_m : Hid (Came .u64 wA a_m l_m c_m z_m) := C_m.out.old hb
    clear hb
    have HC := long3 a_a a_b a_m l_a c_a l_b c_b l_m c_m 4 wA (by decide) le_a le_b le_m
    rw [decide_eq_false hlong] at HC
    go_wp2_with fail
    refine HC.mono ?_
    rintro e wB ⟨rfl, hb⟩
    replace BW : Hid (Below w.heap.size w wB) := BW.out.trans (hb.mono BW.out.size)
    replace K_m : Hid (Kc wB w.heap.size (.slice a_m l_m c_m)) := K_m.out.old hb
    replace km := K_m.out.1
    replace C_a : Hid (Came .u64 wB a_a l_a c_a z_a) := C_a.out.old hb
    replace C_b : Hid (Came .u64 wB a_b l_b c_b z_b) := C_b.out.old hb
    replace C_m : Hid (Came .u64 wB a_m l_m c_m z_m) := C_m.out.old hb
    clear hb HC
    have N_a : Hid (NumIn .u64 B64 wB a_a l_a c_a (z_a.take l_a)) := C_a.out.nat (by omega)
    have L_a : Hid (l_a ≤ 4) := by unfold Hid; omega
    have N_b : Hid (NumIn .u64 B64 wB a_b l_b c_b (z_b.take l_b)) := C_b.out.nat (by omega)
    have L_b : Hid (l_b ≤ 4) := by unfold Hid; omega
    have N_m : Hid (NumIn .u64 B64 wB a_m l_m c_m (z_m.take l_m)) := C_m.out.nat (by omega)
    have L_m : Hid (l_m ≤ 4) := by unfold Hid; omega
    clear hlong C_a le_a C_b le_b C_m le_m
    generalize z_a.take l_a = s_a at *
    have P_a : Hid (0 ≤ val B64 s_a) := val_nonneg B64_pos N_a.out.dg
    obtain ⟨A, V_a⟩ : ∃ X, Hid (val B64 s_a = X) := ⟨_, rfl⟩
    replace P_a : Hid (0 ≤ A) := by have := P_a.out; rw [V_a.out] at this; exact this
    generalize z_b.take l_b = s_b at *
    have P_b : Hid (0 ≤ val B64 s_b) := val_nonneg B64_pos N_b.out.dg
    obtain ⟨B, V_b⟩ : ∃ X, Hid (val B64 s_b = X) := ⟨_, rfl⟩
    replace P_b : Hid (0 ≤ B) := by have := P_b.out; rw [V_b.out] at this; exact this
    generalize z_m.take l_m = s_m at *
    have P_m : Hid (0 ≤ val B64 s_m) := val_nonneg B64_pos N_m.out.dg
    obtain ⟨M, V_m⟩ : ∃ X, Hid (val B64 s_m = X) := ⟨_, rfl⟩
    replace P_m : Hid (0 ≤ M) := by have := P_m.out; rw [V_m.out] at this; exact this
    by_cases hz : M = 0
    · go_wp2_with fail
      have HC := Len_any a_m l_m c_m s_m wB N_m.out
      rw [show lenOf s_m = 0 from lenOf_zero N_m.out.dg (by rw [V_m.out]; exact hz)] at HC
      refine HC.mono ?_
      rintro e w1 ⟨rfl, rfl⟩
      clear HC
      clear N_a N_b N_m
      go_wp2
      go_ret
      exact ⟨rfl, BW.out⟩
    · have HZ : Hid (M ≠ 0) := hz
      have hlp : 0 < lenOf s_m := lenOf_pos N_m.out.dg (by rw [V_m.out]; have := P_m.out; omega)
      have hle : lenOf s_m ≤ 64 * 1000 := lenOf_le N_m.out.dg 1000 (by rw [N_m.out.len]; have := L_m.out; omega)
      clear hz
      have HC := Len_any a_m l_m c_m s_m wB N_m.out
      generalize lenOf s_m = len_m at *
      have hbe : ((len_m : Int) == 0) = false := by simp; omega
      go_wp2_with fail
      refine HC.mono ?_
      rintro e w1 ⟨rfl, rfl⟩
      clear HC
      have C_a : Hid (Cg M A A) := Cg.refl _ _
      have C_b : Hid (Cg M B B) := Cg.refl _ _
      have C_m : Hid (Cg M M M) := Cg.refl _ _
      clear km
      go_wp2_with fail
      have HC := pwPow_any w.heap.size a_a a_m l_a c_a l_m c_m ((jn : Int) + (qn : Int)) s_a s_m w1 K_m.out N_a.out N_m.out (by rw [V_m.out]; exact HZ.out) (by omega) (by omega) (by have := L_a.out; have := L_m.out; omega)
      refine HC.mono ?_
      rintro e w2 ⟨v, rfl, a_ea, l_ea, c_ea, s_ea, rfl, n_ea, k_ea, v_ea, b_ea, hb⟩
      rw [show Int.toNat ((jn : Int) + (qn : Int)) = jn + qn from by omega] at v_ea
      replace BW : Hid (Below w.heap.size w w2) := BW.out.trans ((hb).mono BW.out.size)
      replace N_a : Hid (NumIn _ _ _ _ _ _ _) := N_a.out.old (hb)
      replace N_b : Hid (NumIn _ _ _ _ _ _ _) := N_b.out.old (hb)
      replace N_m : Hid (NumIn _ _ _ _ _ _ _) := N_m.out.old (hb)
      replace K_m : Hid (Kc w2 w.heap.size (.slice a_m l_m c_m)) := K_m.out.old (hb)
      simp only [V_a.out, V_m.out] at v_ea
      obtain ⟨Z_ea, hZ⟩ : ∃ Z, A ^ (jn + qn) % M = Z := ⟨_, rfl⟩
      have R_ea : Hid (0 ≤ Z_ea ∧ Z_ea < M) := hZ ▸ mod_range _ _ P_m.out HZ.out
      have C_ea : Hid (Cg M Z_ea ((A) ^ (jn + qn))) := hZ ▸ (Cg.mod M _).trans (C_a.out.pow _)
      rw [hZ] at v_ea
      have N_ea : Hid (NumIn _ _ _ _ _ _ _) := n_ea
      have V_ea : Hid (val B64 s_ea = Z_ea) := v_ea
      have L_ea : Hid (l_ea ≤ 4) := by unfold Hid; have := L_m.out; omega
      clear n_ea v_ea b_ea k_ea hZ hb HC
      go_wp2_with fail
      have HC := pwPow_any w.heap.size a_a a_m l_a c_a l_m c_m ((jn : Int)) s_a s_m w2 K_m.out N_a.out N_m.out (by rw [V_m.out]; exact HZ.out) (by omega) (by omega) (by have := L_a.out; have := L_m.out; omega)
      refine HC.mono ?_
      rintro e w3 ⟨v, rfl, a_eb, l_eb, c_eb, s_eb, rfl, n_eb, k_eb, v_eb, b_eb, hb⟩
      rw [show Int.toNat ((jn : Int)) = jn from by omega] at v_eb
      replace BW : Hid (Below w.heap.size w w3) := BW.out.trans ((hb).mono BW.out.size)
      replace N_a : Hid (NumIn _ _ _ _ _ _ _) := N_a.out.old (hb)
      replace N_b : Hid (NumIn _ _ _ _ _ _ _) := N_b.out.old (hb)
      replace N_m : Hid (NumIn _ _ _ _ _ _ _) := N_m.out.old (hb)
      replace N_ea : Hid (NumIn _ _ _ _ _ _ _) := N_ea.out.old (hb)
      replace K_m : Hid (Kc w3 w.heap.size (.slice a_m l_m c_m)) := K_m.out.old (hb)
      simp only [V_a.out, V_m.out] at v_eb
      obtain ⟨Z_eb, hZ⟩ : ∃ Z, A ^ (jn) % M = Z := ⟨_, rfl⟩
      have R_eb : Hid (0 ≤ Z_eb ∧ Z_eb < M) := hZ ▸ mod_range _ _ P_m.out HZ.out
      have C_eb : Hid (Cg M Z_eb ((A) ^ (jn))) := hZ ▸ (Cg.mod M _).trans (C_a.out.pow _)
      rw [hZ] at v_eb
      have N_eb : Hid (NumIn _ _ _ _ _ _ _) := n_eb
      have V_eb : Hid (val B64 s_eb = Z_eb) := v_eb
      have L_eb : Hid (l_eb ≤ 4) := by unfold Hid; have := L_m.out; omega
      clear n_eb v_eb b_eb k_eb hZ hb HC
      go_wp2_with fail
      have HC := pwPow_any w.heap.size a_a a_m l_a c_a l_m c_m ((qn : Int)) s_a s_m w3 K_m.out N_a.out N_m.out (by rw [V_m.out]; exact HZ.out) (by omega) (by omega) (by have := L_a.out; have := L_m.out; omega)
      refine HC.mono ?_
      rintro e w4 ⟨v, rfl, a_ec, l_ec, c_ec, s_ec, rfl, n_ec, k_ec, v_ec, b_ec, hb⟩
      rw [show Int.toNat ((qn : Int)) = qn from by omega] at v_ec
      replace BW : Hid (Below w.heap.size w w4) := BW.out.trans ((hb).mono BW.out.size)
      replace N_a : Hid (NumIn _ _ _ _ _ _ _) := N_a.out.old (hb)
      replace N_b : Hid (NumIn _ _ _ _ _ _ _) := N_b.out.old (hb)
      replace N_m : Hid (NumIn _ _ _ _ _ _ _) := N_m.out.old (hb)
      replace N_ea : Hid (NumIn _ _ _ _ _ _ _) := N_ea.out.old (hb)
      replace N_eb : Hid (NumIn _ _ _ _ _ _ _) := N_eb.out.old (hb)
      replace K_m : Hid (Kc w4 w.heap.size (.slice a_m l_m c_m)) := K_m.out.old (hb)
      simp only [V_a.out, V_m.out] at v_ec
      obtain ⟨Z_ec, hZ⟩ : ∃ Z, A ^ (qn) % M = Z := ⟨_, rfl⟩
      have R_ec : Hid (0 ≤ Z_ec ∧ Z_ec < M) := hZ ▸ mod_range _ _ P_m.out HZ.out
      have C_ec : Hid (Cg M Z_ec ((A) ^ (qn))) := hZ ▸ (Cg.mod M _).trans (C_a.out.pow _)
      rw [hZ] at v_ec
      have N_ec : Hid (NumIn _ _ _ _ _ _ _) := n_ec
      have V_ec : Hid (val B64 s_ec = Z_ec) := v_ec
      have L_ec : Hid (l_ec ≤ 4) := by unfold Hid; have := L_m.out; omega
      clear n_ec v_ec b_ec k_ec hZ hb HC
      go_wp2_with fail
      have HC := pwMul_any w.heap.size a_eb a_ec a_m l_eb c_eb l_ec c_ec l_m c_m s_eb s_ec s_m w4 K_m.out N_eb.out N_ec.out N_m.out (by rw [V_m.out]; exact HZ.out) (by have := L_eb.out; have := L_ec.out; have := L_m.out; omega)
      refine HC.mono ?_
      rintro e w5 ⟨v, rfl, a_ed, l_ed, c_ed, s_ed, rfl, n_ed, k_ed, v_ed, b_ed, hb⟩
      replace BW : Hid (Below w.heap.size w w5) := BW.out.trans ((hb).mono BW.out.size)
      replace N_a : Hid (NumIn _ _ _ _ _ _ _) := N_a.out.old (hb)
      replace N_b : Hid (NumIn _ _ _ _ _ _ _) := N_b.out.old (hb)
      replace N_m : Hid (NumIn _ _ _ _ _ _ _) := N_m.out.old (hb)
      replace N_ea : Hid (NumIn _ _ _ _ _ _ _) := N_ea.out.old (hb)
      replace N_eb : Hid (NumIn _ _ _ _ _ _ _) := N_eb.out.old (hb)
      replace N_ec : Hid (NumIn _ _ _ _ _ _ _) := N_ec.out.old (hb)
      replace K_m : Hid (Kc w5 w.heap.size (.slice a_m l_m c_m)) := K_m.out.old (hb)
      simp only [V_eb.out, V_ec.out, V_m.out] at v_ed
      obtain ⟨Z_ed, hZ⟩ : ∃ Z, (Z_eb * Z_ec) % M = Z := ⟨_, rfl⟩
      have R_ed : Hid (0 ≤ Z_ed ∧ Z_ed < M) := hZ ▸ mod_range _ _ P_m.out HZ.out
      have C_ed : Hid (Cg M Z_ed (((A) ^ (jn)) * ((A) ^ (qn)))) := hZ ▸ (Cg.mod M _).trans (C_eb.out.mul C_ec.out)
      rw [hZ] at v_ed
      have N_ed : Hid (NumIn _ _ _ _ _ _ _) := n_ed
      have V_ed : Hid (val B64 s_ed = Z_ed) := v_ed
      have L_ed : Hid (l_ed ≤ 4) := by unfold Hid; have := L_m.out; omega
      clear n_ed v_ed b_ed k_ed hZ hb HC
      go_wp2_with fail
      have HC := Cmp_any a_ea a_ed l_ea c_ea l_ed c_ed s_ea s_ed w5 N_ea.out N_ed.out
      rw [show cmpI (val B64 s_ea) (val B64 s_ed) = 0 from by rw [V_ea.out, V_ed.out]; exact cmpI_eq (((C_ea.out.trans (Cg.of_eq (Int.pow_add _ _ _))).trans C_ed.out.symm).eq R_ea.out.1 R_ea.out.2 R_ed.out.1 R_ed.out.2)] at HC
      refine HC.mono ?_
      rintro e w6 ⟨rfl, hd⟩
      replace BW : Hid (Below w.heap.size w w6) := BW.out.trans ((hd.below _).mono BW.out.size)
      replace N_a : Hid (NumIn _ _ _ _ _ _ _) := N_a.out.old (hd.below _)
      replace N_b : Hid (NumIn _ _ _ _ _ _ _) := N_b.out.old (hd.below _)
      replace N_m : Hid (NumIn _ _ _ _ _ _ _) := N_m.out.old (hd.below _)
      replace N_ea : Hid (NumIn _ _ _ _ _ _ _) := N_ea.out.old (hd.below _)
      replace N_eb : Hid (NumIn _ _ _ _ _ _ _) := N_eb.out.old (hd.below _)
      replace N_ec : Hid (NumIn _ _ _ _ _ _ _) := N_ec.out.old (hd.below _)
      replace N_ed : Hid (NumIn _ _ _ _ _ _ _) := N_ed.out.old (hd.below _)
      replace K_m : Hid (Kc w6 w.heap.size (.slice a_m l_m c_m)) := K_m.out.old (hd.below _)
      clear hd HC
      clear N_ea V_ea L_ea
      clear N_eb V_eb L_eb
      clear N_ec V_ec L_ec
      clear N_ed V_ed L_ed
      go_wp2_with fail
      have HC := pwPow_any w.heap.size a_a a_m l_a c_a l_m c_m ((jn : Int) * (qn : Int)) s_a s_m w6 K_m.out N_a.out N_m.out (by rw [V_m.out]; exact HZ.out) (by omega) (by omega) (by have := L_a.out; have := L_m.out; omega)
      refine HC.mono ?_
      rintro e w7 ⟨v, rfl, a_fa, l_fa, c_fa, s_fa, rfl, n_fa, k_fa, v_fa, b_fa, hb⟩
      rw [show Int.toNat ((jn : Int) * (qn : Int)) = jn * qn from by rw [← Int.natCast_mul]; exact Int.toNat_natCast _] at v_fa
      replace BW : Hid (Below w.heap.size w w7) := BW.out.trans ((hb).mono BW.out.size)
      replace N_a : Hid (NumIn _ _ _ _ _ _ _) := N_a.out.old (hb)
      replace N_b : Hid (NumIn _ _ _ _ _ _ _) := N_b.out.old (hb)
      replace N_m : Hid (NumIn _ _ _ _ _ _ _) := N_m.out.old (hb)
      replace K_m : Hid (Kc w7 w.heap.size (.slice a_m l_m c_m)) := K_m.out.old (hb)
      simp only [V_a.out, V_m.out] at v_fa
      obtain ⟨Z_fa, hZ⟩ : ∃ Z, A ^ (jn * qn) % M = Z := ⟨_, rfl⟩
      have R_fa : Hid (0 ≤ Z_fa ∧ Z_fa < M) := hZ ▸ mod_range _ _ P_m.out HZ.out
      have C_fa : Hid (Cg M Z_fa ((A) ^ (jn * qn))) := hZ ▸ (Cg.mod M _).trans (C_a.out.pow _)
      rw [hZ] at v_fa
      have N_fa : Hid (NumIn _ _ _ _ _ _ _) := n_fa
      have V_fa : Hid (val B64 s_fa = Z_fa) := v_fa
      have L_fa : Hid (l_fa ≤ 4) := by unfold Hid; have := L_m.out; omega
      clear n_fa v_fa b_fa k_fa hZ hb HC
      go_wp2_with fail
      have HC := pwPow_any w.heap.size a_a a_m l_a c_a l_m c_m ((jn : Int)) s_a s_m w7 K_m.out N_a.out N_m.out (by rw [V_m.out]; exact HZ.out) (by omega) (by omega) (by have := L_a.out; have := L_m.out; omega)
      refine HC.mono ?_
      rintro e w8 ⟨v, rfl, a_fb, l_fb, c_fb, s_fb, rfl, n_fb, k_fb, v_fb, b_fb, hb⟩
      rw [show Int.toNat ((jn : Int)) = jn from by omega] at v_fb
      replace BW : Hid (Below w.heap.size w w8) := BW.out.trans ((hb).mono BW.out.size)
      replace N_a : Hid (NumIn _ _ _ _ _ _ _) := N_a.out.old (hb)
      replace N_b : Hid (NumIn _ _ _ _ _ _ _) := N_b.out.old (hb)
      replace N_m : Hid (NumIn _ _ _ _ _ _ _) := N_m.out.old (hb)
      replace N_fa : Hid (NumIn _ _ _ _ _ _ _) := N_fa.out.old (hb)
      replace K_m : Hid (Kc w8 w.heap.size (.slice a_m l_m c_m)) := K_m.out.old (hb)
      simp only [V_a.out, V_m.out] at v_fb
      obtain ⟨Z_fb, hZ⟩ : ∃ Z, A ^ (jn) % M = Z := ⟨_, rfl⟩
      have R_fb : Hid (0 ≤ Z_fb ∧ Z_fb < M) := hZ ▸ mod_range _ _ P_m.out HZ.out
      have C_fb : Hid (Cg M Z_fb ((A) ^ (jn))) := hZ ▸ (Cg.mod M _).trans (C_a.out.pow _)
      rw [hZ] at v_fb
      have N_fb : Hid (NumIn _ _ _ _ _ _ _) := n_fb
      have V_fb : Hid (val B64 s_fb = Z_fb) := v_fb
      have L_fb : Hid (l_fb ≤ 4) := by unfold Hid; have := L_m.out; omega
      clear n_fb v_fb b_fb k_fb hZ hb HC
      go_wp2_with fail
      have HC := pwPow_any w.heap.size a_fb a_m l_fb c_fb l_m c_m ((qn : Int)) s_fb s_m w8 K_m.out N_fb.out N_m.out (by rw [V_m.out]; exact HZ.out) (by omega) (by omega) (by have := L_fb.out; have := L_m.out; omega)
      refine HC.mono ?_
      rintro e w9 ⟨v, rfl, a_fc, l_fc, c_fc, s_fc, rfl, n_fc, k_fc, v_fc, b_fc, hb⟩
      rw [show Int.toNat ((qn : Int)) = qn from by omega] at v_fc
      replace BW : Hid (Below w.heap.size w w9) := BW.out.trans ((hb).mono BW.out.size)
      replace N_a : Hid (NumIn _ _ _ _ _ _ _) := N_a.out.old (hb)
      replace N_b : Hid (NumIn _ _ _ _ _ _ _) := N_b.out.old (hb)
      replace N_m : Hid (NumIn _ _ _ _ _ _ _) := N_m.out.old (hb)
      replace N_fa : Hid (NumIn _ _ _ _ _ _ _) := N_fa.out.old (hb)
      replace N_fb : Hid (NumIn _ _ _ _ _ _ _) := N_fb.out.old (hb)
      replace K_m : Hid (Kc w9 w.heap.size (.slice a_m l_m c_m)) := K_m.out.old (hb)
      simp only [V_fb.out, V_m.out] at v_fc
      obtain ⟨Z_fc, hZ⟩ : ∃ Z, Z_fb ^ (qn) % M = Z := ⟨_, rfl⟩
      have R_fc : Hid (0 ≤ Z_fc ∧ Z_fc < M) := hZ ▸ mod_range _ _ P_m.out HZ.out
      have C_fc : Hid (Cg M Z_fc ((((A) ^ (jn))) ^ (qn))) := hZ ▸ (Cg.mod M _).trans (C_fb.out.pow _)
      rw [hZ] at v_fc
      have N_fc : Hid (NumIn _ _ _ _ _ _ _) := n_fc
      have V_fc : Hid (val B64 s_fc = Z_fc) := v_fc
      have L_fc : Hid (l_fc ≤ 4) := by unfold Hid; have := L_m.out; omega
      clear n_fc v_fc b_fc k_fc hZ hb HC
      go_wp2_with fail
      have HC := Cmp_any a_fa a_fc l_fa c_fa l_fc c_fc s_fa s_fc w9 N_fa.out N_fc.out
      rw [show cmpI (val B64 s_fa) (val B64 s_fc) = 0 from by rw [V_fa.out, V_fc.out]; exact cmpI_eq (((C_fa.out.trans (Cg.of_eq (Int.pow_mul))).trans C_fc.out.symm).eq R_fa.out.1 R_fa.out.2 R_fc.out.1 R_fc.out.2)] at HC
      refine HC.mono ?_
      rintro e w10 ⟨rfl, hd⟩
      replace BW : Hid (Below w.heap.size w w10) := BW.out.trans ((hd.below _).mono BW.out.size)
      replace N_a : Hid (NumIn _ _ _ _ _ _ _) := N_a.out.old (hd.below _)
      replace N_b : Hid (NumIn _ _ _ _ _ _ _) := N_b.out.old (hd.below _)
      replace N_m : Hid (NumIn _ _ _ _ _ _ _) := N_m.out.old (hd.below _)
      replace N_fa : Hid (NumIn _ _ _ _ _ _ _) := N_fa.out.old (hd.below _)
      replace N_fb : Hid (NumIn _ _ _ _ _ _ _) := N_fb.out.old (hd.below _)
      replace N_fc : Hid (NumIn _ _ _ _ _ _ _) := N_fc.out.old (hd.below _)
      replace K_m : Hid (Kc w10 w.heap.size (.slice a_m l_m c_m)) := K_m.out.old (hd.below _)
      clear hd HC
      clear N_fa V_fa L_fa
      clear N_fb V_fb L_fb
      clear N_fc V_fc L_fc
      go_wp2_with fail
      have HC := pwMul_any w.heap.size a_a a_b a_m l_a c_a l_b c_b l_m c_m s_a s_b s_m w10 K_m.out N_a.out N_b.out N_m.out (by rw [V_m.out]; exact HZ.out) (by have := L_a.out; have := L_b.out; have := L_m.out; omega)
      refine HC.mono ?_
      rintro e w11 ⟨v, rfl, a_ga, l_ga, c_ga, s_ga, rfl, n_ga, k_ga, v_ga, b_ga, hb⟩
      replace BW : Hid (Below w.heap.size w w11) := BW.out.trans ((hb).mono BW.out.size)
      replace N_a : Hid (NumIn _ _ _ _ _ _ _) := N_a.out.old (hb)
      replace N_b : Hid (NumIn _ _ _ _ _ _ _) := N_b.out.old (hb)
      replace N_m : Hid (NumIn _ _ _ _ _ _ _) := N_m.out.old (hb)
      replace K_m : Hid (Kc w11 w.heap.size (.slice a_m l_m c_m)) := K_m.out.old (hb)
      simp only [V_a.out, V_b.out, V_m.out] at v_ga
      obtain ⟨Z_ga, hZ⟩ : ∃ Z, (A * B) % M = Z := ⟨_, rfl⟩
      have R_ga : Hid (0 ≤ Z_ga ∧ Z_ga < M) := hZ ▸ mod_range _ _ P_m.out HZ.out
      have C_ga : Hid (Cg M Z_ga (A * B)) := hZ ▸ (Cg.mod M _).trans (C_a.out.mul C_b.out)
      rw [hZ] at v_ga
      have N_ga : Hid (NumIn _ _ _ _ _ _ _) := n_ga
      have V_ga : Hid (val B64 s_ga = Z_ga) := v_ga
      have L_ga : Hid (l_ga ≤ 4) := by unfold Hid; have := L_m.out; omega
      clear n_ga v_ga b_ga k_ga hZ hb HC
      go_wp2_with fail
      have HC := pwPow_any w.heap.size a_ga a_m l_ga c_ga l_m c_m ((jn : Int)) s_ga s_m w11 K_m.out N_ga.out N_m.out (by rw [V_m.out]; exact HZ.out) (by omega) (by omega) (by have := L_ga.out; have := L_m.out; omega)
      refine HC.mono ?_
      rintro e w12 ⟨v, rfl, a_gb, l_gb, c_gb, s_gb, rfl, n_gb, k_gb, v_gb, b_gb, hb⟩
      rw [show Int.toNat ((jn : Int)) = jn from by omega] at v_gb
      replace BW : Hid (Below w.heap.size w w12) := BW.out.trans ((hb).mono BW.out.size)
      replace N_a : Hid (NumIn _ _ _ _ _ _ _) := N_a.out.old (hb)
      replace N_b : Hid (NumIn _ _ _ _ _ _ _) := N_b.out.old (hb)
      replace N_m : Hid (NumIn _ _ _ _ _ _ _) := N_m.out.old (hb)
      replace N_ga : Hid (NumIn _ _ _ _ _ _ _) := N_ga.out.old (hb)
      replace K_m : Hid (Kc w12 w.heap.size (.slice a_m l_m c_m)) := K_m.out.old (hb)
      simp only [V_ga.out, V_m.out] at v_gb
      obtain ⟨Z_gb, hZ⟩ : ∃ Z, Z_ga ^ (jn) % M = Z := ⟨_, rfl⟩
      have R_gb : Hid (0 ≤ Z_gb ∧ Z_gb < M) := hZ ▸ mod_range _ _ P_m.out HZ.out
      have C_gb : Hid (Cg M Z_gb (((A * B)) ^ (jn))) := hZ ▸ (Cg.mod M _).trans (C_ga.out.pow _)
      rw [hZ] at v_gb
      have N_gb : Hid (NumIn _ _ _ _ _ _ _) := n_gb
      have V_gb : Hid (val B64 s_gb = Z_gb) := v_gb
      have L_gb : Hid (l_gb ≤ 4) := by unfold Hid; have := L_m.out; omega
      clear n_gb v_gb b_gb k_gb hZ hb HC
      go_wp2_with fail
      have HC := pwPow_any w.heap.size a_a a_m l_a c_a l_m c_m ((jn : Int)) s_a s_m w12 K_m.out N_a.out N_m.out (by rw [V_m.out]; exact HZ.out) (by omega) (by omega) (by have := L_a.out; have := L_m.out; omega)
      refine HC.mono ?_
      rintro e w13 ⟨v, rfl, a_gc, l_gc, c_gc, s_gc, rfl, n_gc, k_gc, v_gc, b_gc, hb⟩
      rw [show Int.toNat ((jn : Int)) = jn from by omega] at v_gc
      replace BW : Hid (Below w.heap.size w w13) := BW.out.trans ((hb).mono BW.out.size)
      replace N_a : Hid (NumIn _ _ _ _ _ _ _) := N_a.out.old (hb)
      replace N_b : Hid (NumIn _ _ _ _ _ _ _) := N_b.out.old (hb)
      replace N_m : Hid (NumIn _ _ _ _ _ _ _) := N_m.out.old (hb)
      replace N_ga : Hid (NumIn _ _ _ _ _ _ _) := N_ga.out.old (hb)
      replace N_gb : Hid (NumIn _ _ _ _ _ _ _) := N_gb.out.old (hb)
      replace K_m : Hid (Kc w13 w.heap.size (.slice a_m l_m c_m)) := K_m.out.old (hb)
      simp only [V_a.out, V_m.out] at v_gc
      obtain ⟨Z_gc, hZ⟩ : ∃ Z, A ^ (jn) % M = Z := ⟨_, rfl⟩
      have R_gc : Hid (0 ≤ Z_gc ∧ Z_gc < M) := hZ ▸ mod_range _ _ P_m.out HZ.out
      have C_gc : Hid (Cg M Z_gc ((A) ^ (jn))) := hZ ▸ (Cg.mod M _).trans (C_a.out.pow _)
      rw [hZ] at v_gc
      have N_gc : Hid (NumIn _ _ _ _ _ _ _) := n_gc
      have V_gc : Hid (val B64 s_gc = Z_gc) := v_gc
      have L_gc : Hid (l_gc ≤ 4) := by unfold Hid; have := L_m.out; omega
      clear n_gc v_gc b_gc k_gc hZ hb HC
      go_wp2_with fail
      have HC := pwPow_any w.heap.size a_b a_m l_b c_b l_m c_m ((jn : Int)) s_b s_m w13 K_m.out N_b.out N_m.out (by rw [V_m.out]; exact HZ.out) (by omega) (by omega) (by have := L_b.out; have := L_m.out; omega)
      refine HC.mono ?_
      rintro e w14 ⟨v, rfl, a_gdx, l_gdx, c_gdx, s_gdx, rfl, n_gdx, k_gdx, v_gdx, b_gdx, hb⟩
      rw [show Int.toNat ((jn : Int)) = jn from by omega] at v_gdx
      replace BW : Hid (Below w.heap.size w w14) := BW.out.trans ((hb).mono BW.out.size)
      replace N_a : Hid (NumIn _ _ _ _ _ _ _) := N_a.out.old (hb)
      replace N_b : Hid (NumIn _ _ _ _ _ _ _) := N_b.out.old (hb)
      replace N_m : Hid (NumIn _ _ _ _ _ _ _) := N_m.out.old (hb)
      replace N_ga : Hid (NumIn _ _ _ _ _ _ _) := N_ga.out.old (hb)
      replace N_gb : Hid (NumIn _ _ _ _ _ _ _) := N_gb.out.old (hb)
      replace N_gc : Hid (NumIn _ _ _ _ _ _ _) := N_gc.out.old (hb)
      replace K_m : Hid (Kc w14 w.heap.size (.slice a_m l_m c_m)) := K_m.out.old (hb)
      simp only [V_b.out, V_m.out] at v_gdx
      obtain ⟨Z_gdx, hZ⟩ : ∃ Z, B ^ (jn) % M = Z := ⟨_, rfl⟩
      have R_gdx : Hid (0 ≤ Z_gdx ∧ Z_gdx < M) := hZ ▸ mod_range _ _ P_m.out HZ.out
      have C_gdx : Hid (Cg M Z_gdx ((B) ^ (jn))) := hZ ▸ (Cg.mod M _).trans (C_b.out.pow _)
      rw [hZ] at v_gdx
      have N_gdx : Hid (NumIn _ _ _ _ _ _ _) := n_gdx
      have V_gdx : Hid (val B64 s_gdx = Z_gdx) := v_gdx
      have L_gdx : Hid (l_gdx ≤ 4) := by unfold Hid; have := L_m.out; omega
      clear n_gdx v_gdx b_gdx k_gdx hZ hb HC
      go_wp2_with fail
      have HC := pwMul_any w.heap.size a_gc a_gdx a_m l_gc c_gc l_gdx c_gdx l_m c_m s_gc s_gdx s_m w14 K_m.out N_gc.out N_gdx.out N_m.out (by rw [V_m.out]; exact HZ.out) (by have := L_gc.out; have := L_gdx.out; have := L_m.out; omega)
      refine HC.mono ?_
      rintro e w15 ⟨v, rfl, a_ge, l_ge, c_ge, s_ge, rfl, n_ge, k_ge, v_ge, b_ge, hb⟩
      replace BW : Hid (Below w.heap.size w w15) := BW.out.trans ((hb).mono BW.out.size)
      replace N_a : Hid (NumIn _ _ _ _ _ _ _) := N_a.out.old (hb)
      replace N_b : Hid (NumIn _ _ _ _ _ _ _) := N_b.out.old (hb)
      replace N_m : Hid (NumIn _ _ _ _ _ _ _) := N_m.out.old (hb)
      replace N_ga : Hid (NumIn _ _ _ _ _ _ _) := N_ga.out.old (hb)
      replace N_gb : Hid (NumIn _ _ _ _ _ _ _) := N_gb.out.old (hb)
      replace N_gc : Hid (NumIn _ _ _ _ _ _ _) := N_gc.out.old (hb)
      replace N_gdx : Hid (NumIn _ _ _ _ _ _ _) := N_gdx.out.old (hb)
      replace K_m : Hid (Kc w15 w.heap.size (.slice a_m l_m c_m)) := K_m.out.old (hb)
      simp only [V_gc.out, V_gdx.out, V_m.out] at v_ge
      obtain ⟨Z_ge, hZ⟩ : ∃ Z, (Z_gc * Z_gdx) % M = Z := ⟨_, rfl⟩
      have R_ge : Hid (0 ≤ Z_ge ∧ Z_ge < M) := hZ ▸ mod_range _ _ P_m.out HZ.out
      have C_ge : Hid (Cg M Z_ge (((A) ^ (jn)) * ((B) ^ (jn)))) := hZ ▸ (Cg.mod M _).trans (C_gc.out.mul C_gdx.out)
      rw [hZ] at v_ge
      have N_ge : Hid (NumIn _ _ _ _ _ _ _) := n_ge
      have V_ge : Hid (val B64 s_ge = Z_ge) := v_ge
      have L_ge : Hid (l_ge ≤ 4) := by unfold Hid; have := L_m.out; omega
      clear n_ge v_ge b_ge k_ge hZ hb HC
      go_wp2_with fail
      have HC := Cmp_any a_gb a_ge l_gb c_gb l_ge c_ge s_gb s_ge w15 N_gb.out N_ge.out
      rw [show cmpI (val B64 s_gb) (val B64 s_ge) = 0 from by rw [V_gb.out, V_ge.out]; exact cmpI_eq (((C_gb.out.trans (Cg.of_eq (Int.mul_pow))).trans C_ge.out.symm).eq R_gb.out.1 R_gb.out.2 R_ge.out.1 R_ge.out.2)] at HC
      refine HC.mono ?_
      rintro e w16 ⟨rfl, hd⟩
      replace BW : Hid (Below w.heap.size w w16) := BW.out.trans ((hd.below _).mono BW.out.size)
      replace N_a : Hid (NumIn _ _ _ _ _ _ _) := N_a.out.old (hd.below _)
      replace N_b : Hid (NumIn _ _ _ _ _ _ _) := N_b.out.old (hd.below _)
      replace N_m : Hid (NumIn _ _ _ _ _ _ _) := N_m.out.old (hd.below _)
      replace N_ga : Hid (NumIn _ _ _ _ _ _ _) := N_ga.out.old (hd.below _)
      replace N_gb : Hid (NumIn _ _ _ _ _ _ _) := N_gb.out.old (hd.below _)
      replace N_gc : Hid (NumIn _ _ _ _ _ _ _) := N_gc.out.old (hd.below _)
      replace N_gdx : Hid (NumIn _ _ _ _ _ _ _) := N_gdx.out.old (hd.below _)
      replace N_ge : Hid (NumIn _ _ _ _ _ _ _) := N_ge.out.old (hd.below _)
      replace K_m : Hid (Kc w16 w.heap.size (.slice a_m l_m c_m)) := K_m.out.old (hd.below _)
      clear hd HC
      go_wp2
      go_ret
      exact ⟨rfl, BW.out⟩
end Go.Proofs.Ytjaokpgccnkipaa
