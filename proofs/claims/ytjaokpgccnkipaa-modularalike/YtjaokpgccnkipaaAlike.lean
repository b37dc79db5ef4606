/-
  The walk of ModularAlike.
-/
import Derived.Test.YtjaokpgccnkipaaModW
namespace Go.Proofs.Ytjaokpgccnkipaa
open Go.RowKit
set_option linter.unusedVariables false
set_option linter.unusedSimpArgs false

set_option maxHeartbeats 4000000 in
/-- A multiple of the modulus more changes nothing. -/
theorem ModularAlike_walk (a_a : Option Addr) (l_a c_a : Nat) (z_a : List Int) (a_b : Option Addr) (l_b c_b : Nat) (z_b : List Int) (a_k : Option Addr) (l_k c_k : Nat) (z_k : List Int) (a_m : Option Addr) (l_m c_m : Nat) (z_m : List Int) (w : World) (came_a : Came .u64 w a_a l_a c_a z_a) (came_b : Came .u64 w a_b l_b c_b z_b) (came_k : Came .u64 w a_k l_k c_k z_k) (came_m : Came .u64 w a_m l_m c_m z_m) :
    Calls Try.prog 8 #[.slice a_a l_a c_a, .slice a_b l_b c_b, .slice a_k l_k c_k, .slice a_m l_m c_m] w fun e w' => e = .returned (.bool true) ∧ Below w.heap.size w w' := by
  have le_a := came_a.le
  have le_b := came_b.le
  have le_k := came_k.le
  have le_m := came_m.le
  have C_a : Hid (Came .u64 w a_a l_a c_a z_a) := came_a
  have C_b : Hid (Came .u64 w a_b l_b c_b z_b) := came_b
  have C_k : Hid (Came .u64 w a_k l_k c_k z_k) := came_k
  have C_m : Hid (Came .u64 w a_m l_m c_m z_m) := came_m
  clear came_a came_b came_k came_m
  by_cases hlong : 6 < l_a ∨ 6 < l_b ∨ 6 < l_k ∨ 6 < l_m
  · go_enter Try.func8, Try.ntmps8
    go_wp2_with fail
    refine (Awake_any w).mono ?_
    rintro e wA ⟨rfl, hb⟩
    have BW : Hid (Below w.heap.size w wA) := hb
    replace C_a : Hid (Came .u64 wA a_a l_a c_a z_a) := C_a.out.old hb
    replace C_b : Hid (Came .u64 wA a_b l_b c_b z_b) := C_b.out.old hb
    replace C_k : Hid (Came .u64 wA a_k l_k c_k z_k) := C_k.out.old hb
    replace C_m : Hid (Came .u64 wA a_m l_m c_m z_m) := C_m.out.old hb
    clear hb
    have HC := long4 a_a a_b a_k a_m l_a c_a l_b c_b l_k c_k l_m c_m 6 wA (by decide) le_a le_b le_k le_m
    rw [decide_eq_true hlong] at HC
    go_wp2_with fail
    refine HC.mono ?_
    rintro e wB ⟨rfl, hb⟩
    replace BW : Hid (Below w.heap.size w wB) := BW.out.trans (hb.mono BW.out.size)
    replace C_a : Hid (Came .u64 wB a_a l_a c_a z_a) := C_a.out.old hb
    replace C_b : Hid (Came .u64 wB a_b l_b c_b z_b) := C_b.out.old hb
    replace C_k : Hid (Came .u64 wB a_k l_k c_k z_k) := C_k.out.old hb
    replace C_m : Hid (Came .u64 wB a_m l_m c_m z_m) := C_m.out.old hb
    clear hb HC
    clear C_a C_b C_k C_m
    go_wp2
    go_ret
    exact ⟨rfl, BW.out⟩
  · go_enter Try.func8, Try.ntmps8
    go_wp2_with fail
    refine (Awake_any w).mono ?_
    rintro e wA ⟨rfl, hb⟩
    have BW : Hid (Below w.heap.size w wA) := hb
    replace C_a : Hid (Came .u64 wA a_a l_a c_a z_a) := C_a.out.old hb
    replace C_b : Hid (Came .u64 wA a_b l_b c_b z_b) := C_b.out.old hb
    replace C_k : Hid (Came .u64 wA a_k l_k c_k z_k) := C_k.out.old hb
    replace C_m : Hid (Came .u64 wA a_m l_m c_m z_m) := C_m.out.old hb
    clear hb
    have HC := long4 a_a a_b a_k a_m l_a c_a l_b c_b l_k c_k l_m c_m 6 wA (by decide) le_a le_b le_k le_m
    rw [decide_eq_false hlong] at HC
    go_wp2_with fail
    refine HC.mono ?_
    rintro e wB ⟨rfl, hb⟩
    replace BW : Hid (Below w.heap.size w wB) := BW.out.trans (hb.mono BW.out.size)
    replace C_a : Hid (Came .u64 wB a_a l_a c_a z_a) := C_a.out.old hb
    replace C_b : Hid (Came .u64 wB a_b l_b c_b z_b) := C_b.out.old hb
    replace C_k : Hid (Came .u64 wB a_k l_k c_k z_k) := C_k.out.old hb
    replace C_m : Hid (Came .u64 wB a_m l_m c_m z_m) := C_m.out.old hb
    clear hb HC
    have N_a : Hid (NumIn .u64 B64 wB a_a l_a c_a (z_a.take l_a)) := C_a.out.nat (by omega)
    have L_a : Hid (l_a ≤ 6) := by unfold Hid; omega
    have N_b : Hid (NumIn .u64 B64 wB a_b l_b c_b (z_b.take l_b)) := C_b.out.nat (by omega)
    have L_b : Hid (l_b ≤ 6) := by unfold Hid; omega
    have N_k : Hid (NumIn .u64 B64 wB a_k l_k c_k (z_k.take l_k)) := C_k.out.nat (by omega)
    have L_k : Hid (l_k ≤ 6) := by unfold Hid; omega
    have N_m : Hid (NumIn .u64 B64 wB a_m l_m c_m (z_m.take l_m)) := C_m.out.nat (by omega)
    have L_m : Hid (l_m ≤ 6) := by unfold Hid; omega
    clear hlong C_a le_a C_b le_b C_k le_k C_m le_m
    generalize z_a.take l_a = s_a at *
    have P_a : Hid (0 ≤ val B64 s_a) := val_nonneg B64_pos N_a.out.dg
    obtain ⟨A, V_a⟩ : ∃ X, Hid (val B64 s_a = X) := ⟨_, rfl⟩
    replace P_a : Hid (0 ≤ A) := by have := P_a.out; rw [V_a.out] at this; exact this
    generalize z_b.take l_b = s_b at *
    have P_b : Hid (0 ≤ val B64 s_b) := val_nonneg B64_pos N_b.out.dg
    obtain ⟨B, V_b⟩ : ∃ X, Hid (val B64 s_b = X) := ⟨_, rfl⟩
    replace P_b : Hid (0 ≤ B) := by have := P_b.out; rw [V_b.out] at this; exact this
    generalize z_k.take l_k = s_k at *
    have P_k : Hid (0 ≤ val B64 s_k) := val_nonneg B64_pos N_k.out.dg
    obtain ⟨K, V_k⟩ : ∃ X, Hid (val B64 s_k = X) := ⟨_, rfl⟩
    replace P_k : Hid (0 ≤ K) := by have := P_k.out; rw [V_k.out] at this; exact this
    generalize z_m.take l_m = s_m at *
    have P_m : Hid (0 ≤ val B64 s_m) := val_nonneg B64_pos N_m.out.dg
    obtain ⟨M, V_m⟩ : ∃ X, Hid (val B64 s_m = X) := ⟨_, rfl⟩
    replace P_m : Hid (0 ≤ M) := by have := P_m.out; rw [V_m.out] at this; exact this
    by_cases hz : M = 0
    · go_wp2_with fail
      have HC := Len_any a_m l_m c_m s_m wB N_m.out
      rw [show lenOf s_m = 0 from lenOf_zero N_m.out.dg (by rw [V_m.out]; exact hz)] at HC
      refine HC.mono ?_
      rintro e w1 ⟨rfl, rfl⟩
      clear HC
      clear N_a N_b N_k N_m
      go_wp2
      go_ret
      exact ⟨rfl, BW.out⟩
    · have HZ : Hid (M ≠ 0) := hz
      have hlp : 0 < lenOf s_m := lenOf_pos N_m.out.dg (by rw [V_m.out]; have := P_m.out; omega)
      have hle : lenOf s_m ≤ 64 * 1000 := lenOf_le N_m.out.dg 1000 (by rw [N_m.out.len]; have := L_m.out; omega)
      clear hz
      have HC := Len_any a_m l_m c_m s_m wB N_m.out
      generalize lenOf s_m = len_m at *
      have hbe : ((len_m : Int) == 0) = false := by simp; omega
      go_wp2_with fail
      refine HC.mono ?_
      rintro e w1 ⟨rfl, rfl⟩
      clear HC
      have C_a : Hid (Cg M A A) := Cg.refl _ _
      have C_b : Hid (Cg M B B) := Cg.refl _ _
      have C_k : Hid (Cg M K K) := Cg.refl _ _
      have C_m : Hid (Cg M M M) := Cg.refl _ _
      go_wp2_with fail
      have HC := Mul_any a_k a_m l_k c_k l_m c_m s_k s_m w1 N_k.out N_m.out (by have := L_k.out; have := L_m.out; omega)
      refine HC.mono ?_
      rintro e w2 ⟨v, rfl, a_km, l_km, c_km, s_km, rfl, n_km, k_km, v_km, b_km, hb⟩
      replace BW : Hid (Below w.heap.size w w2) := BW.out.trans ((hb).mono BW.out.size)
      replace N_a : Hid (NumIn _ _ _ _ _ _ _) := N_a.out.old (hb)
      replace N_b : Hid (NumIn _ _ _ _ _ _ _) := N_b.out.old (hb)
      replace N_k : Hid (NumIn _ _ _ _ _ _ _) := N_k.out.old (hb)
      replace N_m : Hid (NumIn _ _ _ _ _ _ _) := N_m.out.old (hb)
      have N_km : Hid (NumIn _ _ _ _ _ _ _) := n_km
      have V_km : Hid (val B64 s_km = K * M) := by unfold Hid; rw [v_km]; rw [V_k.out, V_m.out]
      have L_km : Hid (l_km ≤ 12) := by unfold Hid; have := L_k.out; have := L_m.out; omega
      clear n_km v_km b_km hb HC
      clear k_km
      go_wp2_with fail
      have HC := Add_any a_a a_km l_a c_a l_km c_km s_a s_km w2 N_a.out N_km.out (by have := L_a.out; have := L_km.out; omega)
      refine HC.mono ?_
      rintro e w3 ⟨v, rfl, a_mo, l_mo, c_mo, s_mo, rfl, n_mo, k_mo, v_mo, b_mo, hb⟩
      replace BW : Hid (Below w.heap.size w w3) := BW.out.trans ((hb).mono BW.out.size)
      replace N_a : Hid (NumIn _ _ _ _ _ _ _) := N_a.out.old (hb)
      replace N_b : Hid (NumIn _ _ _ _ _ _ _) := N_b.out.old (hb)
      replace N_k : Hid (NumIn _ _ _ _ _ _ _) := N_k.out.old (hb)
      replace N_m : Hid (NumIn _ _ _ _ _ _ _) := N_m.out.old (hb)
      replace N_km : Hid (NumIn _ _ _ _ _ _ _) := N_km.out.old (hb)
      have N_mo : Hid (NumIn _ _ _ _ _ _ _) := n_mo
      have V_mo : Hid (val B64 s_mo = A + K * M) := by unfold Hid; rw [v_mo]; rw [V_a.out, V_km.out]
      have L_mo : Hid (l_mo ≤ 13) := by unfold Hid; have := L_a.out; have := L_km.out; omega
      clear n_mo v_mo b_mo hb HC
      clear k_mo
      clear N_km V_km L_km
      clear N_k V_k L_k
      have C_mo : Hid (Cg M (A + K * M) A) := cg_mult M A K
      have HMO : Hid ((A + K * M) % M = A % M) := C_mo.out.emod
      go_wp2_with fail
      have HC := mMul_any a_a a_b a_m l_a c_a l_b c_b l_m c_m s_a s_b s_m w3 N_a.out N_b.out N_m.out (by rw [V_m.out]; exact HZ.out) (by have := L_a.out; have := L_b.out; have := L_m.out; omega)
      refine HC.mono ?_
      rintro e w4 ⟨v, rfl, a_x, l_x, c_x, s_x, rfl, n_x, k_x, v_x, b_x, hb⟩
      replace BW : Hid (Below w.heap.size w w4) := BW.out.trans ((hb).mono BW.out.size)
      replace N_a : Hid (NumIn _ _ _ _ _ _ _) := N_a.out.old (hb)
      replace N_b : Hid (NumIn _ _ _ _ _ _ _) := N_b.out.old (hb)
      replace N_m : Hid (NumIn _ _ _ _ _ _ _) := N_m.out.old (hb)
      replace N_mo : Hid (NumIn _ _ _ _ _ _ _) := N_mo.out.old (hb)
      simp only [V_a.out, V_b.out, V_m.out] at v_x
      obtain ⟨Z_x, hZ⟩ : ∃ Z, (A * B) % M = Z := ⟨_, rfl⟩
      have R_x : Hid (0 ≤ Z_x ∧ Z_x < M) := hZ ▸ mod_range _ _ P_m.out HZ.out
      have C_x : Hid (Cg M Z_x (A * B)) := hZ ▸ (Cg.mod M _).trans (C_a.out.mul C_b.out)
      rw [hZ] at v_x
      have N_x : Hid (NumIn _ _ _ _ _ _ _) := n_x
      have V_x : Hid (val B64 s_x = Z_x) := v_x
      have L_x : Hid (l_x ≤ 6) := by unfold Hid; have := L_m.out; omega
      clear n_x v_x b_x k_x hZ hb HC
      go_wp2_with fail
      have HC := mMul_any a_mo a_b a_m l_mo c_mo l_b c_b l_m c_m s_mo s_b s_m w4 N_mo.out N_b.out N_m.out (by rw [V_m.out]; exact HZ.out) (by have := L_mo.out; have := L_b.out; have := L_m.out; omega)
      refine HC.mono ?_
      rintro e w5 ⟨v, rfl, a_y, l_y, c_y, s_y, rfl, n_y, k_y, v_y, b_y, hb⟩
      replace BW : Hid (Below w.heap.size w w5) := BW.out.trans ((hb).mono BW.out.size)
      replace N_a : Hid (NumIn _ _ _ _ _ _ _) := N_a.out.old (hb)
      replace N_b : Hid (NumIn _ _ _ _ _ _ _) := N_b.out.old (hb)
      replace N_m : Hid (NumIn _ _ _ _ _ _ _) := N_m.out.old (hb)
      replace N_mo : Hid (NumIn _ _ _ _ _ _ _) := N_mo.out.old (hb)
      replace N_x : Hid (NumIn _ _ _ _ _ _ _) := N_x.out.old (hb)
      simp only [V_mo.out, V_b.out, V_m.out] at v_y
      obtain ⟨Z_y, hZ⟩ : ∃ Z, ((A + K * M) * B) % M = Z := ⟨_, rfl⟩
      have R_y : Hid (0 ≤ Z_y ∧ Z_y < M) := hZ ▸ mod_range _ _ P_m.out HZ.out
      have C_y : Hid (Cg M Z_y (A * B)) := hZ ▸ (Cg.mod M _).trans (C_mo.out.mul C_b.out)
      rw [hZ] at v_y
      have N_y : Hid (NumIn _ _ _ _ _ _ _) := n_y
      have V_y : Hid (val B64 s_y = Z_y) := v_y
      have L_y : Hid (l_y ≤ 6) := by unfold Hid; have := L_m.out; omega
      clear n_y v_y b_y k_y hZ hb HC
      go_wp2_with fail
      have HC := mSub_any a_a a_b a_m l_a c_a l_b c_b l_m c_m s_a s_b s_m w5 N_a.out N_b.out N_m.out (by rw [V_m.out]; exact HZ.out) (by have := L_a.out; have := L_b.out; have := L_m.out; omega)
      refine HC.mono ?_
      rintro e w6 ⟨v, rfl, a_p, l_p, c_p, s_p, rfl, n_p, k_p, v_p, b_p, hb⟩
      replace BW : Hid (Below w.heap.size w w6) := BW.out.trans ((hb).mono BW.out.size)
      replace N_a : Hid (NumIn _ _ _ _ _ _ _) := N_a.out.old (hb)
      replace N_b : Hid (NumIn _ _ _ _ _ _ _) := N_b.out.old (hb)
      replace N_m : Hid (NumIn _ _ _ _ _ _ _) := N_m.out.old (hb)
      replace N_mo : Hid (NumIn _ _ _ _ _ _ _) := N_mo.out.old (hb)
      replace N_x : Hid (NumIn _ _ _ _ _ _ _) := N_x.out.old (hb)
      replace N_y : Hid (NumIn _ _ _ _ _ _ _) := N_y.out.old (hb)
      simp only [V_a.out, V_b.out, V_m.out] at v_p
      obtain ⟨Z_p, hZ⟩ : ∃ Z, (A - B) % M = Z := ⟨_, rfl⟩
      have R_p : Hid (0 ≤ Z_p ∧ Z_p < M) := hZ ▸ mod_range _ _ P_m.out HZ.out
      have C_p : Hid (Cg M Z_p (A - B)) := hZ ▸ (Cg.mod M _).trans (C_a.out.sub C_b.out)
      rw [hZ] at v_p
      have N_p : Hid (NumIn _ _ _ _ _ _ _) := n_p
      have V_p : Hid (val B64 s_p = Z_p) := v_p
      have L_p : Hid (l_p ≤ 6) := by unfold Hid; have := L_m.out; omega
      clear n_p v_p b_p k_p hZ hb HC
      go_wp2_with fail
      have HC := mSub_any a_mo a_b a_m l_mo c_mo l_b c_b l_m c_m s_mo s_b s_m w6 N_mo.out N_b.out N_m.out (by rw [V_m.out]; exact HZ.out) (by have := L_mo.out; have := L_b.out; have := L_m.out; omega)
      refine HC.mono ?_
      rintro e w7 ⟨v, rfl, a_q, l_q, c_q, s_q, rfl, n_q, k_q, v_q, b_q, hb⟩
      replace BW : Hid (Below w.heap.size w w7) := BW.out.trans ((hb).mono BW.out.size)
      replace N_a : Hid (NumIn _ _ _ _ _ _ _) := N_a.out.old (hb)
      replace N_b : Hid (NumIn _ _ _ _ _ _ _) := N_b.out.old (hb)
      replace N_m : Hid (NumIn _ _ _ _ _ _ _) := N_m.out.old (hb)
      replace N_mo : Hid (NumIn _ _ _ _ _ _ _) := N_mo.out.old (hb)
      replace N_x : Hid (NumIn _ _ _ _ _ _ _) := N_x.out.old (hb)
      replace N_y : Hid (NumIn _ _ _ _ _ _ _) := N_y.out.old (hb)
      replace N_p : Hid (NumIn _ _ _ _ _ _ _) := N_p.out.old (hb)
      simp only [V_mo.out, V_b.out, V_m.out] at v_q
      obtain ⟨Z_q, hZ⟩ : ∃ Z, ((A + K * M) - B) % M = Z := ⟨_, rfl⟩
      have R_q : Hid (0 ≤ Z_q ∧ Z_q < M) := hZ ▸ mod_range _ _ P_m.out HZ.out
      have C_q : Hid (Cg M Z_q (A - B)) := hZ ▸ (Cg.mod M _).trans (C_mo.out.sub C_b.out)
      rw [hZ] at v_q
      have N_q : Hid (NumIn _ _ _ _ _ _ _) := n_q
      have V_q : Hid (val B64 s_q = Z_q) := v_q
      have L_q : Hid (l_q ≤ 6) := by unfold Hid; have := L_m.out; omega
      clear n_q v_q b_q k_q hZ hb HC
      by_cases hg : gd M (A % M) = 1
      · have HG : Hid (gd M (A % M) = 1) := hg
        clear hg
        go_wp2_with fail
        have HC := mInv_yes a_a a_m l_a c_a l_m c_m s_a s_m w7 N_a.out N_m.out (by rw [V_m.out]; exact HZ.out) (by rw [V_m.out, V_a.out]; exact HG.out) (by have := L_a.out; have := L_m.out; omega)
        rw [V_m.out, V_a.out] at HC
        refine HC.mono ?_
        rintro e w8 ⟨v, Z_r, rfl, ⟨a_r, l_r, c_r, s_r, rfl, n_r, k_r, v_r, b_r, hb⟩, i0, i1, icg⟩
        replace BW : Hid (Below w.heap.size w w8) := BW.out.trans ((hb).mono BW.out.size)
        replace N_a : Hid (NumIn _ _ _ _ _ _ _) := N_a.out.old (hb)
        replace N_b : Hid (NumIn _ _ _ _ _ _ _) := N_b.out.old (hb)
        replace N_m : Hid (NumIn _ _ _ _ _ _ _) := N_m.out.old (hb)
        replace N_mo : Hid (NumIn _ _ _ _ _ _ _) := N_mo.out.old (hb)
        replace N_x : Hid (NumIn _ _ _ _ _ _ _) := N_x.out.old (hb)
        replace N_y : Hid (NumIn _ _ _ _ _ _ _) := N_y.out.old (hb)
        replace N_p : Hid (NumIn _ _ _ _ _ _ _) := N_p.out.old (hb)
        replace N_q : Hid (NumIn _ _ _ _ _ _ _) := N_q.out.old (hb)
        have R_r : Hid (0 ≤ Z_r ∧ Z_r < M) := ⟨i0, i1⟩
        have I_r : Hid (Cg M (Z_r * A) 1) := icg
        have C_r : Hid (Cg M Z_r Z_r) := Cg.refl _ _
        have N_r : Hid (NumIn _ _ _ _ _ _ _) := n_r
        have V_r : Hid (val B64 s_r = Z_r) := v_r
        have L_r : Hid (l_r ≤ 6) := by unfold Hid; have := L_m.out; omega
        clear n_r v_r b_r k_r i0 i1 icg hb HC
        go_wp2_with fail
        have HC := mInv_yes a_mo a_m l_mo c_mo l_m c_m s_mo s_m w8 N_mo.out N_m.out (by rw [V_m.out]; exact HZ.out) (by rw [V_m.out, V_mo.out]; exact (by rw [HMO.out]; exact HG.out)) (by have := L_mo.out; have := L_m.out; omega)
        rw [V_m.out, V_mo.out] at HC
        refine HC.mono ?_
        rintro e w9 ⟨v, Z_s, rfl, ⟨a_s, l_s, c_s, s_s, rfl, n_s, k_s, v_s, b_s, hb⟩, i0, i1, icg⟩
        replace BW : Hid (Below w.heap.size w w9) := BW.out.trans ((hb).mono BW.out.size)
        replace N_a : Hid (NumIn _ _ _ _ _ _ _) := N_a.out.old (hb)
        replace N_b : Hid (NumIn _ _ _ _ _ _ _) := N_b.out.old (hb)
        replace N_m : Hid (NumIn _ _ _ _ _ _ _) := N_m.out.old (hb)
        replace N_mo : Hid (NumIn _ _ _ _ _ _ _) := N_mo.out.old (hb)
        replace N_x : Hid (NumIn _ _ _ _ _ _ _) := N_x.out.old (hb)
        replace N_y : Hid (NumIn _ _ _ _ _ _ _) := N_y.out.old (hb)
        replace N_p : Hid (NumIn _ _ _ _ _ _ _) := N_p.out.old (hb)
        replace N_q : Hid (NumIn _ _ _ _ _ _ _) := N_q.out.old (hb)
        replace N_r : Hid (NumIn _ _ _ _ _ _ _) := N_r.out.old (hb)
        have R_s : Hid (0 ≤ Z_s ∧ Z_s < M) := ⟨i0, i1⟩
        have I_s : Hid (Cg M (Z_s * (A + K * M)) 1) := icg
        have C_s : Hid (Cg M Z_s Z_s) := Cg.refl _ _
        have N_s : Hid (NumIn _ _ _ _ _ _ _) := n_s
        have V_s : Hid (val B64 s_s = Z_s) := v_s
        have L_s : Hid (l_s ≤ 6) := by unfold Hid; have := L_m.out; omega
        clear n_s v_s b_s k_s i0 i1 icg hb HC
        go_wp2_with fail
        have HC := Cmp_any a_x a_y l_x c_x l_y c_y s_x s_y w9 N_x.out N_y.out
        rw [show cmpI (val B64 s_x) (val B64 s_y) = 0 from by rw [V_x.out, V_y.out]; exact cmpI_eq (((C_x.out.trans (Cg.of_eq (rfl))).trans C_y.out.symm).eq R_x.out.1 R_x.out.2 R_y.out.1 R_y.out.2)] at HC
        refine HC.mono ?_
        rintro e w10 ⟨rfl, hd⟩
        replace BW : Hid (Below w.heap.size w w10) := BW.out.trans ((hd.below _).mono BW.out.size)
        replace N_a : Hid (NumIn _ _ _ _ _ _ _) := N_a.out.old (hd.below _)
        replace N_b : Hid (NumIn _ _ _ _ _ _ _) := N_b.out.old (hd.below _)
        replace N_m : Hid (NumIn _ _ _ _ _ _ _) := N_m.out.old (hd.below _)
        replace N_mo : Hid (NumIn _ _ _ _ _ _ _) := N_mo.out.old (hd.below _)
        replace N_x : Hid (NumIn _ _ _ _ _ _ _) := N_x.out.old (hd.below _)
        replace N_y : Hid (NumIn _ _ _ _ _ _ _) := N_y.out.old (hd.below _)
        replace N_p : Hid (NumIn _ _ _ _ _ _ _) := N_p.out.old (hd.below _)
        replace N_q : Hid (NumIn _ _ _ _ _ _ _) := N_q.out.old (hd.below _)
        replace N_r : Hid (NumIn _ _ _ _ _ _ _) := N_r.out.old (hd.below _)
        replace N_s : Hid (NumIn _ _ _ _ _ _ _) := N_s.out.old (hd.below _)
        clear hd HC
        go_wp2_with fail
        have HC := Cmp_any a_p a_q l_p c_p l_q c_q s_p s_q w10 N_p.out N_q.out
        rw [show cmpI (val B64 s_p) (val B64 s_q) = 0 from by rw [V_p.out, V_q.out]; exact cmpI_eq (((C_p.out.trans (Cg.of_eq (rfl))).trans C_q.out.symm).eq R_p.out.1 R_p.out.2 R_q.out.1 R_q.out.2)] at HC
        refine HC.mono ?_
        rintro e w11 ⟨rfl, hd⟩
        replace BW : Hid (Below w.heap.size w w11) := BW.out.trans ((hd.below _).mono BW.out.size)
        replace N_a : Hid (NumIn _ _ _ _ _ _ _) := N_a.out.old (hd.below _)
        replace N_b : Hid (NumIn _ _ _ _ _ _ _) := N_b.out.old (hd.below _)
        replace N_m : Hid (NumIn _ _ _ _ _ _ _) := N_m.out.old (hd.below _)
        replace N_mo : Hid (NumIn _ _ _ _ _ _ _) := N_mo.out.old (hd.below _)
        replace N_x : Hid (NumIn _ _ _ _ _ _ _) := N_x.out.old (hd.below _)
        replace N_y : Hid (NumIn _ _ _ _ _ _ _) := N_y.out.old (hd.below _)
        replace N_p : Hid (NumIn _ _ _ _ _ _ _) := N_p.out.old (hd.below _)
        replace N_q : Hid (NumIn _ _ _ _ _ _ _) := N_q.out.old (hd.below _)
        replace N_r : Hid (NumIn _ _ _ _ _ _ _) := N_r.out.old (hd.below _)
        replace N_s : Hid (NumIn _ _ _ _ _ _ _) := N_s.out.old (hd.below _)
        clear hd HC
        go_wp2_with fail
        have HC := Cmp_any a_r a_s l_r c_r l_s c_s s_r s_s w11 N_r.out N_s.out
        rw [show cmpI (val B64 s_r) (val B64 s_s) = 0 from by rw [V_r.out, V_s.out]; exact cmpI_eq ((inv_one I_r.out (((Cg.refl M Z_s).mul C_mo.out.symm).trans I_s.out)).eq R_r.out.1 R_r.out.2 R_s.out.1 R_s.out.2)] at HC
        refine HC.mono ?_
        rintro e w12 ⟨rfl, hd⟩
        replace BW : Hid (Below w.heap.size w w12) := BW.out.trans ((hd.below _).mono BW.out.size)
        replace N_a : Hid (NumIn _ _ _ _ _ _ _) := N_a.out.old (hd.below _)
        replace N_b : Hid (NumIn _ _ _ _ _ _ _) := N_b.out.old (hd.below _)
        replace N_m : Hid (NumIn _ _ _ _ _ _ _) := N_m.out.old (hd.below _)
        replace N_mo : Hid (NumIn _ _ _ _ _ _ _) := N_mo.out.old (hd.below _)
        replace N_x : Hid (NumIn _ _ _ _ _ _ _) := N_x.out.old (hd.below _)
        replace N_y : Hid (NumIn _ _ _ _ _ _ _) := N_y.out.old (hd.below _)
        replace N_p : Hid (NumIn _ _ _ _ _ _ _) := N_p.out.old (hd.below _)
        replace N_q : Hid (NumIn _ _ _ _ _ _ _) := N_q.out.old (hd.below _)
        replace N_r : Hid (NumIn _ _ _ _ _ _ _) := N_r.out.old (hd.below _)
        replace N_s : Hid (NumIn _ _ _ _ _ _ _) := N_s.out.old (hd.below _)
        clear hd HC
        go_wp2_with fail
        have HC := Cmp_any a_x a_m l_x c_x l_m c_m s_x s_m w12 N_x.out N_m.out
        rw [show cmpI (val B64 s_x) (val B64 s_m) = -1 from by rw [V_x.out, V_m.out]; exact cmpI_lt R_x.out.2] at HC
        refine HC.mono ?_
        rintro e w13 ⟨rfl, hd⟩
        replace BW : Hid (Below w.heap.size w w13) := BW.out.trans ((hd.below _).mono BW.out.size)
        replace N_a : Hid (NumIn _ _ _ _ _ _ _) := N_a.out.old (hd.below _)
        replace N_b : Hid (NumIn _ _ _ _ _ _ _) := N_b.out.old (hd.below _)
        replace N_m : Hid (NumIn _ _ _ _ _ _ _) := N_m.out.old (hd.below _)
        replace N_mo : Hid (NumIn _ _ _ _ _ _ _) := N_mo.out.old (hd.below _)
        replace N_x : Hid (NumIn _ _ _ _ _ _ _) := N_x.out.old (hd.below _)
        replace N_y : Hid (NumIn _ _ _ _ _ _ _) := N_y.out.old (hd.below _)
        replace N_p : Hid (NumIn _ _ _ _ _ _ _) := N_p.out.old (hd.below _)
        replace N_q : Hid (NumIn _ _ _ _ _ _ _) := N_q.out.old (hd.below _)
        replace N_r : Hid (NumIn _ _ _ _ _ _ _) := N_r.out.old (hd.below _)
        replace N_s : Hid (NumIn _ _ _ _ _ _ _) := N_s.out.old (hd.below _)
        clear hd HC
        go_wp2
        go_ret
        exact ⟨rfl, BW.out⟩
      · have HG : Hid (gd M (A % M) ≠ 1) := hg
        clear hg
        go_wp2_with fail
        have HC := mInv_no a_a a_m l_a c_a l_m c_m s_a s_m w7 N_a.out N_m.out (by rw [V_m.out]; exact HZ.out) (by rw [V_m.out, V_a.out]; exact HG.out) (by have := L_a.out; have := L_m.out; omega)
        refine HC.mono ?_
        rintro e w8 ⟨rfl, hb⟩
        replace BW : Hid (Below w.heap.size w w8) := BW.out.trans ((hb).mono BW.out.size)
        replace N_a : Hid (NumIn _ _ _ _ _ _ _) := N_a.out.old (hb)
        replace N_b : Hid (NumIn _ _ _ _ _ _ _) := N_b.out.old (hb)
        replace N_m : Hid (NumIn _ _ _ _ _ _ _) := N_m.out.old (hb)
        replace N_mo : Hid (NumIn _ _ _ _ _ _ _) := N_mo.out.old (hb)
        replace N_x : Hid (NumIn _ _ _ _ _ _ _) := N_x.out.old (hb)
        replace N_y : Hid (NumIn _ _ _ _ _ _ _) := N_y.out.old (hb)
        replace N_p : Hid (NumIn _ _ _ _ _ _ _) := N_p.out.old (hb)
        replace N_q : Hid (NumIn _ _ _ _ _ _ _) := N_q.out.old (hb)
        clear hb HC
        go_wp2_with fail
        have HC := mInv_no a_mo a_m l_mo c_mo l_m c_m s_mo s_m w8 N_mo.out N_m.out (by rw [V_m.out]; exact HZ.out) (by rw [V_m.out, V_mo.out]; exact (by rw [HMO.out]; exact HG.out)) (by have := L_mo.out; have := L_m.out; omega)
        refine HC.mono ?_
        rintro e w9 ⟨rfl, hb⟩
        replace BW : Hid (Below w.heap.size w w9) := BW.out.trans ((hb).mono BW.out.size)
        replace N_a : Hid (NumIn _ _ _ _ _ _ _) := N_a.out.old (hb)
        replace N_b : Hid (NumIn _ _ _ _ _ _ _) := N_b.out.old (hb)
        replace N_m : Hid (NumIn _ _ _ _ _ _ _) := N_m.out.old (hb)
        replace N_mo : Hid (NumIn _ _ _ _ _ _ _) := N_mo.out.old (hb)
        replace N_x : Hid (NumIn _ _ _ _ _ _ _) := N_x.out.old (hb)
        replace N_y : Hid (NumIn _ _ _ _ _ _ _) := N_y.out.old (hb)
        replace N_p : Hid (NumIn _ _ _ _ _ _ _) := N_p.out.old (hb)
        replace N_q : Hid (NumIn _ _ _ _ _ _ _) := N_q.out.old (hb)
        clear hb HC
        go_wp2_with fail
        have HC := Cmp_any a_x a_y l_x c_x l_y c_y s_x s_y w9 N_x.out N_y.out
        rw [show cmpI (val B64 s_x) (val B64 s_y) = 0 from by rw [V_x.out, V_y.out]; exact cmpI_eq (((C_x.out.trans (Cg.of_eq (rfl))).trans C_y.out.symm).eq R_x.out.1 R_x.out.2 R_y.out.1 R_y.out.2)] at HC
        refine HC.mono ?_
        rintro e w10 ⟨rfl, hd⟩
        replace BW : Hid (Below w.heap.size w w10) := BW.out.trans ((hd.below _).mono BW.out.size)
        replace N_a : Hid (NumIn _ _ _ _ _ _ _) := N_a.out.old (hd.below _)
        replace N_b : Hid (NumIn _ _ _ _ _ _ _) := N_b.out.old (hd.below _)
        replace N_m : Hid (NumIn _ _ _ _ _ _ _) := N_m.out.old (hd.below _)
        replace N_mo : Hid (NumIn _ _ _ _ _ _ _) := N_mo.out.old (hd.below _)
        replace N_x : Hid (NumIn _ _ _ _ _ _ _) := N_x.out.old (hd.below _)
        replace N_y : Hid (NumIn _ _ _ _ _ _ _) := N_y.out.old (hd.below _)
        replace N_p : Hid (NumIn _ _ _ _ _ _ _) := N_p.out.old (hd.below _)
        replace N_q : Hid (NumIn _ _ _ _ _ _ _) := N_q.out.old (hd.below _)
        clear hd HC
        go_wp2_with fail
        have HC := Cmp_any a_p a_q l_p c_p l_q c_q s_p s_q w10 N_p.out N_q.out
        rw [show cmpI (val B64 s_p) (val B64 s_q) = 0 from by rw [V_p.out, V_q.out]; exact cmpI_eq (((C_p.out.trans (Cg.of_eq (rfl))).trans C_q.out.symm).eq R_p.out.1 R_p.out.2 R_q.out.1 R_q.out.2)] at HC
        refine HC.mono ?_
        rintro e w11 ⟨rfl, hd⟩
        replace BW : Hid (Below w.heap.size w w11) := BW.out.trans ((hd.below _).mono BW.out.size)
        replace N_a : Hid (NumIn _ _ _ _ _ _ _) := N_a.out.old (hd.below _)
        replace N_b : Hid (NumIn _ _ _ _ _ _ _) := N_b.out.old (hd.below _)
        replace N_m : Hid (NumIn _ _ _ _ _ _ _) := N_m.out.old (hd.below _)
        replace N_mo : Hid (NumIn _ _ _ _ _ _ _) := N_mo.out.old (hd.below _)
        replace N_x : Hid (NumIn _ _ _ _ _ _ _) := N_x.out.old (hd.below _)
        replace N_y : Hid (NumIn _ _ _ _ _ _ _) := N_y.out.old (hd.below _)
        replace N_p : Hid (NumIn _ _ _ _ _ _ _) := N_p.out.old (hd.below _)
        replace N_q : Hid (NumIn _ _ _ _ _ _ _) := N_q.out.old (hd.below _)
        clear hd HC
        go_wp2_with fail
        have HC := Cmp_any none none 0 0 0 0 [] [] w11 NumIn.nil NumIn.nil
        rw [cmpI_eq rfl] at HC
        refine HC.mono ?_
        rintro e w12 ⟨rfl, hd⟩
        replace BW : Hid (Below w.heap.size w w12) := BW.out.trans ((hd.below _).mono BW.out.size)
        replace N_a : Hid (NumIn _ _ _ _ _ _ _) := N_a.out.old (hd.below _)
        replace N_b : Hid (NumIn _ _ _ _ _ _ _) := N_b.out.old (hd.below _)
        replace N_m : Hid (NumIn _ _ _ _ _ _ _) := N_m.out.old (hd.below _)
        replace N_mo : Hid (NumIn _ _ _ _ _ _ _) := N_mo.out.old (hd.below _)
        replace N_x : Hid (NumIn _ _ _ _ _ _ _) := N_x.out.old (hd.below _)
        replace N_y : Hid (NumIn _ _ _ _ _ _ _) := N_y.out.old (hd.below _)
        replace N_p : Hid (NumIn _ _ _ _ _ _ _) := N_p.out.old (hd.below _)
        replace N_q : Hid (NumIn _ _ _ _ _ _ _) := N_q.out.old (hd.below _)
        clear hd HC
        go_wp2_with fail
        have HC := Cmp_any a_x a_m l_x c_x l_m c_m s_x s_m w12 N_x.out N_m.out
        rw [show cmpI (val B64 s_x) (val B64 s_m) = -1 from by rw [V_x.out, V_m.out]; exact cmpI_lt R_x.out.2] at HC
        refine HC.mono ?_
        rintro e w13 ⟨rfl, hd⟩
        replace BW : Hid (Below w.heap.size w w13) := BW.out.trans ((hd.below _).mono BW.out.size)
        replace N_a : Hid (NumIn _ _ _ _ _ _ _) := N_a.out.old (hd.below _)
        replace N_b : Hid (NumIn _ _ _ _ _ _ _) := N_b.out.old (hd.below _)
        replace N_m : Hid (NumIn _ _ _ _ _ _ _) := N_m.out.old (hd.below _)
        replace N_mo : Hid (NumIn _ _ _ _ _ _ _) := N_mo.out.old (hd.below _)
        replace N_x : Hid (NumIn _ _ _ _ _ _ _) := N_x.out.old (hd.below _)
        replace N_y : Hid (NumIn _ _ _ _ _ _ _) := N_y.out.old (hd.below _)
        replace N_p : Hid (NumIn _ _ _ _ _ _ _) := N_p.out.old (hd.below _)
        replace N_q : Hid (NumIn _ _ _ _ _ _ _) := N_q.out.old (hd.below _)
        clear hd HC
        go_wp2
        go_ret
        exact ⟨rfl, BW.out⟩
end Go.Proofs.Ytjaokpgccnkipaa
