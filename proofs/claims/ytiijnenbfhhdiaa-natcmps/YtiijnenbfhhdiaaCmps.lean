/-
  The walk of NatCmps.
-/
import Derived.Test.YtiijnenbfhhdiaaRefL
namespace Go.Proofs.Ytiijnenbfhhdiaa
open Go.RowKit
set_option linter.unusedVariables false
set_option linter.unusedSimpArgs false

set_option maxHeartbeats 4000000 in
/-- How any number stands to any other one. -/
theorem NatCmps_walk (a_a : Option Addr) (l_a c_a : Nat) (z_a : List Int) (a_b : Option Addr) (l_b c_b : Nat) (z_b : List Int) (w : World) (came_a : Came .u64 w a_a l_a c_a z_a) (came_b : Came .u64 w a_b l_b c_b z_b) :
    Calls Try.prog 5 #[.slice a_a l_a c_a, .slice a_b l_b c_b] w fun e w' => e = .returned (.bool true) ∧ Below w.heap.size w w' := by
  have le_a := came_a.le
  have le_b := came_b.le
  have C_a : Hid (Came .u64 w a_a l_a c_a z_a) := came_a
  have C_b : Hid (Came .u64 w a_b l_b c_b z_b) := came_b
  clear came_a came_b
  by_cases hlong : 70 < l_a ∨ 70 < l_b
  · go_enter Try.func5, Try.ntmps5
    go_wp2_with fail
    refine (Awake_any w).mono ?_
    rintro e wA ⟨rfl, hb⟩
    have BW : Hid (Below w.heap.size w wA) := hb
    replace C_a : Hid (Came .u64 wA a_a l_a c_a z_a) := C_a.out.old hb
    replace C_b : Hid (Came .u64 wA a_b l_b c_b z_b) := C_b.out.old hb
    clear hb
    have HC := long2 a_a a_b l_a c_a l_b c_b wA le_a le_b
    rw [decide_eq_true hlong] at HC
    go_wp2_with fail
    refine HC.mono ?_
    rintro e wB ⟨rfl, hb⟩
    replace BW : Hid (Below w.heap.size w wB) := BW.out.trans (hb.mono BW.out.size)
    replace C_a : Hid (Came .u64 wB a_a l_a c_a z_a) := C_a.out.old hb
    replace C_b : Hid (Came .u64 wB a_b l_b c_b z_b) := C_b.out.old hb
    clear hb HC
    clear C_a C_b
    go_wp2
    go_ret
    exact ⟨rfl, BW.out⟩
  · go_enter Try.func5, Try.ntmps5
    go_wp2_with fail
    refine (Awake_any w).mono ?_
    rintro e wA ⟨rfl, hb⟩
    have BW : Hid (Below w.heap.size w wA) := hb
    replace C_a : Hid (Came .u64 wA a_a l_a c_a z_a) := C_a.out.old hb
    replace C_b : Hid (Came .u64 wA a_b l_b c_b z_b) := C_b.out.old hb
    clear hb
    have HC := long2 a_a a_b l_a c_a l_b c_b wA le_a le_b
    rw [decide_eq_false hlong] at HC
    go_wp2_with fail
    refine HC.mono ?_
    rintro e wB ⟨rfl, hb⟩
    replace BW : Hid (Below w.heap.size w wB) := BW.out.trans (hb.mono BW.out.size)
    replace C_a : Hid (Came .u64 wB a_a l_a c_a z_a) := C_a.out.old hb
    replace C_b : Hid (Came .u64 wB a_b l_b c_b z_b) := C_b.out.old hb
    clear hb HC
    have N_a : Hid (NumIn .u64 B64 wB a_a l_a c_a (z_a.take l_a)) := C_a.out.nat (by omega)
    have L_a : Hid (l_a ≤ 70) := by unfold Hid; omega
    have N_b : Hid (NumIn .u64 B64 wB a_b l_b c_b (z_b.take l_b)) := C_b.out.nat (by omega)
    have L_b : Hid (l_b ≤ 70) := by unfold Hid; omega
    clear hlong C_a le_a C_b le_b
    generalize z_a.take l_a = s_a at *
    have P_a : Hid (0 ≤ val B64 s_a) := val_nonneg B64_pos N_a.out.dg
    obtain ⟨A, V_a⟩ : ∃ X, Hid (val B64 s_a = X) := ⟨_, rfl⟩
    replace P_a : Hid (0 ≤ A) := by have := P_a.out; rw [V_a.out] at this; exact this
    generalize z_b.take l_b = s_b at *
    have P_b : Hid (0 ≤ val B64 s_b) := val_nonneg B64_pos N_b.out.dg
    obtain ⟨B, V_b⟩ : ∃ X, Hid (val B64 s_b = X) := ⟨_, rfl⟩
    replace P_b : Hid (0 ≤ B) := by have := P_b.out; rw [V_b.out] at this; exact this
    go_wp2_with fail
    have HC := rOf_any a_a l_a c_a s_a wB N_a.out (by have := L_a.out; omega)
    refine HC.mono ?_
    rintro e w1 ⟨v, rfl, a_d, l_d, c_d, s_d, rfl, n_d, k_d, v_d, b_d, hb⟩
    replace BW : Hid (Below w.heap.size w w1) := BW.out.trans ((hb).mono BW.out.size)
    replace N_a : Hid (NumIn _ _ _ _ _ _ _) := N_a.out.old (hb)
    replace N_b : Hid (NumIn _ _ _ _ _ _ _) := N_b.out.old (hb)
    have N_d : Hid (NumIn _ _ _ _ _ _ _) := n_d
    have K_d : Hid (Canon s_d) := k_d
    have V_d : Hid (val D16 s_d = A) := by unfold Hid; rw [v_d]; rw [V_a.out]
    have L_d : Hid (l_d ≤ 280) := by unfold Hid; have := L_a.out; omega
    clear n_d v_d b_d k_d hb HC
    go_wp2_with fail
    have HC := rOf_any a_b l_b c_b s_b w1 N_b.out (by have := L_b.out; omega)
    refine HC.mono ?_
    rintro e w2 ⟨v, rfl, a_e, l_e, c_e, s_e, rfl, n_e, k_e, v_e, b_e, hb⟩
    replace BW : Hid (Below w.heap.size w w2) := BW.out.trans ((hb).mono BW.out.size)
    replace N_a : Hid (NumIn _ _ _ _ _ _ _) := N_a.out.old (hb)
    replace N_b : Hid (NumIn _ _ _ _ _ _ _) := N_b.out.old (hb)
    replace N_d : Hid (NumIn _ _ _ _ _ _ _) := N_d.out.old (hb)
    have N_e : Hid (NumIn _ _ _ _ _ _ _) := n_e
    have K_e : Hid (Canon s_e) := k_e
    have V_e : Hid (val D16 s_e = B) := by unfold Hid; rw [v_e]; rw [V_b.out]
    have L_e : Hid (l_e ≤ 280) := by unfold Hid; have := L_b.out; omega
    clear n_e v_e b_e k_e hb HC
    obtain ⟨c, HCV⟩ : ∃ c, Hid (cmpI A B = c) := ⟨_, rfl⟩
    have HCN : Hid (cmpI B A = -c) := by
      have h := HCV.out
      rcases Int.lt_trichotomy A B with hl | hl | hl
      · rw [cmpI_lt hl] at h; unfold Hid; rw [cmpI_gt hl, ← h]; rfl
      · rw [cmpI_eq hl] at h; unfold Hid; rw [cmpI_eq hl.symm, ← h]; rfl
      · rw [cmpI_gt hl] at h; unfold Hid; rw [cmpI_lt hl, ← h]
    have hcr : -1 ≤ c ∧ c ≤ 1 := by rw [← HCV.out]; unfold cmpI; split <;> (try split) <;> omega
    have hc1 := hcr.1
    have hc2 := hcr.2
    clear hcr
    go_wp2_with fail
    have HC := Cmp_any a_a a_b l_a c_a l_b c_b s_a s_b w2 N_a.out N_b.out
    rw [show cmpI (val B64 s_a) (val B64 s_b) = c from by rw [V_a.out, V_b.out, HCV.out]] at HC
    refine HC.mono ?_
    rintro e w3 ⟨rfl, hd⟩
    replace BW : Hid (Below w.heap.size w w3) := BW.out.trans ((hd.below _).mono BW.out.size)
    replace N_a : Hid (NumIn _ _ _ _ _ _ _) := N_a.out.old (hd.below _)
    replace N_b : Hid (NumIn _ _ _ _ _ _ _) := N_b.out.old (hd.below _)
    replace N_d : Hid (NumIn _ _ _ _ _ _ _) := N_d.out.old (hd.below _)
    replace N_e : Hid (NumIn _ _ _ _ _ _ _) := N_e.out.old (hd.below _)
    clear hd HC
    go_wp2_with fail
    have HC := rCmp_any a_d a_e l_d c_d l_e c_e s_d s_e w3 N_d.out N_e.out K_d.out K_e.out (by have := L_d.out; omega) (by have := L_e.out; omega)
    rw [show cmpI (val D16 s_d) (val D16 s_e) = c from by rw [V_d.out, V_e.out, HCV.out]] at HC
    refine HC.mono ?_
    rintro e w4 ⟨rfl, hd⟩
    replace BW : Hid (Below w.heap.size w w4) := BW.out.trans ((hd.below _).mono BW.out.size)
    replace N_a : Hid (NumIn _ _ _ _ _ _ _) := N_a.out.old (hd.below _)
    replace N_b : Hid (NumIn _ _ _ _ _ _ _) := N_b.out.old (hd.below _)
    replace N_d : Hid (NumIn _ _ _ _ _ _ _) := N_d.out.old (hd.below _)
    replace N_e : Hid (NumIn _ _ _ _ _ _ _) := N_e.out.old (hd.below _)
    clear hd HC
    go_wp2_with fail
    have HC := Cmp_any a_b a_a l_b c_b l_a c_a s_b s_a w4 N_b.out N_a.out
    rw [show cmpI (val B64 s_b) (val B64 s_a) = (-c) from by rw [V_a.out, V_b.out, HCN.out]] at HC
    refine HC.mono ?_
    rintro e w5 ⟨rfl, hd⟩
    replace BW : Hid (Below w.heap.size w w5) := BW.out.trans ((hd.below _).mono BW.out.size)
    replace N_a : Hid (NumIn _ _ _ _ _ _ _) := N_a.out.old (hd.below _)
    replace N_b : Hid (NumIn _ _ _ _ _ _ _) := N_b.out.old (hd.below _)
    replace N_d : Hid (NumIn _ _ _ _ _ _ _) := N_d.out.old (hd.below _)
    replace N_e : Hid (NumIn _ _ _ _ _ _ _) := N_e.out.old (hd.below _)
    clear hd HC
    go_wp2_with fail
    have HC := rCmp_any a_d a_e l_d c_d l_e c_e s_d s_e w5 N_d.out N_e.out K_d.out K_e.out (by have := L_d.out; omega) (by have := L_e.out; omega)
    rw [show cmpI (val D16 s_d) (val D16 s_e) = c from by rw [V_d.out, V_e.out, HCV.out]] at HC
    refine HC.mono ?_
    rintro e w6 ⟨rfl, hd⟩
    replace BW : Hid (Below w.heap.size w w6) := BW.out.trans ((hd.below _).mono BW.out.size)
    replace N_a : Hid (NumIn _ _ _ _ _ _ _) := N_a.out.old (hd.below _)
    replace N_b : Hid (NumIn _ _ _ _ _ _ _) := N_b.out.old (hd.below _)
    replace N_d : Hid (NumIn _ _ _ _ _ _ _) := N_d.out.old (hd.below _)
    replace N_e : Hid (NumIn _ _ _ _ _ _ _) := N_e.out.old (hd.below _)
    clear hd HC
    have hown0 := own_lit0 24 .u64 w6 w6.heap.size (Nat.le_refl _)
    have hb0 : Below w6.heap.size w6 (w6.alloc (.cells #[] 24)) := (Below.refl _ _).alloc (Nat.le_refl _) _
    have hlies := N_a.out.lies.old hb0
    have hlen0 := L_a.out
    go_wp2_with (at_builtin; refine wpList_unguard (by rfl) ?_; refine wpList_append_nums rfl _ _ 23 rfl 24 .u64 8 Try.underlying23 Try.infoU w6.heap.size _ _ rfl hown0 a_a l_a c_a s_a rfl hlies N_a.out.nn (by simp; omega) (by decide) w6 hb0 hb0.size ?_)
    intro v1 wP hown1 hb1 _ _
    have hown2 : Own 24 .u64 wP w6.heap.size v1 s_a := by simpa using hown1
    have hlen1 : s_a.length = l_a := N_a.out.len
    have hbs := hb1.size
    clear hlies hown0 hown1 hb0
    go_wp2_with (at_builtin; refine wpList_unguard (by rfl) ?_; refine wpList_append_one rfl _ _ 23 rfl 24 .u64 8 Try.underlying23 Try.infoU w6.heap.size v1 s_a 0 (by rfl) hown2 (by rfl) (by omega) (by decide) w6 hb1 hbs ?_)
    intro v2 wQ hown3 hb2
    have hdg : Dg B64 (s_a ++ [0]) := N_a.out.dg.append (Dg.cons (by decide) (Dg.nil _))
    have hlen2 : (s_a ++ [(0 : Int)]).length = l_a + 1 := by simp [hlen1]
    obtain ⟨a_x, c_x, hv2, n_x⟩ := hown3.num (B := B64) hdg (by omega)
    subst hv2
    rw [hlen2] at n_x ⊢
    replace BW : Hid (Below w.heap.size w wQ) := BW.out.trans ((hb2).mono BW.out.size)
    replace N_a : Hid (NumIn _ _ _ _ _ _ _) := N_a.out.old (hb2)
    replace N_b : Hid (NumIn _ _ _ _ _ _ _) := N_b.out.old (hb2)
    replace N_d : Hid (NumIn _ _ _ _ _ _ _) := N_d.out.old (hb2)
    replace N_e : Hid (NumIn _ _ _ _ _ _ _) := N_e.out.old (hb2)
    have V_x : Hid (val B64 (s_a ++ [0]) = A) := by unfold Hid; rw [val_snoc, V_a.out]; simp
    have N_x : Hid (NumIn .u64 B64 wQ a_x (l_a + 1) c_x (s_a ++ [0])) := n_x
    clear n_x hb2 hlen2 hdg hown3 hown2 hlen1 hlen0 hbs hb1
    generalize s_a ++ [0] = s_x at *
    obtain ⟨l_x, hlx⟩ : ∃ n, l_a + 1 = n := ⟨_, rfl⟩
    rw [hlx] at N_x ⊢
    clear hlx
    go_wp2_with fail
    have HC := Cmp_any a_a a_x l_a c_a l_x c_x s_a s_x wQ N_a.out N_x.out
    rw [show cmpI (val B64 s_a) (val B64 s_x) = 0 from cmpI_eq (by rw [V_a.out, V_x.out])] at HC
    refine HC.mono ?_
    rintro e w7 ⟨rfl, hd⟩
    replace BW : Hid (Below w.heap.size w w7) := BW.out.trans ((hd.below _).mono BW.out.size)
    replace N_a : Hid (NumIn _ _ _ _ _ _ _) := N_a.out.old (hd.below _)
    replace N_b : Hid (NumIn _ _ _ _ _ _ _) := N_b.out.old (hd.below _)
    replace N_d : Hid (NumIn _ _ _ _ _ _ _) := N_d.out.old (hd.below _)
    replace N_e : Hid (NumIn _ _ _ _ _ _ _) := N_e.out.old (hd.below _)
    replace N_x : Hid (NumIn _ _ _ _ _ _ _) := N_x.out.old (hd.below _)
    clear hd HC
    clear N_a N_b N_d N_e N_x
    go_wp2
    go_ret
    exact ⟨rfl, BW.out⟩
end Go.Proofs.Ytiijnenbfhhdiaa
