/-
  The walk of NatParts.
-/
import Derived.Test.YtiijnenbfhhdiacApp
namespace Go.Proofs.Ytiijnenbfhhdiac
open Go.RowKit
set_option linter.unusedVariables false
set_option linter.unusedSimpArgs false

set_option maxHeartbeats 4000000 in
/-- Bytes in two parts. -/
theorem NatParts_walk (a_a : Option Addr) (l_a c_a : Nat) (z_a : List Int) (a_b : Option Addr) (l_b c_b : Nat) (z_b : List Int) (w : World) (came_a : Came .u8 w a_a l_a c_a z_a) (came_b : Came .u8 w a_b l_b c_b z_b) (reach_a : l_a ≤ 140737488351232) (reach_b : l_b ≤ 140737488351232) :
    Calls Try.prog 3 #[.slice a_a l_a c_a, .slice a_b l_b c_b] w fun e w' => e = .returned (.bool true) ∧ Below w.heap.size w w' := by
  have C_a : Hid (Came .u8 w a_a l_a c_a z_a) := came_a
  have C_b : Hid (Came .u8 w a_b l_b c_b z_b) := came_b
  clear came_a came_b
  by_cases hlong : 512 < l_a + l_b
  · go_enter Try.func3, Try.ntmps3
    go_wp2_with fail
    refine (Awake_any w).mono ?_
    rintro e wA ⟨rfl, hb⟩
    have BW : Hid (Below w.heap.size w wA) := hb
    replace C_a : Hid (Came .u8 wA a_a l_a c_a z_a) := C_a.out.old hb
    replace C_b : Hid (Came .u8 wA a_b l_b c_b z_b) := C_b.out.old hb
    clear hb
    clear C_a C_b
    go_wp2
    go_ret
    exact ⟨rfl, BW.out⟩
  have hsm : l_a + l_b ≤ 512 := by omega
  clear hlong
  go_enter Try.func3, Try.ntmps3
  go_wp2_with fail
  refine (Awake_any w).mono ?_
  rintro e wA ⟨rfl, hb⟩
  have BW : Hid (Below w.heap.size w wA) := hb
  replace C_a : Hid (Came .u8 wA a_a l_a c_a z_a) := C_a.out.old hb
  replace C_b : Hid (Came .u8 wA a_b l_b c_b z_b) := C_b.out.old hb
  clear hb
  have N_a : Hid (NumIn .u8 256 wA a_a l_a c_a (z_a.take l_a)) := C_a.out.bytes (by omega)
  clear C_a
  generalize z_a.take l_a = s_a at *
  have N_b : Hid (NumIn .u8 256 wA a_b l_b c_b (z_b.take l_b)) := C_b.out.bytes (by omega)
  clear C_b
  generalize z_b.take l_b = s_b at *
  have LA : Hid (s_a.length = l_a) := N_a.out.len
  have LB : Hid (s_b.length = l_b) := N_b.out.len
  obtain ⟨A, VA⟩ : ∃ X, Hid (val 256 s_a.reverse = X) := ⟨_, rfl⟩
  obtain ⟨B, VB⟩ : ∃ X, Hid (val 256 s_b.reverse = X) := ⟨_, rfl⟩
  have hDb : Dg 256 s_b.reverse := fun x hx => N_b.out.dg x (by simpa using hx)
  have PB : Hid (0 ≤ B ∧ B < 256 ^ l_b) := by
    have h1 := val_nonneg (B := 256) (by decide) hDb
    have h2 := val_lt (B := 256) (by decide) hDb
    rw [VB.out] at h1 h2
    rw [List.length_reverse, LB.out] at h2
    exact ⟨h1, h2⟩
  clear hDb
  go_wp2_with fail
  have HC := Read_yes a_a l_a c_a s_a wA N_a.out (by omega)
  refine HC.mono ?_
  rintro e w1 ⟨v, rfl, a_x, l_x, c_x, s_x, rfl, n_x, k_x, v_x, b_x, hb⟩
  replace BW : Hid (Below w.heap.size w w1) := BW.out.trans ((hb).mono BW.out.size)
  replace N_a : Hid (NumIn _ _ _ _ _ _ _) := N_a.out.old (hb)
  replace N_b : Hid (NumIn _ _ _ _ _ _ _) := N_b.out.old (hb)
  have N_x : Hid (NumIn _ _ _ _ _ _ _) := n_x
  have V_x : Hid (val B64 s_x = A) := by unfold Hid; rw [v_x]; rw [VA.out]
  have L_x : Hid (l_x ≤ 64) := by unfold Hid; exact b_x
  clear n_x v_x b_x hb HC
  go_wp2_with fail
  have HC := Read_yes a_b l_b c_b s_b w1 N_b.out (by omega)
  refine HC.mono ?_
  rintro e w2 ⟨v, rfl, a_y, l_y, c_y, s_y, rfl, n_y, k_y, v_y, b_y, hb⟩
  replace BW : Hid (Below w.heap.size w w2) := BW.out.trans ((hb).mono BW.out.size)
  replace N_a : Hid (NumIn _ _ _ _ _ _ _) := N_a.out.old (hb)
  replace N_b : Hid (NumIn _ _ _ _ _ _ _) := N_b.out.old (hb)
  replace N_x : Hid (NumIn _ _ _ _ _ _ _) := N_x.out.old (hb)
  have N_y : Hid (NumIn _ _ _ _ _ _ _) := n_y
  have V_y : Hid (val B64 s_y = B) := by unfold Hid; rw [v_y]; rw [VB.out]
  have L_y : Hid (l_y ≤ 64) := by unfold Hid; exact b_y
  clear n_y v_y b_y hb HC
  have hown0 := own_lit0 5 .u8 w2 w2.heap.size (Nat.le_refl _)
  have hb0 : Below w2.heap.size w2 (w2.alloc (.cells #[] 5)) := (Below.refl _ _).alloc (Nat.le_refl _) _
  have hlies := N_a.out.lies.old hb0
  go_wp2_with (at_builtin; refine wpList_append_nums rfl _ _ 22 rfl 5 .u8 1 Try.underlying22 Try.infoB w2.heap.size _ _ rfl hown0 a_a l_a c_a s_a rfl hlies N_a.out.nn (by simp; omega) (by decide) w2 hb0 (hb0).size ?_)
  intro v1 wP hown1 hbP _ _
  clear hlies
  have hown1' : Own 5 .u8 wP w2.heap.size v1 s_a := by simpa using hown1
  clear hown1 hown0 hb0
  have hlies := N_b.out.lies.old hbP
  go_wp2_with (at_builtin; refine wpList_append_nums rfl _ _ 22 rfl 5 .u8 1 Try.underlying22 Try.infoB w2.heap.size _ _ rfl hown1' a_b l_b c_b s_b rfl hlies N_b.out.nn (by rw [LA.out]; omega) (by decide) w2 hbP (hbP).size ?_)
  intro v2 wQ hown2 hbQ _ _
  clear hlies
  obtain ⟨a_ab, c_ab, hv2, hnum⟩ := hown2.num (B := 256) (N_a.out.dg.append N_b.out.dg) (by simp only [List.length_append]; rw [LA.out, LB.out]; omega)
  subst hv2
  have hlab : (s_a ++ s_b).length = l_a + l_b := by simp only [List.length_append]; rw [LA.out, LB.out]
  rw [hlab] at hnum ⊢
  have N_ab : Hid (NumIn .u8 256 wQ a_ab (l_a + l_b) c_ab (s_a ++ s_b)) := hnum
  have VAB : Hid (val 256 (s_a ++ s_b).reverse = B + 256 ^ l_b * A) := by unfold Hid; rw [List.reverse_append, val_append, VA.out, VB.out, List.length_reverse, LB.out]
  clear hown1' hown2 hbP hlab hnum
  replace BW : Hid (Below w.heap.size w wQ) := BW.out.trans ((hbQ).mono BW.out.size)
  replace N_a : Hid (NumIn _ _ _ _ _ _ _) := N_a.out.old (hbQ)
  replace N_b : Hid (NumIn _ _ _ _ _ _ _) := N_b.out.old (hbQ)
  replace N_x : Hid (NumIn _ _ _ _ _ _ _) := N_x.out.old (hbQ)
  replace N_y : Hid (NumIn _ _ _ _ _ _ _) := N_y.out.old (hbQ)
  clear hbQ
  generalize s_a ++ s_b = s_ab at *
  obtain ⟨l_ab, hlab⟩ : ∃ n, l_a + l_b = n := ⟨_, rfl⟩
  rw [hlab] at N_ab ⊢
  have HLAB : Hid (l_ab ≤ 512) := by unfold Hid; omega
  clear hlab
  go_wp2_with fail
  have HC := Read_yes a_ab l_ab c_ab s_ab wQ N_ab.out HLAB.out
  refine HC.mono ?_
  rintro e w3 ⟨v, rfl, a_z, l_z, c_z, s_z, rfl, n_z, k_z, v_z, b_z, hb⟩
  replace BW : Hid (Below w.heap.size w w3) := BW.out.trans ((hb).mono BW.out.size)
  replace N_a : Hid (NumIn _ _ _ _ _ _ _) := N_a.out.old (hb)
  replace N_b : Hid (NumIn _ _ _ _ _ _ _) := N_b.out.old (hb)
  replace N_x : Hid (NumIn _ _ _ _ _ _ _) := N_x.out.old (hb)
  replace N_y : Hid (NumIn _ _ _ _ _ _ _) := N_y.out.old (hb)
  replace N_ab : Hid (NumIn _ _ _ _ _ _ _) := N_ab.out.old (hb)
  have N_z : Hid (NumIn _ _ _ _ _ _ _) := n_z
  have V_z : Hid (val B64 s_z = B + 256 ^ l_b * A) := by unfold Hid; rw [v_z]; rw [VAB.out]
  have L_z : Hid (l_z ≤ 64) := by unfold Hid; exact b_z
  clear n_z v_z b_z hb HC
  have hlb : l_b ≤ 512 := by omega
  go_wp2_with fail
  have HC := Shift_minus a_x l_x c_x s_x (8 * l_b) (-8 * (l_b : Int)) w3 N_x.out (by omega) (by omega) (by have := L_x.out; omega)
  refine HC.mono ?_
  rintro e w4 ⟨v, rfl, a_up, l_up, c_up, s_up, rfl, n_up, k_up, v_up, b_up, hb⟩
  replace BW : Hid (Below w.heap.size w w4) := BW.out.trans ((hb).mono BW.out.size)
  replace N_a : Hid (NumIn _ _ _ _ _ _ _) := N_a.out.old (hb)
  replace N_b : Hid (NumIn _ _ _ _ _ _ _) := N_b.out.old (hb)
  replace N_x : Hid (NumIn _ _ _ _ _ _ _) := N_x.out.old (hb)
  replace N_y : Hid (NumIn _ _ _ _ _ _ _) := N_y.out.old (hb)
  replace N_ab : Hid (NumIn _ _ _ _ _ _ _) := N_ab.out.old (hb)
  replace N_z : Hid (NumIn _ _ _ _ _ _ _) := N_z.out.old (hb)
  have N_up : Hid (NumIn _ _ _ _ _ _ _) := n_up
  have V_up : Hid (val B64 s_up = A * 256 ^ l_b) := by unfold Hid; rw [v_up]; rw [V_x.out, pow2_8]
  have L_up : Hid (l_up ≤ 129) := by unfold Hid; have := L_x.out; omega
  clear n_up v_up b_up hb HC
  go_wp2_with fail
  have HC := Shift_plus a_z l_z c_z s_z (8 * l_b) (8 * (l_b : Int)) w4 N_z.out (by omega) (by omega)
  refine HC.mono ?_
  rintro e w5 ⟨v, rfl, a_dn, l_dn, c_dn, s_dn, rfl, n_dn, k_dn, v_dn, b_dn, hb⟩
  replace BW : Hid (Below w.heap.size w w5) := BW.out.trans ((hb).mono BW.out.size)
  replace N_a : Hid (NumIn _ _ _ _ _ _ _) := N_a.out.old (hb)
  replace N_b : Hid (NumIn _ _ _ _ _ _ _) := N_b.out.old (hb)
  replace N_x : Hid (NumIn _ _ _ _ _ _ _) := N_x.out.old (hb)
  replace N_y : Hid (NumIn _ _ _ _ _ _ _) := N_y.out.old (hb)
  replace N_ab : Hid (NumIn _ _ _ _ _ _ _) := N_ab.out.old (hb)
  replace N_z : Hid (NumIn _ _ _ _ _ _ _) := N_z.out.old (hb)
  replace N_up : Hid (NumIn _ _ _ _ _ _ _) := N_up.out.old (hb)
  have N_dn : Hid (NumIn _ _ _ _ _ _ _) := n_dn
  have V_dn : Hid (val B64 s_dn = A) := by unfold Hid; rw [v_dn]; rw [V_z.out, pow2_8]; have hp : (0 : Int) < 256 ^ l_b := Int.pow_pos (by decide); rw [Int.add_mul_ediv_left _ _ (by omega), Int.ediv_eq_zero_of_lt PB.out.1 PB.out.2]; omega
  have L_dn : Hid (l_dn ≤ 64) := by unfold Hid; have := L_z.out; omega
  clear n_dn v_dn b_dn hb HC
  go_wp2_with fail
  have HC := Add_any a_up a_y l_up c_up l_y c_y s_up s_y w5 N_up.out N_y.out (by have := L_up.out; have := L_y.out; omega)
  refine HC.mono ?_
  rintro e w6 ⟨v, rfl, a_sum, l_sum, c_sum, s_sum, rfl, n_sum, k_sum, v_sum, b_sum, hb⟩
  replace BW : Hid (Below w.heap.size w w6) := BW.out.trans ((hb).mono BW.out.size)
  replace N_a : Hid (NumIn _ _ _ _ _ _ _) := N_a.out.old (hb)
  replace N_b : Hid (NumIn _ _ _ _ _ _ _) := N_b.out.old (hb)
  replace N_x : Hid (NumIn _ _ _ _ _ _ _) := N_x.out.old (hb)
  replace N_y : Hid (NumIn _ _ _ _ _ _ _) := N_y.out.old (hb)
  replace N_ab : Hid (NumIn _ _ _ _ _ _ _) := N_ab.out.old (hb)
  replace N_z : Hid (NumIn _ _ _ _ _ _ _) := N_z.out.old (hb)
  replace N_up : Hid (NumIn _ _ _ _ _ _ _) := N_up.out.old (hb)
  replace N_dn : Hid (NumIn _ _ _ _ _ _ _) := N_dn.out.old (hb)
  have N_sum : Hid (NumIn _ _ _ _ _ _ _) := n_sum
  have V_sum : Hid (val B64 s_sum = A * 256 ^ l_b + B) := by unfold Hid; rw [v_sum]; rw [V_up.out, V_y.out]
  have L_sum : Hid (l_sum ≤ 130) := by unfold Hid; have := L_up.out; have := L_y.out; omega
  clear n_sum v_sum b_sum hb HC
  go_wp2_with fail
  have HC := Cmp_any a_sum a_z l_sum c_sum l_z c_z s_sum s_z w6 N_sum.out N_z.out
  rw [show cmpI (val B64 s_sum) (val B64 s_z) = 0 from cmpI_eq (by rw [V_sum.out, V_z.out, Int.mul_comm A, Int.add_comm])] at HC
  refine HC.mono ?_
  rintro e w7 ⟨rfl, hd⟩
  replace BW : Hid (Below w.heap.size w w7) := BW.out.trans ((hd.below _).mono BW.out.size)
  replace N_a : Hid (NumIn _ _ _ _ _ _ _) := N_a.out.old (hd.below _)
  replace N_b : Hid (NumIn _ _ _ _ _ _ _) := N_b.out.old (hd.below _)
  replace N_x : Hid (NumIn _ _ _ _ _ _ _) := N_x.out.old (hd.below _)
  replace N_y : Hid (NumIn _ _ _ _ _ _ _) := N_y.out.old (hd.below _)
  replace N_ab : Hid (NumIn _ _ _ _ _ _ _) := N_ab.out.old (hd.below _)
  replace N_z : Hid (NumIn _ _ _ _ _ _ _) := N_z.out.old (hd.below _)
  replace N_up : Hid (NumIn _ _ _ _ _ _ _) := N_up.out.old (hd.below _)
  replace N_dn : Hid (NumIn _ _ _ _ _ _ _) := N_dn.out.old (hd.below _)
  replace N_sum : Hid (NumIn _ _ _ _ _ _ _) := N_sum.out.old (hd.below _)
  clear hd HC
  go_wp2_with fail
  have HC := Cmp_any a_dn a_x l_dn c_dn l_x c_x s_dn s_x w7 N_dn.out N_x.out
  rw [show cmpI (val B64 s_dn) (val B64 s_x) = 0 from cmpI_eq (by rw [V_dn.out, V_x.out])] at HC
  refine HC.mono ?_
  rintro e w8 ⟨rfl, hd⟩
  replace BW : Hid (Below w.heap.size w w8) := BW.out.trans ((hd.below _).mono BW.out.size)
  replace N_a : Hid (NumIn _ _ _ _ _ _ _) := N_a.out.old (hd.below _)
  replace N_b : Hid (NumIn _ _ _ _ _ _ _) := N_b.out.old (hd.below _)
  replace N_x : Hid (NumIn _ _ _ _ _ _ _) := N_x.out.old (hd.below _)
  replace N_y : Hid (NumIn _ _ _ _ _ _ _) := N_y.out.old (hd.below _)
  replace N_ab : Hid (NumIn _ _ _ _ _ _ _) := N_ab.out.old (hd.below _)
  replace N_z : Hid (NumIn _ _ _ _ _ _ _) := N_z.out.old (hd.below _)
  replace N_up : Hid (NumIn _ _ _ _ _ _ _) := N_up.out.old (hd.below _)
  replace N_dn : Hid (NumIn _ _ _ _ _ _ _) := N_dn.out.old (hd.below _)
  replace N_sum : Hid (NumIn _ _ _ _ _ _ _) := N_sum.out.old (hd.below _)
  clear hd HC
  clear N_a N_b N_x N_y N_ab N_z N_up N_dn N_sum
  go_wp2
  go_ret
  exact ⟨rfl, BW.out⟩
end Go.Proofs.Ytiijnenbfhhdiac
