/-
  The walk of NatReads.
-/
import Derived.Test.YtiijnenbfhhdiabRefR
namespace Go.Proofs.Ytiijnenbfhhdiab
open Go.RowKit
set_option linter.unusedVariables false
set_option linter.unusedSimpArgs false

set_option maxHeartbeats 4000000 in
/-- Any bytes as a number. -/
theorem NatReads_walk (a_b : Option Addr) (l_b c_b : Nat) (z_b : List Int) (w : World) (came_b : Came .u8 w a_b l_b c_b z_b) :
    Calls Try.prog 5 #[.slice a_b l_b c_b] w fun e w' => e = .returned (.bool true) ∧ Below w.heap.size w w' := by
  have le_b := came_b.le
  have C_b : Hid (Came .u8 w a_b l_b c_b z_b) := came_b
  clear came_b
  unfold maxLen at le_b
  by_cases hlong : 2000 < l_b
  · go_enter Try.func5, Try.ntmps5
    go_wp2_with fail
    refine (Awake_any w).mono ?_
    rintro e wA ⟨rfl, hb⟩
    have BW : Hid (Below w.heap.size w wA) := hb
    replace C_b : Hid (Came .u8 wA a_b l_b c_b z_b) := C_b.out.old hb
    clear hb
    clear C_b
    go_wp2
    go_ret
    exact ⟨rfl, BW.out⟩
  by_cases hno : 512 < l_b
  · go_enter Try.func5, Try.ntmps5
    go_wp2_with fail
    refine (Awake_any w).mono ?_
    rintro e wA ⟨rfl, hb⟩
    have BW : Hid (Below w.heap.size w wA) := hb
    replace C_b : Hid (Came .u8 wA a_b l_b c_b z_b) := C_b.out.old hb
    clear hb
    clear C_b
    go_wp2_with fail
    refine (Read_no a_b l_b c_b wA hno (by unfold maxLen; omega)).mono ?_
    rintro e wB ⟨rfl, rfl⟩
    go_wp2
    go_ret
    exact ⟨rfl, BW.out⟩
  have hsm : l_b ≤ 512 := by omega
  clear hlong hno
  go_enter Try.func5, Try.ntmps5
  go_wp2_with fail
  refine (Awake_any w).mono ?_
  rintro e wA ⟨rfl, hb⟩
  have BW : Hid (Below w.heap.size w wA) := hb
  replace C_b : Hid (Came .u8 wA a_b l_b c_b z_b) := C_b.out.old hb
  clear hb
  have N_b : Hid (NumIn .u8 256 wA a_b l_b c_b (z_b.take l_b)) := C_b.out.bytes (by omega)
  clear C_b le_b
  generalize z_b.take l_b = s_b at *
  obtain ⟨B, V_b⟩ : ∃ X, Hid (val 256 s_b.reverse = X) := ⟨_, rfl⟩
  go_wp2_with fail
  have HC := Read_yes a_b l_b c_b s_b wA N_b.out (by omega)
  refine HC.mono ?_
  rintro e w1 ⟨v, rfl, a_n, l_n, c_n, s_n, rfl, n_n, k_n, v_n, b_n, hb⟩
  replace BW : Hid (Below w.heap.size w w1) := BW.out.trans ((hb).mono BW.out.size)
  replace N_b : Hid (NumIn _ _ _ _ _ _ _) := N_b.out.old (hb)
  have N_n : Hid (NumIn _ _ _ _ _ _ _) := n_n
  have V_n : Hid (val B64 s_n = B) := by unfold Hid; rw [v_n]; rw [V_b.out]
  have L_n : Hid (l_n ≤ 64) := by unfold Hid; exact b_n
  clear n_n v_n b_n hb HC
  go_wp2_with fail
  have HC := rRead_any a_b l_b c_b s_b w1 N_b.out (by omega)
  refine HC.mono ?_
  rintro e w2 ⟨v, rfl, a_d, l_d, c_d, s_d, rfl, n_d, k_d, v_d, b_d, hb⟩
  replace BW : Hid (Below w.heap.size w w2) := BW.out.trans ((hb).mono BW.out.size)
  replace N_b : Hid (NumIn _ _ _ _ _ _ _) := N_b.out.old (hb)
  replace N_n : Hid (NumIn _ _ _ _ _ _ _) := N_n.out.old (hb)
  have N_d : Hid (NumIn _ _ _ _ _ _ _) := n_d
  have K_d : Hid (Canon s_d) := k_d
  have V_d : Hid (val D16 s_d = B) := by unfold Hid; rw [v_d]; rw [V_b.out]
  have L_d : Hid (l_d ≤ 1001) := by unfold Hid; exact b_d
  clear n_d v_d b_d k_d hb HC
  go_wp2_with fail
  have HC := is_yes a_n a_d l_n c_n l_d c_d s_n s_d w2 N_n.out k_n N_d.out K_d.out (by rw [V_n.out, V_d.out]) (by have := L_d.out; omega)
  refine HC.mono ?_
  rintro e w3 ⟨rfl, hb⟩
  replace BW : Hid (Below w.heap.size w w3) := BW.out.trans ((hb).mono BW.out.size)
  replace N_b : Hid (NumIn _ _ _ _ _ _ _) := N_b.out.old (hb)
  replace N_n : Hid (NumIn _ _ _ _ _ _ _) := N_n.out.old (hb)
  replace N_d : Hid (NumIn _ _ _ _ _ _ _) := N_d.out.old (hb)
  clear hb HC
  clear N_b N_n N_d
  go_wp2
  go_ret
  exact ⟨rfl, BW.out⟩
end Go.Proofs.Ytiijnenbfhhdiab
