/-
  The walk of NatShifts.
-/
import Derived.Test.YtiijnenbfhhdiabRefT
namespace Go.Proofs.Ytiijnenbfhhdiab
open Go.RowKit
set_option linter.unusedVariables false
set_option linter.unusedSimpArgs false

theorem word_i64' {x : Int} (h : (Lit.int .i64 x).wf = true) : -9223372036854775808 ≤ x ∧ x ≤ 9223372036854775807 := by
  simp [Lit.wf, IntKind.min, IntKind.max, IntKind.signed, IntKind.bits] at h
  exact ⟨by omega, by omega⟩

set_option maxHeartbeats 1000000 in
/-- A number multiplied, or divided, by 2 so often. -/
theorem NatShifts_walk (a_a : Option Addr) (l_a c_a : Nat) (z_a : List Int) (times : Int) (w : World) (came_a : Came .u64 w a_a l_a c_a z_a) (w_t : (Lit.int .i64 times).wf = true) :
    Calls Try.prog 4 #[.slice a_a l_a c_a, .int .i64 times] w fun e w' => e = .returned (.bool true) ∧ Below w.heap.size w w' := by
  have le_a := came_a.le
  have C_a : Hid (Came .u64 w a_a l_a c_a z_a) := came_a
  clear came_a
  unfold maxLen at le_a
  obtain ⟨ht0, ht1⟩ := word_i64' w_t
  clear w_t
  by_cases h1 : 20 < l_a
  · go_enter Try.func4, Try.ntmps4
    go_wp2_with fail
    refine (Awake_any w).mono ?_
    rintro e wA ⟨rfl, hb⟩
    have BW : Hid (Below w.heap.size w wA) := hb
    replace C_a : Hid (Came .u64 wA a_a l_a c_a z_a) := C_a.out.old hb
    clear hb
    clear C_a
    go_wp2
    go_ret
    exact ⟨rfl, BW.out⟩
  by_cases h2 : times < -4096
  · go_enter Try.func4, Try.ntmps4
    go_wp2_with fail
    refine (Awake_any w).mono ?_
    rintro e wA ⟨rfl, hb⟩
    have BW : Hid (Below w.heap.size w wA) := hb
    replace C_a : Hid (Came .u64 wA a_a l_a c_a z_a) := C_a.out.old hb
    clear hb
    clear C_a
    go_wp2
    go_ret
    exact ⟨rfl, BW.out⟩
  by_cases h3 : 2147483647 < times
  · go_enter Try.func4, Try.ntmps4
    go_wp2_with fail
    refine (Awake_any w).mono ?_
    rintro e wA ⟨rfl, hb⟩
    have BW : Hid (Below w.heap.size w wA) := hb
    replace C_a : Hid (Came .u64 wA a_a l_a c_a z_a) := C_a.out.old hb
    clear hb
    clear C_a
    go_wp2
    go_ret
    exact ⟨rfl, BW.out⟩
  go_enter Try.func4, Try.ntmps4
  go_wp2_with fail
  refine (Awake_any w).mono ?_
  rintro e wA ⟨rfl, hb⟩
  have BW : Hid (Below w.heap.size w wA) := hb
  replace C_a : Hid (Came .u64 wA a_a l_a c_a z_a) := C_a.out.old hb
  clear hb
  have N_a : Hid (NumIn .u64 B64 wA a_a l_a c_a (z_a.take l_a)) := C_a.out.nat (by omega)
  have L_a : Hid (l_a ≤ 20) := by unfold Hid; omega
  clear C_a le_a
  generalize z_a.take l_a = s_a at *
  obtain ⟨A, V_a⟩ : ∃ X, Hid (val B64 s_a = X) := ⟨_, rfl⟩
  go_wp2_with fail
  have HC := rOf_any a_a l_a c_a s_a wA N_a.out (by have := L_a.out; omega)
  refine HC.mono ?_
  rintro e w1 ⟨v, rfl, a_d, l_d, c_d, s_d, rfl, n_d, k_d, v_d, b_d, hb⟩
  replace BW : Hid (Below w.heap.size w w1) := BW.out.trans ((hb).mono BW.out.size)
  replace N_a : Hid (NumIn _ _ _ _ _ _ _) := N_a.out.old (hb)
  have N_d : Hid (NumIn _ _ _ _ _ _ _) := n_d
  have K_d : Hid (Canon s_d) := k_d
  have V_d : Hid (val D16 s_d = A) := by unfold Hid; rw [v_d]; rw [V_a.out]
  have L_d : Hid (l_d ≤ 80) := by unfold Hid; have := L_a.out; omega
  clear n_d v_d b_d k_d hb HC
  by_cases hneg : times < 0
  · obtain ⟨t, rfl⟩ : ∃ t : Nat, times = -(t : Int) := ⟨(-times).toNat, by omega⟩
    have htb : t ≤ 4096 := by omega
    have HT : Hid (t = 16 * (t / 16) + t % 16 ∧ t % 16 < 16) := ⟨by omega, by omega⟩
    go_wp2_with fail
    have HC := Shift_minus a_a l_a c_a s_a t (-(t : Int)) w1 N_a.out (by omega) htb (by have := L_a.out; omega)
    refine HC.mono ?_
    rintro e w2 ⟨v, rfl, a_m, l_m, c_m, s_m, rfl, n_m, k_m, v_m, b_m, hb⟩
    replace BW : Hid (Below w.heap.size w w2) := BW.out.trans ((hb).mono BW.out.size)
    replace N_a : Hid (NumIn _ _ _ _ _ _ _) := N_a.out.old (hb)
    replace N_d : Hid (NumIn _ _ _ _ _ _ _) := N_d.out.old (hb)
    have N_m : Hid (NumIn _ _ _ _ _ _ _) := n_m
    have V_m : Hid (val B64 s_m = A * 2 ^ t) := by unfold Hid; rw [v_m]; rw [V_a.out]
    have L_m : Hid (l_m ≤ 85) := by unfold Hid; have := L_a.out; omega
    clear n_m v_m b_m hb HC
    go_wp2_with fail
    have HC := rTwice_any a_d l_d c_d s_d (t / 16) (t % 16) (t : Int) w2 N_d.out (by omega) HT.out.2 (by have := L_d.out; omega) (by omega)
    rw [← HT.out.1] at HC
    refine HC.mono ?_
    rintro e w3 ⟨v, rfl, a_f, l_f, c_f, s_f, rfl, n_f, k_f, v_f, b_f, hb⟩
    replace BW : Hid (Below w.heap.size w w3) := BW.out.trans ((hb).mono BW.out.size)
    replace N_a : Hid (NumIn _ _ _ _ _ _ _) := N_a.out.old (hb)
    replace N_d : Hid (NumIn _ _ _ _ _ _ _) := N_d.out.old (hb)
    replace N_m : Hid (NumIn _ _ _ _ _ _ _) := N_m.out.old (hb)
    have N_f : Hid (NumIn _ _ _ _ _ _ _) := n_f
    have K_f : Hid (Canon s_f) := k_f
    have V_f : Hid (val D16 s_f = A * 2 ^ t) := by unfold Hid; rw [v_f]; rw [V_d.out]
    have L_f : Hid (l_f ≤ 400) := by unfold Hid; have := L_d.out; omega
    clear n_f v_f b_f k_f hb HC
    go_wp2_with fail
    have HC := is_yes a_m a_f l_m c_m l_f c_f s_m s_f w3 N_m.out k_m N_f.out K_f.out (by rw [V_m.out, V_f.out]) (by have := L_f.out; omega)
    refine HC.mono ?_
    rintro e w4 ⟨rfl, hb⟩
    replace BW : Hid (Below w.heap.size w w4) := BW.out.trans ((hb).mono BW.out.size)
    replace N_a : Hid (NumIn _ _ _ _ _ _ _) := N_a.out.old (hb)
    replace N_d : Hid (NumIn _ _ _ _ _ _ _) := N_d.out.old (hb)
    replace N_m : Hid (NumIn _ _ _ _ _ _ _) := N_m.out.old (hb)
    replace N_f : Hid (NumIn _ _ _ _ _ _ _) := N_f.out.old (hb)
    clear hb HC
    clear N_a N_d N_m N_f
    go_wp2
    go_ret
    exact ⟨rfl, BW.out⟩
  · obtain ⟨t, rfl⟩ := Int.eq_ofNat_of_zero_le (show 0 ≤ times by omega)
    have htb : t < 2147483648 := by omega
    have HT : Hid (t = 16 * (t / 16) + t % 16 ∧ t % 16 < 16) := ⟨by omega, by omega⟩
    go_wp2_with fail
    have HC := Shift_plus a_a l_a c_a s_a t (t : Int) w1 N_a.out (by omega) htb
    refine HC.mono ?_
    rintro e w2 ⟨v, rfl, a_m, l_m, c_m, s_m, rfl, n_m, k_m, v_m, b_m, hb⟩
    replace BW : Hid (Below w.heap.size w w2) := BW.out.trans ((hb).mono BW.out.size)
    replace N_a : Hid (NumIn _ _ _ _ _ _ _) := N_a.out.old (hb)
    replace N_d : Hid (NumIn _ _ _ _ _ _ _) := N_d.out.old (hb)
    have N_m : Hid (NumIn _ _ _ _ _ _ _) := n_m
    have V_m : Hid (val B64 s_m = A / 2 ^ t) := by unfold Hid; rw [v_m]; rw [V_a.out]
    have L_m : Hid (l_m ≤ 85) := by unfold Hid; have := L_a.out; omega
    clear n_m v_m b_m hb HC
    go_wp2_with fail
    have HC := rHalf_any a_d l_d c_d s_d (t / 16) (t % 16) (t : Int) w2 N_d.out (by omega) HT.out.2 (by have := L_d.out; omega) (by omega)
    rw [← HT.out.1] at HC
    refine HC.mono ?_
    rintro e w3 ⟨v, rfl, a_f, l_f, c_f, s_f, rfl, n_f, k_f, v_f, b_f, hb⟩
    replace BW : Hid (Below w.heap.size w w3) := BW.out.trans ((hb).mono BW.out.size)
    replace N_a : Hid (NumIn _ _ _ _ _ _ _) := N_a.out.old (hb)
    replace N_d : Hid (NumIn _ _ _ _ _ _ _) := N_d.out.old (hb)
    replace N_m : Hid (NumIn _ _ _ _ _ _ _) := N_m.out.old (hb)
    have N_f : Hid (NumIn _ _ _ _ _ _ _) := n_f
    have K_f : Hid (Canon s_f) := k_f
    have V_f : Hid (val D16 s_f = A / 2 ^ t) := by unfold Hid; rw [v_f]; rw [V_d.out]
    have L_f : Hid (l_f ≤ 400) := by unfold Hid; have := L_d.out; omega
    clear n_f v_f b_f k_f hb HC
    go_wp2_with fail
    have HC := is_yes a_m a_f l_m c_m l_f c_f s_m s_f w3 N_m.out k_m N_f.out K_f.out (by rw [V_m.out, V_f.out]) (by have := L_f.out; omega)
    refine HC.mono ?_
    rintro e w4 ⟨rfl, hb⟩
    replace BW : Hid (Below w.heap.size w w4) := BW.out.trans ((hb).mono BW.out.size)
    replace N_a : Hid (NumIn _ _ _ _ _ _ _) := N_a.out.old (hb)
    replace N_d : Hid (NumIn _ _ _ _ _ _ _) := N_d.out.old (hb)
    replace N_m : Hid (NumIn _ _ _ _ _ _ _) := N_m.out.old (hb)
    replace N_f : Hid (NumIn _ _ _ _ _ _ _) := N_f.out.old (hb)
    clear hb HC
    clear N_a N_d N_m N_f
    go_wp2
    go_ret
    exact ⟨rfl, BW.out⟩
end Go.Proofs.Ytiijnenbfhhdiab
