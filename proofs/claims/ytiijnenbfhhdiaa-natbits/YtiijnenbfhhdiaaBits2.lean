/-
  The walk of NatBits.
-/
import Derived.Test.YtiijnenbfhhdiaaBitW
namespace Go.Proofs.Ytiijnenbfhhdiaa
open Go.RowKit
set_option linter.unusedVariables false
set_option linter.unusedSimpArgs false

theorem word_u16 {x : Int} (h : (Lit.int .u16 x).wf = true) : 0 ≤ x ∧ x < 65536 := by
  simp [Lit.wf, IntKind.min, IntKind.max, IntKind.signed, IntKind.bits] at h
  exact ⟨by omega, by omega⟩

set_option maxHeartbeats 4000000 in
/-- A number's bits, from the greatest one on; broken off, and gone over again. -/
theorem NatBits_walk (a_a : Option Addr) (l_a c_a : Nat) (z_a : List Int) (stop : Int) (w : World) (came_a : Came .u64 w a_a l_a c_a z_a) (w_s : (Lit.int .u16 stop).wf = true) :
    Calls Try.prog 4 #[.slice a_a l_a c_a, .int .u16 stop] w fun e w' => e = .returned (.bool true) ∧ Below w.heap.size w w' := by
  obtain ⟨hs0, hs1⟩ := word_u16 w_s
  clear w_s
  have le_a := came_a.le
  have C_a : Hid (Came .u64 w a_a l_a c_a z_a) := came_a
  clear came_a
  by_cases hlong : 70 < l_a
  · go_enter Try.func4, Try.ntmps4
    go_wp2_with fail
    refine (Awake_any w).mono ?_
    rintro e wA ⟨rfl, hb⟩
    have BW : Hid (Below w.heap.size w wA) := hb
    replace C_a : Hid (Came .u64 wA a_a l_a c_a z_a) := C_a.out.old hb
    clear hb
    have HC := long1 a_a l_a c_a wA le_a
    rw [decide_eq_true hlong] at HC
    go_wp2_with fail
    refine HC.mono ?_
    rintro e wB ⟨rfl, hb⟩
    replace BW : Hid (Below w.heap.size w wB) := BW.out.trans (hb.mono BW.out.size)
    replace C_a : Hid (Came .u64 wB a_a l_a c_a z_a) := C_a.out.old hb
    clear hb HC
    clear C_a
    go_wp2
    go_ret
    exact ⟨rfl, BW.out⟩
  · go_enter Try.func4, Try.ntmps4
    go_wp2_with fail
    refine (Awake_any w).mono ?_
    rintro e wA ⟨rfl, hb⟩
    have BW : Hid (Below w.heap.size w wA) := hb
    replace C_a : Hid (Came .u64 wA a_a l_a c_a z_a) := C_a.out.old hb
    clear hb
    have HC := long1 a_a l_a c_a wA le_a
    rw [decide_eq_false hlong] at HC
    go_wp2_with fail
    refine HC.mono ?_
    rintro e wB ⟨rfl, hb⟩
    replace BW : Hid (Below w.heap.size w wB) := BW.out.trans (hb.mono BW.out.size)
    replace C_a : Hid (Came .u64 wB a_a l_a c_a z_a) := C_a.out.old hb
    clear hb HC
    have N_a : Hid (NumIn .u64 B64 wB a_a l_a c_a (z_a.take l_a)) := C_a.out.nat (by omega)
    have L_a : Hid (l_a ≤ 70) := by unfold Hid; omega
    clear hlong C_a le_a
    generalize z_a.take l_a = s_a at *
    have P_a : Hid (0 ≤ val B64 s_a) := val_nonneg B64_pos N_a.out.dg
    obtain ⟨A, V_a⟩ : ∃ X, Hid (val B64 s_a = X) := ⟨_, rfl⟩
    replace P_a : Hid (0 ≤ A) := by have := P_a.out; rw [V_a.out] at this; exact this
    go_wp2_with fail
    have HC := rOf_any a_a l_a c_a s_a wB N_a.out (by have := L_a.out; omega)
    refine HC.mono ?_
    rintro e w1 ⟨v, rfl, a_d, l_d, c_d, s_d, rfl, n_d, k_d, v_d, b_d, hb⟩
    replace BW : Hid (Below w.heap.size w w1) := BW.out.trans ((hb).mono BW.out.size)
    replace N_a : Hid (NumIn _ _ _ _ _ _ _) := N_a.out.old (hb)
    have N_d : Hid (NumIn _ _ _ _ _ _ _) := n_d
    have K_d : Hid (Canon s_d) := k_d
    have V_d : Hid (val D16 s_d = A) := by unfold Hid; rw [v_d]; rw [V_a.out]
    have L_d : Hid (l_d ≤ 280) := by unfold Hid; have := L_a.out; omega
    clear n_d v_d b_d k_d hb HC
    go_wp2_with fail
    have HC := Bits_any a_a l_a c_a s_a w1 N_a.out L_a.out
    rw [V_a.out] at HC
    refine HC.mono ?_
    rintro e w2 ⟨g3, g4, rfl, hat, hb⟩
    replace BW : Hid (Below w.heap.size w w2) := BW.out.trans ((hb).mono BW.out.size)
    replace N_a : Hid (NumIn _ _ _ _ _ _ _) := N_a.out.old (hb)
    replace N_d : Hid (NumIn _ _ _ _ _ _ _) := N_d.out.old (hb)
    obtain ⟨L, HLE⟩ : ∃ L, Hid (blen A.toNat = L) := ⟨_, rfl⟩
    rw [HLE.out] at hat
    have hL2 : L ≤ 4480 := by obtain ⟨_, _, _, _, _, _, _, _, _, _, h⟩ := hat; exact h
    have HAT : Hid (BitsAt w2 g3 g4 A L) := hat
    clear hat hb HC
    go_wp2_with fail
    have HC := rLen_any a_d l_d c_d s_d w2 N_d.out K_d.out (by have := L_d.out; omega)
    rw [V_d.out, HLE.out] at HC
    refine HC.mono ?_
    rintro e w3 ⟨rfl, rfl⟩
    clear HC
    obtain ⟨c1, HC1⟩ : ∃ c, Hid (cntOf stop L = c) := ⟨_, rfl⟩
    have HC2 : Hid (cntOf (-1) L = (L : Int)) := by unfold Hid cntOf; rw [if_neg (by omega)]
    go_wp2_with fail
    have HC := walk_any g3 g4 a_d l_d c_d s_d stop A L w3 HAT.out N_d.out K_d.out (by have := L_d.out; omega) V_d.out HLE.out hL2 (by omega) (by omega)
    rw [show cntOf stop L = c1 from HC1.out] at HC
    refine HC.mono ?_
    rintro e w4 ⟨rfl, hb⟩
    replace BW : Hid (Below w.heap.size w w4) := BW.out.trans ((hb).mono BW.out.size)
    replace N_a : Hid (NumIn _ _ _ _ _ _ _) := N_a.out.old (hb)
    replace N_d : Hid (NumIn _ _ _ _ _ _ _) := N_d.out.old (hb)
    replace HAT : Hid (BitsAt w4 g3 g4 A L) := HAT.out.old hb
    clear hb HC
    go_wp2_with fail
    have HC := walk_any g3 g4 a_d l_d c_d s_d (-1) A L w4 HAT.out N_d.out K_d.out (by have := L_d.out; omega) V_d.out HLE.out hL2 (by omega) (by omega)
    rw [show cntOf (-1) L = (L : Int) from HC2.out] at HC
    refine HC.mono ?_
    rintro e w5 ⟨rfl, hb⟩
    replace BW : Hid (Below w.heap.size w w5) := BW.out.trans ((hb).mono BW.out.size)
    replace N_a : Hid (NumIn _ _ _ _ _ _ _) := N_a.out.old (hb)
    replace N_d : Hid (NumIn _ _ _ _ _ _ _) := N_d.out.old (hb)
    replace HAT : Hid (BitsAt w5 g3 g4 A L) := HAT.out.old hb
    clear hb HC
    have hcnt : (0 < stop ∧ stop < (L : Int) ∧ c1 = stop) ∨ ((stop ≤ 0 ∨ (L : Int) ≤ stop) ∧ c1 = (L : Int)) := by
      have h := HC1.out
      unfold cntOf at h
      split at h <;> omega
    clear N_a N_d HAT HC1 HC2
    rcases hcnt with ⟨h1, h2, rfl⟩ | ⟨h1, rfl⟩
    · go_wp2
      go_ret
      exact ⟨rfl, BW.out⟩
    · rcases h1 with h1 | h1
      · go_wp2
        go_ret
        exact ⟨rfl, BW.out⟩
      · by_cases h0 : 0 < stop
        · go_wp2
          go_ret
          exact ⟨rfl, BW.out⟩
        · go_wp2
          go_ret
          exact ⟨rfl, BW.out⟩
end Go.Proofs.Ytiijnenbfhhdiaa
