/-
  The walk of NatNorms.
-/
import Derived.Test.YtiijnenbfhhdiaaRefL
namespace Go.Proofs.Ytiijnenbfhhdiaa
open Go.RowKit
set_option linter.unusedVariables false
set_option linter.unusedSimpArgs false

set_option maxHeartbeats 4000000 in
/-- Any limbs as a number, how many bits it has; a small one. -/
theorem NatNorms_walk (a_a : Option Addr) (l_a c_a : Nat) (z_a : List Int) (n : Int) (w : World) (came_a : Came .u64 w a_a l_a c_a z_a) (w_n : (Lit.int .u64 n).wf = true) :
    Calls Try.prog 3 #[.slice a_a l_a c_a, .int .u64 n] w fun e w' => e = .returned (.bool true) ∧ Below w.heap.size w w' := by
  obtain ⟨hn0, hn1⟩ := word_u64 w_n
  clear w_n
  have le_a := came_a.le
  have C_a : Hid (Came .u64 w a_a l_a c_a z_a) := came_a
  clear came_a
  by_cases hlong : 70 < l_a
  · go_enter Try.func3, Try.ntmps3
    go_wp2_with fail
    refine (Awake_any w).mono ?_
    rintro e wA ⟨rfl, hb⟩
    have BW : Hid (Below w.heap.size w wA) := hb
    replace C_a : Hid (Came .u64 wA a_a l_a c_a z_a) := C_a.out.old hb
    clear hb
    have HC := long1 a_a l_a c_a wA le_a
    rw [decide_eq_true hlong] at HC
    go_wp2_with fail
    refine HC.mono ?_
    rintro e wB ⟨rfl, hb⟩
    replace BW : Hid (Below w.heap.size w wB) := BW.out.trans (hb.mono BW.out.size)
    replace C_a : Hid (Came .u64 wB a_a l_a c_a z_a) := C_a.out.old hb
    clear hb HC
    clear C_a
    go_wp2
    go_ret
    exact ⟨rfl, BW.out⟩
  · go_enter Try.func3, Try.ntmps3
    go_wp2_with fail
    refine (Awake_any w).mono ?_
    rintro e wA ⟨rfl, hb⟩
    have BW : Hid (Below w.heap.size w wA) := hb
    replace C_a : Hid (Came .u64 wA a_a l_a c_a z_a) := C_a.out.old hb
    clear hb
    have HC := long1 a_a l_a c_a wA le_a
    rw [decide_eq_false hlong] at HC
    go_wp2_with fail
    refine HC.mono ?_
    rintro e wB ⟨rfl, hb⟩
    replace BW : Hid (Below w.heap.size w wB) := BW.out.trans (hb.mono BW.out.size)
    replace C_a : Hid (Came .u64 wB a_a l_a c_a z_a) := C_a.out.old hb
    clear hb HC
    have N_a : Hid (NumIn .u64 B64 wB a_a l_a c_a (z_a.take l_a)) := C_a.out.nat (by omega)
    have L_a : Hid (l_a ≤ 70) := by unfold Hid; omega
    clear hlong C_a le_a
    generalize z_a.take l_a = s_a at *
    have P_a : Hid (0 ≤ val B64 s_a) := val_nonneg B64_pos N_a.out.dg
    obtain ⟨A, V_a⟩ : ∃ X, Hid (val B64 s_a = X) := ⟨_, rfl⟩
    replace P_a : Hid (0 ≤ A) := by have := P_a.out; rw [V_a.out] at this; exact this
    have HN : Hid (0 ≤ n ∧ n < 18446744073709551616) := ⟨hn0, hn1⟩
    clear hn0 hn1
    have hown0 := own_lit0 24 .u64 wB wB.heap.size (Nat.le_refl _)
    have hb0 : Below wB.heap.size wB (wB.alloc (.cells #[] 24)) := (Below.refl _ _).alloc (Nat.le_refl _) _
    have hlies := N_a.out.lies.old hb0
    have hlen0 := L_a.out
    go_wp2_with (at_builtin; refine wpList_append_nums rfl _ _ 23 rfl 24 .u64 8 Try.underlying23 Try.infoU wB.heap.size _ _ rfl hown0 a_a l_a c_a s_a rfl hlies N_a.out.nn (by simp; omega) (by decide) wB hb0 hb0.size ?_)
    intro v1 w1 hown1 hb1 _ _
    clear hlies
    have hown2 : Own 24 .u64 w1 wB.heap.size v1 s_a := by simpa using hown1
    have hlen1 : s_a.length = l_a := N_a.out.len
    obtain ⟨a_x, c_x, hv1, n_x⟩ := hown2.num (B := B64) N_a.out.dg (by omega)
    subst hv1
    rw [hlen1] at n_x ⊢
    clear hown0 hown1 hown2 hb0 hlen0 hlen1
    replace BW : Hid (Below w.heap.size w w1) := BW.out.trans ((hb1).mono BW.out.size)
    replace N_a : Hid (NumIn _ _ _ _ _ _ _) := N_a.out.old (hb1)
    have N_x : Hid (NumIn .u64 B64 w1 a_x l_a c_x s_a) := n_x
    clear n_x hb1
    go_wp2_with fail
    have HC := rOf_any a_a l_a c_a s_a w1 N_a.out (by have := L_a.out; omega)
    refine HC.mono ?_
    rintro e w2 ⟨v, rfl, a_d, l_d, c_d, s_d, rfl, n_d, k_d, v_d, b_d, hb⟩
    replace BW : Hid (Below w.heap.size w w2) := BW.out.trans ((hb).mono BW.out.size)
    replace N_a : Hid (NumIn _ _ _ _ _ _ _) := N_a.out.old (hb)
    replace N_x : Hid (NumIn _ _ _ _ _ _ _) := N_x.out.old (hb)
    have N_d : Hid (NumIn _ _ _ _ _ _ _) := n_d
    have K_d : Hid (Canon s_d) := k_d
    have V_d : Hid (val D16 s_d = A) := by unfold Hid; rw [v_d]; rw [V_a.out]
    have L_d : Hid (l_d ≤ 280) := by unfold Hid; have := L_a.out; omega
    clear n_d v_d b_d k_d hb HC
    go_wp2_with fail
    have HC := Norm_any a_x l_a c_x s_a w2 N_x.out
    refine HC.mono ?_
    rintro e w3 ⟨v, rfl, a_m, l_m, c_m, s_m, rfl, n_m, k_m, v_m, b_m, hb⟩
    replace BW : Hid (Below w.heap.size w w3) := BW.out.trans ((hb).mono BW.out.size)
    replace N_a : Hid (NumIn _ _ _ _ _ _ _) := N_a.out.old (hb)
    replace N_x : Hid (NumIn _ _ _ _ _ _ _) := N_x.out.old (hb)
    replace N_d : Hid (NumIn _ _ _ _ _ _ _) := N_d.out.old (hb)
    have N_m : Hid (NumIn _ _ _ _ _ _ _) := n_m
    have V_m : Hid (val B64 s_m = A) := by unfold Hid; rw [v_m]; rw [V_a.out]
    have L_m : Hid (l_m ≤ 70) := by unfold Hid; have := L_a.out; omega
    clear n_m v_m b_m hb HC
    go_wp2_with fail
    have HC := is_yes a_m a_d l_m c_m l_d c_d s_m s_d w3 N_m.out k_m N_d.out K_d.out (by rw [V_m.out, V_d.out]) (by have := L_d.out; omega)
    refine HC.mono ?_
    rintro e w4 ⟨rfl, hb⟩
    replace BW : Hid (Below w.heap.size w w4) := BW.out.trans ((hb).mono BW.out.size)
    replace N_a : Hid (NumIn _ _ _ _ _ _ _) := N_a.out.old (hb)
    replace N_x : Hid (NumIn _ _ _ _ _ _ _) := N_x.out.old (hb)
    replace N_d : Hid (NumIn _ _ _ _ _ _ _) := N_d.out.old (hb)
    replace N_m : Hid (NumIn _ _ _ _ _ _ _) := N_m.out.old (hb)
    clear hb HC
    go_wp2_with fail
    have HC := Len_any a_x l_a c_x s_a w4 N_x.out
    rw [show lenOf s_a = blen A.toNat from by rw [lenOf_eq _ N_x.out.dg, V_a.out]] at HC
    refine HC.mono ?_
    rintro e w5 ⟨rfl, rfl⟩
    clear HC
    go_wp2_with fail
    have HC := rLen_any a_d l_d c_d s_d w5 N_d.out K_d.out (by have := L_d.out; omega)
    rw [V_d.out] at HC
    refine HC.mono ?_
    rintro e w6 ⟨rfl, rfl⟩
    clear HC
    generalize blen A.toNat = bl at *
    go_wp2_with fail
    have HC := Same_yes a_x a_a l_a c_x c_a s_a w6 N_x.out.lies N_a.out.lies (by have := L_a.out; omega)
    refine HC.mono ?_
    rintro e w7 ⟨rfl, hd⟩
    replace BW : Hid (Below w.heap.size w w7) := BW.out.trans ((hd.below _).mono BW.out.size)
    replace N_a : Hid (NumIn _ _ _ _ _ _ _) := N_a.out.old (hd.below _)
    replace N_x : Hid (NumIn _ _ _ _ _ _ _) := N_x.out.old (hd.below _)
    replace N_d : Hid (NumIn _ _ _ _ _ _ _) := N_d.out.old (hd.below _)
    replace N_m : Hid (NumIn _ _ _ _ _ _ _) := N_m.out.old (hd.below _)
    clear hd HC
    clear N_a N_x N_m N_d V_a V_m V_d K_d L_m L_d k_m P_a
    go_wp2_with fail
    have HC := Of_any n w7 HN.out.1 HN.out.2
    refine HC.mono ?_
    rintro e w8 ⟨v, rfl, a_o, l_o, c_o, s_o, rfl, n_o, k_o, v_o, b_o, hb⟩
    replace BW : Hid (Below w.heap.size w w8) := BW.out.trans ((hb).mono BW.out.size)
    have N_o : Hid (NumIn _ _ _ _ _ _ _) := n_o
    have V_o : Hid (val B64 s_o = n) := by unfold Hid; rw [v_o]
    have L_o : Hid (l_o ≤ 1) := by unfold Hid; omega
    clear n_o v_o b_o hb HC
    have hb1 : Below w8.heap.size w8 (w8.alloc (.cells #[.int .u64 n] 24)) := (Below.refl _ _).alloc (Nat.le_refl _) _
    have hnum1 := (row_alloc w8 24 .u64 n).num (B := B64) (Dg.cons HN.out (Dg.nil _)) (by simp)
    have HC := rOf_any (some ⟨w8.heap.size, 0, none⟩) 1 1 [n] (w8.alloc (.cells #[.int .u64 n] 24)) hnum1 (by omega)
    have HB1 : Hid (Below w8.heap.size w8 (w8.alloc (.cells #[.int .u64 n] 24))) := hb1
    clear hb1 hnum1
    go_wp2_with fail
    refine HC.mono ?_
    rintro e wZ ⟨v, rfl, a_e, l_e, c_e, s_e, rfl, n_e, k_e, v_e, b_e, hb⟩
    replace hb := HB1.out.trans (hb.mono HB1.out.size)
    replace BW : Hid (Below w.heap.size w wZ) := BW.out.trans ((hb).mono BW.out.size)
    replace N_o : Hid (NumIn _ _ _ _ _ _ _) := N_o.out.old (hb)
    have N_e : Hid (NumIn _ _ _ _ _ _ _) := n_e
    have K_e : Hid (Canon s_e) := k_e
    have V_e : Hid (val D16 s_e = n) := by unfold Hid; rw [v_e]; simp [val]
    have L_e : Hid (l_e ≤ 4) := by unfold Hid; omega
    clear n_e v_e b_e k_e hb HC
    go_wp2_with fail
    have HC := is_yes a_o a_e l_o c_o l_e c_e s_o s_e wZ N_o.out k_o N_e.out K_e.out (by rw [V_o.out, V_e.out]) (by have := L_e.out; omega)
    refine HC.mono ?_
    rintro e w9 ⟨rfl, hb⟩
    replace BW : Hid (Below w.heap.size w w9) := BW.out.trans ((hb).mono BW.out.size)
    replace N_o : Hid (NumIn _ _ _ _ _ _ _) := N_o.out.old (hb)
    replace N_e : Hid (NumIn _ _ _ _ _ _ _) := N_e.out.old (hb)
    clear hb HC
    clear N_o N_e
    go_wp2
    go_ret
    exact ⟨rfl, BW.out⟩
end Go.Proofs.Ytiijnenbfhhdiaa
