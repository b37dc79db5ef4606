/-
  The walk of NatBytes.
-/
import Derived.Test.YtiijnenbfhhdiabRefB
namespace Go.Proofs.Ytiijnenbfhhdiab
open Go.RowKit
set_option linter.unusedVariables false
set_option linter.unusedSimpArgs false

theorem word_i64 {x : Int} (h : (Lit.int .i64 x).wf = true) : -9223372036854775808 ≤ x ∧ x ≤ 9223372036854775807 := by
  simp [Lit.wf, IntKind.min, IntKind.max, IntKind.signed, IntKind.bits] at h
  exact ⟨by omega, by omega⟩

set_option maxHeartbeats 4000000 in
/-- Any number as any number of bytes. -/
theorem NatBytes_walk (a_a : Option Addr) (l_a c_a : Nat) (z_a : List Int) (size : Int) (w : World) (came_a : Came .u64 w a_a l_a c_a z_a) (w_size : (Lit.int .i64 size).wf = true) :
    Calls Try.prog 6 #[.slice a_a l_a c_a, .int .i64 size] w fun e w' => e = .returned (.bool true) ∧ Below w.heap.size w w' := by
  obtain ⟨hsz0, hsz1⟩ := word_i64 w_size
  clear w_size
  have le_a := came_a.le
  have C_a : Hid (Came .u64 w a_a l_a c_a z_a) := came_a
  clear came_a
  by_cases hlong : 70 < l_a
  · go_enter Try.func6, Try.ntmps6
    go_wp2_with fail
    refine (Awake_any w).mono ?_
    rintro e wA ⟨rfl, hb⟩
    have BW : Hid (Below w.heap.size w wA) := hb
    replace C_a : Hid (Came .u64 wA a_a l_a c_a z_a) := C_a.out.old hb
    clear hb
    have HC := long1 a_a l_a c_a wA le_a
    rw [decide_eq_true hlong] at HC
    go_wp2_with fail
    refine HC.mono ?_
    rintro e wB ⟨rfl, hb⟩
    replace BW : Hid (Below w.heap.size w wB) := BW.out.trans (hb.mono BW.out.size)
    replace C_a : Hid (Came .u64 wB a_a l_a c_a z_a) := C_a.out.old hb
    clear hb HC
    clear C_a
    go_wp2
    go_ret
    exact ⟨rfl, BW.out⟩
  · go_enter Try.func6, Try.ntmps6
    go_wp2_with fail
    refine (Awake_any w).mono ?_
    rintro e wA ⟨rfl, hb⟩
    have BW : Hid (Below w.heap.size w wA) := hb
    replace C_a : Hid (Came .u64 wA a_a l_a c_a z_a) := C_a.out.old hb
    clear hb
    have HC := long1 a_a l_a c_a wA le_a
    rw [decide_eq_false hlong] at HC
    go_wp2_with fail
    refine HC.mono ?_
    rintro e wB ⟨rfl, hb⟩
    replace BW : Hid (Below w.heap.size w wB) := BW.out.trans (hb.mono BW.out.size)
    replace C_a : Hid (Came .u64 wB a_a l_a c_a z_a) := C_a.out.old hb
    clear hb HC
    have N_a : Hid (NumIn .u64 B64 wB a_a l_a c_a (z_a.take l_a)) := C_a.out.nat (by omega)
    have L_a : Hid (l_a ≤ 70) := by unfold Hid; omega
    clear hlong C_a le_a
    generalize z_a.take l_a = s_a at *
    have P_a : Hid (0 ≤ val B64 s_a) := val_nonneg B64_pos N_a.out.dg
    obtain ⟨A, V_a⟩ : ∃ X, Hid (val B64 s_a = X) := ⟨_, rfl⟩
    replace P_a : Hid (0 ≤ A) := by have := P_a.out; rw [V_a.out] at this; exact this
    go_wp2_with fail
    have HC := rOf_any a_a l_a c_a s_a wB N_a.out (by have := L_a.out; omega)
    refine HC.mono ?_
    rintro e w1 ⟨v, rfl, a_d, l_d, c_d, s_d, rfl, n_d, k_d, v_d, b_d, hb⟩
    replace BW : Hid (Below w.heap.size w w1) := BW.out.trans ((hb).mono BW.out.size)
    replace N_a : Hid (NumIn _ _ _ _ _ _ _) := N_a.out.old (hb)
    have N_d : Hid (NumIn _ _ _ _ _ _ _) := n_d
    have K_d : Hid (Canon s_d) := k_d
    have V_d : Hid (val D16 s_d = A) := by unfold Hid; rw [v_d]; rw [V_a.out]
    have L_d : Hid (l_d ≤ 280) := by unfold Hid; have := L_a.out; omega
    clear n_d v_d b_d k_d hb HC
    have HLN : Hid (lenOf s_a = blen A.toNat) := by unfold Hid; rw [lenOf_eq _ N_a.out.dg, V_a.out]
    obtain ⟨bl, HBL⟩ : ∃ bl, Hid (blen A.toNat = bl) := ⟨_, rfl⟩
    have hbl : bl ≤ 4480 := by
      have h1 := val_lt B64_pos N_a.out.dg
      have h2 := pow_mono (B := B64) (by decide) (show s_a.length ≤ 70 by have := N_a.out.len; have := L_a.out; omega)
      rw [V_a.out] at h1
      rw [← HBL.out]
      refine blen_le _ _ ?_
      have e : ((2 ^ 4480 : Nat) : Int) = B64 ^ 70 := by decide +kernel
      have := P_a.out
      omega
    by_cases h1 : size < 0
    · go_wp2_with fail
      have HC := Bytes_no a_a l_a c_a s_a size w1 N_a.out (by rw [HLN.out, HBL.out]; omega)
      refine HC.mono ?_
      rintro e wQ ⟨rfl, rfl⟩
      clear HC
      clear N_a N_d
      go_wp2
      go_ret
      exact ⟨rfl, BW.out⟩
    by_cases h2 : 512 < size
    · go_wp2_with fail
      have HC := Bytes_no a_a l_a c_a s_a size w1 N_a.out (by rw [HLN.out, HBL.out]; omega)
      refine HC.mono ?_
      rintro e wQ ⟨rfl, rfl⟩
      clear HC
      clear N_a N_d
      go_wp2
      go_ret
      exact ⟨rfl, BW.out⟩
    by_cases h3 : 8 * size < (bl : Int)
    · go_wp2_with fail
      have HC := Bytes_no a_a l_a c_a s_a size w1 N_a.out (by rw [HLN.out, HBL.out]; omega)
      refine HC.mono ?_
      rintro e wQ ⟨rfl, rfl⟩
      clear HC
      go_wp2_with fail
      have HC := rLen_any a_d l_d c_d s_d wQ N_d.out K_d.out (by have := L_d.out; omega)
      rw [V_d.out, HBL.out] at HC
      refine HC.mono ?_
      rintro e wR ⟨rfl, rfl⟩
      clear HC
      clear N_a N_d
      go_wp2
      go_ret
      exact ⟨rfl, BW.out⟩
    obtain ⟨n, rfl⟩ := Int.eq_ofNat_of_zero_le (show 0 ≤ size by omega)
    have hn : n ≤ 512 := by omega
    have hfit : bl ≤ 8 * n := by omega
    clear h1 h2 h3 hsz0 hsz1
    have PA : Hid (A < 256 ^ n) := lt_of_blen A P_a.out n (by rw [HBL.out]; exact hfit)
    go_wp2_with fail
    have HC := Bytes_yes a_a l_a c_a s_a n w1 N_a.out hn (by rw [HLN.out, HBL.out]; exact hfit)
    refine HC.mono ?_
    rintro e w2 ⟨v, rfl, g, bs, rfl, hrb, hlb, hdb, hvb, hb⟩
    replace BW : Hid (Below w.heap.size w w2) := BW.out.trans ((hb).mono BW.out.size)
    replace N_a : Hid (NumIn _ _ _ _ _ _ _) := N_a.out.old (hb)
    replace N_d : Hid (NumIn _ _ _ _ _ _ _) := N_d.out.old (hb)
    clear hb HC
    go_wp2_with fail
    have HC := rLen_any a_d l_d c_d s_d w2 N_d.out K_d.out (by have := L_d.out; omega)
    rw [V_d.out, HBL.out] at HC
    refine HC.mono ?_
    rintro e wR ⟨rfl, rfl⟩
    clear HC
    have hlies : Lies .u8 wR (some ⟨g, 0, none⟩) n bs := by have := hrb.lies 0 n (by omega); rw [List.drop_zero, List.take_of_length_le (by omega)] at this; exact this
    have HLS : Hid (Lies .u8 wR.drew (some ⟨g, 0, none⟩) n bs) := hlies
    have hcv1 := conv_bytes wR.drew 39 9 5 Try.underlying39 Try.underlying5 Try.underlying9 (some ⟨g, 0, none⟩) n n bs HLS.out
    have HDB : Hid (Dg 256 bs.reverse ∧ bs.length = n ∧ val 256 bs.reverse = A) := ⟨fun x hx => hdb x (by simpa using hx), hlb, by rw [hvb, V_a.out]⟩
    have HBR := rBytes_any a_d l_d c_d s_d n wR.drew (N_d.out.old (Drew.below ⟨1, rfl⟩ _)) hn (by rw [V_d.out]; exact PA.out)
    replace BW : Hid (Below w.heap.size w wR.drew) := BW.out.trans (Drew.below ⟨1, rfl⟩ _)
    rw [V_d.out] at HBR
    have hfitI : ¬ (8 * (n : Int) < (bl : Int)) := by omega
    have hn8 : IntKind.i64.wrap (8 * (n : Int)) = 8 * (n : Int) := IntWalk.i64_in _ (by omega)
    clear hlies hrb hlb hdb hvb N_a N_d V_a V_d K_d P_a L_a L_d HLN HBL PA
    go_wp2
    go_region_with (first | (go_at_call 25; refine HBR.mono ?_; rintro e w4 ⟨v, rfl, g2, bs2, rfl, hrb2, hlb2, hdb2, hvb2, hb2⟩; obtain rfl : bs2 = bs := (by have h1 : bs2.reverse = bs.reverse := val_inj (B := 256) (by decide) (by simp only [List.length_reverse]; rw [hlb2, HDB.out.2.1]) (fun x hx => hdb2 x (by simpa using hx)) HDB.out.1 (by rw [hvb2, HDB.out.2.2]); have := congrArg List.reverse h1; simpa using this); have hcv2 := conv_bytes w4 39 9 5 Try.underlying39 Try.underlying5 Try.underlying9 (some ⟨g, 0, none⟩) n n bs2 (HLS.out.old hb2); have hcv3 := conv_bytes w4 39 9 5 Try.underlying39 Try.underlying5 Try.underlying9 (some ⟨g2, 0, none⟩) n n bs2 (by have := hrb2.lies 0 n (by omega); rw [List.drop_zero, List.take_of_length_le (by omega)] at this; exact this); have HB4 : Hid (Below w.heap.size w w4) := BW.out.trans (hb2.mono BW.out.size); clear hrb2 hlb2 hdb2 hvb2 hb2; generalize strOfNums bs2 = S at *))
    all_goals
      go_wp2
      go_ret
      exact ⟨rfl, HB4.out⟩
end Go.Proofs.Ytiijnenbfhhdiab
