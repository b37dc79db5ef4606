/-
  The walk of NatTexts.
-/
import Derived.Test.YtiijnenbfhhdiabApp
namespace Go.Proofs.Ytiijnenbfhhdiab
open Go.RowKit
set_option linter.unusedVariables false
set_option linter.unusedSimpArgs false

set_option maxHeartbeats 4000000 in
/-- Bytes as a number, and that as as many bytes, are the bytes. -/
theorem NatTexts_walk (a_b : Option Addr) (l_b c_b : Nat) (z_b : List Int) (zeros : Int) (w : World) (came_b : Came .u8 w a_b l_b c_b z_b) (w_zeros : (Lit.int .u8 zeros).wf = true) (reach_b : l_b ≤ 140737488351232) :
    Calls Try.prog 7 #[.slice a_b l_b c_b, .int .u8 zeros] w fun e w' => e = .returned (.bool true) ∧ Below w.heap.size w w' := by
  have C_b : Hid (Came .u8 w a_b l_b c_b z_b) := came_b
  clear came_b
  obtain ⟨hz0, hz1⟩ := word_u8 w_zeros
  obtain ⟨Z, rfl⟩ := Int.eq_ofNat_of_zero_le hz0
  have hZ : Z < 256 := by omega
  clear hz0 hz1 w_zeros
  by_cases hlong : 512 < l_b + Z
  · go_enter Try.func7, Try.ntmps7
    go_wp2_with fail
    refine (Awake_any w).mono ?_
    rintro e wA ⟨rfl, hb⟩
    have BW : Hid (Below w.heap.size w wA) := hb
    replace C_b : Hid (Came .u8 wA a_b l_b c_b z_b) := C_b.out.old hb
    clear hb
    clear C_b
    go_wp2
    go_ret
    exact ⟨rfl, BW.out⟩
  have hsm : l_b + Z ≤ 512 := by omega
  clear hlong
  go_enter Try.func7, Try.ntmps7
  go_wp2_with fail
  refine (Awake_any w).mono ?_
  rintro e wA ⟨rfl, hb⟩
  have BW : Hid (Below w.heap.size w wA) := hb
  replace C_b : Hid (Came .u8 wA a_b l_b c_b z_b) := C_b.out.old hb
  clear hb
  have N_b : Hid (NumIn .u8 256 wA a_b l_b c_b (z_b.take l_b)) := C_b.out.bytes (by omega)
  clear C_b
  generalize z_b.take l_b = s_b at *
  have LB : Hid (s_b.length = l_b) := N_b.out.len
  obtain ⟨B, VB⟩ : ∃ X, Hid (val 256 s_b.reverse = X) := ⟨_, rfl⟩
  have HDB : Hid (Dg 256 s_b.reverse) := fun x hx => N_b.out.dg x (by simpa using hx)
  have PB : Hid (0 ≤ B ∧ B < 256 ^ l_b) := by
    have h1 := val_nonneg (B := 256) (by decide) HDB.out
    have h2 := val_lt (B := 256) (by decide) HDB.out
    rw [VB.out] at h1 h2
    rw [List.length_reverse, LB.out] at h2
    exact ⟨h1, h2⟩
  go_wp2_with fail
  have HC := Read_yes a_b l_b c_b s_b wA N_b.out (by omega)
  refine HC.mono ?_
  rintro e w1 ⟨v, rfl, a_n, l_n, c_n, s_n, rfl, n_n, k_n, v_n, b_n, hb⟩
  replace BW : Hid (Below w.heap.size w w1) := BW.out.trans ((hb).mono BW.out.size)
  replace N_b : Hid (NumIn _ _ _ _ _ _ _) := N_b.out.old (hb)
  have N_n : Hid (NumIn _ _ _ _ _ _ _) := n_n
  have V_n : Hid (val B64 s_n = B) := by unfold Hid; rw [v_n]; rw [VB.out]
  have L_n : Hid (l_n ≤ 64) := by unfold Hid; exact b_n
  clear n_n v_n b_n hb HC
  go_wp2_with (at_make; refine wpList_make_row _ rfl _ _ 39 rfl 5 .u8 1 Try.underlying39 Try.infoB _ _ _ _ Z rfl rfl rfl rfl (by omega) (by unfold maxLen; omega) ?_)
  intro wM hrowM hbM
  have hown0 : Own 5 .u8 wM w1.heap.size (.slice (some ⟨w1.heap.size, 0, none⟩) Z Z) (List.replicate Z 0) := by
    have := hrowM.own (Nat.le_refl _) (by simp; omega)
    simpa using this
  have hlies := N_b.out.lies.old hbM
  go_wp2_with (at_builtin; refine wpList_append_nums rfl _ _ 39 rfl 5 .u8 1 Try.underlying39 Try.infoB w1.heap.size _ _ rfl hown0 a_b l_b c_b s_b rfl hlies N_b.out.nn (by simp; omega) (by decide) w1 hbM (hbM).size ?_)
  intro v2 wQ hown2 hbQ _ _
  clear hlies
  have hdg : Dg 256 (List.replicate Z 0 ++ s_b) := (Dg.zeros (by decide) _).append N_b.out.dg
  have hlen2 : (List.replicate Z (0 : Int) ++ s_b).length = Z + l_b := by simp only [List.length_append, List.length_replicate]; rw [LB.out]
  obtain ⟨a_ab, c_ab, hv2, hnum⟩ := hown2.num (B := 256) hdg (by rw [hlen2]; omega)
  subst hv2
  rw [hlen2] at hnum ⊢
  have N_ab : Hid (NumIn .u8 256 wQ a_ab (Z + l_b) c_ab (List.replicate Z 0 ++ s_b)) := hnum
  have VAB : Hid (val 256 (List.replicate Z 0 ++ s_b).reverse = B) := by unfold Hid; rw [List.reverse_append, val_append, VB.out, List.reverse_replicate, val_replicate]; simp
  clear hown0 hown2 hbM hlen2 hdg hnum hrowM
  replace BW : Hid (Below w.heap.size w wQ) := BW.out.trans ((hbQ).mono BW.out.size)
  replace N_b : Hid (NumIn _ _ _ _ _ _ _) := N_b.out.old (hbQ)
  replace N_n : Hid (NumIn _ _ _ _ _ _ _) := N_n.out.old (hbQ)
  clear hbQ
  generalize List.replicate Z 0 ++ s_b = s_ab at *
  obtain ⟨l_ab, hlab⟩ : ∃ n, Z + l_b = n := ⟨_, rfl⟩
  rw [hlab] at N_ab ⊢
  have HLAB : Hid (l_ab ≤ 512) := by unfold Hid; omega
  clear hlab
  go_wp2_with fail
  have HC := Read_yes a_ab l_ab c_ab s_ab wQ N_ab.out HLAB.out
  refine HC.mono ?_
  rintro e w2 ⟨v, rfl, a_m, l_m, c_m, s_m, rfl, n_m, k_m, v_m, b_m, hb⟩
  replace BW : Hid (Below w.heap.size w w2) := BW.out.trans ((hb).mono BW.out.size)
  replace N_b : Hid (NumIn _ _ _ _ _ _ _) := N_b.out.old (hb)
  replace N_n : Hid (NumIn _ _ _ _ _ _ _) := N_n.out.old (hb)
  replace N_ab : Hid (NumIn _ _ _ _ _ _ _) := N_ab.out.old (hb)
  have N_m : Hid (NumIn _ _ _ _ _ _ _) := n_m
  have V_m : Hid (val B64 s_m = B) := by unfold Hid; rw [v_m]; rw [VAB.out]
  have L_m : Hid (l_m ≤ 64) := by unfold Hid; exact b_m
  clear n_m v_m b_m hb HC
  go_wp2_with fail
  have HC := Bytes_yes a_n l_n c_n s_n l_b w2 N_n.out (by omega) (by rw [lenOf_eq _ N_n.out.dg, V_n.out]; exact blen_bytes B l_b PB.out.1 PB.out.2)
  refine HC.mono ?_
  rintro e w3 ⟨v, rfl, g, bs, rfl, hrb, hlb, hdb, hvb, hb⟩
  replace BW : Hid (Below w.heap.size w w3) := BW.out.trans ((hb).mono BW.out.size)
  replace N_b : Hid (NumIn _ _ _ _ _ _ _) := N_b.out.old (hb)
  replace N_n : Hid (NumIn _ _ _ _ _ _ _) := N_n.out.old (hb)
  replace N_ab : Hid (NumIn _ _ _ _ _ _ _) := N_ab.out.old (hb)
  replace N_m : Hid (NumIn _ _ _ _ _ _ _) := N_m.out.old (hb)
  have hbs : bs = s_b := by
    have h1 : bs.reverse = s_b.reverse := val_inj (B := 256) (by decide) (by simp only [List.length_reverse]; rw [hlb, LB.out]) (fun x hx => hdb x (by simpa using hx)) HDB.out (by rw [hvb, V_n.out, VB.out])
    have := congrArg List.reverse h1
    simpa using this
  subst hbs
  have hcv1 := conv_bytes w3 39 9 5 Try.underlying39 Try.underlying5 Try.underlying9 (some ⟨g, 0, none⟩) l_b l_b bs (by have := hrb.lies 0 l_b (by omega); rw [List.drop_zero, List.take_of_length_le (by omega)] at this; exact this)
  have hcv2 := conv_bytes w3 39 9 5 Try.underlying39 Try.underlying5 Try.underlying9 a_b l_b c_b bs N_b.out.lies
  generalize strOfNums bs = S at *
  clear hrb hlb hdb hvb hb HC
  go_wp2_with fail
  have HC := Cmp_any a_n a_m l_n c_n l_m c_m s_n s_m w3 N_n.out N_m.out
  rw [show cmpI (val B64 s_n) (val B64 s_m) = 0 from cmpI_eq (by rw [V_n.out, V_m.out])] at HC
  refine HC.mono ?_
  rintro e w4 ⟨rfl, hd⟩
  replace BW : Hid (Below w.heap.size w w4) := BW.out.trans ((hd.below _).mono BW.out.size)
  replace N_b : Hid (NumIn _ _ _ _ _ _ _) := N_b.out.old (hd.below _)
  replace N_n : Hid (NumIn _ _ _ _ _ _ _) := N_n.out.old (hd.below _)
  replace N_ab : Hid (NumIn _ _ _ _ _ _ _) := N_ab.out.old (hd.below _)
  replace N_m : Hid (NumIn _ _ _ _ _ _ _) := N_m.out.old (hd.below _)
  clear hd HC
  clear N_b N_n N_ab N_m
  go_wp2
  go_ret
  exact ⟨rfl, BW.out⟩
end Go.Proofs.Ytiijnenbfhhdiab
