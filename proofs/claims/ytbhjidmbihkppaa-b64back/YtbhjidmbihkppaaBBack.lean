/-
  The walk of B64Back.
-/
import Derived.Test.YtbhjidmbihkppaaB64T
namespace Go.Proofs.Ytbhjidmbihkppaa
open Go.RowKit
set_option linter.unusedVariables false
set_option linter.unusedSimpArgs false

theorem toList_ne {a b : ByteArray} (h : a ≠ b) : (a.toList == b.toList) = false := by
  rw [ByteArray.toList_eq, ByteArray.toList_eq]
  cases e : a.data.toList == b.data.toList with
  | false => rfl
  | true =>
    exfalso
    apply h
    obtain ⟨⟨a⟩⟩ := a
    obtain ⟨⟨b⟩⟩ := b
    have := eq_of_beq e
    simp at this
    rw [this]

set_option maxHeartbeats 4000000 in
/-- There and back. -/
theorem B64Back_walk (a_b : Option Addr) (l_b c_b : Nat) (z_b : List Int) (at_ c : Int) (w : World) (came_b : Came .u8 w a_b l_b c_b z_b) (w_at : (Lit.int .i64 at_).wf = true) (w_c : (Lit.int .u8 c).wf = true) :
    Calls Try.prog 5 #[.slice a_b l_b c_b, .int .i64 at_, .int .u8 c] w fun e w' => e = .returned (.bool true) ∧ Below w.heap.size w w' := by
  have hmx := came_b.le
  unfold maxLen at hmx
  have C_b : Hid (Came .u8 w a_b l_b c_b z_b) := came_b
  clear came_b
  by_cases hlong : 3000 < l_b
  · have hlong' : (3000 : Int) < (l_b : Int) := by omega
    go_enter Try.func5, Try.ntmps5
    go_wp2_with fail
    refine (BAwake_any w).mono ?_
    rintro e wA ⟨rfl, hb⟩
    go_wp2
    go_ret
    exact ⟨rfl, hb⟩
  have hlong' : ¬ (3000 : Int) < (l_b : Int) := by omega
  have hsm : l_b ≤ 3000 := by omega
  clear hlong
  go_enter Try.func5, Try.ntmps5
  go_wp2_with fail
  refine (BAwake_any w).mono ?_
  rintro e wA ⟨rfl, hb⟩
  have N_b : Hid (NumIn .u8 256 wA a_b l_b c_b (z_b.take l_b)) := (C_b.out.old hb).num (fun _ => word_u8) (by omega)
  have BW : Hid (Below w.heap.size w wA) := hb
  clear C_b hb
  generalize z_b.take l_b = xs at *
  have LX : Hid (xs.length = l_b ∧ Dg 256 xs) := ⟨N_b.out.len, N_b.out.dg⟩
  have HE := Enc_any a_b l_b c_b xs wA N_b.out (by omega)
  rw [show (⟨(encT (nats xs)).toArray⟩ : ByteArray) = txt (nats xs) from rfl] at HE
  obtain ⟨n, hn⟩ : ∃ n, (8 * l_b + 5) / 6 = n := ⟨_, rfl⟩
  have hnI : (8 * (l_b : Int) + 5) / 6 = (n : Int) := by omega
  have hn4 : n ≤ 4001 := by omega
  have hsz : (txt (nats xs)).size = n := by rw [txt_size, nats_length, LX.out.1, hn]
  have HG := good_txt (nats_lt LX.out.2)
  have HD := fun w' => Dec_yes (txt (nats xs)) w' (by rw [hsz]; omega) HG
  rw [byt_txt (nats_lt LX.out.2), ints_nats LX.out.2] at HD
  have HS : ∀ t : ByteArray, Good (cods t) → (strOfNums (ints (byt ((cods t).map vS))) = strOfNums xs ↔ t = txt (nats xs)) := fun t g => same_txt LX.out.2 g
  generalize txt (nats xs) = s at *
  clear HG hn
  by_cases hn0 : n = 0
  · have hn0b : ((n : Int) == 0) = true := by simp; omega
    go_wp2_with (first
      | (go_at_call 9; refine HE.mono ?_; rintro e w1 ⟨rfl, hb1⟩)
      | (go_at_call 11; refine (HD _).mono ?_; rintro e w2 ⟨⟨v2, rfl, hown2⟩, hb2⟩; obtain ⟨ao, cap, rfl, hcv⟩ := own_str hown2 LX.out.2 l_b LX.out.1 (by omega); have hcb := conv_bytes w2 22 9 5 Try.underlying22 Try.underlying5 Try.underlying9 a_b l_b c_b xs ((N_b.out.lies.old hb1).old hb2)))
    go_ret
    exact ⟨rfl, BW.out.trans ((hb1.mono BW.out.size).trans (hb2.mono (by have := BW.out.size; have := hb1.size; omega)))⟩
  have hn0b : ((n : Int) == 0) = false := by simp; omega
  have hn0I : ¬ (n : Int) = 0 := by omega
  obtain ⟨k, hkI, hk⟩ : ∃ k : Nat, wrap64 ((IntKind.u64.wrap at_).tmod (n : Int)) = (k : Int) ∧ k < n := by
    have h0 : 0 ≤ IntKind.u64.wrap at_ := by rw [IntKind.wrap_u64]; omega
    rw [Int.tmod_eq_emod_of_nonneg h0]
    have h1 := Int.emod_nonneg (IntKind.u64.wrap at_) hn0I
    have h2 := Int.emod_lt_of_pos (IntKind.u64.wrap at_) (show (0 : Int) < (n : Int) by omega)
    generalize IntKind.u64.wrap at_ % (n : Int) = r at *
    exact ⟨r.toNat, by unfold wrap64; omega, by omega⟩
  obtain ⟨c', rfl, hc'⟩ : ∃ c' : Nat, c = (c' : Int) ∧ c' < 256 := by
    have := word_u8 w_c
    exact ⟨c.toNat, by omega, by omega⟩
  go_wp2_with (first
    | (go_at_call 9; refine HE.mono ?_; rintro e w1 ⟨rfl, hb1⟩)
    | (go_at_call 11; refine (HD _).mono ?_; rintro e w2 ⟨⟨v2, rfl, hown2⟩, hb2⟩; obtain ⟨ao, cap, rfl, hcv⟩ := own_str hown2 LX.out.2 l_b LX.out.1 (by omega); have hcb := conv_bytes w2 22 9 5 Try.underlying22 Try.underlying5 Try.underlying9 a_b l_b c_b xs ((N_b.out.lies.old hb1).old hb2)))
  have hcc : (convert 22 9 (.slice (some ⟨w2.heap.size, 0, none⟩) 1 1)).run Try.prog (w2.alloc (.cells #[.int .u8 c'] 5)).drew = .ok (.string (strOfNums [(c' : Int)])) (w2.alloc (.cells #[.int .u8 c'] 5)).drew := by
    refine conv_bytes _ 22 9 5 Try.underlying22 Try.underlying5 Try.underlying9 _ 1 1 _ ?_
    exact (row_alloc w2 5 .u8 c').lies 0 1 (by simp)
  have hkn : k ≤ n := by omega
  have hkn1 : k + 1 ≤ n := by omega
  have htc : (strOfNums [(c' : Int)]).size = 1 := by simp [strOfNums, ByteArray.size]
  generalize strOfNums [(c' : Int)] = tc at *
  have hk2 : ¬ 9223372036854775807 < k + 1 := by omega
  have hk3 : ¬ 9223372036854775807 < k + 1 + (n - (k + 1)) := by omega
  go_region
  have hts : (s.extract 0 k ++ tc ++ s.extract (k + 1) n).size = n := by
    simp only [ByteArray.size_append, ByteArray.size_extract, htc, hsz]
    omega
  have hb3 : Below w2.heap.size w2 (w2.alloc (.cells #[.int .u8 c'] 5)).drew := ((Below.refl _ w2).alloc (Nat.le_refl _) _).drew
  generalize s.extract 0 k ++ tc ++ s.extract (k + 1) n = t at *
  generalize (w2.alloc (.cells #[.int .u8 c'] 5)).drew = w3 at *
  have HB3 : Hid (Below w.heap.size w w3 ∧ Lies .u8 w3 a_b l_b xs) := ⟨BW.out.trans ((hb1.mono BW.out.size).trans ((hb2.mono (by have := BW.out.size; have := hb1.size; omega)).trans (hb3.mono (by have := BW.out.size; have := hb1.size; have := hb2.size; omega)))), ((N_b.out.lies.old hb1).old hb2).old hb3⟩
  clear hb1 hb2 hb3 hcc HE HD htc hcv hcb hown2 hkI hkn hkn1 hk2 hk3
  have ht : t.size ≤ 16384 := by omega
  by_cases g : Good (cods t)
  · have HD2 := Dec_yes t w3 ht g
    have hsm2 := HS t g
    have hyl : (ints (byt ((cods t).map vS))).length ≤ 4000 := by rw [ints_length, byt_length, List.length_map, cods_length]; omega
    have hyd := ints_dg (byt_lt ((cods t).map vS))
    have HYD : Hid (Dg 256 (ints (byt ((cods t).map vS)))) := hyd
    generalize ints (byt ((cods t).map vS)) = ys at *
    clear HS g hyd
    have hbe : (((strOfNums ys).toList == (strOfNums xs).toList) == (t.toList == s.toList)) = true := by
      by_cases e : t = s
      · rw [hsm2.2 e, e]; simp
      · have e2 : strOfNums ys ≠ strOfNums xs := fun x => e (hsm2.1 x)
        rw [toList_ne e, toList_ne e2]; rfl
    clear hsm2
    go_wp2_with (go_at_call 11; refine HD2.mono ?_; rintro e w4 ⟨⟨v4, rfl, hown4⟩, hb4⟩; obtain ⟨ao4, cap4, rfl, hcv⟩ := own_str hown4 HYD.out ys.length rfl (by omega); have hcb := conv_bytes w4 22 9 5 Try.underlying22 Try.underlying5 Try.underlying9 a_b l_b c_b xs (HB3.out.2.old hb4); clear hown4)
    go_ret
    exact ⟨rfl, HB3.out.1.trans (hb4.mono HB3.out.1.size)⟩
  · have HD2 := Dec_no t w3 ht g
    clear HS g
    go_wp2_with (go_at_call 11; refine HD2.mono ?_; rintro e w4 ⟨rfl, hb4⟩)
    go_ret
    exact ⟨rfl, HB3.out.1.trans (hb4.mono HB3.out.1.size)⟩
end Go.Proofs.Ytbhjidmbihkppaa
