/-
  The walk of B64Joins.
-/
import Derived.Test.YtbhjidmbihkppaaB64T
namespace Go.Proofs.Ytbhjidmbihkppaa
open Go.RowKit
set_option linter.unusedVariables false
set_option linter.unusedSimpArgs false

theorem nats_append (xs ys : List Int) : nats (xs ++ ys) = nats xs ++ nats ys := by simp [nats]
theorem txt_append {xs ys : List Int} (hx : Dg 256 xs) (hy : Dg 256 ys) (h3 : xs.length % 3 = 0) : txt (nats (xs ++ ys)) = txt (nats xs) ++ txt (nats ys) := by
  have e : encL (nats (xs ++ ys)) = encL (nats xs) ++ encL (nats ys) := by
    rw [nats_append]
    exact enc_append (nats_lt hx) (nats_lt hy) (by rw [nats_length]; exact h3)
  unfold txt encT
  rw [e, List.map_append]
  apply cods_inj
  simp [cods]
theorem str_append (xs ys : List Int) : strOfNums (xs ++ ys) = strOfNums xs ++ strOfNums ys := by
  apply cods_inj
  simp [cods, strOfNums]
theorem str_size' (xs : List Int) : (strOfNums xs).size = xs.length := by simp [strOfNums, ByteArray.size]

set_option maxHeartbeats 4000000 in
/-- Behind a multiple of three bytes a text goes on with the text of the rest. -/
theorem B64Joins_walk (a_a : Option Addr) (l_a c_a : Nat) (z_a : List Int) (a_b : Option Addr) (l_b c_b : Nat) (z_b : List Int) (w : World) (came_a : Came .u8 w a_a l_a c_a z_a) (came_b : Came .u8 w a_b l_b c_b z_b) (reach_a : l_a ≤ 140737488351232) (reach_b : l_b ≤ 140737488351232) :
    Calls Try.prog 7 #[.slice a_a l_a c_a, .slice a_b l_b c_b] w fun e w' => e = .returned (.bool true) ∧ Below w.heap.size w w' := by
  have C_a : Hid (Came .u8 w a_a l_a c_a z_a) := came_a
  have C_b : Hid (Came .u8 w a_b l_b c_b z_b) := came_b
  clear came_a came_b
  by_cases hlong : 3000 < l_a + l_b
  · have hlong' : (3000 : Int) < (l_a : Int) + (l_b : Int) := by omega
    go_enter Try.func7, Try.ntmps7
    go_wp2_with fail
    refine (BAwake_any w).mono ?_
    rintro e wA ⟨rfl, hb⟩
    go_wp2
    go_ret
    exact ⟨rfl, hb⟩
  have hlong' : ¬ (3000 : Int) < (l_a : Int) + (l_b : Int) := by omega
  have hsa : l_a ≤ 3000 := by omega
  have hsb : l_b ≤ 3000 := by omega
  clear hlong
  obtain ⟨m, hm⟩ : ∃ m, l_a / 3 * 3 = m := ⟨_, rfl⟩
  have hmI : (l_a : Int) / 3 * 3 = (m : Int) := by omega
  have hma : m ≤ l_a := by omega
  have hm3 : m % 3 = 0 := by omega
  clear hm
  go_enter Try.func7, Try.ntmps7
  go_wp2_with fail
  refine (BAwake_any w).mono ?_
  rintro e wA ⟨rfl, hb⟩
  have N_a0 := (C_a.out.old hb).num (B := 256) (fun _ => word_u8) (by omega)
  have hca : m ≤ c_a := Nat.le_trans hma N_a0.lc
  have N_a : Hid (NumIn .u8 256 wA a_a m c_a ((z_a.take l_a).take m)) := N_a0.take m hma
  have N_b : Hid (NumIn .u8 256 wA a_b l_b c_b (z_b.take l_b)) := (C_b.out.old hb).num (fun _ => word_u8) (by omega)
  have BW : Hid (Below w.heap.size w wA) := hb
  clear C_a C_b hb N_a0
  generalize (z_a.take l_a).take m = xs at *
  generalize z_b.take l_b = ys at *
  have LX : Hid (xs.length = m ∧ Dg 256 xs ∧ ys.length = l_b ∧ Dg 256 ys) := ⟨N_a.out.len, N_a.out.dg, N_b.out.len, N_b.out.dg⟩
  have HEa := Enc_any a_a m c_a xs wA N_a.out (by omega)
  have HEb := fun w' h => Enc_any a_b l_b c_b ys w' h (by omega)
  rw [show (⟨(encT (nats xs)).toArray⟩ : ByteArray) = txt (nats xs) from rfl] at HEa
  rw [show (⟨(encT (nats ys)).toArray⟩ : ByteArray) = txt (nats ys) from rfl] at HEb
  have hta : (txt (nats xs)).size = (8 * m + 5) / 6 := by rw [txt_size, nats_length, LX.out.1]
  have htb : (txt (nats ys)).size = (8 * l_b + 5) / 6 := by rw [txt_size, nats_length, LX.out.2.2.1]
  have hap := txt_append LX.out.2.1 LX.out.2.2.2 (by rw [LX.out.1]; exact hm3)
  have hdxy : Dg 256 (xs ++ ys) := LX.out.2.1.append LX.out.2.2.2
  have HG := good_txt (nats_lt hdxy)
  have HD := fun w' => Dec_yes (txt (nats (xs ++ ys))) w' (by rw [hap, ByteArray.size_append, hta, htb]; omega) HG
  rw [byt_txt (nats_lt hdxy), ints_nats hdxy] at HD
  have HEc := fun ao cap w' h => Enc_any ao (m + l_b) cap (xs ++ ys) w' h (by omega)
  rw [show (⟨(encT (nats (xs ++ ys))).toArray⟩ : ByteArray) = txt (nats (xs ++ ys)) from rfl] at HEc
  rw [hap] at HD HEc
  clear hap HG
  generalize txt (nats xs) = s at *
  generalize txt (nats ys) = t at *
  go_wp2_with fail
  refine HEa.mono ?_
  rintro e w1 ⟨rfl, hb1⟩
  go_wp2_with fail
  refine (HEb w1 (N_b.out.old hb1)).mono ?_
  rintro e w2 ⟨rfl, hb2⟩
  have hst : ¬ 9223372036854775807 < (8 * m + 5) / 6 + (8 * l_b + 5) / 6 := by omega
  clear HEa HEb
  go_wp2_with fail
  refine (HD w2).mono ?_
  rintro e w3 ⟨⟨v3, rfl, hown3⟩, hb3⟩
  have HB3 : Hid (Below w.heap.size w w3 ∧ Lies .u8 w3 a_a m xs ∧ Lies .u8 w3 a_b l_b ys) := ⟨BW.out.trans ((hb1.mono BW.out.size).trans ((hb2.mono (by have := BW.out.size; have := hb1.size; omega)).trans (hb3.mono (by have := BW.out.size; have := hb1.size; have := hb2.size; omega)))), ((N_a.out.lies.old hb1).old hb2).old hb3, ((N_b.out.lies.old hb1).old hb2).old hb3⟩
  have HNN : Hid ((a_a = none → c_a = 0) ∧ (a_b = none → c_b = 0)) := ⟨N_a.out.nn, N_b.out.nn⟩
  clear HD hb1 hb2 hb3 N_a N_b
  have hl1 : ([] : List Int).length + m ≤ 1073741824 := by simp; omega
  have hl2 : ([] ++ xs : List Int).length + l_b ≤ 1073741824 := by have := LX.out.1; simp; omega
  have hsa4 : ((8 * (m : Int) + 5) / 6 % 4 == 0) = true := by simp; omega
  have hmb : ¬ 9223372036854775807 < m + l_b := by omega
  have HAB := str_append xs ys
  have hzx : (strOfNums xs).size = m := by rw [str_size', LX.out.1]
  have hzy : (strOfNums ys).size = l_b := by rw [str_size', LX.out.2.2.1]
  go_wp2_with (first
    | (at_builtin; refine wpList_append_nums rfl _ _ 22 rfl 5 .u8 1 Try.underlying22 Try.infoB w3.heap.size (.slice (some ⟨w3.heap.size, 0, none⟩) 0 0) [] (by rfl) (own_lit0 5 .u8 w3 w3.heap.size (Nat.le_refl _)) a_a m c_a xs (by rfl) (HB3.out.2.1.old ((Below.refl _ _).alloc (Nat.le_refl _) _)) HNN.out.1 hl1 (by decide) w3 ((Below.refl _ _).alloc (Nat.le_refl _) _) (by simp) ?_; intro v4 w4 hown4 hb4 _ hs4)
    | (at_builtin; refine wpList_append_nums rfl _ _ 22 rfl 5 .u8 1 Try.underlying22 Try.infoB w3.heap.size v4 ([] ++ xs) (by rfl) hown4 a_b l_b c_b ys (by rfl) (HB3.out.2.2.old hb4) HNN.out.2 hl2 (by decide) w3 hb4 hb4.size ?_; intro v5 w5 hown5 hb5 _ hs5))
  rw [List.nil_append] at hown5
  obtain ⟨ao5, cap5, rfl, hn5⟩ := hown5.num (B := 256) (LX.out.2.1.append LX.out.2.2.2) (by have := LX.out.1; have := LX.out.2.2.1; simp; omega)
  rw [show (xs ++ ys).length = m + l_b by have := LX.out.1; have := LX.out.2.2.1; simp; omega] at hn5 ⊢
  refine (HEc ao5 cap5 w5 hn5).mono ?_
  rintro e w6 ⟨rfl, hb6⟩
  have hb36 : Below w3.heap.size w3 w6 := hb5.trans (hb6.mono hb5.size)
  have hca6 := conv_bytes w6 22 9 5 Try.underlying22 Try.underlying5 Try.underlying9 a_a m c_a xs (HB3.out.2.1.old hb36)
  have hcb6 := conv_bytes w6 22 9 5 Try.underlying22 Try.underlying5 Try.underlying9 a_b l_b c_b ys (HB3.out.2.2.old hb36)
  obtain ⟨ao3, cap3, rfl, hcv⟩ := own_str (hown3.below hb36) (LX.out.2.1.append LX.out.2.2.2) (m + l_b) (by have := LX.out.1; have := LX.out.2.2.1; simp; omega) (by omega)
  rw [HAB] at hcv
  have HB6 : Hid (Below w.heap.size w w6) := HB3.out.1.trans (hb36.mono HB3.out.1.size)
  clear hb36 hb6 hb5 hb4 hs4 hs5 hown3 hown4 hown5 hn5 HEc HAB HB3
  generalize strOfNums xs = p at *
  generalize strOfNums ys = q at *
  go_wp2
  go_ret
  exact ⟨rfl, HB6.out⟩
end Go.Proofs.Ytbhjidmbihkppaa
