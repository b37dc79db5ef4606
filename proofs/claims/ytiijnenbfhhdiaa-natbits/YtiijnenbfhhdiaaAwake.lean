/-
  Contract of the fixed facts: Awake answers true; and of long.
-/
import Derived.Test.YtiijnenbfhhdiaaDivA
import Derived.Laws.BytesArg
namespace Go.Proofs.Ytiijnenbfhhdiaa
open Go.RowKit
set_option linter.unusedVariables false
set_option linter.unusedSimpArgs false

theorem one_number {xs : List Int} (hd : Dg B64 xs) (hc : Canon xs) {ys : List Int} (hd' : Dg B64 ys) (hc' : Canon ys) (h : val B64 xs = val B64 ys) : xs = ys := canon_inj B64_one hd hd' hc hc' h
theorem dg_lit2 (a b : Int) (ha : 0 ≤ a ∧ a < 18446744073709551616) (hb : 0 ≤ b ∧ b < 18446744073709551616) : Dg B64 [a, b] := Dg.cons ha (Dg.cons hb (Dg.nil _))

set_option maxHeartbeats 4000000 in
theorem Awake_any (w : World) : Calls Try.prog 9 #[] w fun e w' => e = .returned (.bool true) ∧ Below w.heap.size w w' := by
  have hrow : Row 5 .u8 (w.alloc (.cells #[.int .u8 1, .int .u8 0] 5)) w.heap.size [1, 0] := by
    unfold Row
    rw [heap_alloc_new w]; rfl
  have hnb := hrow.num (B := 256) (Dg.cons (by decide) (Dg.cons (by decide) (Dg.nil _))) (by decide)
  have hb0 : Below w.heap.size w (w.alloc (.cells #[.int .u8 1, .int .u8 0] 5)) := (Below.refl _ _).alloc (Nat.le_refl _) _
  have HRD := Read_yes _ _ _ _ _ hnb (by decide)
  have e256 : val 256 [(1 : Int), 0].reverse = 256 := by decide
  rw [e256] at HRD
  have HB0 : Hid (Below w.heap.size w (w.alloc (.cells #[.int .u8 1, .int .u8 0] 5))) := hb0
  clear hrow hnb hb0 e256
  go_enter Try.func9, Try.ntmps9
  go_wp2_with fail
  refine HRD.mono ?_
  rintro e w1 ⟨v, rfl, a1, l1, c1, ns, rfl, hn1, hcn, hvn, hln, hb1⟩
  have hlenn : lenOf ns = 9 := by rw [lenOf_eq ns hn1.dg, hvn]; decide
  have B1 : Hid (Below w.heap.size w w1) := HB0.out.trans (hb1.mono HB0.out.size)
  have HBY := Bytes_yes a1 l1 c1 ns 3 w1 hn1 (by decide) (by rw [hlenn]; decide)
  have HN1 : Hid (NumIn _ _ _ _ _ _ _) := hn1
  have HVN : Hid _ := hvn
  have HLN : Hid _ := hlenn
  clear hn1 hcn hvn hln hb1 hlenn HRD HB0
  go_wp2_with fail
  refine HBY.mono ?_
  rintro e w2 ⟨v, rfl, gb, bs, rfl, hrb, hlb, hdb, hvb, hb2⟩
  have hbs : bs = [0, 1, 0] := by
    have h1 : bs.reverse = [0, 1, 0] := val_inj (B := 256) (by decide) (by simp [hlb]) (fun x hx => hdb x (by simpa using hx)) (Dg.cons (by decide) (Dg.cons (by decide) (Dg.cons (by decide) (Dg.nil _)))) (by rw [hvb, HVN.out]; decide)
    have := congrArg List.reverse h1
    simpa using this
  subst hbs
  have HRB : Hid (Row _ _ _ _ _) := hrb
  have B2 : Hid (Below w.heap.size w w2) := B1.out.trans (hb2.mono B1.out.size)
  have HN2 : Hid (NumIn _ _ _ _ _ _ _) := HN1.out.old hb2
  clear hrb hlb hdb hvb hb2 HBY HN1 B1 HVN
  go_wp2_with fail
  refine (Of_any 7 _ (by decide) (by decide)).mono ?_
  rintro e w3 ⟨v, rfl, a3, l3, c3, s7, rfl, hn3, _, hv7, hl3, hb3⟩
  have B3 : Hid (Below w.heap.size w w3) := B2.out.trans (hb3.mono B2.out.size)
  have HN3 : Hid (NumIn _ _ _ _ _ _ _) := HN2.out.old hb3
  have HRB3 : Hid (Row _ _ _ _ _) := HRB.out.below hb3 HRB.out.lt
  have H7 : Hid (NumIn _ _ _ _ _ _ _) := hn3
  have HV7 : Hid (val B64 s7 = 7 ∧ l3 ≤ 1) := ⟨hv7, hl3⟩
  clear hn3 hv7 hl3 hb3 B2 HN2 HRB
  go_wp2_with fail
  refine (Of_any 2 _ (by decide) (by decide)).mono ?_
  rintro e w4 ⟨v, rfl, a4, l4, c4, s2, rfl, hn4, _, hv2, hl4, hb4⟩
  have B4 : Hid (Below w.heap.size w w4) := B3.out.trans (hb4.mono B3.out.size)
  have HN4 : Hid (NumIn _ _ _ _ _ _ _) := HN3.out.old hb4
  have HRB4 : Hid (Row _ _ _ _ _) := HRB3.out.below hb4 HRB3.out.lt
  have HDIV := Div_any a3 a4 l3 c3 l4 c4 s7 s2 w4 (H7.out.old hb4) hn4 (by rw [hv2]; decide) (by have := HV7.out.2; omega)
  rw [HV7.out.1, hv2] at HDIV
  have hlb4 : l3 + 1 ≤ 2 := by have := HV7.out.2; omega
  have HLB4 : Hid (l3 + 1 ≤ 2) := hlb4
  clear hn4 hv2 hl4 hb4 B3 HN3 HRB3 H7 HV7 hlb4
  go_wp2_with fail
  refine HDIV.mono ?_
  rintro e w5 ⟨q, r, rfl, ⟨aq, lq, cq, sq, rfl, hnq, _, hvq, hlq, hb5⟩, ⟨ar, lr, cr, sr, rfl, hnr, _, hvr, hlr, _⟩⟩
  have B5 : Hid (Below w.heap.size w w5) := B4.out.trans (hb5.mono B4.out.size)
  have HN5 : Hid (NumIn _ _ _ _ _ _ _) := HN4.out.old hb5
  have HRB5 : Hid (Row _ _ _ _ _) := HRB4.out.below hb5 HRB4.out.lt
  have HQ : Hid (NumIn _ _ _ _ _ _ _) := hnq
  have HR : Hid (NumIn _ _ _ _ _ _ _) := hnr
  have HVQ : Hid (val B64 sq = 3) := by unfold Hid; rw [hvq]; decide
  have HVR : Hid (val B64 sr = 1) := by unfold Hid; rw [hvr]; decide
  clear hnq hvq hlq hnr hvr hlr hb5 B4 HN4 HRB4 HDIV HLB4
  go_wp2_with fail
  refine (Of_any 5 _ (by decide) (by decide)).mono ?_
  rintro e w6 ⟨v, rfl, a6, l6, c6, s5, rfl, hn6, _, hv5, hl6, hb6⟩
  have B6 : Hid (Below w.heap.size w w6) := B5.out.trans (hb6.mono B5.out.size)
  have HN6 : Hid (NumIn _ _ _ _ _ _ _) := HN5.out.old hb6
  have HRB6 : Hid (Row _ _ _ _ _) := HRB5.out.below hb6 HRB5.out.lt
  have HQ6 : Hid (NumIn _ _ _ _ _ _ _) := HQ.out.old hb6
  have HR6 : Hid (NumIn _ _ _ _ _ _ _) := HR.out.old hb6
  have HSU := Shift_up a6 l6 c6 s5 64 w6 hn6 (by decide) (by decide) (by omega)
  rw [hv5] at HSU
  clear hn6 hv5 hb6 hl6 B5 HN5 HRB5 HQ HR
  go_wp2_with fail
  refine HSU.mono ?_
  rintro e w7 ⟨v, rfl, au, lu, cu, us, rfl, hnu, hcu, hvu, hlu, hb7⟩
  have hus : us = [0, 5] := one_number hnu.dg hcu (dg_lit2 0 5 (by decide) (by decide)) rfl (by rw [hvu]; decide)
  subst hus
  have hlu2 := hnu.len
  obtain ⟨bu, ou, rfl, hbu, hcells⟩ := hnu.lies.at (by rw [← hlu2]; decide)
  simp only [List.length_cons, List.length_nil] at hlu2
  subst hlu2
  have hcu1 := hcells 1 (by decide)
  have B7 : Hid (Below w.heap.size w w7) := B6.out.trans (hb7.mono B6.out.size)
  have HN7 : Hid (NumIn _ _ _ _ _ _ _) := HN6.out.old hb7
  have HRB7 : Hid (Row _ _ _ _ _) := HRB6.out.below hb7 HRB6.out.lt
  have HQ7 : Hid (NumIn _ _ _ _ _ _ _) := HQ6.out.old hb7
  have HR7 : Hid (NumIn _ _ _ _ _ _ _) := HR6.out.old hb7
  have HU7 : Hid (NumIn _ _ _ _ _ _ _) := hnu
  clear hnu hcu hvu hlu hb7 hcells B6 HN6 HRB6 HQ6 HR6 HSU hcu1 hbu
  have HLE := Len_any a1 l1 c1 ns w7 HN7.out
  rw [HLN.out] at HLE
  go_wp2_with fail
  refine HLE.mono ?_
  rintro e w8 ⟨rfl, rfl⟩
  have hcv := run_convert_bytes_arg (P := Try.prog) w8 57 5 Try.underlying57 Try.underlying5 gb 0 3 3 [0, 1, 0] rfl (fun i hi => by rw [Nat.zero_add]; exact HRB7.out.cell i hi) 9 Try.underlying9
  rw [show strOfNums [0, 1, 0] = ⟨#[0, 1, 0]⟩ from rfl] at hcv
  go_wp2_with fail
  refine (Of_any 3 _ (by decide) (by decide)).mono ?_
  rintro e w9 ⟨v, rfl, a9, l9, c9, s3, rfl, hn9, _, hv3, hl9, hb9⟩
  have B9 : Hid (Below w.heap.size w w9) := B7.out.trans (hb9.mono B7.out.size)
  have HC9 := Cmp_any aq a9 lq cq l9 c9 sq s3 w9 (HQ7.out.old hb9) hn9
  rw [HVQ.out, hv3, cmpI_eq rfl] at HC9
  have HR9 : Hid (NumIn _ _ _ _ _ _ _) := HR7.out.old hb9
  have HU9 : Hid (NumIn _ _ _ _ _ _ _) := HU7.out.old hb9
  clear hn9 hv3 hl9 hb9 B7 HN7 HRB7 HQ7 HR7 HU7 HLE hcv
  go_wp2_with fail
  refine HC9.mono ?_
  rintro e w10 ⟨rfl, hd10⟩
  have B10 : Hid (Below w.heap.size w w10) := B9.out.trans (hd10.below _)
  have HR10 : Hid (NumIn _ _ _ _ _ _ _) := HR9.out.old (hd10.below _)
  have HU10 : Hid (NumIn _ _ _ _ _ _ _) := HU9.out.old (hd10.below _)
  clear hd10 B9 HR9 HU9 HC9
  go_wp2_with fail
  refine (Of_any 1 _ (by decide) (by decide)).mono ?_
  rintro e w11 ⟨v, rfl, a11, l11, c11, s1, rfl, hn11, _, hv1, hl11, hb11⟩
  have B11 : Hid (Below w.heap.size w w11) := B10.out.trans (hb11.mono B10.out.size)
  have HC11 := Cmp_any ar a11 lr cr l11 c11 sr s1 w11 (HR10.out.old hb11) hn11
  rw [HVR.out, hv1, cmpI_eq rfl] at HC11
  have HU11 : Hid (NumIn _ _ _ _ _ _ _) := HU10.out.old hb11
  clear hn11 hv1 hl11 hb11 B10 HR10 HU10
  go_wp2_with fail
  refine HC11.mono ?_
  rintro e w12 ⟨rfl, hd12⟩
  have B12 : Hid (Below w.heap.size w w12) := B11.out.trans (hd12.below _)
  have hU := HU11.out.old (hd12.below _)
  obtain ⟨bu', ou', ebu, hbu, hcells⟩ := hU.lies.at (by decide)
  injection ebu with ebu
  injection ebu with e1 e2
  subst e1 e2
  have hc1 := hcells 1 (by decide)
  clear hd12 hU hcells hbu B11 HC11 HU11
  go_wp2
  go_ret
  exact ⟨rfl, B12.out⟩
end Go.Proofs.Ytiijnenbfhhdiaa
