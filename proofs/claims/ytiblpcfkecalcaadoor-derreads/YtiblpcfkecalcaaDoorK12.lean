import Derived.Test.YtiblpcfkecalcaaDoorK11
/-
  DerReads.
-/
namespace Go.Proofs.YtiblpcfkecalcaaDoor
open Go.Shelf Go.RowKit
set_option linter.unusedVariables false
set_option linter.unusedSimpArgs false

theorem own_nil0 (w : World) : (w.alloc (.cells #[] 5)).ownsRow w.heap.size 5 1 (.slice (some ⟨w.heap.size, 0, none⟩) 0 0) 0 (Lib.byteCells []) := World.ownsRow_lit w #[] 0 (Nat.le_refl _) (Nat.zero_le _) (by simp)
theorem okP_len {l : List Pc} {R : List (UInt8 × Bs) × Nat} (h : pcsOf l = okP R) : l.length = (okP R).length := by rw [← h]; simp [pcsOf]
theorem pcsD_len (bs : Bs) : (okP (pcsD bs)).length ≤ bs.length := by
  have h1 := seqD_len bs
  unfold seqD at h1
  rw [List.length_append, List.length_map] at h1
  unfold okP
  split
  · omega
  · simp
set_option maxRecDepth 100000 in
set_option maxHeartbeats 8000000 in
theorem DerReads_walk (w : World) (a0 : Option Addr) (len0 cap0 : Nat) (z0 : List Int) (w0 : CameJ .u8 w a0 len0 cap0 z0) (hL : laidMet Tryd.prog Rows.derReadsRow.laid w) :
    Calls Tryd.prog 3 #[.slice a0 len0 cap0] w fun e w' => e = .returned (.bool true) ∧ Below w.heap.size w w' := by
  have hT : Md w := md_laid hL
  have hle := w0.le
  unfold maxLen at hle
  obtain ⟨bs, hn, hV⟩ := w0.byv
  clear w0 hL
  have hleI : (len0 : Int) ≤ 9223372036854775807 := by omega
  go_enter Tryd.func3, Tryd.ntmps3
  go_wp2_with fail
  go_at_call 9
  refine (DAwake_any w hT).mono ?_
  rintro e w1 ⟨rfl, b1⟩
  by_cases q : 6000 < len0
  · have q' : 6000 < (len0 : Int) := by omega
    go_wp2_with fail
    go_ret
    exact ⟨rfl, b1⟩
  have q' : ¬ 6000 < (len0 : Int) := by omega
  have hV1 := (hV.keep (fun k hk _ => b1.block k hk)).mono (Q := fun b => b < w1.heap.size) (fun k hk _ => by have := b1.size; omega)
  have o1 := own_nil0 w1
  have b1a : Below w1.heap.size w1 (w1.alloc (.cells #[] 5)) := (Below.refl _ _).alloc (Nat.le_refl _) _
  have l1 : BAt (w1.alloc (.cells #[] 5)) a0 len0 bs := by have := (hV1.below b1a).lies; rw [hn] at this; exact this
  go_wp2_with (at_builtin; refine wpList_append_wt rfl (.tmp 23) (.tmp 24) rfl w1.heap.size (.slice (some ⟨w1.heap.size, 0, none⟩) 0 0) rfl [] 0 rfl o1 a0 len0 cap0 bs hn rfl l1 (by omega) b1a.size ?_; intro v2 w2 o2 gr2 at2; have b2 : Below w1.heap.size w1 w2 := below_grownT b1a (Nat.le_refl _) o1 gr2; rw [Nat.zero_add, List.nil_append] at o2; obtain ⟨pi, ci, rfl, hI2⟩ := own_byv (by rw [hn]; exact o2); rw [hn]; clear gr2 at2 o2 o1 l1 b1a)
  obtain ⟨R, hR⟩ : ∃ R, readD bs = R := ⟨_, rfl⟩
  obtain ⟨TN, hTN⟩ : ∃ T, spT R = T := ⟨_, rfl⟩
  obtain ⟨LB, hLB⟩ : ∃ T, (spB R).length = T := ⟨_, rfl⟩
  obtain ⟨LR, hLR⟩ : ∃ T, (spR R).length = T := ⟨_, rfl⟩
  obtain ⟨K, hK⟩ : ∃ T, spK R = T := ⟨_, rfl⟩
  obtain ⟨K2, hK2⟩ : ∃ T, (pcsD bs).2 = T := ⟨_, rfl⟩
  have HN : Hid (readD bs = R ∧ spT R = TN ∧ (spB R).length = LB ∧ (spR R).length = LR ∧ spK R = K ∧ (pcsD bs).2 = K2 ∧ bs.length = len0) := ⟨hR, hTN, hLB, hLR, hK, hK2, hn⟩
  -- the code's Read
  refine (derRead pi len0 ci bs _ w2 hn hI2).mono ?_
  rw [hR]
  intro e w3 hp
  obtain ⟨b3, p1, c1, p2, c2, he, hA1, hA2⟩ := hp.uni
  rw [hTN, hLB, hLR, hK] at he
  subst he
  clear hp
  go_wp2_with fail
  go_at_call 11
  have s4 : Tl (w3.alloc (.cells #[.int .u8 (TN : Int), .slice p1 LB c1] 25)) w3.heap.size (.int .u8 (TN : Int)) (.slice p1 LB c1) := Tl.new w3 _ _
  have b4 : Below w3.heap.size w3 (w3.alloc (.cells #[.int .u8 (TN : Int), .slice p1 LB c1] 25)) := (Below.refl _ _).alloc (Nat.le_refl _) _
  obtain ⟨G1, hG1⟩ : ∃ G, w3.heap.size = G := ⟨_, rfl⟩
  rw [hG1] at s4
  generalize w3.alloc (.cells #[.int .u8 (TN : Int), .slice p1 LB c1] 25) = w4 at s4 b4 ⊢
  rw [hG1]
  have b24 : Below w2.heap.size w2 w4 := b3.trans (b4.mono b3.size)
  have b14 : Below w1.heap.size w1 w4 := b2.trans (b24.mono b2.size)
  clear b3 hG1
  -- the document's Read
  refine (rRead10 a0 len0 cap0 bs _ w4 hn (hV1.below b14)).mono ?_
  rw [hR]
  intro e w5 hp
  obtain ⟨b5, p3, c3, p4, c4, he, hB1, hB2⟩ := hp.uni
  rw [hTN, hLB, hLR, hK] at he
  subst he
  clear hp
  go_wp2_with fail
  go_at_call 12
  have s6 : Tl (w5.alloc (.cells #[.int .u8 (TN : Int), .slice p3 LB c3] 25)) w5.heap.size (.int .u8 (TN : Int)) (.slice p3 LB c3) := Tl.new w5 _ _
  have b6 : Below w5.heap.size w5 (w5.alloc (.cells #[.int .u8 (TN : Int), .slice p3 LB c3] 25)) := (Below.refl _ _).alloc (Nat.le_refl _) _
  obtain ⟨G2, hG2⟩ : ∃ G, w5.heap.size = G := ⟨_, rfl⟩
  rw [hG2] at s6
  generalize w5.alloc (.cells #[.int .u8 (TN : Int), .slice p3 LB c3] 25) = w6 at s6 b6 ⊢
  rw [hG2]
  have b46 : Below w4.heap.size w4 w6 := b5.trans (b6.mono b5.size)
  have b26 : Below w2.heap.size w2 w6 := b24.trans (b46.mono b24.size)
  clear b5 hG2
  -- the code's List
  refine (derList pi len0 ci bs _ w6 hn (hI2.below b26)).mono ?_
  intro e w7 hp
  obtain ⟨b7, l7, v7, he, hl7, hP7, hn7⟩ := hp.uni
  rw [hK2] at he
  subst he
  clear hp
  go_wp2_with fail
  go_at_call 13
  have b17 : Below w1.heap.size w1 w7 := b14.trans ((b46.trans (b7.mono b46.size)).mono b14.size)
  -- the document's List
  refine (rList_any a0 len0 cap0 bs _ w7 hn (by omega) (hV1.below b17)).mono ?_
  intro e w8 hp
  obtain ⟨b8, l8, v8, he, hl8, hP8, hn8⟩ := hp.uni
  rw [hK2] at he
  subst he
  clear hp
  have b68 : Below w6.heap.size w6 w8 := b7.trans (b8.mono b7.size)
  have b48 : Below w4.heap.size w4 w8 := b46.trans (b68.mono b46.size)
  have b58 : Below w5.heap.size w5 w8 := b6.trans (b68.mono b6.size)
  have b28 : Below w2.heap.size w2 w8 := b24.trans (b48.mono b24.size)
  have b18 : Below w1.heap.size w1 w8 := b17.trans (b8.mono b17.size)
  have t1 := s4.below b48
  have t2 := s6.below b68
  obtain ⟨f10, f11, _, _⟩ := t1.facts
  obtain ⟨f20, f21, _, _⟩ := t2.facts
  have m1 : BAt w8 p1 LB (spB R) := by have := (hA1.below (b4.trans (b48.mono b4.size))).lies; rw [hLB] at this; exact this
  have m2 : BAt w8 p2 LR (spR R) := by have := (hA2.below (b4.trans (b48.mono b4.size))).lies; rw [hLR] at this; exact this
  have m3 : BAt w8 p3 LB (spB R) := by have := (hB1.below b58).lies; rw [hLB] at this; exact this
  have m4 : BAt w8 p4 LR (spR R) := by have := (hB2.below b58).lies; rw [hLR] at this; exact this
  have m5 : BAt w8 pi len0 bs := by have := (hI2.below b28).lies; rw [hn] at this; exact this
  have m6 : BAt w8 a0 len0 bs := by have := (hV1.below b18).lies; rw [hn] at this; exact this
  have H8 : Hid (BAt w8 p2 LR (spR R) ∧ BAt w8 p4 LR (spR R) ∧ BAt w8 pi len0 bs ∧ BAt w8 a0 len0 bs ∧ ByV w8 (fun b => b < w1.heap.size) p3 c3 (spB R) ∧ ByV w8 (fun b => w1.heap.size ≤ b) pi ci bs ∧ Tl w8 G2 (.int .u8 (TN : Int)) (.slice p3 LB c3) ∧ Below w.heap.size w w8 ∧ Pcs w8 w6.heap.size (fun b => w6.heap.size ≤ b) v7 l7 ∧ Pcs w8 w7.heap.size (fun b => b < w1.heap.size) v8 l8 ∧ pcsOf l7 = pcsOf l8 ∧ l7.length ≤ 6000) := ⟨m2, m4, m5, m6, hB1.below b58, hI2.below b28, t2, b1.trans (b18.mono b1.size), hP7.below b8, hP8, by rw [hl7, hl8], by rw [okP_len hl7]; have := pcsD_len bs; omega⟩
  have HS := rSame_yes TN p1 p3 LB c1 c3 (spB R) w8 hLB m1 m3
  clear m1 m2 m3 m4 m5 m6 t1 t2 s4 s6 hA1 hA2 hB1 hB2 hI2 hV1 hV hP7 hP8 b68 b48 b58 b28 b18 b7 b8 b46 b26 b17 b4 b6 b24 b14 b1 b2 hl7 hl8 hT hn7 hn8
  clear hR hTN hK hK2
  go_wp2_with fail
  go_at_call 14
  refine HS.mono ?_
  rintro e w9 ⟨rfl, b9⟩
  clear HS f10 f11 f20 f21
  have hc1 := conv_bat (c := c2) (H8.out.1.below b9) hLR
  have hc2 := conv_bat (c := c4) (H8.out.2.1.below b9) hLR
  have H9 : Hid (Below w8.heap.size w8 w9) := b9
  clear b9
  go_wp2_with fail
  go_at_call 15
  refine (rSameLists_yes _ _ _ _ v7 v8 l7 l8 w9 (H8.out.2.2.2.2.2.2.2.2.1.below H9.out) (H8.out.2.2.2.2.2.2.2.2.2.1.below H9.out) H8.out.2.2.2.2.2.2.2.2.2.2.1 (by have := H8.out.2.2.2.2.2.2.2.2.2.2.2; omega)).mono ?_
  rintro e w10 ⟨rfl, b10⟩
  clear hc1 hc2
  have b810 : Below w8.heap.size w8 w10 := H9.out.trans (b10.mono H9.out.size)
  have hc1 := conv_bat (c := ci) (H8.out.2.2.1.below b810) hn
  have hc2 := conv_bat (c := cap0) (H8.out.2.2.2.1.below b810) hn
  have H10 : Hid (Below w8.heap.size w8 w10 ∧ (spB R).length = LB ∧ (spR R).length = LR ∧ bs.length = len0) := ⟨b810, hLB, hLR, hn⟩
  clear b810 b10 H9 hLB hLR
  go_wp2_with fail
  go_at_call 16
  clear hc1 hc2
  refine (derSeq pi len0 ci bs _ w10 hn (H8.out.2.2.2.2.2.1.below H10.out.1)).mono ?_
  intro e w11 hp
  obtain ⟨b11, l11, v11, he, hl11, hP11, hn11⟩ := hp.uni
  obtain ⟨K3, hK3⟩ : ∃ T, (sqD bs).2 = T := ⟨_, rfl⟩
  rw [hK3] at he hn11
  subst he
  clear hp
  have b811 : Below w8.heap.size w8 w11 := H10.out.1.trans (b11.mono H10.out.1.size)
  have hlen11 := okP_len hl11
  have BB : Hid (Below w.heap.size w w11) := H8.out.2.2.2.2.2.2.2.1.trans (b811.mono H8.out.2.2.2.2.2.2.2.1.size)
  obtain ⟨p11, c11, rfl⟩ := owns_slice hP11.own
  by_cases hk0 : K = 0
  · subst hk0
    have hd := HN.out
    obtain ⟨t, b, r, hok⟩ : ∃ t b r, R = .ok ((t, b), r) := by
      cases R with
      | error k => have h1 := hd.2.2.2.2.1; have h2 := read_err hd.1; simp only [spK] at h1; omega
      | ok x => exact ⟨x.1.1, x.1.2, x.2, rfl⟩
    have hbR : spB R = b := by rw [hok]; rfl
    have hrR : spR R = r := by rw [hok]; rfl
    have htR : t.toNat = TN := by have := hd.2.1; rw [hok] at this; exact this
    obtain ⟨y0, y1, _, _⟩ := (H8.out.2.2.2.2.2.2.1.below b811).facts
    by_cases h48 : TN = 48 ∧ LR = 0
    · obtain ⟨q1, q2⟩ := h48
      subst q1 q2
      have hsq : sqD bs = pcsD b := by
        have h3 := H10.out.2.2.1
        rw [hrR] at h3
        unfold sqD
        rw [hd.1, hok]
        simp only []
        rw [if_neg (by omega)]
      have h48b : (((48 : Nat) : Int) != 48) = false := rfl
      have hVb : ByV w11 (fun b => b < w1.heap.size) p3 c3 b := by have := H8.out.2.2.2.2.1.below b811; rw [hbR] at this; exact this
      have hLb : b.length = LB := by have := H10.out.2.1; rw [hbR] at this; exact this
      have HF : Hid (ByV w11 (fun b => b < w1.heap.size) p3 c3 b ∧ pcsOf l11 = okP (pcsD b) ∧ Pcs w11 w10.heap.size (fun b => w10.heap.size ≤ b) (.slice p11 l11.length c11) l11 ∧ (pcsD b).2 = K3 ∧ l11.length ≤ 6000 ∧ LB ≤ 6000) := ⟨hVb, by rw [hl11, hsq], hP11, by rw [← hsq]; exact hK3, by rw [hlen11, hsq]; have := pcsD_len b; have h5 := read_len (hd.1.trans hok); have h6 := hd.2.2.2.2.2.2; omega, by have h5 := read_len (hd.1.trans hok); have h6 := hd.2.2.2.2.2.2; omega⟩
      clear hsq hVb hP11 hlen11 hl11 hn11 hok hd hbR hrR htR b811 b11 hK3
      go_wp2_with fail
      go_at_call 13
      refine (rList_any p3 LB c3 b _ w11 hLb (by have := HF.out.2.2.2.2.2; omega) HF.out.1).mono ?_
      intro e w12 hp
      obtain ⟨b12, l12, v12, he, hl12, hP12, hn12⟩ := hp.uni
      rw [HF.out.2.2.2.1] at he
      subst he
      clear hp
      have HG : Hid (Below w11.heap.size w11 w12 ∧ Pcs w12 w11.heap.size (fun b => b < w1.heap.size) v12 l12 ∧ pcsOf l11 = pcsOf l12) := ⟨b12, hP12, by rw [HF.out.2.1, hl12]⟩
      clear b12 hl12 hP12 hn12
      go_wp2_with fail
      go_at_call 15
      refine (rSameLists_yes _ _ _ _ (.slice p11 l11.length c11) v12 l11 l12 w12 (HF.out.2.2.1.below HG.out.1) HG.out.2.1 HG.out.2.2 (by have := HF.out.2.2.2.2.1; omega)).mono ?_
      rintro e w13 ⟨rfl, b13⟩
      go_wp2_with fail
      go_ret
      have h1 := BB.out.trans (HG.out.1.mono BB.out.size)
      exact ⟨rfl, h1.trans (b13.mono h1.size)⟩
    · have hsq : sqD bs = ([], 30) := by
        have h3 := H10.out.2.2.1
        rw [hrR] at h3
        unfold sqD
        rw [hd.1, hok]
        simp only []
        rw [if_pos (by omega)]
      have hK30 : K3 = 30 := by rw [← hK3, hsq]
      have hl0 : l11.length = 0 := by rw [hlen11, hsq]; unfold okP; split <;> rfl
      subst hK30
      rw [hl0]
      clear hsq hP11 hlen11 hl11 hn11 hok hd hbR hrR htR b811 b11 hK3 hl0
      by_cases h4 : TN = 48
      · subst h4
        have hLI : (0 : Int) < (LR : Int) := by omega
        have h48b : (((48 : Nat) : Int) != 48) = false := rfl
        go_wp2_with fail
        go_ret
        exact ⟨rfl, BB.out⟩
      · have h48b : ((TN : Int) != 48) = true := by simp; omega
        go_wp2_with fail
        go_ret
        exact ⟨rfl, BB.out⟩
  · have hd := HN.out
    obtain ⟨k, hok⟩ : ∃ k, R = .error k := by
      cases R with
      | error k => exact ⟨k, rfl⟩
      | ok x => have h1 := hd.2.2.2.2.1; simp only [spK] at h1; omega
    have hsq : sqD bs = ([], K) := by
      have h1 := hd.2.2.2.2.1
      rw [hok] at h1
      unfold sqD
      rw [hd.1, hok, ← h1]
      rfl
    have hK30 : K3 = K := by rw [← hK3, hsq]
    have hl0 : l11.length = 0 := by rw [hlen11, hsq]; unfold okP; split <;> rfl
    subst hK30
    rw [hl0]
    have hkb : ((K3 : Int) != 0) = true := by simp; omega
    clear hsq hP11 hlen11 hl11 hn11 hok hd b811 b11 hK3 hl0
    go_wp2_with fail
    go_ret
    exact ⟨rfl, BB.out⟩
end Go.Proofs.YtiblpcfkecalcaaDoor
