import Derived.Test.YtnckmcmobkpdcaaDoorK03
/-
  The code's Read.
-/
namespace Go.Proofs.YtnckmcmobkpdcaaDoor
open Go.Shelf Go.RowKit
set_option linter.unusedVariables false
set_option linter.unusedSimpArgs false

theorem set2_other {w : World} {r r1 j : Nat} {v d0 d1 : Value} (h : w.cell? ⟨r1, j, none⟩ = some v) (hne : r ≠ r1) : ((w.setCell ⟨r, 0, none⟩ d0).setCell ⟨r, 1, none⟩ d1).cell? ⟨r1, j, none⟩ = some v :=
  ((but_set2 w r d0 d1).cell (p := ⟨r1, j, none⟩) (World.block_lt_of_cell? w _ h) (fun e => hne e.symm)).trans h
set_option maxRecDepth 100000 in
set_option maxHeartbeats 4000000 in
/-- copied. -/
theorem derCopied (t : Nat) (p : Option Addr) (n c : Nat) (l : Bs) (w : World) (hl : l.length = n) (h : BAt w p n l) (hn : n ≤ 1000000) :
    Calls Tryd.prog 25 #[.agg #[.int .u8 (t : Int), .slice p n c]] w fun e w' => Below w.heap.size w w' ∧ ∃ p' c', e = .returned (.agg #[.int .u8 (t : Int), .slice p' n c']) ∧ ByV w' (fun b => w.heap.size ≤ b) p' c' l := by
  obtain ⟨W1, hW1⟩ : ∃ W1, w.alloc (.cells #[.int .u8 (t : Int), .slice p n c] 24) = W1 := ⟨_, rfl⟩
  have b1 : Below w.heap.size w W1 := by rw [← hW1]; exact (Below.refl _ _).alloc (Nat.le_refl _) _
  have s1 : Tl W1 w.heap.size (.int .u8 (t : Int)) (.slice p n c) := by rw [← hW1]; exact Tl.new w _ _
  have z1 : W1.heap.size = w.heap.size + 1 := by rw [← hW1]; exact alloc_sz w _
  obtain ⟨W2, hW2⟩ : ∃ W2, W1.alloc (.cells #[.int .u8 0, .slice none 0 0] 24) = W2 := ⟨_, rfl⟩
  have b2 : Below W1.heap.size W1 W2 := by rw [← hW2]; exact (Below.refl _ _).alloc (Nat.le_refl _) _
  have s2 : Tl W2 (w.heap.size + 1) (.int .u8 0) (.slice none 0 0) := by rw [← hW2, ← z1]; exact Tl.new W1 _ _
  have b12 : Below w.heap.size w W2 := b1.trans (b2.mono b1.size)
  have s1' := s1.below b2
  obtain ⟨g0, g1, g2, g3⟩ := s1'.facts
  have HC := clone_any p n c l W2.drew hl (h.below b12.drew) hn
  have HS : Hid (Tl W2 (w.heap.size + 1) (.int .u8 0) (.slice none 0 0) ∧ Below w.heap.size w W2 ∧ Tl W2 w.heap.size (.int .u8 (t : Int)) (.slice p n c)) := ⟨s2, b12, s1'⟩
  have hne : w.heap.size ≠ w.heap.size + 1 := by omega
  clear s1 s2 s1' b1 b2 b12 h
  go_enter Tryd.func25, Tryd.ntmps25
  go_wp2_with fail
  go_region_held3 (fun W => W.cell? ⟨w.heap.size, 0, none⟩ = some (.int .u8 (t : Int)) ∧ W.cell? ⟨w.heap.size, 1, none⟩ = some (.slice p n c))
    (first | exact ⟨g0, g1⟩ | exact ⟨u0, u1⟩ | exact ⟨set2_other u0 (by omega), set2_other u1 (by omega)⟩)
    (first | (go_at_call 26; refine HC.mono ?_; rintro e w3 ⟨hb3, p', c', rfl, hv⟩; have s3 : Tl w3 (w.heap.size + 1) (.int .u8 0) (.slice none 0 0) := HS.out.1.same (hb3.block _ HS.out.1.lt); obtain ⟨j0, j1, j2, j3⟩ := s3.facts; have hlr := HS.out.2.2.lt; have u0 := (hb3.cell (p := ⟨w.heap.size, 0, none⟩) hlr).trans g0; have u1 := (hb3.cell (p := ⟨w.heap.size, 1, none⟩) hlr).trans g1))
  go_wp2_with fail
  refine bodyPost_ret (ret_tlv1 rfl _ _ (w.heap.size + 1) _ _ rfl (s3.set2 _ _)) rfl ?_
  have b3 := but_set2 w3 (w.heap.size + 1) (.int .u8 (t : Int)) (.slice p' n c')
  have hbw : Below W2.heap.size W2 w3 := ⟨hb3.os, hb3.tape, hb3.output, hb3.size, hb3.block⟩
  have hlt2 := HS.out.1.lt
  have bA : Below w.heap.size w w3 := HS.out.2.1.trans (hbw.mono (by omega))
  refine ⟨bA.trans (b3.below (by omega) bA.size), p', c', rfl, ?_⟩
  have hv4 : ByV w3 (fun b => w.heap.size + 2 ≤ b) p' c' l := hv.mono (fun k hk _ => by have hh : W2.heap.size ≤ k := hk; omega)
  exact (hv4.keep (fun k hk hlt => b3.block k hlt (by omega))).mono (fun k hk _ => by omega)
set_option maxRecDepth 100000 in
set_option maxHeartbeats 4000000 in
/-- Read. -/
theorem derRead (p : Option Addr) (n c : Nat) (bs : Bs) (P : Nat → Prop) (w : World) (hn : bs.length = n) (h : ByV w P p c bs) :
    Calls Tryd.prog 13 #[.slice p n c] w (SpPost w (fun w b => w.heap.size ≤ b) (readD bs)) := by
  obtain ⟨W0, hW0⟩ : ∃ W0, w.alloc (.cells #[.int .u8 0, .slice none 0 0] 24) = W0 := ⟨_, rfl⟩
  have b0 : Below w.heap.size w W0 := by rw [← hW0]; exact (Below.refl _ _).alloc (Nat.le_refl _) _
  have s0 : Tl W0 w.heap.size (.int .u8 0) (.slice none 0 0) := by rw [← hW0]; exact Tl.new w _ _
  have hv0 : ByV W0 (fun b => b < w.heap.size) p c bs := (h.mono (fun b _ hlt => hlt)).keep (fun k hk _ => b0.block k hk)
  have HL := derSplit p n c bs (fun b => b < w.heap.size) W0 hn hv0
  have HS0 : Hid (Tl W0 w.heap.size (.int .u8 0) (.slice none 0 0) ∧ Below w.heap.size w W0 ∧ BAt w p bs.length bs) := ⟨s0, b0, h.lies⟩
  clear s0 hv0 h
  cases hR : readD bs with
  | error k =>
    rw [hR] at HL
    have hk := read_err hR
    have HK : Hid (∀ W, Below w.heap.size w W → SpPost w (fun w b => w.heap.size ≤ b) (Except.error k) (.returned (.tuple #[.agg #[.int .u8 0, .slice none 0 0], .slice none 0 0, .int .i64 (k : Int)])) W) := fun W hW => SpPost.bad k rfl hW
    have hk0 : ((k : Int) == 0) = false := by simp; omega
    clear hk hR
    go_enter Tryd.func13, Tryd.ntmps13
    go_wp2_with (go_at_call 24; refine HL.mono ?_; intro e w1 hp; obtain ⟨hb1, he⟩ := hp.errx; subst he; have s1 := HS0.out.1.below hb1; obtain ⟨k0, k1, k2, k3⟩ := s1.facts; have hls := s1.lt; have HS1 : Hid (Tl w1 w.heap.size (.int .u8 0) (.slice none 0 0) ∧ Below W0.heap.size W0 w1) := ⟨s1, hb1⟩; clear s1 hb1 hp)
    have hB1 : Below w.heap.size w w1 := HS0.out.2.1.trans (HS1.out.2.mono HS0.out.2.1.size)
    have bb := but_set2 w1 w.heap.size (.int .u8 0) (.slice none 0 0)
    have hB2 := hB1.trans (bb.below (Nat.le_refl _) hB1.size)
    refine bodyPost_ret (ret_tlv3 rfl _ _ w.heap.size _ _ rfl (((HS1.out.1.set2 _ _).below ((Below.refl _ _).alloc (Nat.le_refl _) _)))) rfl ?_
    exact HK.out _ (hB2.alloc hB2.size _)
  | ok q =>
    obtain ⟨⟨t, b⟩, r⟩ := q
    rw [hR] at HL
    have hlen := read_len hR
    have hform := (read_form hR).2.2
    obtain ⟨TN, hTN⟩ : ∃ T, t.toNat = T := ⟨_, rfl⟩
    obtain ⟨LB, hLB⟩ : ∃ T, b.length = T := ⟨_, rfl⟩
    obtain ⟨LR, hLR⟩ : ∃ T, r.length = T := ⟨_, rfl⟩
    clear hR
    have hLBb : LB ≤ 4096 := by omega
    have hLRb : LR ≤ 4096 := by omega
    go_enter Tryd.func13, Tryd.ntmps13
    have HX : Hid (t.toNat = TN ∧ b.length = LB ∧ r.length = LR ∧ bs.length ≤ 4096) := ⟨hTN, hLB, hLR, hform⟩
    go_wp2_with (first
      | (go_at_call 24; refine HL.mono ?_; intro e w1 hp; obtain ⟨hb1, p1, c1, p2, c2, he, hv1, hv2⟩ := hp.okx; subst he; rw [hTN, hLB, hLR]; have s1 := HS0.out.1.below hb1; obtain ⟨k0, k1, k2, k3⟩ := s1.facts; have hls := s1.lt; have HS1 : Hid (Tl w1 w.heap.size (.int .u8 0) (.slice none 0 0) ∧ Below W0.heap.size W0 w1 ∧ BAt w1 p1 LB b ∧ BAt w1 p2 LR r) := ⟨s1, hb1, by rw [← hLB]; exact hv1.lies, by rw [← hLR]; exact hv2.lies⟩; clear s1 hb1 hp hv1 hv2 hTN hlen hform)
      | (go_at_call 25; refine (derCopied TN p1 LB c1 b (w1.alloc (.cells #[.int .u8 (TN : Int), .slice p1 LB c1] 24)) hLB (HS1.out.2.2.1.below ((Below.refl _ _).alloc (Nat.le_refl _) _)) (by omega)).mono ?_; rintro e w3 ⟨hb3, p3, c3, rfl, hv3⟩; have HS3 : Hid (Below w1.heap.size w1 w3 ∧ ByV w3 (fun b => w1.heap.size ≤ b) p3 c3 b) := ⟨((Below.refl _ _).alloc (Nat.le_refl _) _).trans (hb3.mono (alloc_le _ _)), hv3.mono (fun k hk _ => Nat.le_trans (alloc_le _ _) hk)⟩; clear hb3 hv3)
      | (go_at_call 26; refine (clone_any p2 LR c2 r w3 hLR (HS1.out.2.2.2.below HS3.out.1) (by omega)).mono ?_; rintro e w4 ⟨hb4, p4, c4, rfl, hv4⟩; have s4 := (HS1.out.1.below HS3.out.1).below hb4; obtain ⟨m0, m1, m2, m3⟩ := s4.facts; have HS4 : Hid (Below w3.heap.size w3 w4 ∧ ByV w4 (fun b => w3.heap.size ≤ b) p4 c4 r ∧ Tl w4 w.heap.size (.int .u8 0) (.slice none 0 0)) := ⟨hb4, hv4, s4⟩; clear hb4 hv4 s4))
    have hB1 : Below w.heap.size w w1 := HS0.out.2.1.trans (HS1.out.2.1.mono HS0.out.2.1.size)
    have hB3 : Below w.heap.size w w3 := hB1.trans (HS3.out.1.mono hB1.size)
    have hB4 : Below w.heap.size w w4 := hB3.trans (HS4.out.1.mono hB3.size)
    have bb := but_set2 w4 w.heap.size (.int .u8 (TN : Int)) (.slice p3 LB c3)
    have hlt1 : w.heap.size < w1.heap.size := hls
    have hlt3 : w1.heap.size ≤ w3.heap.size := HS3.out.1.size
    refine bodyPost_ret (ret_tlv3 rfl _ _ w.heap.size _ _ rfl (HS4.out.2.2.set2 _ _)) rfl ?_
    refine ⟨hB4.trans (bb.below (Nat.le_refl _) hB4.size), .inl ⟨t, b, r, p3, c3, p4, c4, rfl, ?_, ?_, ?_⟩⟩
    · rw [HX.out.1, HX.out.2.1, HX.out.2.2.1]
      rfl
    · have h5 : ByV w4 (fun b => w1.heap.size ≤ b) p3 c3 b := HS3.out.2.keep (fun k hk hlt => HS4.out.1.block k hlt)
      exact (h5.keep (fun k hk hlt => bb.block k hlt (by omega))).mono (fun k hk _ => by show w.heap.size ≤ k; omega)
    · exact (HS4.out.2.1.keep (fun k hk hlt => bb.block k hlt (by omega))).mono (fun k hk _ => by show w.heap.size ≤ k; omega)
end Go.Proofs.YtnckmcmobkpdcaaDoor
