import Derived.Test.YtcobbbamocdbbaaK04
/-
  The code's isSized.
-/
namespace Go.Proofs.Ytcobbbamocdbbaa
open Go.Shelf Go.RowKit
set_option linter.unusedVariables false
set_option linter.unusedSimpArgs false

set_option maxRecDepth 100000 in
set_option maxHeartbeats 4000000 in
theorem sized_any (c : Value) (K : Cz) (L : Nat) (w : World) (hc : Cu w c K L) (hL : 1 ≤ L ∧ L ≤ 1000) :
    Calls Try.prog 38 #[c] w fun e w' => e = .returned (.bool (sizedB K)) ∧ Below w.heap.size w w' := by
  obtain ⟨g1, g2, oo, lo, co, vp, va, vb, vx, vy, vn, rfl, c1, c2, c3, c4, c5, c6⟩ := hc
  have H1 := fun W (hW : Below w.heap.size w W) => len_nv vp K.p L W (c1.old hW) hL.2
  have H2 := fun W (hW : Below w.heap.size w W) => len_nv vn K.n L W (c6.old hW) hL.2
  have H3 := fun W (hW : Below w.heap.size w W) v (hv : Nv W v 3 1) => isBelow_any v vp 3 K.p L W (hv.up hL.1) (c1.old hW)
  have H4 := fun W (hW : Below w.heap.size w W) => odd_any vp K.p L W (c1.old hW)
  have H5 := fun W (hW : Below w.heap.size w W) v (hv : Nv W v 1 1) => isBelow_any v vn 1 K.n L W (hv.up hL.1) (c6.old hW)
  obtain ⟨a1, a2, a3, a4, rfl, a5⟩ := c1
  obtain ⟨b1, b2, b3, b4, rfl, b5⟩ := c2
  obtain ⟨d1, d2, d3, d4, rfl, d5⟩ := c3
  obtain ⟨e1, e2, e3, e4, rfl, e5⟩ := c4
  obtain ⟨f1, f2, f3, f4, rfl, f5⟩ := c5
  obtain ⟨j1, j2, j3, j4, rfl, j5⟩ := c6
  have b0 := (Below.refl w.heap.size w).alloc (Nat.le_refl _) (.cells #[.int .i64 g1, .int .i64 g2, .slice oo lo co, .slice a1 a2 a3, .slice b1 b2 b3, .slice d1 d2 d3, .slice e1 e2 e3, .slice f1 f2 f3, .slice j1 j2 j3] 29)
  have n0 := heap_alloc_new w (.cells #[.int .i64 g1, .int .i64 g2, .slice oo lo co, .slice a1 a2 a3, .slice b1 b2 b3, .slice d1 d2 d3, .slice e1 e2 e3, .slice f1 f2 f3, .slice j1 j2 j3] 29)
  generalize hW0 : w.alloc (.cells #[.int .i64 g1, .int .i64 g2, .slice oo lo co, .slice a1 a2 a3, .slice b1 b2 b3, .slice d1 d2 d3, .slice e1 e2 e3, .slice f1 f2 f3, .slice j1 j2 j3] 29) = W0 at b0 n0
  have HW0 : Hid (_ = W0) := hW0
  have HK := fun (W' : World) (hW' : Below W0.heap.size W0 W') => (show W'.cell? ⟨w.heap.size, 3, none⟩ = some (.slice a1 a2 a3) ∧ W'.cell? ⟨w.heap.size, 8, none⟩ = some (.slice j1 j2 j3) from by
    refine ⟨?_, ?_⟩
    all_goals (rw [cell_of_row _ _ _ _ _ _ (blk_old n0 hW')]; rfl))
  have HKB : Hid (∀ w3, Below W0.heap.size W0 w3 → Below w.heap.size w w3) := fun w3 h => b0.trans (h.mono b0.size)
  have G1 := H1 W0 b0
  have G2 := H2 W0 b0
  unfold sizedB
  obtain ⟨LP, hLP⟩ : ∃ l, blen K.p.toNat = l := ⟨_, rfl⟩
  obtain ⟨LN, hLN⟩ : ∃ l, blen K.n.toNat = l := ⟨_, rfl⟩
  rw [hLP] at G1 ⊢
  rw [hLN] at G2 ⊢
  clear hLP hLN hW0
  by_cases q1 : LP ≤ 256
  · have q1' : ¬ (256 : Int) < LP := by omega
    have hd1 : decide (LP ≤ 256) = true := by simp [q1]
    rw [hd1]
    by_cases q2 : LN ≤ 257
    · have q2' : ¬ (257 : Int) < LN := by omega
      have hd2 : decide (LN ≤ 257) = true := by simp [q2]
      rw [hd2]
      generalize decide (3 < K.p) = B1 at *
      generalize decide (K.p % 2 = 1) = B2 at *
      generalize decide (1 < K.n) = B3 at *
      obtain ⟨x3, x8⟩ := HK W0 (Below.refl _ _)
      have T1 : True := trivial
      go_enter Try.func38, Try.ntmps38
      go_wp2_with (first
        | (go_at_call 72; clear T1; rw [HW0.out]; refine G1.mono ?_; rintro e w1 ⟨⟨rfl, hl1⟩, rfl⟩)
        | (go_at_call 72; refine G2.mono ?_; rintro e w2 ⟨⟨rfl, hl2⟩, rfl⟩))
      obtain ⟨x3, x8⟩ := HK w2 (Below.refl _ _)
      have D4 := (Below.refl w2.heap.size w2).drew
      obtain ⟨k3, k8⟩ := HK w2.drew D4
      have HO3 := of_nv 3 w2.drew (by decide) (by decide)
      clear G1 G2 H1 H2
      have T2 : True := trivial
      have T3 : True := trivial
      cases B1 with
      | false =>
        first | (go_region_with (first
          | (go_at_call 11; clear T2; refine HO3.mono ?_; rintro e w5 ⟨v5, rfl, hv5, hb5⟩; have C5 := D4.trans (hb5.mono D4.size); obtain ⟨y3, y8⟩ := HK w5 C5; have G5 := H3 w5 (HKB.out _ C5) v5 hv5; obtain ⟨s1, s2, s3, s4, rfl, s5⟩ := hv5)
          | (go_at_call 67; clear T3; refine G5.mono ?_; rintro e w6 ⟨rfl, hb6⟩; have C6 := C5.trans (hb6.mono C5.size); obtain ⟨z3, z8⟩ := HK w6 C6; have G6 := H4 w6 (HKB.out _ C6))
          | (go_at_call 75; refine G6.mono ?_; rintro e w7 ⟨rfl, hb7⟩; have C7 := C6.trans (hb7.mono C6.size); obtain ⟨u3, u8⟩ := HK w7 C7; have HO1 := of_nv 1 w7 (by decide) (by decide))
          | (go_at_call 11; refine HO1.mono ?_; rintro e w8 ⟨v8, rfl, hv8, hb8⟩; have C8 := C7.trans (hb8.mono C7.size); obtain ⟨t3, t8⟩ := HK w8 C8; have G8 := H5 w8 (HKB.out _ C8) v8 hv8; obtain ⟨r1, r2, r3, r4, rfl, r5⟩ := hv8)
          | (go_at_call 67; refine G8.mono ?_; rintro e w9 ⟨rfl, hb9⟩; have C9 := C8.trans (hb9.mono C8.size)))) | fail
        all_goals
          go_wp2
          go_ret
          exact ⟨rfl, HKB.out _ C6⟩
      | true =>
        cases B2 with
        | false =>
          first | (go_region_with (first
          | (go_at_call 11; clear T2; refine HO3.mono ?_; rintro e w5 ⟨v5, rfl, hv5, hb5⟩; have C5 := D4.trans (hb5.mono D4.size); obtain ⟨y3, y8⟩ := HK w5 C5; have G5 := H3 w5 (HKB.out _ C5) v5 hv5; obtain ⟨s1, s2, s3, s4, rfl, s5⟩ := hv5)
          | (go_at_call 67; clear T3; refine G5.mono ?_; rintro e w6 ⟨rfl, hb6⟩; have C6 := C5.trans (hb6.mono C5.size); obtain ⟨z3, z8⟩ := HK w6 C6; have G6 := H4 w6 (HKB.out _ C6))
          | (go_at_call 75; refine G6.mono ?_; rintro e w7 ⟨rfl, hb7⟩; have C7 := C6.trans (hb7.mono C6.size); obtain ⟨u3, u8⟩ := HK w7 C7; have HO1 := of_nv 1 w7 (by decide) (by decide))
          | (go_at_call 11; refine HO1.mono ?_; rintro e w8 ⟨v8, rfl, hv8, hb8⟩; have C8 := C7.trans (hb8.mono C7.size); obtain ⟨t3, t8⟩ := HK w8 C8; have G8 := H5 w8 (HKB.out _ C8) v8 hv8; obtain ⟨r1, r2, r3, r4, rfl, r5⟩ := hv8)
          | (go_at_call 67; refine G8.mono ?_; rintro e w9 ⟨rfl, hb9⟩; have C9 := C8.trans (hb9.mono C8.size)))) | fail
          all_goals
            go_wp2
            go_ret
            exact ⟨rfl, HKB.out _ C7⟩
        | true =>
          first | (go_region_with (first
          | (go_at_call 11; clear T2; refine HO3.mono ?_; rintro e w5 ⟨v5, rfl, hv5, hb5⟩; have C5 := D4.trans (hb5.mono D4.size); obtain ⟨y3, y8⟩ := HK w5 C5; have G5 := H3 w5 (HKB.out _ C5) v5 hv5; obtain ⟨s1, s2, s3, s4, rfl, s5⟩ := hv5)
          | (go_at_call 67; clear T3; refine G5.mono ?_; rintro e w6 ⟨rfl, hb6⟩; have C6 := C5.trans (hb6.mono C5.size); obtain ⟨z3, z8⟩ := HK w6 C6; have G6 := H4 w6 (HKB.out _ C6))
          | (go_at_call 75; refine G6.mono ?_; rintro e w7 ⟨rfl, hb7⟩; have C7 := C6.trans (hb7.mono C6.size); obtain ⟨u3, u8⟩ := HK w7 C7; have HO1 := of_nv 1 w7 (by decide) (by decide))
          | (go_at_call 11; refine HO1.mono ?_; rintro e w8 ⟨v8, rfl, hv8, hb8⟩; have C8 := C7.trans (hb8.mono C7.size); obtain ⟨t3, t8⟩ := HK w8 C8; have G8 := H5 w8 (HKB.out _ C8) v8 hv8; obtain ⟨r1, r2, r3, r4, rfl, r5⟩ := hv8)
          | (go_at_call 67; refine G8.mono ?_; rintro e w9 ⟨rfl, hb9⟩; have C9 := C8.trans (hb9.mono C8.size)))) | fail
          all_goals
            go_wp2
            go_ret
            exact ⟨rfl, HKB.out _ C9⟩
    · have q2' : (257 : Int) < LN := by omega
      have hd2 : decide (LN ≤ 257) = false := by simp [q2]
      rw [hd2]
      obtain ⟨x3, x8⟩ := HK W0 (Below.refl _ _)
      have T1 : True := trivial
      go_enter Try.func38, Try.ntmps38
      go_wp2_with (first
        | (go_at_call 72; clear T1; rw [HW0.out]; refine G1.mono ?_; rintro e w1 ⟨⟨rfl, hl1⟩, rfl⟩)
        | (go_at_call 72; refine G2.mono ?_; rintro e w2 ⟨⟨rfl, hl2⟩, rfl⟩))
      go_ret
      exact ⟨rfl, b0⟩
  · have hd : decide (LP ≤ 256) = false := by simp [q1]
    rw [hd]
    have q1' : (256 : Int) < LP := by omega
    go_enter Try.func38, Try.ntmps38
    go_wp2_with (go_at_call 72; rw [HW0.out]; refine G1.mono ?_; rintro e w1 ⟨⟨rfl, hl1⟩, rfl⟩)
    go_ret
    exact ⟨rfl, b0⟩
end Go.Proofs.Ytcobbbamocdbbaa
