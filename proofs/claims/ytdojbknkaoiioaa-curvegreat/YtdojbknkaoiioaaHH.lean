/-
  The code's Check.
-/
import Derived.Test.YtdojbknkaoiioaaHG
namespace Go.Proofs.Ytdojbknkaoiioaa
open Go.Shelf Go.RowKit
set_option linter.unusedVariables false
set_option linter.unusedSimpArgs false

theorem of_nv (n : Int) (w : World) (h0 : 0 ≤ n) (h1 : n < 18446744073709551616) : Calls Try.prog 12 #[.int .u64 n] w fun e w' => ∃ v, e = .returned v ∧ Na w w' v n 1 := by
  refine (Of_any n w (by omega) (by omega)).mono ?_
  rintro e w' ⟨v, rfl, h⟩
  exact ⟨v, rfl, h.na⟩
def reducedB (K : Cz) : Bool := decide (K.a < K.p) && (decide (K.b < K.p) && (decide (K.gx < K.p) && decide (K.gy < K.p)))
set_option maxRecDepth 100000 in
set_option maxHeartbeats 2000000 in
theorem reduced_any (c : Value) (K : Cz) (L : Nat) (w : World) (hc : Cu w c K L) :
    Calls Try.prog 46 #[c] w fun e w' => e = .returned (.bool (reducedB K)) ∧ Below w.heap.size w w' := by
  obtain ⟨g1, g2, oo, lo, co, vp, va, vb, vx, vy, vn, rfl, c1, c2, c3, c4, c5, c6⟩ := hc
  have H1 := fun W (hW : Below w.heap.size w W) => isBelow_any va vp K.a K.p L W (c2.old hW) (c1.old hW)
  have H2 := fun W (hW : Below w.heap.size w W) => isBelow_any vb vp K.b K.p L W (c3.old hW) (c1.old hW)
  have H3 := fun W (hW : Below w.heap.size w W) => isBelow_any vx vp K.gx K.p L W (c4.old hW) (c1.old hW)
  have H4 := fun W (hW : Below w.heap.size w W) => isBelow_any vy vp K.gy K.p L W (c5.old hW) (c1.old hW)
  obtain ⟨a1, a2, a3, a4, rfl, a5⟩ := c1
  obtain ⟨b1, b2, b3, b4, rfl, b5⟩ := c2
  obtain ⟨d1, d2, d3, d4, rfl, d5⟩ := c3
  obtain ⟨e1, e2, e3, e4, rfl, e5⟩ := c4
  obtain ⟨f1, f2, f3, f4, rfl, f5⟩ := c5
  obtain ⟨j1, j2, j3, j4, rfl, j5⟩ := c6
  have b0 := (Below.refl w.heap.size w).alloc (Nat.le_refl _) (.cells #[.int .i64 g1, .int .i64 g2, .slice oo lo co, .slice a1 a2 a3, .slice b1 b2 b3, .slice d1 d2 d3, .slice e1 e2 e3, .slice f1 f2 f3, .slice j1 j2 j3] 29)
  have n0 := heap_alloc_new w (.cells #[.int .i64 g1, .int .i64 g2, .slice oo lo co, .slice a1 a2 a3, .slice b1 b2 b3, .slice d1 d2 d3, .slice e1 e2 e3, .slice f1 f2 f3, .slice j1 j2 j3] 29)
  generalize hW0 : w.alloc (.cells #[.int .i64 g1, .int .i64 g2, .slice oo lo co, .slice a1 a2 a3, .slice b1 b2 b3, .slice d1 d2 d3, .slice e1 e2 e3, .slice f1 f2 f3, .slice j1 j2 j3] 29) = W0 at b0 n0
  have HW0 : Hid (_ = W0) := hW0
  unfold reducedB
  generalize decide (K.a < K.p) = B1 at *
  generalize decide (K.b < K.p) = B2 at *
  generalize decide (K.gx < K.p) = B3 at *
  generalize decide (K.gy < K.p) = B4 at *
  have HK := fun (W' : World) (hW' : Below W0.heap.size W0 W') => (show W'.cell? ⟨w.heap.size, 3, none⟩ = some (.slice a1 a2 a3) ∧ W'.cell? ⟨w.heap.size, 4, none⟩ = some (.slice b1 b2 b3) ∧ W'.cell? ⟨w.heap.size, 5, none⟩ = some (.slice d1 d2 d3) ∧ W'.cell? ⟨w.heap.size, 6, none⟩ = some (.slice e1 e2 e3) ∧ W'.cell? ⟨w.heap.size, 7, none⟩ = some (.slice f1 f2 f3) from by
    refine ⟨?_, ?_, ?_, ?_, ?_⟩
    all_goals (rw [cell_of_row _ _ _ _ _ _ (blk_old n0 hW')]; rfl))
  have HKB : Hid (∀ w3, Below W0.heap.size W0 w3 → Below w.heap.size w w3) := fun w3 h => b0.trans (h.mono b0.size)
  have G1 := H1 W0 b0
  clear hW0
  rcases B1 <;> rcases B2 <;> rcases B3 <;> rcases B4
  all_goals
    have T1 : True := trivial
    have T2 : True := trivial
    have T3 : True := trivial
    go_enter Try.func46, Try.ntmps46
    go_wp2_with (first
      | (go_at_call 57; clear T1; rw [HW0.out]; refine G1.mono ?_; rintro e w1 ⟨rfl, h1⟩; have C1 := h1; obtain ⟨x3, x4, x5, x6, x7⟩ := HK w1 C1; have G2 := H2 w1 (HKB.out _ C1))
      | (go_at_call 57; clear T2; refine G2.mono ?_; rintro e w2 ⟨rfl, h2⟩; have C2 := C1.trans (h2.mono C1.size); obtain ⟨y3, y4, y5, y6, y7⟩ := HK w2 C2; have G3 := H3 w2 (HKB.out _ C2))
      | (go_at_call 57; clear T3; refine G3.mono ?_; rintro e w3 ⟨rfl, h3⟩; have C3 := C2.trans (h3.mono C2.size); obtain ⟨z3, z4, z5, z6, z7⟩ := HK w3 C3; have G4 := H4 w3 (HKB.out _ C3))
      | (go_at_call 57; refine G4.mono ?_; rintro e w4 ⟨rfl, h4⟩; have C4 := C3.trans (h4.mono C3.size)))
    go_ret
    first
      | exact ⟨rfl, HKB.out _ C4⟩
      | exact ⟨rfl, HKB.out _ C3⟩
      | exact ⟨rfl, HKB.out _ C2⟩
      | exact ⟨rfl, HKB.out _ C1⟩
set_option maxRecDepth 100000 in
set_option maxHeartbeats 2000000 in
theorem odd_any (v : Value) (n : Int) (L : Nat) (w : World) (hv : Nv w v n L) :
    Calls Try.prog 71 #[v] w fun e w' => e = .returned (.bool (decide (n % 2 = 1))) ∧ Below w.heap.size w w' := by
  obtain ⟨a1, a2, a3, a4, rfl, a5, a6, a7⟩ := hv
  have hlen := a5.len
  by_cases h0 : a2 = 0
  · have hn : n = 0 := by
      have : a4 = [] := List.eq_nil_of_length_eq_zero (by omega)
      rw [← a6, this]; rfl
    subst h0
    rw [hn]
    go_enter Try.func71, Try.ntmps71
    go_wp2
    go_ret
    exact ⟨rfl, Below.refl _ _⟩
  · obtain ⟨b', off, rfl, hlt, hc⟩ := a5.lies.at (by omega)
    match a4, hlen, a6, hc, a5 with
    | [], hlen, _, _, _ => exact absurd hlen.symm h0
    | x :: xs, hlen, a6, hc, a5 =>
      have hc0 : w.cell? ⟨b', off, none⟩ = some (.int .u64 x) := by
        have := hc 0 (by omega)
        simpa using this
      have hx := a5.dg x (by simp)
      have hd : decide (n % 2 = 1) = decide (x % 2 = 1) := by
        have e := a6
        rw [val_cons] at e
        have : n % 2 = x % 2 := by
          rw [← e]
          unfold B64
          generalize val _ xs = v
          omega
        rw [this]
      rw [hd]
      have hpos : (0 : Int) < a2 := by omega
      clear hc a6 hd
      go_enter Try.func71, Try.ntmps71
      go_wp2
      go_ret
      exact ⟨rfl, Below.refl _ _⟩
end Go.Proofs.Ytdojbknkaoiioaa
