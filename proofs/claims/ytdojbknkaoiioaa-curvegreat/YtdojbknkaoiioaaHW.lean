/-
  One of the laws' three curves.
-/
import Derived.Test.YtdojbknkaoiioaaHN
namespace Go.Proofs.Ytdojbknkaoiioaa
open Go.Shelf Go.RowKit
set_option linter.unusedVariables false
set_option linter.unusedSimpArgs false

theorem curZ_lim (j : Nat) : (0 ≤ (curZ j).p ∧ (curZ j).p < 18446744073709551616) ∧ (0 ≤ (curZ j).a ∧ (curZ j).a < 18446744073709551616) ∧ (0 ≤ (curZ j).b ∧ (curZ j).b < 18446744073709551616) ∧ (0 ≤ (curZ j).gx ∧ (curZ j).gx < 18446744073709551616) ∧ (0 ≤ (curZ j).gy ∧ (curZ j).gy < 18446744073709551616) ∧ (0 ≤ (curZ j).n ∧ (curZ j).n < 18446744073709551616) := by
  unfold curZ
  split <;> decide
theorem CuN.cu {W : World} {v : Value} {j : Nat} (h : CuN W v (curZ j)) : Cu W v (curZ j) 1 := by
  obtain ⟨g1, g2, oo, lo, co, vp, va, vb, vx, vy, vn, e, h1, h2, h3, h4, h5, h6⟩ := h
  obtain ⟨l1, l2, l3, l4, l5, l6⟩ := curZ_lim j
  exact ⟨g1, g2, oo, lo, co, vp, va, vb, vx, vy, vn, e, h1.nv l1, h2.nv l2, h3.nv l3, h4.nv l4, h5.nv l5, h6.nv l6⟩
/-- The cells of a curve. -/
structure CuAt (W : World) (g o : Nat) (g1 g2 : Int) (oo : Option Addr) (lo co : Nat) (b0 b1 b2 b3 b4 b5 : Nat) : Prop where
  c0 : W.cell? ⟨g, o, none⟩ = some (.int .i64 g1)
  c1 : W.cell? ⟨g, o + 1, none⟩ = some (.int .i64 g2)
  c2 : W.cell? ⟨g, o + 2, none⟩ = some (.slice oo lo co)
  c3 : W.cell? ⟨g, o + 3, none⟩ = some (.slice (some ⟨b0, 0, none⟩) 1 1)
  c4 : W.cell? ⟨g, o + 4, none⟩ = some (.slice (some ⟨b1, 0, none⟩) 1 1)
  c5 : W.cell? ⟨g, o + 5, none⟩ = some (.slice (some ⟨b2, 0, none⟩) 1 1)
  c6 : W.cell? ⟨g, o + 6, none⟩ = some (.slice (some ⟨b3, 0, none⟩) 1 1)
  c7 : W.cell? ⟨g, o + 7, none⟩ = some (.slice (some ⟨b4, 0, none⟩) 1 1)
  c8 : W.cell? ⟨g, o + 8, none⟩ = some (.slice (some ⟨b5, 0, none⟩) 1 1)
abbrev curV (g1 g2 : Int) (oo : Option Addr) (lo co : Nat) (b0 b1 b2 b3 b4 b5 : Nat) : Value := .agg #[.int .i64 g1, .int .i64 g2, .slice oo lo co, .slice (some ⟨b0, 0, none⟩) 1 1, .slice (some ⟨b1, 0, none⟩) 1 1, .slice (some ⟨b2, 0, none⟩) 1 1, .slice (some ⟨b3, 0, none⟩) 1 1, .slice (some ⟨b4, 0, none⟩) 1 1, .slice (some ⟨b5, 0, none⟩) 1 1]
theorem cur_at {W : World} {base : Nat} {v : Value} {xs : List Value} (ho : W.ownsRow base 29 9 v 3 xs) (hl : CuL W 3 xs) : ∃ g cap, v = .slice (some ⟨g, 0, none⟩) 3 cap ∧ 3 ≤ cap ∧ cap ≤ maxLen ∧ ∀ j, j < 3 → ∃ g1 g2 oo lo co b0 b1 b2 b3 b4 b5, CuAt W g (9 * j) g1 g2 oo lo co b0 b1 b2 b3 b4 b5 ∧ Cu W (curV g1 g2 oo lo co b0 b1 b2 b3 b4 b5) (curZ j) 1 := by
  obtain ⟨g, cap, rfl, hb, hlt⟩ := ho.form (by decide)
  have hcap : 3 ≤ cap ∧ cap ≤ maxLen := by
    rcases ho.2 with ⟨h, _⟩ | ⟨g', cap', cur, h, _, _, h1, h2, _⟩
    · cases h
    · cases h; exact ⟨h1, h2⟩
  refine ⟨g, cap, rfl, hcap.1, hcap.2, fun j hj => ?_⟩
  have h := hl j hj
  have hcu := h.cu
  obtain ⟨g1, g2, oo, lo, co, vp, va, vb, vx, vy, vn, e, ⟨b0, rfl, _⟩, ⟨b1, rfl, _⟩, ⟨b2, rfl, _⟩, ⟨b3, rfl, _⟩, ⟨b4, rfl, _⟩, ⟨b5, rfl, _⟩⟩ := h
  rw [e] at hcu
  refine ⟨g1, g2, oo, lo, co, b0, b1, b2, b3, b4, b5, ?_, hcu⟩
  injection e with e
  have e2 : (xs.drop (9 * j)).take 9 = [.int .i64 g1, .int .i64 g2, .slice oo lo co, .slice (some ⟨b0, 0, none⟩) 1 1, .slice (some ⟨b1, 0, none⟩) 1 1, .slice (some ⟨b2, 0, none⟩) 1 1, .slice (some ⟨b3, 0, none⟩) 1 1, .slice (some ⟨b4, 0, none⟩) 1 1, .slice (some ⟨b5, 0, none⟩) 1 1] := congrArg Array.toList e
  have hc : ∀ i, i < 9 → W.cell? ⟨g, 9 * j + i, none⟩ = ((xs.drop (9 * j)).take 9)[i]? := fun i hi => by
    rw [ho.cellAt (9 * j + i) (by omega), List.getElem?_take, if_pos hi, List.getElem?_drop]
  rw [e2] at hc
  exact ⟨hc 0 (by decide), hc 1 (by decide), hc 2 (by decide), hc 3 (by decide), hc 4 (by decide), hc 5 (by decide), hc 6 (by decide), hc 7 (by decide), hc 8 (by decide)⟩
theorem CuAt.keep {W W' : World} {g o : Nat} {g1 g2 : Int} {oo : Option Addr} {lo co b0 b1 b2 b3 b4 b5 : Nat} (h : CuAt W g o g1 g2 oo lo co b0 b1 b2 b3 b4 b5) (hb : Below W.heap.size W W') : CuAt W' g o g1 g2 oo lo co b0 b1 b2 b3 b4 b5 := by
  have hk : ∀ (i : Nat) (x : Value), W.cell? ⟨g, i, none⟩ = some x → W'.cell? ⟨g, i, none⟩ = some x := fun i x hx => (hb.cell (p := ⟨g, i, none⟩) (World.block_lt_of_cell? W _ hx)).trans hx
  exact ⟨hk _ _ h.c0, hk _ _ h.c1, hk _ _ h.c2, hk _ _ h.c3, hk _ _ h.c4, hk _ _ h.c5, hk _ _ h.c6, hk _ _ h.c7, hk _ _ h.c8⟩
end Go.Proofs.Ytdojbknkaoiioaa
