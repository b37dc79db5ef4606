import Derived.Test.YtiblpcfkecalcaaDoorK14
import Derived.Test.YtiblpcfkecalcaaDoorK13
/-
  Pieces in a row.
-/
namespace Go.Proofs.YtiblpcfkecalcaaDoor
open Go.Shelf Go.RowKit
set_option linter.unusedVariables false
/-- A piece in a row of them. -/
def PieceAt (w : World) (g i : Nat) : Prop := ∃ (T : Nat) (p : Option Addr) (n c : Nat) (l : Bs), w.cell? ⟨g, i * 2, none⟩ = some (.int .u8 (T : Int)) ∧ w.cell? ⟨g, i * 2 + 1, none⟩ = some (.slice p n c) ∧ T < 256 ∧ l.length = n ∧ n ≤ 1001 ∧ ByV w (fun b => b < w.heap.size) p c l
theorem PieceAt.below {w w' : World} {g i : Nat} (h : PieceAt w g i) (hb : Below w.heap.size w w') : PieceAt w' g i := by
  obtain ⟨T, p, n, c, l, h1, h2, h3, h4, h5, h6⟩ := h
  exact ⟨T, p, n, c, l, (hb.cell (World.block_lt_of_cell? w _ h1)).trans h1, (hb.cell (World.block_lt_of_cell? w _ h2)).trans h2, h3, h4, h5, (h6.below hb).mono (fun b hlt _ => Nat.lt_of_lt_of_le hlt hb.size)⟩
end Go.Proofs.YtiblpcfkecalcaaDoor
