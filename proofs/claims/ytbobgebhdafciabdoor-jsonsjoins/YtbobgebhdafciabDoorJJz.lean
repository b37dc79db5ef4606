/-
  JsonsJoins, as its frame wants it.
-/
import Derived.Test.YtbobgebhdafciabDoorJJn
namespace Go.Proofs.YtbobgebhdafciabDoor
open Go.Shelf Go.RowKit
set_option linter.unusedVariables false

theorem JsonsJoins_walk (w : World) (x0 y0 u0 : Value) (t0 : Vt) (w0 : VOk w 4 [x0, y0, u0] t0) (x1 y1 u1 : Value) (t1 : Vt) (w1 : VOk w 4 [x1, y1, u1] t1) (hL : laidMet Tryd.prog Rows.jsonsJoinsRow.laid w) :
    Calls Tryd.prog 4 #[.agg #[x0, y0, u0], .agg #[x1, y1, u1]] w fun e w' => e = .returned (.bool true) ∧ Below w.heap.size w w' := by
  obtain ⟨p, c, hcs, _⟩ := w0.head
  obtain ⟨rfl, rfl, rfl⟩ : x0 = .int .u8 t0.kind ∧ y0 = .string ⟨t0.text.toArray⟩ ∧ u0 = .slice p t0.kids.length c := by simpa using hcs
  obtain ⟨p2, c2, hcs2, _⟩ := w1.head
  obtain ⟨rfl, rfl, rfl⟩ : x1 = .int .u8 t1.kind ∧ y1 = .string ⟨t1.text.toArray⟩ ∧ u1 = .slice p2 t1.kids.length c2 := by simpa using hcs2
  exact JsonsJoins_at t0 t1 p p2 c c2 w w0 w1 (tabs_laid hL)
end Go.Proofs.YtbobgebhdafciabDoor
