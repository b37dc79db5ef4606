/-
  JsonsBlanks, as its frame wants it.
-/
import Derived.Test.YtbobgebhdafciaaDoorJBl0
import Derived.Test.YtbobgebhdafciaaDoorJBl1
import Derived.Test.YtbobgebhdafciaaDoorJBl2
namespace Go.Proofs.YtbobgebhdafciaaDoor
open Go.Shelf Go.RowKit
set_option linter.unusedVariables false

theorem JsonsBlanks_walk (w : World) (x0 y0 u0 : Value) (t0 : Vt) (w0 : VOk w 5 [x0, y0, u0] t0) (n1 : Int) (w1 : (Lit.int .u8 n1).wf = true) (hL : laidMet Tryd.prog Rows.jsonsBlanksRow.laid w) :
    Calls Tryd.prog 5 #[.agg #[x0, y0, u0], .int .u8 n1] w fun e w' => e = .returned (.bool true) ∧ Below w.heap.size w w' := by
  obtain ⟨p, c, hcs, _⟩ := w0.head
  obtain ⟨rfl, rfl, rfl⟩ : x0 = .int .u8 t0.kind ∧ y0 = .string ⟨t0.text.toArray⟩ ∧ u0 = .slice p t0.kids.length c := by simpa using hcs
  obtain ⟨h0, h1⟩ := byte_wf w1
  have hT : Tabs w := tabs_laid hL
  rcases (by omega : n1 % 3 = 0 ∨ n1 % 3 = 1 ∨ n1 % 3 = 2) with h | h | h
  · exact JsonsBlanks_0 t0 p c n1 w w0 h0 h1 h hT
  · exact JsonsBlanks_1 t0 p c n1 w w0 h0 h1 h hT
  · exact JsonsBlanks_2 t0 p c n1 w w0 h0 h1 h hT
end Go.Proofs.YtbobgebhdafciaaDoor
