/-
  JsonsTurned, as its frame wants it.
-/
import Derived.Test.YtbobgebhdafciaaDoorJTn0
import Derived.Test.YtbobgebhdafciaaDoorJTn1
import Derived.Test.YtbobgebhdafciaaDoorJTn2
namespace Go.Proofs.YtbobgebhdafciaaDoor
open Go.Shelf Go.RowKit
set_option linter.unusedVariables false

theorem JsonsTurned_walk (w : World) (x0 y0 u0 : Value) (t0 : Vt) (w0 : VOk w 5 [x0, y0, u0] t0) (n1 : Int) (w1 : (Lit.int .u8 n1).wf = true) (a2 : Option Addr) (len2 cap2 : Nat) (z2 : List Int) (w2 : CameJ .i64 w a2 len2 cap2 z2) (a3 : Option Addr) (len3 cap3 : Nat) (z3 : List Int) (w3 : CameJ .u8 w a3 len3 cap3 z3) (hL : laidMet Tryd.prog Rows.jsonsTurnedRow.laid w) :
    Calls Tryd.prog 4 #[.agg #[x0, y0, u0], .int .u8 n1, .slice a2 len2 cap2, .slice a3 len3 cap3] w fun e w' => e = .returned (.bool true) ∧ Below w.heap.size w w' := by
  obtain ⟨p, c, hcs, _⟩ := w0.head
  obtain ⟨rfl, rfl, rfl⟩ : x0 = .int .u8 t0.kind ∧ y0 = .string ⟨t0.text.toArray⟩ ∧ u0 = .slice p t0.kids.length c := by simpa using hcs
  obtain ⟨h0, h1⟩ := byte_wf w1
  have hT : Tabs w := tabs_laid hL
  rcases (by omega : n1 % 3 = 0 ∨ n1 % 3 = 1 ∨ n1 % 3 = 2) with h | h | h
  · exact JsonsTurned_0 t0 p c n1 a2 len2 cap2 z2 a3 len3 cap3 z3 w w0 h0 h1 h w2 w3 hT
  · exact JsonsTurned_1 t0 p c n1 a2 len2 cap2 z2 a3 len3 cap3 z3 w w0 h0 h1 h w2 w3 hT
  · exact JsonsTurned_2 t0 p c n1 a2 len2 cap2 z2 a3 len3 cap3 z3 w w0 h0 h1 h w2 w3 hT
end Go.Proofs.YtbobgebhdafciaaDoor
