/-
  Contract of nat.divLimb.
-/
import Derived.Test.YtbhjidmbihkppaaDivL
namespace Go.Proofs.Ytbhjidmbihkppaa
open Go.RowKit
set_option linter.unusedVariables false
set_option linter.unusedSimpArgs false
attribute [local go_sem ↓] Go.wp_at_zero Go.wp_at_succ

/-- What divLimb leaves. -/
def DlOut (e : TypeId) (g o n : Nat) (xs : List Int) (L D : Int) (w w' : World) (G : Int) : Prop :=
  ∃ cur, Row e .u64 w' g cur ∧ cur.length = xs.length ∧ Dg B64 cur ∧ (∀ j, j < o ∨ o + n < j → cur.getD j 0 = xs.getD j 0) ∧ G = L / D ∧ val B64 (seg cur o (n + 1)) = L % D ∧ w.grownBy w' (some g)

end Go.Proofs.Ytbhjidmbihkppaa
