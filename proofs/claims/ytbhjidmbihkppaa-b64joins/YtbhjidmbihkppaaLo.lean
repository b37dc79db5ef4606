/-
  Contracts of nat's small functions: limbs, trim, limb.
-/
import Derived.Test.YtbhjidmbihkppaaNum
import Derived.Test.YtbhjidmbihkppaaRows
import Derived.WalkSpells
import Derived.WalkLawsBesides
namespace Go.Proofs.Ytbhjidmbihkppaa
open Go.RowKit
set_option linter.unusedVariables false

theorem ret_int {k : IntKind} {a b : Int} (h : a = b) : Ending.returned (.int k a) = .returned (.int k b) := by rw [h]

theorem ret_slice {ao : Option Addr} {a b c d : Nat} (h : a = b) (h' : c = d) : Ending.returned (.slice ao a c) = .returned (.slice ao b d) := by rw [h, h']

end Go.Proofs.Ytbhjidmbihkppaa
