/-
  Contract of nat.guessLimb.
-/
import Derived.Test.YtbhjidmbihkppaaDiv64
namespace Go.Proofs.Ytbhjidmbihkppaa
open Go.RowKit
set_option linter.unusedVariables false
set_option linter.unusedSimpArgs false
/-- A guess. -/
def gss (hi lo y : Int) : Int := if y ≤ hi then 18446744073709551615 else (hi * 18446744073709551616 + lo) / y

end Go.Proofs.Ytbhjidmbihkppaa
