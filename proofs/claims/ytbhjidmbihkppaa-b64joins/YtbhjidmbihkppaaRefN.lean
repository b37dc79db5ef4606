/-
  Contracts of the document's answer: a number of digits as limbs (Nat), two numbers as they stand (Same), and the law's own 'is'.
-/
import Derived.Test.YtbhjidmbihkppaaRef
namespace Go.Proofs.Ytbhjidmbihkppaa
open Go.RowKit
set_option linter.unusedVariables false
set_option linter.unusedSimpArgs false



end Go.Proofs.Ytbhjidmbihkppaa
