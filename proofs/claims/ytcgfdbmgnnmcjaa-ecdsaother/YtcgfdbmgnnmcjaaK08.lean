import Derived.Test.YtcgfdbmgnnmcjaaK07
/-
  The code's isSized.
-/
namespace Go.Proofs.Ytcgfdbmgnnmcjaa
open Go.Shelf Go.RowKit
set_option linter.unusedVariables false
set_option linter.unusedSimpArgs false
end Go.Proofs.Ytcgfdbmgnnmcjaa
