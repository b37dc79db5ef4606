import Derived.Test.YtagljkbfgldlgaaK07
/-
  The code's isSized.
-/
namespace Go.Proofs.Ytagljkbfgldlgaa
open Go.Shelf Go.RowKit
set_option linter.unusedVariables false
set_option linter.unusedSimpArgs false
end Go.Proofs.Ytagljkbfgldlgaa
