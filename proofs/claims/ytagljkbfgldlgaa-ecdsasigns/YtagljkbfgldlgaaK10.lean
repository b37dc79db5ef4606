import Derived.Test.YtagljkbfgldlgaaK09
/-
  The code's Check, of a right curve.
-/
namespace Go.Proofs.Ytagljkbfgldlgaa
open Go.Shelf Go.RowKit
set_option linter.unusedVariables false
set_option linter.unusedSimpArgs false
end Go.Proofs.Ytagljkbfgldlgaa
