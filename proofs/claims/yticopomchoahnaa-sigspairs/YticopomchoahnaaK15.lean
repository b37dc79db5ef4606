import Derived.Test.YticopomchoahnaaK14
/-
  The code's Check, of a right curve.
-/
namespace Go.Proofs.Yticopomchoahnaa
open Go.Shelf Go.RowKit
set_option linter.unusedVariables false
set_option linter.unusedSimpArgs false
end Go.Proofs.Yticopomchoahnaa
