import Derived.Test.YticopomchoahnaaK12
/-
  The code's isSized.
-/
namespace Go.Proofs.Yticopomchoahnaa
open Go.Shelf Go.RowKit
set_option linter.unusedVariables false
set_option linter.unusedSimpArgs false
end Go.Proofs.Yticopomchoahnaa
