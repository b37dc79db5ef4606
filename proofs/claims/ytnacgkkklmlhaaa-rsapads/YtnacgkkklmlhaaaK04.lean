import Derived.Test.YtnacgkkklmlhaaaK03
/-
  The code's isSized.
-/
namespace Go.Proofs.Ytnacgkkklmlhaaa
open Go.Shelf Go.RowKit
set_option linter.unusedVariables false
set_option linter.unusedSimpArgs false
end Go.Proofs.Ytnacgkkklmlhaaa
