/-
  The document's reader in memory.
-/
import Derived.Test.YtfmldcibhllpcabDoorCZ
namespace Go.Proofs.YtfmldcibhllpcabDoor
open Go.Shelf Go.RowKit
set_option linter.unusedVariables false
set_option linter.unusedSimpArgs false
end Go.Proofs.YtfmldcibhllpcabDoor
