/-
  Contract of long: whether one of the numbers handed over has more limbs than are gone to.
-/
import Derived.Test.YtdojbknkaoiioaaAwake
namespace Go.Proofs.Ytdojbknkaoiioaa
open Go.RowKit
set_option linter.unusedVariables false
set_option linter.unusedSimpArgs false

end Go.Proofs.Ytdojbknkaoiioaa
