import Derived.Test.YtcgikjkpbpjgdabGreatK06
set_option maxRecDepth 100000
set_option maxHeartbeats 40000000
set_option linter.unusedVariables false
set_option linter.unusedSimpArgs false
namespace Go.Proofs.YtcgikjkpbpjgdabGreat
open Go.Shelf Go.RowKit
end Go.Proofs.YtcgikjkpbpjgdabGreat
