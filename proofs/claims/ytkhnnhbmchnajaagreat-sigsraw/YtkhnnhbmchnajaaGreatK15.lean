import Derived.Test.YtkhnnhbmchnajaaGreatK14
import Derived.Test.YtkhnnhbmchnajaaGreatK02
set_option maxRecDepth 100000
set_option maxHeartbeats 40000000
set_option linter.unusedVariables false
set_option linter.unusedSimpArgs false
namespace Go.Proofs.YtkhnnhbmchnajaaGreat
section
open Go.Shelf Go.RowKit
end
end Go.Proofs.YtkhnnhbmchnajaaGreat
