import Derived.Test.YtcgikjkpbpjgdabGreatK25
import Derived.Deep.Cut
set_option maxRecDepth 100000
set_option maxHeartbeats 40000000
set_option linter.unusedVariables false
set_option linter.unusedSimpArgs false
namespace Go.Proofs.YtcgikjkpbpjgdabGreat
open Go.Shelf Go.RowKit
def pieceR (bs:Bs) (tag:Nat):Option (Bs × Bs):=match readD bs with
 | .error _=>none
 | .ok ((t,b),r)=>if t.toNat=tag then some (b,r) else none
theorem pieceR_err {bs:Bs} {tag k:Nat} (h:readD bs=.error k):pieceR bs tag=none:=by unfold pieceR;rw[h]
end Go.Proofs.YtcgikjkpbpjgdabGreat
