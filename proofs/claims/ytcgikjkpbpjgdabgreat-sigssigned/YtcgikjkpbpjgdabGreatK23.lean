import Derived.Test.YtcgikjkpbpjgdabGreatK22
set_option maxRecDepth 100000
set_option maxHeartbeats 40000000
set_option linter.unusedVariables false
set_option linter.unusedSimpArgs false
namespace Go.Proofs.YtcgikjkpbpjgdabGreat
open Go.Shelf Go.RowKit
theorem sha_bytes (bs:List Int):Dg 256 (shaS bs):=by intro x hx;unfold shaS spreadS at hx;obtain⟨i,_,rfl⟩:=List.mem_map.1 hx;omega
end Go.Proofs.YtcgikjkpbpjgdabGreat
