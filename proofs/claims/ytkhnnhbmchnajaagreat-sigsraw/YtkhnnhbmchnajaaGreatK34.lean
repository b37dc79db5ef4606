import Derived.Test.YtkhnnhbmchnajaaGreatK33
import Derived.Test.YtkhnnhbmchnajaaGreatK02
import Derived.Test.YtkhnnhbmchnajaaGreatK23
import Derived.Test.YtkhnnhbmchnajaaGreatK24
set_option maxRecDepth 100000
set_option maxHeartbeats 40000000
set_option linter.unusedVariables false
set_option linter.unusedSimpArgs false
namespace Go.Proofs.YtkhnnhbmchnajaaGreat
section
open Go.Shelf Go.RowKit
theorem lies_allS{e:TypeId}{k:IntKind}{w:World}{g n:Nat}{xs:List Int}(h:Row e k w g xs)(hn:xs.length=n):Lies k w (some ⟨g,0,none⟩) n xs:=by have:=h.lies 0 n (by omega);rw[List.drop_zero,List.take_of_length_le (by omega)]at this;exact this
theorem FewB.nil{w w':World}{M:Nat}(h:Below w.heap.size w w'):FewB w w' (.returned (.slice none 0 0)) M:=⟨h,none,0,0,[],rfl,rfl,Nat.zero_le _,World.ownsRow_nil _ _ _ _⟩
theorem cells2s{w:World}{b:Nat}{k s:Int}(h:w.heap[b]?=some (.cells #[.int .u8 k,.int .u8 s] 32 (0,0))):w.cell? ⟨b,0,none⟩=some (.int .u8 k)∧w.cell? ⟨b,1,none⟩=some (.int .u8 s):=⟨cell_of_row _ _ 0 _ _ _ h,cell_of_row _ _ 1 _ _ _ h⟩
structure SsS(w W:World)(k s:Int)(g1 g2:Nat)(hs:List Int)(kp ka kb kx ky kn:Int):Prop where
 sg:W.heap[w.heap.size]?=some (.cells #[.int .u8 k,.int .u8 s] 32 (0,0))
 hr:Row 71 .u8 W g1 hs
 cb:W.heap[g2]?=some (.cells #[.int .i64 kp,.int .i64 ka,.int .i64 kb,.int .i64 kx,.int .i64 ky,.int .i64 kn] 60 (0,0))
 low:Below w.heap.size w W
theorem SsS.keep{w W W':World}{k s:Int}{g1 g2:Nat}{hs:List Int}{kp ka kb kx ky kn:Int}(h:SsS w W k s g1 g2 hs kp ka kb kx ky kn)(hb:Below W.heap.size W W'):SsS w W' k s g1 g2 hs kp ka kb kx ky kn:=⟨blk_old h.sg hb,h.hr.below hb h.hr.lt,blk_old h.cb hb,h.low.trans (hb.mono h.low.size)⟩
theorem SsS.num{w W:World}{k s:Int}{g1 g2:Nat}{hs:List Int}{kp ka kb kx ky kn:Int}(h:SsS w W k s g1 g2 hs kp ka kb kx ky kn)(hl:hs.length=32)(hd:Dg 256 hs):NumIn .u8 256 W (some ⟨g1,0,none⟩) 32 32 hs:=⟨lies_allS h.hr hl,by decide,by unfold maxLen;decide,fun h=>(by cases h),hd,by decide⟩
end
end Go.Proofs.YtkhnnhbmchnajaaGreat
