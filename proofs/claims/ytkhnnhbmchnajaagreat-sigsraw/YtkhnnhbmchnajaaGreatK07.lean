import Derived.Test.YtkhnnhbmchnajaaGreatK06
import Derived.Test.YtkhnnhbmchnajaaGreatK05
set_option maxRecDepth 100000
set_option maxHeartbeats 40000000
set_option linter.unusedVariables false
set_option linter.unusedSimpArgs false
namespace Go.Proofs.YtkhnnhbmchnajaaGreat
section
open Go.Shelf Go.RowKit
theorem owns_one(w:World)(c:UInt8):(w.alloc (.cells #[.int .u8 (c.toNat:Int)] 5)).ownsRow w.heap.size 5 1 (.slice (some ⟨w.heap.size,0,none⟩) 1 1) 1 (Lib.byteCells [c]):=World.ownsRow_lit w #[.int .u8 (c.toNat:Int)] 1 (Nat.le_refl _) (by decide) (by simp)
theorem byv_one(w:World)(c:UInt8):ByV (w.alloc (.cells #[.int .u8 (c.toNat:Int)] 5)) (fun b=>w.heap.size≤b) (some ⟨w.heap.size,0,none⟩) 1 [c]:=by
 obtain⟨p,c',e,h⟩:=own_byv (l:=[c]) (owns_one w c)
 cases e
 exact h
theorem bat_lit(w:World)(z:Int)(c:UInt8)(hz:z=(c.toNat:Int)):BAt (w.alloc (.cells #[.int .u8 z] 5)) (some ⟨w.heap.size,0,none⟩) 1 [c]:=by rw[hz];exact(byv_one w c).lies
theorem below_grownT{B:Nat}{w w1 w2:World}{e:TypeId}{s:Nat}{v:Value}{n:Nat}{xs:List Value}(h:Below B w w1)(hBw:B≤w.heap.size)(ho:w1.ownsRow B e s v n xs)(gr:w1.grownBy w2 v.ownBlock):Below B w w2:=
 ⟨gr.os.trans h.os,gr.tape.trans h.tape,gr.output.trans h.output,Nat.le_trans h.size gr.size,fun k hk=>(gr.block k (Nat.lt_of_lt_of_le hk (Nat.le_trans hBw h.size)) (fun e=>by have:=(ho.lt k e.symm).1;omega)).trans (h.block k hk)⟩
theorem owns_lit1(w:World)(B t:Nat)(ht:t<256)(hB:B≤w.heap.size):(w.alloc (.cells #[.int .u8 (t:Int)] 5)).ownsRow B 5 1 (.slice (some ⟨w.heap.size,0,none⟩) 1 1) 1 (Lib.byteCells [UInt8.ofNat t]):=by have h:(w.alloc (.cells #[.int .u8 ((UInt8.ofNat t).toNat:Int)] 5)).ownsRow B 5 1 (.slice (some ⟨w.heap.size,0,none⟩) 1 1) 1 (Lib.byteCells [UInt8.ofNat t]):=World.ownsRow_lit w #[.int .u8 ((UInt8.ofNat t).toNat:Int)] 1 hB (by decide) (by simp);rw[show((UInt8.ofNat t).toNat:Int)=(t:Int) by rw[UInt8.toNat_ofNat'];omega]at h;exact h
end
end Go.Proofs.YtkhnnhbmchnajaaGreat
