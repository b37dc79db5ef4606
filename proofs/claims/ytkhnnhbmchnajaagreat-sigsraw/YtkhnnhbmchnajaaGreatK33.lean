import Derived.Test.YtkhnnhbmchnajaaGreatK32
import Derived.Test.YtkhnnhbmchnajaaGreatK29
import Derived.Test.YtkhnnhbmchnajaaGreatK03
import Derived.Test.YtkhnnhbmchnajaaGreatK01
import Derived.Test.YtkhnnhbmchnajaaGreatK09
import Derived.Test.YtkhnnhbmchnajaaGreatK08
import Derived.Test.YtkhnnhbmchnajaaGreatK28
set_option maxRecDepth 100000
set_option maxHeartbeats 40000000
set_option linter.unusedVariables false
set_option linter.unusedSimpArgs false
namespace Go.Proofs.YtkhnnhbmchnajaaGreat
section
open Go.RowKit Go.Shelf
section
variable {P N : Nat} [NeZero P] {K : Cz}
theorem sgn_rng(R:RightK K P N)(hN0:0<N){z secret draw r s:Int}(h:SgnZ K P z secret draw r s):0<r∧r<N∧0<s∧s<N:=by obtain⟨p,i,hpp,hpi,hr,hr0,_,hs,hs0⟩:=h;rw[R.n]at hr hs;have a1:=Int.emod_nonneg p.x (b:=(N:Int)) (by omega);have a2:=Int.emod_lt_of_pos p.x (b:=(N:Int)) (by omega);have a3:=Int.emod_nonneg (((z+(r*secret)%(N:Int))%(N:Int))*i) (b:=(N:Int)) (by omega);have a4:=Int.emod_lt_of_pos (((z+(r*secret)%(N:Int))%(N:Int))*i) (b:=(N:Int)) (by omega);rw[←hr]at a1 a2;rw[←hs]at a3 a4;omega
end
end
section
open Go.Shelf Go.RowKit
def toB (zs:List Int):Bs:=zs.map fun z=>UInt8.ofNat z.toNat
theorem toB_len(zs:List Int):(toB zs).length=zs.length:=by simp[toB]
theorem row_bat{w:World}{g n:Nat}{zs:List Int}(h:Row 5 .u8 w g zs)(hl:zs.length=n)(hd:Dg 256 zs):BAt w (some ⟨g,0,none⟩) n (toB zs):=by
 intro h0;refine⟨g,0,rfl,fun i hi => ?_⟩;unfold Row at h;rw[Nat.zero_add,cell_of_row w g i _ _ _ h];have hi':i<zs.length:=by omega
 have hz:=hd zs[i] (List.getElem_mem hi');simp[toB,List.getD,hi'];omega
theorem blen_room(V:Int)(h0:0≤V):V<256^((blen V.toNat+7)/8):=by
 have h1:=blen_lt V.toNat;have h2:2^blen V.toNat≤256^((blen V.toNat+7)/8):=by rw[show(256:Nat)=2^8 from rfl,←Nat.pow_mul];exact Nat.pow_le_pow_right (by omega) (by omega)
 have h3:V.toNat<256^((blen V.toNat+7)/8):=Nat.lt_of_lt_of_le h1 h2;have h4:((256^((blen V.toNat+7)/8):Nat):Int)=256^((blen V.toNat+7)/8):=by simp
 omega
def FewB (w w':World)(e:Ending)(M:Nat):Prop:=Below w.heap.size w w'∧∃p m c bs,e=.returned (.slice p m c)∧bs.length=m∧m≤M∧w'.ownsRow w.heap.size 5 1 (.slice p m c) m (Lib.byteCells bs)
theorem sha_bytes(bs:List Int):Dg 256 (shaS bs):=by intro x hx;unfold shaS spreadS at hx;obtain⟨i,_,rfl⟩:=List.mem_map.1 hx;omega
end
end Go.Proofs.YtkhnnhbmchnajaaGreat
