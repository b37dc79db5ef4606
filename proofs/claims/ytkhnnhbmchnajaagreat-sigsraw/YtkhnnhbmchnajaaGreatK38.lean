import Derived.Test.YtkhnnhbmchnajaaGreatK37
import Derived.Test.YtkhnnhbmchnajaaGreatK02
import Derived.Test.YtkhnnhbmchnajaaGreatK25
import Derived.Test.YtkhnnhbmchnajaaGreatK28
import Derived.Test.YtkhnnhbmchnajaaGreatK33
set_option maxRecDepth 100000
set_option maxHeartbeats 40000000
set_option linter.unusedVariables false
set_option linter.unusedSimpArgs false
namespace Go.Proofs.YtkhnnhbmchnajaaGreat
section
open Go.Shelf Go.RowKit
attribute [local go_sem ↓] keep_l32
theorem rlen_rvO(v:Value)(n:Int)(L:Nat)(w:World)(h:Rv w v n L)(hL:L≤1000000):
  Calls Tryz.prog 30 #[v] w fun e w'=>e=.returned (.int .i64 (blen n.toNat))∧w'=w:=by
 obtain⟨a1,a2,a3,a4,rfl,a5,a6,a7,a8⟩:=h;have:=rLen_any a1 a2 a3 a4 w a5 a6 (by omega)
 rwa [a7]at this
theorem rsa_512(i:Int):blen (rsaN i).toNat=512∧rsaN i<256^64∧256^63<rsaN i∧szZ (rsaN i)=64:=by unfold rsaN;split<;>decide +kernel
def padZ (hs:List Int):Int:=val 256 (padL 64 hs).reverse
theorem padA_64(hs:List Int):padA 64 hs=padL 64 hs:=rfl
theorem padZ_lt(hs:List Int)(hl:hs.length=32)(hd:Dg 256 hs):0≤padZ hs∧padZ hs<256^63:=by
 unfold padZ;have e:(padL 64 hs).reverse=(1::(List.replicate 10 255++(0::(hashN++hs)))).reverse++[0]:=by simp[padL]
 have hdg:Dg 256 (1::(List.replicate 10 255++(0::(hashN++hs)))).reverse:=fun x hx=>padL_dg 64 hs hd x (by
  have:=List.mem_reverse.1 hx;exact List.mem_cons_of_mem _ this)
 rw[e,val_append];have h1:=val_nonneg (by decide) hdg;have h2:=val_lt (by decide) hdg;have h3:(1::(List.replicate 10 (255:Int)++(0::(hashN++hs)))).reverse.length=63:=by simp[hashN,hl]
 rw[h3]at h2;simp only[val_cons,val_nil,Int.mul_zero,Int.add_zero];exact⟨h1,h2⟩
end
end Go.Proofs.YtkhnnhbmchnajaaGreat
