import Derived.Test.YtkhnnhbmchnajaaGreatK01
import Derived.Stop.RegionWithIn
import Derived.Deep.RegionHeld3
import Derived.WalkKit
import Derived.Lib.MapLaws
import Derived.Lib.ValidU
set_option maxRecDepth 100000
set_option maxHeartbeats 40000000
set_option linter.unusedVariables false
set_option linter.unusedSimpArgs false
namespace Go.Proofs.YtkhnnhbmchnajaaGreat
section
open Go.RowKit
theorem len_fit{B:Int}(hB:1<B){xs ys:List Int}(hx:Dg B xs)(cx:Canon xs)(hy:Dg B ys)(h:val B xs≤val B ys):xs.length≤ys.length:=by have h1:=top_mono hB hx hy h;have h2:=top_le ys;unfold Canon at cx;omega
theorem NumOut.fit{k:IntKind}{B:Int}{w w':World}{v:Value}{n:Int}{L:Nat}(h:NumOut k B w w' v n L)(hB:1<B){ys:List Int}(hy:Dg B ys)(hn:n≤val B ys):NumOut k B w w' v n ys.length:=by obtain⟨ao,len,cap,xs,rfl,h1,h2,h3,h4,h5⟩:=h;exact⟨ao,len,cap,xs,rfl,h1,h2,h3,by rw[←h1.len];exact len_fit hB h1.dg h2 hy (by omega),h5⟩
theorem NumOut.from{k:IntKind}{B:Int}{w0 w w':World}{v:Value}{n:Int}{L:Nat}(h:NumOut k B w w' v n L)(hb:Below w0.heap.size w0 w):NumOut k B w0 w' v n L:=by obtain⟨ao,len,cap,xs,rfl,h1,h2,h3,h4,h5⟩:=h;exact⟨ao,len,cap,xs,rfl,h1,h2,h3,h4,hb.trans (h5.mono hb.size)⟩
theorem mod_range(x m:Int)(hm:0≤m)(h0:m≠0):0≤x%m∧x%m<m:=⟨Int.emod_nonneg x h0,Int.emod_lt_of_pos x (by omega)⟩
theorem mOf_any(ao mo:Option Addr)(la ca lm cm:Nat)(xs ms:List Int)(w:World)(h:NumIn .u64 B64 w ao la ca xs)(h':NumIn .u64 B64 w mo lm cm ms)(h0:val B64 ms≠0)(hsm:la+lm<1073740000):
  Calls Tryz.prog 76 #[.slice ao la ca,.slice mo lm cm] w fun e w'=>∃v,e=.returned (.tuple #[v,.int .i64 0])∧NumOut .u64 B64 w w' v (val B64 xs%val B64 ms) lm:=by
 have HD:=Div_any ao mo la ca lm cm xs ms w h h' h0 hsm;have hr:=mod_range (val B64 xs) (val B64 ms) (val_nonneg B64_pos h'.dg) h0;have HR:Hid (val B64 xs%val B64 ms≤val B64 ms∧Dg B64 ms∧ms.length=lm):=⟨by omega,h'.dg,h'.len⟩
 clear h h' hr;go_enter Tryz.func76,Tryz.ntmps76;go_wp2_with fail
 refine HD.mono ?_;rintro e w' ⟨q,r,rfl,hq,hr⟩;have hr2:=hr.fit B64_one HR.out.2.1 HR.out.1;rw[HR.out.2.2]at hr2;obtain⟨aq,lq,cq,xq,rfl,_,_,_,_,_⟩:=hq;obtain⟨ar,lr,cr,xr,rfl,n1,n2,n3,n4,n5⟩:=hr2;have HN:Hid (NumOut .u64 B64 w w' (.slice ar lr cr) (val B64 xs%val B64 ms) lm):=⟨ar,lr,cr,xr,rfl,n1,n2,n3,n4,n5⟩
 clear hr n1 n2 n3 n4 n5 HR HD;go_wp2;go_ret2
 exact⟨_,rfl,HN.out⟩
theorem mAdd_any(ao bo mo:Option Addr)(la ca lb cb lm cm:Nat)(xs ys ms:List Int)(w:World)(h:NumIn .u64 B64 w ao la ca xs)(hb:NumIn .u64 B64 w bo lb cb ys)(h':NumIn .u64 B64 w mo lm cm ms)(h0:val B64 ms≠0)(hsm:la+lb+lm<1073730000):
  Calls Tryz.prog 148 #[.slice ao la ca,.slice bo lb cb,.slice mo lm cm] w fun e w'=>∃v,e=.returned (.tuple #[v,.int .i64 0])∧NumOut .u64 B64 w w' v ((val B64 xs+val B64 ys)%val B64 ms) lm:=by
 have HA:=Add_any ao bo la ca lb cb xs ys w h hb (by omega);have HM:Hid (NumIn .u64 B64 w mo lm cm ms):=h';clear h hb h';go_enter Tryz.func148,Tryz.ntmps148;go_wp2_with fail
 refine HA.mono ?_;rintro e w1 ⟨v,rfl,a1,l1,c1,zs,rfl,n1,n2,n3,n4,n5⟩;have HO:=mOf_any a1 mo l1 c1 lm cm zs ms w1 n1 (HM.out.old n5) h0 (by omega);rw[n3]at HO;have HB:Hid (Below w.heap.size w w1):=n5;clear n1 n2 n3 n4 n5 HM HA;go_wp2_with fail
 refine HO.mono ?_;rintro e w2 ⟨v,rfl,hv⟩;have HV:Hid (NumOut .u64 B64 w w2 v ((val B64 xs+val B64 ys)%val B64 ms) lm):=hv.from HB.out;clear hv HB HO;go_wp2;go_ret2
 exact⟨_,rfl,HV.out⟩
theorem mMul_any(ao bo mo:Option Addr)(la ca lb cb lm cm:Nat)(xs ys ms:List Int)(w:World)(h:NumIn .u64 B64 w ao la ca xs)(hb:NumIn .u64 B64 w bo lb cb ys)(h':NumIn .u64 B64 w mo lm cm ms)(h0:val B64 ms≠0)(hsm:la+lb+lm<1073730000):
  Calls Tryz.prog 79 #[.slice ao la ca,.slice bo lb cb,.slice mo lm cm] w fun e w'=>∃v,e=.returned (.tuple #[v,.int .i64 0])∧NumOut .u64 B64 w w' v ((val B64 xs*val B64 ys)%val B64 ms) lm:=by
 have HA:=Mul_any ao bo la ca lb cb xs ys w h hb (by omega);have HM:Hid (NumIn .u64 B64 w mo lm cm ms):=h';clear h hb h';go_enter Tryz.func79,Tryz.ntmps79;go_wp2_with fail
 refine HA.mono ?_;rintro e w1 ⟨v,rfl,a1,l1,c1,zs,rfl,n1,n2,n3,n4,n5⟩;have HO:=mOf_any a1 mo l1 c1 lm cm zs ms w1 n1 (HM.out.old n5) h0 (by omega);rw[n3]at HO;have HB:Hid (Below w.heap.size w w1):=n5;clear n1 n2 n3 n4 n5 HM HA;go_wp2_with fail
 refine HO.mono ?_;rintro e w2 ⟨v,rfl,hv⟩;have HV:Hid (NumOut .u64 B64 w w2 v ((val B64 xs*val B64 ys)%val B64 ms) lm):=hv.from HB.out;clear hv HB HO;go_wp2;go_ret2
 exact⟨_,rfl,HV.out⟩
theorem sub_mod(a b m:Int)(h0:0<m):(a%m<b%m→a%m+m-b%m=(a-b)%m)∧(b%m≤a%m→a%m-b%m=(a-b)%m):=by
 have ra:=mod_range a m (by omega) (by omega);have rb:=mod_range b m (by omega) (by omega);have rc:=mod_range (a-b) m (by omega) (by omega);have h1:Cg m (a%m-b%m) ((a-b)%m):=((Cg.mod m a).sub (Cg.mod m b)).trans (Cg.mod m (a-b)).symm;refine⟨fun hl => ?_,fun hl => ?_⟩
 ·refine Cg.eq (M:=m) ?_ (by omega) (by omega) rc.1 rc.2;exact(show Cg m (a%m+m-b%m) (a%m-b%m) from⟨1,by omega⟩).trans h1
 ·exact h1.eq (by omega) (by omega) rc.1 rc.2
theorem mSub_any(ao bo mo:Option Addr)(la ca lb cb lm cm:Nat)(xs ys ms:List Int)(w:World)(h:NumIn .u64 B64 w ao la ca xs)(hb:NumIn .u64 B64 w bo lb cb ys)(h':NumIn .u64 B64 w mo lm cm ms)(h0:val B64 ms≠0)(hsm:la+lb+lm<500000000):
  Calls Tryz.prog 110 #[.slice ao la ca,.slice bo lb cb,.slice mo lm cm] w fun e w'=>∃v,e=.returned (.tuple #[v,.int .i64 0])∧NumOut .u64 B64 w w' v ((val B64 xs-val B64 ys)%val B64 ms) lm:=by
 have hM:=val_nonneg B64_pos h'.dg;have HO:=mOf_any ao mo la ca lm cm xs ms w h h' h0 (by omega);have HS:=sub_mod (val B64 xs) (val B64 ys) (val B64 ms) (by omega);have HFIT:Hid ((val B64 xs-val B64 ys)%val B64 ms≤val B64 ms∧Dg B64 ms∧ms.length=lm):=⟨by have:=mod_range (val B64 xs-val B64 ys) (val B64 ms) hM h0;omega,h'.dg,h'.len⟩
 have HSM:Hid (la+lb+lm<500000000):=hsm;have HB:Hid (NumIn .u64 B64 w bo lb cb ys):=hb;have HM:Hid (NumIn .u64 B64 w mo lm cm ms):=h';have HZ:Hid (val B64 ms≠0):=h0;clear h hb h' hM h0 hsm;by_cases hlt:val B64 xs%val B64 ms<val B64 ys%val B64 ms
 ·have HE:Hid (val B64 xs%val B64 ms+val B64 ms-val B64 ys%val B64 ms=(val B64 xs-val B64 ys)%val B64 ms):=HS.1 hlt;have HCM:Hid (cmpI (val B64 xs%val B64 ms) (val B64 ys%val B64 ms) = -1):=cmpI_lt hlt;have HLE:Hid (val B64 ys%val B64 ms≤val B64 xs%val B64 ms+val B64 ms):=by
   unfold Hid;have hM:=val_nonneg B64_pos HM.out.dg;have a:=mod_range (val B64 xs) _ hM HZ.out;have b:=mod_range (val B64 ys) _ hM HZ.out;omega
  clear HS hlt;go_enter Tryz.func110,Tryz.ntmps110;go_wp2_with fail
  refine HO.mono ?_;rintro e w1 ⟨v,rfl,a1,l1,c1,zs,rfl,n1,n2,n3,n4,n5⟩;have HO2:=mOf_any bo mo lb cb lm cm ys ms w1 (HB.out.old n5) (HM.out.old n5) HZ.out (by have:=HSM.out;omega);replace HM:Hid (NumIn .u64 B64 w1 mo lm cm ms):=HM.out.old n5;have NX:Hid (NumIn .u64 B64 w1 a1 l1 c1 zs∧val B64 zs=val B64 xs%val B64 ms∧l1≤lm):=⟨n1,n3,n4⟩
  have BW:Hid (Below w.heap.size w w1):=n5;clear n1 n2 n3 n4 n5 HB HO;go_wp2_with fail
  refine HO2.mono ?_;rintro e w2 ⟨v,rfl,a2,l2,c2,us,rfl,n1,n2,n3,n4,n5⟩;replace HM:Hid (NumIn .u64 B64 w2 mo lm cm ms):=HM.out.old n5;replace NX:Hid (NumIn .u64 B64 w2 a1 l1 c1 zs∧val B64 zs=val B64 xs%val B64 ms∧l1≤lm):=⟨NX.out.1.old n5,NX.out.2⟩
  have NY:Hid (NumIn .u64 B64 w2 a2 l2 c2 us∧val B64 us=val B64 ys%val B64 ms∧l2≤lm):=⟨n1,n3,n4⟩
  replace BW:Hid (Below w.heap.size w w2):=BW.out.trans (n5.mono BW.out.size);have HC:=Cmp_any a1 a2 l1 c1 l2 c2 zs us w2 NX.out.1 NY.out.1;rw[NX.out.2.1,NY.out.2.1,HCM.out]at HC;clear n1 n2 n3 n4 n5 HO2;go_wp2_with fail
  refine HC.mono ?_;rintro e w3 ⟨rfl,hd⟩;have n5:=hd.below w2.heap.size;replace HM:Hid (NumIn .u64 B64 w3 mo lm cm ms):=HM.out.old n5;replace NX:Hid (NumIn .u64 B64 w3 a1 l1 c1 zs∧val B64 zs=val B64 xs%val B64 ms∧l1≤lm):=⟨NX.out.1.old n5,NX.out.2⟩
  replace NY:Hid (NumIn .u64 B64 w3 a2 l2 c2 us∧val B64 us=val B64 ys%val B64 ms∧l2≤lm):=⟨NY.out.1.old n5,NY.out.2⟩
  replace BW:Hid (Below w.heap.size w w3):=BW.out.trans (n5.mono BW.out.size);have HA:=Add_any a1 mo l1 c1 lm cm zs ms w3 NX.out.1 HM.out (by have:=NX.out.2.2;have:=HSM.out;omega);rw[NX.out.2.1]at HA;clear hd n5 HC;go_wp2_with fail
  refine HA.mono ?_;rintro e w4 ⟨v,rfl,a4,l4,c4,ts,rfl,n1,n2,n3,n4,n5⟩;replace BW:Hid (Below w.heap.size w w4):=BW.out.trans (n5.mono BW.out.size);have HU:=Sub_yes a4 a2 l4 c4 l2 c2 ts us w4 n1 (NY.out.1.old n5) (by rw[n3,NY.out.2.1];exact HLE.out);rw[n3,NY.out.2.1,HE.out]at HU;clear n1 n2 n3 n4 n5 HA NX NY HM;go_wp2_with fail
  refine HU.mono ?_;rintro e w5 ⟨v,rfl,hv⟩;have hv2:=(hv.fit B64_one HFIT.out.2.1 HFIT.out.1).from BW.out;rw[HFIT.out.2.2]at hv2;have HV:Hid (NumOut .u64 B64 w w5 v ((val B64 xs-val B64 ys)%val B64 ms) lm):=hv2;clear hv hv2 HU;go_wp2;go_ret2
  exact⟨_,rfl,HV.out⟩
 ·have HE:Hid (val B64 xs%val B64 ms-val B64 ys%val B64 ms=(val B64 xs-val B64 ys)%val B64 ms):=HS.2 (by omega);have HCM:Hid ((cmpI (val B64 xs%val B64 ms) (val B64 ys%val B64 ms)<0)=False):=by
   unfold Hid;rcases Int.lt_or_eq_of_le (show val B64 ys%val B64 ms≤val B64 xs%val B64 ms by omega) with h|h
   ·rw[cmpI_gt h];decide
   ·rw[cmpI_eq h.symm];decide
  have HLE:Hid (val B64 ys%val B64 ms≤val B64 xs%val B64 ms):=by unfold Hid;omega
  clear HS hlt;go_enter Tryz.func110,Tryz.ntmps110;go_wp2_with fail
  refine HO.mono ?_;rintro e w1 ⟨v,rfl,a1,l1,c1,zs,rfl,n1,n2,n3,n4,n5⟩;have HO2:=mOf_any bo mo lb cb lm cm ys ms w1 (HB.out.old n5) (HM.out.old n5) HZ.out (by have:=HSM.out;omega);have NX:Hid (NumIn .u64 B64 w1 a1 l1 c1 zs∧val B64 zs=val B64 xs%val B64 ms∧l1≤lm):=⟨n1,n3,n4⟩
  have BW:Hid (Below w.heap.size w w1):=n5;clear n1 n2 n3 n4 n5 HB HO HM;go_wp2_with fail
  refine HO2.mono ?_;rintro e w2 ⟨v,rfl,a2,l2,c2,us,rfl,n1,n2,n3,n4,n5⟩;replace NX:Hid (NumIn .u64 B64 w2 a1 l1 c1 zs∧val B64 zs=val B64 xs%val B64 ms∧l1≤lm):=⟨NX.out.1.old n5,NX.out.2⟩
  have NY:Hid (NumIn .u64 B64 w2 a2 l2 c2 us∧val B64 us=val B64 ys%val B64 ms∧l2≤lm):=⟨n1,n3,n4⟩
  replace BW:Hid (Below w.heap.size w w2):=BW.out.trans (n5.mono BW.out.size);have HC:=Cmp_any a1 a2 l1 c1 l2 c2 zs us w2 NX.out.1 NY.out.1;rw[NX.out.2.1,NY.out.2.1]at HC;generalize cmpI (val B64 xs%val B64 ms) (val B64 ys%val B64 ms)=cc at HC HCM;have hcc:¬cc<0:=by rw[HCM.out];exact not_false
  clear n1 n2 n3 n4 n5 HO2 HCM;go_wp2_with fail
  refine HC.mono ?_;rintro e w3 ⟨rfl,hd⟩;have n5:=hd.below w2.heap.size;replace BW:Hid (Below w.heap.size w w3):=BW.out.trans (n5.mono BW.out.size);have HU:=Sub_yes a1 a2 l1 c1 l2 c2 zs us w3 (NX.out.1.old n5) (NY.out.1.old n5) (by rw[NX.out.2.1,NY.out.2.1];exact HLE.out);rw[NX.out.2.1,NY.out.2.1,HE.out]at HU;clear hd n5 HC NX NY;go_wp2_with fail
  refine HU.mono ?_;rintro e w5 ⟨v,rfl,hv⟩;have hv2:=(hv.fit B64_one HFIT.out.2.1 HFIT.out.1).from BW.out;rw[HFIT.out.2.2]at hv2;have HV:Hid (NumOut .u64 B64 w w5 v ((val B64 xs-val B64 ys)%val B64 ms) lm):=hv2;clear hv hv2 HU;go_wp2;go_ret2
  exact⟨_,rfl,HV.out⟩
def Nm (k:IntKind)(B:Int)(w:World)(v:Value)(n:Int)(L:Nat):Prop:=
 ∃ao len cap xs,v=.slice ao len cap∧NumIn k B w ao len cap xs∧val B xs=n∧len≤L
theorem Nm.old{k:IntKind}{B:Int}{w w':World}{v:Value}{n:Int}{L:Nat}(h:Nm k B w v n L)(hb:Below w.heap.size w w'):Nm k B w' v n L:=by obtain⟨ao,len,cap,xs,rfl,h1,h2,h3⟩:=h;exact⟨ao,len,cap,xs,rfl,h1.old hb,h2,h3⟩
theorem NumOut.nm{k:IntKind}{B:Int}{w w':World}{v:Value}{n:Int}{L:Nat}(h:NumOut k B w w' v n L):Nm k B w' v n L:=by obtain⟨ao,len,cap,xs,rfl,h1,h2,h3,h4,h5⟩:=h;exact⟨ao,len,cap,xs,rfl,h1,h3,h4⟩
theorem NumOut.bl{k:IntKind}{B:Int}{w w':World}{v:Value}{n:Int}{L:Nat}(h:NumOut k B w w' v n L):Below w.heap.size w w':=by obtain⟨ao,len,cap,xs,rfl,h1,h2,h3,h4,h5⟩:=h;exact h5
def nval (B:Int)(w:World)(v:Value):Nat:=
 match v with
 | .slice (some ⟨b,off,_⟩) len _=>(val B ((List.range len).map fun i=>intOf ((w.cell? ⟨b,off+i,none⟩).getD undef))).toNat
 | _=>0
theorem Nm.nval{k:IntKind}{B:Int}{w:World}{v:Value}{n:Int}{L:Nat}(h:Nm k B w v n L):nval B w v=n.toNat:=by
 obtain⟨ao,len,cap,xs,rfl,h1,rfl,h3⟩:=h;rcases h1.lies.2 with h0|⟨b,off,rfl,_,hc⟩
 ·have hx:xs=[]:=List.eq_nil_of_length_eq_zero (by rw[h1.len];exact h0);subst hx;subst h0
  cases ao<;>simp[Go.Proofs.YtkhnnhbmchnajaaGreat.nval,val]
 ·have e:((List.range len).map fun i=>intOf ((w.cell? ⟨b,off+i,none⟩).getD undef))=xs:=by
   apply List.ext_getElem
   ·simp[h1.len]
   ·intro i g1 g2;simp only[List.getElem_map,List.getElem_range];rw[hc i (by simpa using g1)];simp[intOf,List.getD,g2]
  simp only[Go.Proofs.YtkhnnhbmchnajaaGreat.nval];rw[e]
theorem lenOf_zero{xs:List Int}(hd:Dg B64 xs)(h:val B64 xs=0):lenOf xs=0:=by rw[lenOf_eq xs hd,h];rfl
theorem lenOf_pos{xs:List Int}(hd:Dg B64 xs)(h:0<val B64 xs):0<lenOf xs:=by rw[lenOf_eq xs hd];exact blen_pos _ (by omega)
theorem lenOf_le{xs:List Int}(hd:Dg B64 xs)(n:Nat)(hn:xs.length≤n):lenOf xs≤64*n:=by
 rw[lenOf_eq xs hd];refine blen_le _ _ ?_;have h0:=val_nonneg B64_pos hd;have h1:=val_lt B64_pos hd;have h2:=pow_mono (B:=B64) (by decide) hn;have e:B64^n=((2^(64*n):Nat):Int):=by rw[Nat.pow_mul,Int.natCast_pow];rfl
 omega
theorem euclid_any(ao mo:Option Addr)(la ca lm cm:Nat)(xs ms:List Int)(w:World)(h:NumIn .u64 B64 w ao la ca xs)(h':NumIn .u64 B64 w mo lm cm ms)(h0:val B64 ms≠0)(hlt:val B64 xs<val B64 ms)(hla:la≤lm)(hsm:lm<100000000):
  Calls Tryz.prog 109 #[.slice ao la ca,.slice mo lm cm] w fun e w'=>∃vd vt b T,e=.returned (.tuple #[vd,vt,.bool b])∧Nm .u64 B64 w' vd (gd (val B64 ms) (val B64 xs)) lm∧Nm .u64 B64 w' vt T lm∧Cg (val B64 ms) (gd (val B64 ms) (val B64 xs)) (bif b then -(T*val B64 xs) else T*val B64 xs)∧Below w.heap.size w w':=by
 have hM:=val_nonneg B64_pos h'.dg;have hA:=val_nonneg B64_pos h.dg;have HDM:Hid (Dg B64 ms∧ms.length=lm):=⟨h'.dg,h'.len⟩
 have NA:Hid (Nm .u64 B64 w (.slice ao la ca) (val B64 xs) lm):=⟨ao,la,ca,xs,rfl,h,rfl,hla⟩
 have NM:Hid (Nm .u64 B64 w (.slice mo lm cm) (val B64 ms) lm):=⟨mo,lm,cm,ms,rfl,h',rfl,Nat.le_refl _⟩
 have HE:Hid (Euc (val B64 ms) (val B64 xs) (val B64 ms) (val B64 xs) 0 1 true):=Euc.start _ _ (by omega) hA hlt;have HV:Hid (val B64 ms=val B64 ms):=rfl;obtain⟨M,hMv⟩:∃M,val B64 ms=M:=⟨_,rfl⟩
 have HMV:Hid (val B64 ms=M∧0<M):=⟨hMv,by omega⟩
 rw[hMv]at HE NM ⊢;obtain⟨A,hAv⟩:∃A,val B64 xs=A:=⟨_,rfl⟩
 rw[hAv]at HE NA ⊢;clear h h' hM hA h0 hlt hla HV hMv hAv;go_enter Tryz.func109,Tryz.ntmps109;go_wp2_with fail
 refine(Of_any 1 w (by decide) (by decide)).mono ?_;rintro e w1 ⟨v1,rfl,hv1⟩;have hv2:=hv1.fit B64_one HDM.out.1 (by have:=HMV.out;omega);rw[HDM.out.2]at hv2;have N1:Hid (Nm .u64 B64 w1 v1 1 lm):=hv2.nm;replace NA:Hid (Nm .u64 B64 w1 (.slice ao la ca) A lm):=NA.out.old hv1.bl;replace NM:Hid (Nm .u64 B64 w1 (.slice mo lm cm) M lm):=NM.out.old hv1.bl;have BW:Hid (Below w.heap.size w w1):=hv1.bl;clear hv1 hv2;go_wp2;go_loopw [5,6,7,8,9] (fun t b l n m wr=>∃(bb:Bool) (T N Lv Mo:Int),b=.bool bb∧Nm .u64 B64 wr t T lm∧Nm .u64 B64 wr l Lv lm∧Nm .u64 B64 wr n N lm∧Nm .u64 B64 wr m Mo lm∧Euc M A Lv N T Mo bb∧Below w.heap.size w wr) (fun t b l n m wr=>nval B64 wr n)
 case atStart=> exact⟨true,0,A,M,1,rfl,⟨none,0,0,[],rfl,NumIn.nil,rfl,Nat.zero_le _⟩,NM.out,NA.out,N1.out,HE.out,BW.out⟩
 case round=>
  clear NA NM N1 BW HE;obtain⟨bb,T,N,Lv,Mo,rfl,nT,nL,nN,nM,hE,hB⟩:=hrel;have HMS:Hid (nval B64 wr u8=N.toNat):=nN.nval;have n0:=hE.2.2.1;obtain⟨a8,l8,c8,x8,rfl,i8,v8,b8⟩:=nN;have HLEN:=Len_any a8 l8 c8 x8 wr i8;by_cases hz:N=0
  ·subst hz;rw[lenOf_zero i8.dg v8]at HLEN;have HD:Hid (Lv=gd M A∧Cg M (gd M A) (bif bb then -(T*A) else T*A)):=hE.done;obtain⟨a7,l7,c7,x7,rfl,i7,v7,b7⟩:=nL;have HL:Hid (Nm .u64 B64 wr (.slice a7 l7 c7) Lv lm):=⟨a7,l7,c7,x7,rfl,i7,v7,b7⟩
   obtain⟨a5,l5,c5,x5,rfl,i5,v5,b5⟩:=nT;have HT:Hid (Nm .u64 B64 wr (.slice a5 l5 c5) T lm):=⟨a5,l5,c5,x5,rfl,i5,v5,b5⟩
   have BW:Hid (Below w.heap.size w wr):=hB;clear i8 v8 i7 v7 b7 i5 v5 b5 hE nM hB;go_wp2_with fail
   refine HLEN.mono ?_;rintro e wr2 ⟨rfl,rfl⟩;go_wp2;go_ret3
   exact⟨_,_,_,T,rfl,by rw[←HD.out.1];exact HL.out,HT.out,HD.out.2,BW.out⟩
  ·have hpos:0<N:=by omega
   have hlp:=lenOf_pos i8.dg (by omega);have hle:=lenOf_le i8.dg lm (by rw[i8.len];exact b8);obtain⟨a7,l7,c7,x7,rfl,i7,v7,b7⟩:=nL;obtain⟨a9,l9,c9,x9,rfl,i9,v9,b9⟩:=nM;obtain⟨a5,l5,c5,x5,rfl,i5,v5,b5⟩:=nT;have HS:Hid (Euc M A N (Lv%N) Mo (T+Lv/N*Mo) (!bb)):=hE.step hpos;have HDIV:=Div_any a7 a8 l7 c7 l8 c8 x7 x8 wr i7 i8 (by omega) (by omega);rw[v7,v8]at HDIV;have N8:Hid (NumIn .u64 B64 wr a8 l8 c8 x8∧val B64 x8=N∧l8≤lm):=⟨i8,v8,b8⟩
   have N9:Hid (NumIn .u64 B64 wr a9 l9 c9 x9∧val B64 x9=Mo∧l9≤lm):=⟨i9,v9,b9⟩
   have N5:Hid (NumIn .u64 B64 wr a5 l5 c5 x5∧val B64 x5=T∧l5≤lm):=⟨i5,v5,b5⟩
   have L7:Hid (l7≤lm):=b7;have BW:Hid (Below w.heap.size w wr):=hB;have HP:Hid (0<N):=hpos;clear i8 v8 b8 i7 v7 b7 i5 v5 b5 i9 v9 b9 hE hB hpos hz n0;generalize lenOf x8=len8 at *;go_wp2_with fail
   refine HLEN.mono ?_;rintro e wr2 ⟨rfl,rfl⟩;clear HLEN;go_wp2_with fail
   refine HDIV.mono ?_;rintro e w2 ⟨q,r,rfl,hq,hr⟩;have HR:=hr.fit B64_one HDM.out.1 (by have:=HS.out.2.2.2.1;have:=HMV.out;omega);rw[HDM.out.2]at HR;have HR:Hid (Nm .u64 B64 w2 r (Lv%N) lm):=HR.nm;have hbl:=hr.bl;obtain⟨aq,lq,cq,xq,rfl,q1,q2,q3,q4,q5⟩:=hq;obtain⟨ar,lr,cr,xr,rfl,_,_,_,_,_⟩:=hr;replace N8:Hid (NumIn .u64 B64 w2 a8 l8 c8 x8∧val B64 x8=N∧l8≤lm):=⟨N8.out.1.old hbl,N8.out.2⟩
   replace N9:Hid (NumIn .u64 B64 w2 a9 l9 c9 x9∧val B64 x9=Mo∧l9≤lm):=⟨N9.out.1.old hbl,N9.out.2⟩
   replace N5:Hid (NumIn .u64 B64 w2 a5 l5 c5 x5∧val B64 x5=T∧l5≤lm):=⟨N5.out.1.old hbl,N5.out.2⟩
   replace BW:Hid (Below w.heap.size w w2):=BW.out.trans (hbl.mono BW.out.size);have HMUL:=Mul_any aq a9 lq cq l9 c9 xq x9 w2 q1 N9.out.1 (by have:=L7.out;have:=N9.out.2.2;omega);rw[q3,N9.out.2.1]at HMUL;have LQ:Hid (lq≤lm+1):=by unfold Hid;have:=L7.out;omega
   clear q1 q2 q3 q4 q5 hbl HDIV;go_wp2_with fail
   refine HMUL.mono ?_;rintro e w3 ⟨v,rfl,a3,l3,c3,x3,rfl,q1,q2,q3,q4,q5⟩;replace HR:Hid (Nm .u64 B64 w3 (.slice ar lr cr) (Lv%N) lm):=HR.out.old q5;replace N8:Hid (NumIn .u64 B64 w3 a8 l8 c8 x8∧val B64 x8=N∧l8≤lm):=⟨N8.out.1.old q5,N8.out.2⟩
   replace N9:Hid (NumIn .u64 B64 w3 a9 l9 c9 x9∧val B64 x9=Mo∧l9≤lm):=⟨N9.out.1.old q5,N9.out.2⟩
   replace BW:Hid (Below w.heap.size w w3):=BW.out.trans (q5.mono BW.out.size);have HADD:=Add_any a5 a3 l5 c5 l3 c3 x5 x3 w3 (N5.out.1.old q5) q1 (by have:=LQ.out;have:=N9.out.2.2;have:=N5.out.2.2;omega);rw[q3,N5.out.2.1]at HADD;clear q1 q2 q3 q4 q5 N5 HMUL;go_wp2_with fail
   refine HADD.mono ?_;rintro e w4 ⟨v,rfl,hv⟩;have HM2:=hv.fit B64_one HDM.out.1 (by have:=HS.out.2.2.2.2.2.2.2.1;have:=HMV.out;omega);rw[HDM.out.2]at HM2;have HM2:Hid (Nm .u64 B64 w4 v (T+Lv/N*Mo) lm):=HM2.nm;replace HR:Hid (Nm .u64 B64 w4 (.slice ar lr cr) (Lv%N) lm):=HR.out.old hv.bl;have N8':Hid (Nm .u64 B64 w4 (.slice a8 l8 c8) N lm):=⟨a8,l8,c8,x8,rfl,N8.out.1.old hv.bl,N8.out.2⟩
   have N9':Hid (Nm .u64 B64 w4 (.slice a9 l9 c9) Mo lm):=⟨a9,l9,c9,x9,rfl,N9.out.1.old hv.bl,N9.out.2⟩
   replace BW:Hid (Below w.heap.size w w4):=BW.out.trans (hv.bl.mono BW.out.size);clear hv HADD N8 N9 LQ L7;go_wp2;go_roundw
   case rel=>exact⟨!bb,Mo,Lv%N,N,T+Lv/N*Mo,rfl,N9'.out,N8'.out,HR.out,HM2.out,HS.out,BW.out⟩
   case measure=> rw[HMS.out,HR.out.nval];have:=Int.emod_lt_of_pos Lv HP.out;have:=HP.out;have:=HS.out.2.2.1;omega
theorem mInv_no(ao mo:Option Addr)(la ca lm cm:Nat)(xs ms:List Int)(w:World)(h:NumIn .u64 B64 w ao la ca xs)(h':NumIn .u64 B64 w mo lm cm ms)(h0:val B64 ms≠0)(hg:gd (val B64 ms) (val B64 xs%val B64 ms)≠1)(hsm:la+lm<100000000):
  Calls Tryz.prog 85 #[.slice ao la ca,.slice mo lm cm] w fun e w'=>e=.returned (.tuple #[.slice none 0 0,.int .i64 5])∧Below w.heap.size w w':=by
 have HO:=mOf_any ao mo la ca lm cm xs ms w h h' h0 (by omega);have hM:=val_nonneg B64_pos h'.dg;have hr:=mod_range (val B64 xs) (val B64 ms) hM h0;have HM:Hid (NumIn .u64 B64 w mo lm cm ms):=h';have HZ:Hid (val B64 ms≠0):=h0;have HR:Hid (val B64 xs%val B64 ms<val B64 ms):=hr.2;have HG:Hid (gd (val B64 ms) (val B64 xs%val B64 ms)≠1):=hg;clear h h' h0 hM hr hg;go_enter Tryz.func85,Tryz.ntmps85;go_wp2_with fail
 refine HO.mono ?_;rintro e w1 ⟨v,rfl,a1,l1,c1,zs,rfl,n1,n2,n3,n4,n5⟩;have HEU:=euclid_any a1 mo l1 c1 lm cm zs ms w1 n1 (HM.out.old n5) HZ.out (by rw[n3];exact HR.out) n4 (by omega);rw[n3]at HEU;replace HM:Hid (NumIn .u64 B64 w1 mo lm cm ms):=HM.out.old n5;have BW:Hid (Below w.heap.size w w1):=n5;clear n1 n2 n3 n4 n5 HO;go_wp2_with fail
 refine HEU.mono ?_;rintro e w2 ⟨vd,vt,b,T,rfl,⟨ad,ld,cd,ds,rfl,d1,d2,d3⟩,⟨at',lt,ct,ts,rfl,t1,t2,t3⟩,hcg,n5⟩;replace HM:Hid (NumIn .u64 B64 w2 mo lm cm ms):=HM.out.old n5;replace BW:Hid (Below w.heap.size w w2):=BW.out.trans (n5.mono BW.out.size);have ND:Hid (NumIn .u64 B64 w2 ad ld cd ds∧val B64 ds=gd (val B64 ms) (val B64 xs%val B64 ms)):=⟨d1,d2⟩
 have NT:Hid (NumIn .u64 B64 w2 at' lt ct ts∧val B64 ts=T∧lt≤lm):=⟨t1,t2,t3⟩
 have CG:Hid (Cg (val B64 ms) (gd (val B64 ms) (val B64 xs%val B64 ms)) (bif b then -(T*(val B64 xs%val B64 ms)) else T*(val B64 xs%val B64 ms))):=hcg;clear d1 d2 d3 t1 t2 t3 hcg n5 HEU;go_wp2_with fail
 refine(Of_any 1 w2 (by decide) (by decide)).mono ?_;rintro e w3 ⟨v,rfl,a1,l1,c1,zs,rfl,n1,n2,n3,n4,n5⟩;replace HM:Hid (NumIn .u64 B64 w3 mo lm cm ms):=HM.out.old n5;replace BW:Hid (Below w.heap.size w w3):=BW.out.trans (n5.mono BW.out.size);replace NT:Hid (NumIn .u64 B64 w3 at' lt ct ts∧val B64 ts=T∧lt≤lm):=⟨NT.out.1.old n5,NT.out.2⟩
 have HC:=Cmp_any ad a1 ld cd l1 c1 ds zs w3 (ND.out.1.old n5) n1;rw[n3,ND.out.2]at HC;have hcc:(cmpI (gd (val B64 ms) (val B64 xs%val B64 ms)) 1 != 0)=true:=by
  rcases Int.lt_trichotomy (gd (val B64 ms) (val B64 xs%val B64 ms)) 1 with g|g|g
  ·rw[cmpI_lt g];decide
  ·exact absurd g HG.out
  ·rw[cmpI_gt g];decide
 generalize cmpI (gd (val B64 ms) (val B64 xs%val B64 ms)) 1=cc at HC hcc;clear n1 n2 n3 n4 n5 ND;go_wp2_with fail
 refine HC.mono ?_;rintro e w4 ⟨rfl,hd⟩;have HF:Hid (Below w.heap.size w w4):=BW.out.trans (hd.below _);clear hd HC;go_wp2;go_ret2
 exact⟨rfl,HF.out⟩
theorem mInv_yes(ao mo:Option Addr)(la ca lm cm:Nat)(xs ms:List Int)(w:World)(h:NumIn .u64 B64 w ao la ca xs)(h':NumIn .u64 B64 w mo lm cm ms)(h0:val B64 ms≠0)(hg:gd (val B64 ms) (val B64 xs%val B64 ms)=1)(hsm:la+lm<100000000):
  Calls Tryz.prog 85 #[.slice ao la ca,.slice mo lm cm] w fun e w'=>∃v n,e=.returned (.tuple #[v,.int .i64 0])∧NumOut .u64 B64 w w' v n lm∧0≤n∧n<val B64 ms∧Cg (val B64 ms) (n*val B64 xs) 1:=by
 have HO:=mOf_any ao mo la ca lm cm xs ms w h h' h0 (by omega);have hM:=val_nonneg B64_pos h'.dg;have hr:=mod_range (val B64 xs) (val B64 ms) hM h0;have HM:Hid (NumIn .u64 B64 w mo lm cm ms):=h';have HZ:Hid (val B64 ms≠0):=h0;have HR:Hid (val B64 xs%val B64 ms<val B64 ms):=hr.2;have HG:Hid (gd (val B64 ms) (val B64 xs%val B64 ms)=1):=hg;clear h h' h0 hM hr hg;go_enter Tryz.func85,Tryz.ntmps85;go_wp2_with fail
 refine HO.mono ?_;rintro e w1 ⟨v,rfl,a1,l1,c1,zs,rfl,n1,n2,n3,n4,n5⟩;have HEU:=euclid_any a1 mo l1 c1 lm cm zs ms w1 n1 (HM.out.old n5) HZ.out (by rw[n3];exact HR.out) n4 (by omega);rw[n3]at HEU;replace HM:Hid (NumIn .u64 B64 w1 mo lm cm ms):=HM.out.old n5;have BW:Hid (Below w.heap.size w w1):=n5;clear n1 n2 n3 n4 n5 HO;go_wp2_with fail
 refine HEU.mono ?_;rintro e w2 ⟨vd,vt,b,T,rfl,⟨ad,ld,cd,ds,rfl,d1,d2,d3⟩,⟨at',lt,ct,ts,rfl,t1,t2,t3⟩,hcg,n5⟩;replace HM:Hid (NumIn .u64 B64 w2 mo lm cm ms):=HM.out.old n5;replace BW:Hid (Below w.heap.size w w2):=BW.out.trans (n5.mono BW.out.size);have ND:Hid (NumIn .u64 B64 w2 ad ld cd ds∧val B64 ds=gd (val B64 ms) (val B64 xs%val B64 ms)):=⟨d1,d2⟩
 have NT:Hid (NumIn .u64 B64 w2 at' lt ct ts∧val B64 ts=T∧lt≤lm):=⟨t1,t2,t3⟩
 have CG:Hid (Cg (val B64 ms) (gd (val B64 ms) (val B64 xs%val B64 ms)) (bif b then -(T*(val B64 xs%val B64 ms)) else T*(val B64 xs%val B64 ms))):=hcg;clear d1 d2 d3 t1 t2 t3 hcg n5 HEU;go_wp2_with fail
 refine(Of_any 1 w2 (by decide) (by decide)).mono ?_;rintro e w3 ⟨v,rfl,a1,l1,c1,zs,rfl,n1,n2,n3,n4,n5⟩;replace HM:Hid (NumIn .u64 B64 w3 mo lm cm ms):=HM.out.old n5;replace BW:Hid (Below w.heap.size w w3):=BW.out.trans (n5.mono BW.out.size);replace NT:Hid (NumIn .u64 B64 w3 at' lt ct ts∧val B64 ts=T∧lt≤lm):=⟨NT.out.1.old n5,NT.out.2⟩
 have HC:=Cmp_any ad a1 ld cd l1 c1 ds zs w3 (ND.out.1.old n5) n1;rw[n3,ND.out.2]at HC;rw[HG.out,cmpI_eq rfl]at HC;rw[HG.out]at CG;clear n1 n2 n3 n4 n5 ND;go_wp2_with fail
 refine HC.mono ?_;rintro e w4 ⟨rfl,hd⟩;have n5:=hd.below w3.heap.size;replace HM:Hid (NumIn .u64 B64 w4 mo lm cm ms):=HM.out.old n5;replace BW:Hid (Below w.heap.size w w4):=BW.out.trans (n5.mono BW.out.size);replace NT:Hid (NumIn .u64 B64 w4 at' lt ct ts∧val B64 ts=T∧lt≤lm):=⟨NT.out.1.old n5,NT.out.2⟩
 have hM:=val_nonneg B64_pos HM.out.dg;clear hd HC n5
 cases b with
 | true =>
  have HS:=mSub_any none at' mo 0 0 lt ct lm cm [] ts ms w4 NumIn.nil NT.out.1 HM.out HZ.out (by have:=NT.out.2.2;omega);rw[NT.out.2.1,val_nil]at HS;have HRG:Hid (0≤(0-T)%val B64 ms∧(0-T)%val B64 ms<val B64 ms):=mod_range _ _ hM HZ.out;have HCG:Hid (Cg (val B64 ms) ((0-T)%val B64 ms*val B64 xs) 1):=by
   have c1:=((Cg.mod (val B64 ms) (0-T)).mul (Cg.mod (val B64 ms) (val B64 xs)).symm)
   exact c1.trans ((Cg.of_eq (by simp only[cond_true];grind)).trans CG.out.symm)
  clear NT CG hM;go_wp2_with fail
  refine HS.mono ?_;rintro e w5 ⟨v,rfl,hv⟩;have HV:Hid (NumOut .u64 B64 w w5 v ((0-T)%val B64 ms) lm):=hv.from BW.out;clear hv HS;go_wp2;go_ret2
  exact⟨_,_,rfl,HV.out,HRG.out.1,HRG.out.2,HCG.out⟩
 | false =>
  have HS:=mOf_any at' mo lt ct lm cm ts ms w4 NT.out.1 HM.out HZ.out (by have:=NT.out.2.2;omega);rw[NT.out.2.1]at HS;have HRG:Hid (0≤T%val B64 ms∧T%val B64 ms<val B64 ms):=mod_range _ _ hM HZ.out;have HCG:Hid (Cg (val B64 ms) (T%val B64 ms*val B64 xs) 1):=by
   have c1:=((Cg.mod (val B64 ms) T).mul (Cg.mod (val B64 ms) (val B64 xs)).symm)
   exact c1.trans ((Cg.of_eq (by simp only[cond_false])).trans CG.out.symm)
  clear NT CG hM;go_wp2_with fail
  refine HS.mono ?_;rintro e w5 ⟨v,rfl,hv⟩;have HV:Hid (NumOut .u64 B64 w w5 v (T%val B64 ms) lm):=hv.from BW.out;clear hv HS;go_wp2;go_ret2
  exact⟨_,_,rfl,HV.out,HRG.out.1,HRG.out.2,HCG.out⟩
end
section
open Go.RowKit Go.Shelf
attribute [local go_sem] Oper.semAt_some
def Kc (W:World)(b:Nat)(v:Value):Prop:=W.cell? ⟨b,0,none⟩=some v∧W.frozen? ⟨b,0,none⟩=false
theorem Kc.lt{W:World}{b:Nat}{v:Value}(h:Kc W b v):b<W.heap.size:=World.block_lt_of_cell? W ⟨b,0,none⟩ h.1
theorem Kc.kept{W W':World}{b:Nat}{v:Value}{row:Option Nat}(h:Kc W b v)(hg:W.grownBy W' row)(hr:∀r,row=some r→∃o:Obj,W.heap[r]?=some o∧o.isCells=false):Kc W' b v:=
 ⟨cell_kept h.1 hg hr,(frozen_kept h.1 hg hr).trans h.2⟩
theorem Kc.new(W:World)(v:Value)(t:TypeId)(b:Nat)(hb:b=W.heap.size):Kc (W.alloc (.cells #[v] t)) b v:=by subst hb;exact new_cell W v t
theorem Kc.set{W:World}{b:Nat}{v:Value}(h:Kc W b v)(u:Value):Kc (W.setCell ⟨b,0,none⟩ u) b u:=⟨World.cell?_setCell_same _ _ _ h.1,by rw[World.frozen?_setCell];exact h.2⟩
theorem Kc.other{W:World}{b c:Nat}{v:Value}(h:Kc W b v)(hne:c≠b)(u:Value):Kc (W.setCell ⟨c,0,none⟩ u) b v:=⟨(World.cell?_setCell_other _ _ _ _ (by intro e;injection e with e;exact hne e)).trans h.1,by rw[World.frozen?_setCell];exact h.2⟩
theorem Kc.old{W W':World}{b:Nat}{v:Value}(h:Kc W b v)(hb:Below W.heap.size W W'):Kc W' b v:=
 ⟨(hb.cell (p:=⟨b,0,none⟩) h.lt).trans h.1,(hb.frozen (p:=⟨b,0,none⟩) h.lt).trans h.2⟩
theorem NumIn.keptc{k:IntKind}{B:Int}{W W':World}{ao:Option Addr}{len cap:Nat}{xs:List Int}(h:NumIn k B W ao len cap xs){row:Option Nat}(hg:W.grownBy W' row)(hr:∀r,row=some r→∃o:Obj,W.heap[r]?=some o∧o.isCells=false):NumIn k B W' ao len cap xs:=by
 refine⟨⟨h.len,?_⟩,h.lc,h.cm,h.nn,h.dg,h.sm⟩;by_cases h0:len=0
 ·exact .inl h0
 ·obtain⟨b,off,e,hlt,hc⟩:=h.lies.at (by omega);have hc0:=cell_kept (hc 0 (by omega)) hg hr;exact .inr ⟨b,off,e,World.block_lt_of_cell? W' ⟨b,off+0,none⟩ hc0,fun i hi=>cell_kept (hc i hi) hg hr⟩
theorem NumIn.setSlice{k:IntKind}{B:Int}{W:World}{ao:Option Addr}{len cap:Nat}{xs:List Int}(h:NumIn k B W ao len cap xs){b:Nat}{a:Option Addr}{l c:Nat}(hk:Kc W b (.slice a l c))(u:Value):NumIn k B (W.setCell ⟨b,0,none⟩ u) ao len cap xs:=by
 refine⟨⟨h.len,?_⟩,h.lc,h.cm,h.nn,h.dg,h.sm⟩;by_cases h0:len=0
 ·exact .inl h0
 ·obtain⟨b',off,e,hlt,hc⟩:=h.lies.at (by omega);refine .inr ⟨b',off,e,by rw[World.size_setCell];exact hlt,fun i hi => ?_⟩;refine(World.cell?_setCell_other _ _ _ _ ?_).trans (hc i hi);intro e2;have h1:=hc i hi;rw[←e2]at h1;have h2:=hk.1.symm.trans h1
  cases h2
theorem KeepsOthers.of_below{W W':World}(hb:Below W.heap.size W W'):KeepsOthers W W':=
 ⟨hb.size,fun j o hj _=>(hb.block j (Array.getElem?_eq_some_iff.1 hj).1).trans hj⟩
theorem BitsAt.keptc{W W':World}{g3 g4:Nat}{V:Int}{L:Nat}(h:BitsAt W g3 g4 V L){row:Option Nat}(hg:W.grownBy W' row)(hr:∀r,row=some r→∃o:Obj,W.heap[r]?=some o∧o.isCells=false):BitsAt W' g3 g4 V L:=by obtain⟨ao,la,ca,xs,h1,h2,h3,h4,h5,h6,h7⟩:=h;have c4:=cell_kept h3 hg hr;have c3:=cell_kept h4 hg hr;exact⟨ao,la,ca,xs,World.block_lt_of_cell? W' _ c3,World.block_lt_of_cell? W' _ c4,c4,c3,h5.keptc hg hr,h6,h7⟩
theorem BitsAt.setSlice{W:World}{g3 g4:Nat}{V:Int}{L:Nat}(h:BitsAt W g3 g4 V L){b:Nat}{a:Option Addr}{l c:Nat}(hk:Kc W b (.slice a l c))(hne:b≠g3)(u:Value):BitsAt (W.setCell ⟨b,0,none⟩ u) g3 g4 V L:=by
 obtain⟨ao,la,ca,xs,h1,h2,h3,h4,h5,h6,h7⟩:=h;have hne4:b≠g4:=fun e=>by
  subst e;have:=hk.1.symm.trans h3
  cases this
 refine⟨ao,la,ca,xs,by rw[World.size_setCell];exact h1,by rw[World.size_setCell];exact h2,?_,?_,h5.setSlice hk u,h6,h7⟩
 ·exact(World.cell?_setCell_other _ _ _ _ (by intro e;injection e with e;exact hne4 e)).trans h3
 ·exact(World.cell?_setCell_other _ _ _ _ (by intro e;injection e with e;exact hne e)).trans h4
theorem bits_stopsI(n:Nat)(hn:1≤n)(w0:World)(g3 g4:Nat)(V:Int)(L:Nat)(h:BitsAt w0 g3 g4 V L):
  SeqStopsK Fence.wide n Tryz.prog 99 #[.pointer (some ⟨g4,0,none⟩),.pointer (some ⟨g3,0,none⟩)] encB (fun A B=>BitsAt A g3 g4 V L→BitsAt B g3 g4 V L) (fun xs=>xs=bitsOf V L L) (fun pre=>pre <+: bitsOf V L L) L w0:=fun l J Jx W hW hJ hJx hY h0=>by
 have HW:Hid (BitsAt W g3 g4 V L):=h.old hW;obtain⟨_,_,_,_,_,_,hcW,_,_,_,hL⟩:=HW.out;clear hJ hJx hW h;refine callsIn_of_wp Tryz.func99 rfl trivial ?_ rfl;simp only[Tryz.ntmps99,List.size_toArray,List.length_cons,List.length_nil,Nat.reduceAdd,Nat.reduceSub,Array.replicate_succ,Array.replicate_zero,List.push_toArray,List.append_toArray,List.nil_append,List.cons_append]
 gi_wp2
 gi_loopw [4,5,7] (fun _ _ vi wr=>∃(k:Nat),k≤L∧vi=.int .i64 k∧J (bitsOf V L k) wr∧BitsAt wr g3 g4 V L) (fun _ _ vi _=>L-(intOf vi).toNat)
 case atStart=>exact⟨0,Nat.zero_le _,rfl,h0,HW.out⟩
 case round=>
  obtain⟨k,hk,rfl,hJs,hb⟩:=hrel;clear hcW HW h0;by_cases hlt:k<L
  ·have HB:Hid (BitsAt wr g3 g4 V L):=hb;obtain⟨ao,la,ca,xs,_,_,hc4,hc3,hnum,hv,_⟩:=hb;obtain⟨fn,tmps,assign,body,hy,hR⟩:=hY (bitsOf V L k) (bitOf V L k) wr hJs (by rw[bitsOf_len];exact hlt);have HI:=isSet_any ao la ca xs (L-1-k) wr hnum (by omega);rw[hv]at HI
   dsimp only[encB,bitOf]at hy
   obtain⟨p,hp⟩:∃p,L-1-k=p:=⟨_,rfl⟩
   have ep:(L:Int)-1-(k:Int)=(p:Int):=by omega
   rw[hp]at hy HI;clear hp hnum hv;have HP:Hid (bitsOf V L (k+1)=bitsOf V L k++[bitOf V L k]∧bitsOf V L (k+1) <+: bitsOf V L L):=⟨bitsOf_succ V L k,bitsOf_pre V L _ _ (by omega)⟩
   clear hY;generalize (bitAt V p==1)=bb at *;generalize bitOf V L k=bk at *
   gi_wp2_with (refine⟨trivial,?_⟩;gi_at_call 100;refine(callsIn_wide.2 HI).mono ?_;rintro e w' ⟨rfl,rfl⟩)
   refine hR.mono ?_;rintro e W3 (⟨rfl,hJ3,hk3⟩|⟨rfl,hJx3⟩)
   ·rw[←HP.out.1]at hJ3;have HB3:Hid (BitsAt W3 g3 g4 V L):=hk3 HB.out;clear hR hy HI hc3 hc4 hJs hk3
    gi_wp2
    go_roundw
    case rel=>exact⟨k+1,by omega,by go_num,hJ3,HB3.out⟩
    case measure=>simp[intOf]<;>omega
   ·rw[←HP.out.1]at hJx3;clear hR hy HI hc3 hc4 hJs
    gi_wp2
    refine bodyPost_ret (results_none rfl _ _ _) rfl ?_;exact⟨⟨_,rfl⟩,.inr ⟨_,HP.out.2,hJx3⟩⟩
  ·obtain rfl:k=L:=by omega
   clear hY hb
   gi_wp2
   go_end0
   exact⟨⟨_,rfl⟩,.inl ⟨_,rfl,hJs⟩⟩
def pstep(M X:Int)(p:Int)(x:Int × Bool):Int:=bif x.2 then p*p%M*X%M else p*p%M
def pfold(M X:Int)(pre:List (Int × Bool)):Int:=pre.foldl (pstep M X) (1%M)
theorem pfold_snoc(M X:Int)(pre:List (Int × Bool))(x:Int × Bool):pfold M X (pre++[x])=pstep M X (pfold M X pre) x:=by simp[pfold]
theorem pfold_cg(M X V:Int)(h0:0≤V)(L:Nat)(hL:V<2^L):∀k,k≤L→Cg M (pfold M (X%M) (bitsOf V L k)) (pws X V (L-k))
 | 0,_=>by
  rw[Nat.sub_zero,pws_top X V h0 L hL];exact Cg.mod M 1
 | k + 1, hk => by
  have ih:=pfold_cg M X V h0 L hL k (by omega);rw[bitsOf_succ,pfold_snoc];have e:L-k=(L-(k+1))+1:=by omega
  have e2:L-1-k=L-(k+1):=by omega
  rw[e]at ih;have sq:=(Cg.mod M _).trans (ih.mul ih);unfold pstep bitOf;rw[e2];simp only;rcases bitAt_01 V (L-(k+1)) with hb|hb
  ·rw[hb,pws_even X V h0 _ hb];exact sq
  ·rw[hb,pws_odd X V h0 _ hb];exact(Cg.mod M _).trans (sq.mul (Cg.mod M X))
theorem pfold_all(M X V:Int)(h0:0≤V)(hM:0<M)(L:Nat)(hL:V<2^L)(h:∀ys,0≤pfold M (X%M) ys∧pfold M (X%M) ys<M):pfold M (X%M) (bitsOf V L L)=X^V.toNat%M:=by have hc:=pfold_cg M X V h0 L hL L (Nat.le_refl _);rw[Nat.sub_self,pws_zero]at hc;have r:=h (bitsOf V L L);rw[←hc.emod,Int.emod_eq_of_lt r.1 r.2]
theorem pfold_range(M X:Int)(hM:0<M)(ys:List (Int × Bool)):0≤pfold M X ys∧pfold M X ys<M:=by
 have h:∀(l:List (Int × Bool)) (p:Int),0≤p∧p<M→0≤l.foldl (pstep M X) p∧l.foldl (pstep M X) p<M:=by
  intro l;induction l with
  | nil=>intro p hp;exact hp
  | cons x l ih =>
   intro p hp;refine ih _ ?_;unfold pstep
   cases x.2
   ·exact mod_range _ _ (by omega) (by omega)
   ·exact mod_range _ _ (by omega) (by omega)
 exact h ys _ (mod_range _ _ (by omega) (by omega))
end
section
open Go.RowKit Go.Shelf
attribute [local go_sem] Oper.semAt_some
def PGo (w:World)(g5 g8 g:Nat)(mo:Option Addr)(lm cm:Nat)(ms:List Int)(a1:Option Addr)(l1 c1:Nat)(zs:List Int)(M X:Int)(pre:List (Int × Bool))(W:World):Prop:=
 (Kc W g5 (.slice mo lm cm)∧Kc W g8 (.slice a1 l1 c1)∧NumIn .u64 B64 W a1 l1 c1 zs∧∃a l c xs,Kc W g (.slice a l c)∧NumIn .u64 B64 W a l c xs∧Canon xs∧val B64 xs=pfold M X pre∧l≤lm)∧Below w.heap.size w W
theorem PGo.kept{w:World}{g5 g8 g:Nat}{mo:Option Addr}{lm cm:Nat}{ms:List Int}{a1:Option Addr}{l1 c1:Nat}{zs:List Int}{M X:Int}{B:Nat}(hB:w.heap.size≤B):OwnFrom B (PGo w g5 g8 g mo lm cm ms a1 l1 c1 zs M X):=by rintro pre A A' row ⟨⟨h1,h2,h3,a,l,c,xs,h4,h5,h6⟩,h7⟩ hg hr;have hr2:=fun r e=>(hr r e).2;exact⟨⟨h1.kept hg hr2,h2.kept hg hr2,h3.keptc hg hr2,a,l,c,xs,h4.kept hg hr2,h5.keptc hg hr2,h6⟩,ownFrom_below (β:=Unit) (Nat.le_refl _) hB () A A' row h7 hg hr⟩
theorem wpIn_noPanic{F:Fence}{n:Nat}{P:Program}{c:Code}{Q:Exit→Act→World→Prop}{a:Act}{w:World}(h:c.wpIn F n P (NoPanic Q) a w):c.wpIn F n P Q a w:=
 Code.wpIn_mono NoPanic.imp h
theorem mPow_any(ao no mo:Option Addr)(la ca ln cn lm cm:Nat)(xs ns ms:List Int)(w:World)(h:NumIn .u64 B64 w ao la ca xs)(hn:NumIn .u64 B64 w no ln cn ns)(h':NumIn .u64 B64 w mo lm cm ms)(h0:val B64 ms≠0)(hln:ln≤70)(hsm:la+lm<100000000):
  Calls Tryz.prog 46 #[.slice ao la ca,.slice no ln cn,.slice mo lm cm] w fun e w'=>∃v,e=.returned (.tuple #[v,.int .i64 0])∧NumOut .u64 B64 w w' v (val B64 xs^(val B64 ns).toNat%val B64 ms) lm:=by
 obtain⟨w1,hw1⟩:∃w1,w.alloc (.cells #[.slice mo lm cm] 24)=w1:=⟨_,rfl⟩
 have hb1:Below w.heap.size w (w.alloc (.cells #[.slice mo lm cm] 24)):=(Below.refl _ _).alloc (Nat.le_refl _) _;have K5:Hid (Kc (w.alloc (.cells #[.slice mo lm cm] 24)) w.heap.size (.slice mo lm cm)):=Kc.new _ _ _ _ rfl;have c5a:=K5.out.1;have HO:=mOf_any ao mo la ca lm cm xs ms (w.alloc (.cells #[.slice mo lm cm] 24)) (h.old hb1) (h'.old hb1) h0 (by omega);have NN:Hid (NumIn .u64 B64 (w.alloc (.cells #[.slice mo lm cm] 24)) no ln cn ns):=hn.old hb1;have NM:Hid (NumIn .u64 B64 w mo lm cm ms):=h';have hM:=val_nonneg B64_pos h'.dg;have HZ:Hid (val B64 ms≠0∧0<val B64 ms∧lm<100000000):=⟨h0,by omega,by omega⟩
 have HVN:Hid (0≤val B64 ns):=val_nonneg B64_pos hn.dg;rw[hw1]at hb1 c5a HO NN K5;have B1:Hid (Below w.heap.size w w1):=hb1;clear h hn h' hb1 h0 hM;refine(callsIn_wide (n:=4)).1 ?_;refine callsIn_of_wp_marks Tryz.func46 rfl trivial ?_ rfl;simp only[Tryz.ntmps46,List.size_toArray,List.length_cons,List.length_nil,Nat.reduceAdd,Nat.reduceSub,Array.replicate_succ,Array.replicate_zero,List.push_toArray,List.append_toArray,List.nil_append,List.cons_append]
 gi_wp2_with fail
 refine⟨trivial,?_⟩;refine(callsIn_wide.2 HO).mono ?_;rintro e w2 ⟨v,rfl,a1,l1,c1,zs,rfl,n1,n2,n3,n4,n5⟩;clear hw1;have NX:Hid (NumIn .u64 B64 w2 a1 l1 c1 zs∧Canon zs∧val B64 zs=val B64 xs%val B64 ms∧l1≤lm):=⟨n1,n2,n3,n4⟩
 replace K5:Hid (Kc w2 w.heap.size (.slice mo lm cm)):=K5.out.old n5;replace NN:Hid (NumIn .u64 B64 w2 no ln cn ns):=NN.out.old n5;replace B1:Hid (Below w.heap.size w w2):=B1.out.trans (n5.mono B1.out.size);clear HO c5a n1 n2 n3 n4 n5
 gi_wp2_with fail
 rename_i K0 a0;have HA0:Hid _:=a0;have K8:Hid (Kc (w2.alloc (.cells #[.slice a1 l1 c1] 24)) w2.heap.size (.slice a1 l1 c1)):=Kc.new _ _ _ _ rfl;have hb3:Below w2.heap.size w2 (w2.alloc (.cells #[.slice a1 l1 c1] 24)):=(Below.refl _ _).alloc (Nat.le_refl _) _;replace NX:Hid (NumIn .u64 B64 (w2.alloc (.cells #[.slice a1 l1 c1] 24)) a1 l1 c1 zs∧Canon zs∧val B64 zs=val B64 xs%val B64 ms∧l1≤lm):=⟨NX.out.1.old hb3,NX.out.2⟩
 replace K5:Hid (Kc (w2.alloc (.cells #[.slice a1 l1 c1] 24)) w.heap.size (.slice mo lm cm)):=K5.out.old hb3;replace NN:Hid (NumIn .u64 B64 (w2.alloc (.cells #[.slice a1 l1 c1] 24)) no ln cn ns):=NN.out.old hb3;replace B1:Hid (Below w.heap.size w (w2.alloc (.cells #[.slice a1 l1 c1] 24))):=B1.out.trans (hb3.mono B1.out.size);clear hb3 a0;generalize w2.alloc (.cells #[.slice a1 l1 c1] 24)=w3 at *;have HREST:Hid (∀(v24:Value) (a5:Option Addr) (l5 c5:Nat) (x5:List Int) (g:Nat) (W:World),Below w3.heap.size w3 W→w3.heap.size≤g→Kc W g (.slice a5 l5 c5)→NumIn .u64 B64 W a5 l5 c5 x5→Canon x5→val B64 x5=1%val B64 ms→l5≤lm→K0 { tmps:=#[.slice ao la ca,.slice no ln cn,.slice mo lm cm,undef,undef,.pointer (some ⟨w.heap.size,0,none⟩),.slice none 0 0,.int .i64 0,.pointer (some ⟨w2.heap.size,0,none⟩),.int .i64 0,.pointer (some ⟨g,0,none⟩),.int .i64 0,undef,undef,.tuple #[.slice a1 l1 c1,.int .i64 0],.slice ao la ca,.slice mo lm cm,.tuple #[.slice a1 l1 c1,.int .i64 0],.slice a1 l1 c1,.int .i64 0,.int .i64 0,.bool false,undef,.tuple #[.slice a5 l5 c5,.int .i64 0],v24,.slice mo lm cm,.tuple #[.slice a5 l5 c5,.int .i64 0],.slice a5 l5 c5,.int .i64 0,undef,undef,undef,undef,undef,undef,undef,undef,undef,undef,undef,undef,undef,undef,undef,undef,undef,undef,undef,undef],defers:=[] } W):=by
  intro v24 a5 l5 c5 x5 g W hW hgw hk hx5 hcx hvx hlx;refine HA0.out _ _ ?_;clear HA0;have HBITS:=Bits_new no ln cn ns W (NN.out.old hW) hln;have KW5:Hid (Kc W w.heap.size (.slice mo lm cm)):=K5.out.old hW;have KW8:Hid (Kc W w2.heap.size (.slice a1 l1 c1)):=K8.out.old hW;have HG:Hid (g<W.heap.size∧w.heap.size<w3.heap.size∧w2.heap.size<w3.heap.size∧w3.heap.size≤g):=⟨hk.lt,K5.out.lt,K8.out.lt,hgw⟩
  have KWg:Hid (Kc W g (.slice a5 l5 c5)):=hk;have BW:Hid (Below w.heap.size w W):=B1.out.trans (hW.mono B1.out.size);have NXW:Hid (NumIn .u64 B64 W a1 l1 c1 zs∧Canon zs∧val B64 zs=val B64 xs%val B64 ms∧l1≤lm):=⟨NX.out.1.old hW,NX.out.2⟩
  have NPW:Hid (NumIn .u64 B64 W a5 l5 c5 x5∧Canon x5∧val B64 x5=1%val B64 ms∧l5≤lm):=⟨hx5,hcx,hvx,hlx⟩
  clear hk hW hgw hx5 hcx hvx hlx K5 K8 NX NN B1
  gi_wp2_with fail
  refine⟨trivial,?_⟩;refine(callsIn_wide.2 HBITS).mono ?_;rintro e W6 ⟨g3,g4,rfl,hBA,hbl,hg3⟩;have KL:Hid (val B64 ns<2^blen (val B64 ns).toNat):=by
   unfold Hid;have:=blen_lt (val B64 ns).toNat;have h1:=HVN.out;have e:((2^blen (val B64 ns).toNat:Nat):Int)=2^blen (val B64 ns).toNat:=by rw[Int.natCast_pow];rfl
   omega
  generalize blen (val B64 ns).toNat=L at *;have HGI:Hid (PGo w w.heap.size w2.heap.size g mo lm cm ms a1 l1 c1 zs (val B64 ms) (val B64 xs%val B64 ms) [] W6):=
   ⟨⟨KW5.out.old hbl,KW8.out.old hbl,NXW.out.1.old hbl,a5,l5,c5,x5,KWg.out.old hbl,NPW.out.1.old hbl,NPW.out.2.1,NPW.out.2.2.1,NPW.out.2.2.2⟩,BW.out.trans (hbl.mono BW.out.size)⟩
  have HNE:Hid (g≠g3):=by unfold Hid;have:=HG.out;omega
  have HW6:Hid (w.heap.size≤W6.heap.size):=HGI.out.2.size;have HXV:Hid (val B64 zs=val B64 xs%val B64 ms∧l1≤lm):=NXW.out.2.2;have HGS:Hid (w.heap.size≤g∧w.heap.size≠g∧w2.heap.size≠g):=by unfold Hid;have:=HG.out;omega
  clear KW5 KW8 KWg NXW NPW BW hbl HBITS hg3 HG
  gi_wp2
  refine wpIn_rangeFunc_ownF rfl (by omega) (gf:=99) (lb:=#[.pointer (some ⟨g4,0,none⟩),.pointer (some ⟨g3,0,none⟩)]) rfl trivial (enters_of Tryz.func99 (by kernel_rfl) rfl)
   (bits_stopsI (4-1) (by omega) W6 g3 g4 (val B64 ns) L hBA) (fun h k hB=>k (h hB)) (fun W l o o' _ hl hc _ hB=>hB.keptc (grownBy_putObj' W l o') (fun r e=>by cases e;exact⟨o,hl,hc⟩)) (Below.refl _ _) (fun _=>rfl)
   (PGo w w.heap.size w2.heap.size g mo lm cm ms a1 l1 c1 zs (val B64 ms) (val B64 xs%val B64 ms)) (fun _ _ _=>False)
   (PGo.kept HW6.out) (fun _ _ _ _ _ hs _ _=>hs) HGI.out
   (fun x=>{ tmps:=#[.slice ao la ca,.slice no ln cn,.slice mo lm cm,undef,undef,.pointer (some ⟨w.heap.size,0,none⟩),.slice none 0 0,.int .i64 0,.pointer (some ⟨w2.heap.size,0,none⟩),.int .i64 0,.pointer (some ⟨g,0,none⟩),.int .i64 0,undef,.bool x.2,.tuple #[.slice a1 l1 c1,.int .i64 0],.slice ao la ca,.slice mo lm cm,.tuple #[.slice a1 l1 c1,.int .i64 0],.slice a1 l1 c1,.int .i64 0,.int .i64 0,.bool false,undef,.tuple #[.slice a5 l5 c5,.int .i64 0],v24,.slice mo lm cm,.tuple #[.slice a5 l5 c5,.int .i64 0],.slice a5 l5 c5,.int .i64 0,.slice no ln cn,.func (.func 99) #[] #[.pointer (some ⟨g4,0,none⟩),.pointer (some ⟨g3,0,none⟩)],.int .i64 x.1,.bool x.2,undef,undef,undef,undef,undef,undef,undef,undef,undef,undef,undef,undef,undef,undef,undef,undef],defers:=[] }) ?assign ?body ?done ?stop
  case assign=>
   intro l x W' K hK
   gi_wp2
   exact hK
  case body=>
   rintro l pre ⟨x1,x2⟩ W' ⟨⟨h5,h8,hz,a,lp,cp,ps,hg,hp,hcp,hvp,hlp⟩,hbW⟩ hlen;have HM1:=mMul_any a a mo lp cp lp cp lm cm ps ps ms W' hp hp (NM.out.old hbW) HZ.out.1 (by have:=HZ.out.2.2;omega);rw[hvp]at HM1;have k10:=hg.1;have k5:=h5.1;have H5:Hid (Kc W' w.heap.size (.slice mo lm cm)):=h5;have H8:Hid (Kc W' w2.heap.size (.slice a1 l1 c1)):=h8;have HGc:Hid (Kc W' g (.slice a lp cp)):=hg;have HNz:Hid (NumIn .u64 B64 W' a1 l1 c1 zs):=hz;have HBW:Hid (Below w.heap.size w W'):=hbW;clear h5 h8 hg hz hp hcp hvp hlp hbW hBA HGI;generalize hpf:pfold (val B64 ms) (val B64 xs%val B64 ms) pre=pf at *;have HPF:Hid (pfold (val B64 ms) (val B64 xs%val B64 ms) pre=pf):=hpf;clear hpf
   gi_wp2_with fail
   refine⟨trivial,?_⟩;refine(CallsIn.inRound l (callsIn_wide.2 HM1)).mono ?_;rintro e W2 ⟨v,rfl,a2,l2,c2,qs,rfl,q1,q2,q3,q4,q5⟩;have g2:=HGc.out.old q5;have k10b:=g2.1;have f10b:=g2.2;have HG2:Hid (Kc W2 g (.slice a lp cp)):=g2;have HQ:Hid (NumIn .u64 B64 W2 a2 l2 c2 qs∧Canon qs∧val B64 qs=pf*pf%val B64 ms∧l2≤lm):=⟨q1,q2,q3,q4⟩
   replace H5:Hid (Kc W2 w.heap.size (.slice mo lm cm)):=H5.out.old q5;replace H8:Hid (Kc W2 w2.heap.size (.slice a1 l1 c1)):=H8.out.old q5;replace HNz:Hid (NumIn .u64 B64 W2 a1 l1 c1 zs):=HNz.out.old q5;replace HBW:Hid (Below w.heap.size w W2):=HBW.out.trans (q5.mono HBW.out.size);have HQ5:Hid (Below W'.heap.size W' W2):=q5;clear g2 q1 q2 q3 q4 q5 HM1 k10 k5 HGc;have P3:Hid (Kc (W2.setCell ⟨g,0,none⟩ (.slice a2 l2 c2)) w.heap.size (.slice mo lm cm)∧Kc (W2.setCell ⟨g,0,none⟩ (.slice a2 l2 c2)) w2.heap.size (.slice a1 l1 c1)∧Kc (W2.setCell ⟨g,0,none⟩ (.slice a2 l2 c2)) g (.slice a2 l2 c2)):=
    ⟨H5.out.other (fun e=>HGS.out.2.1 e.symm) _,H8.out.other (fun e=>HGS.out.2.2 e.symm) _,HG2.out.set _⟩
   have N3:Hid (NumIn .u64 B64 (W2.setCell ⟨g,0,none⟩ (.slice a2 l2 c2)) a1 l1 c1 zs∧NumIn .u64 B64 (W2.setCell ⟨g,0,none⟩ (.slice a2 l2 c2)) a2 l2 c2 qs∧Below w.heap.size w (W2.setCell ⟨g,0,none⟩ (.slice a2 l2 c2))):=
    ⟨HNz.out.setSlice HG2.out _,HQ.out.1.setSlice HG2.out _,HBW.out.setCell (p:=⟨g,0,none⟩) HGS.out.1 _⟩
   have KP:Hid (BitsAt W' g3 g4 (val B64 ns) L→BitsAt (W2.setCell ⟨g,0,none⟩ (.slice a2 l2 c2)) g3 g4 (val B64 ns) L):=fun hB=>(hB.old HQ5.out).setSlice HG2.out HNE.out _;have KO:Hid (KeepsOthers W' (W2.setCell ⟨g,0,none⟩ (.slice a2 l2 c2))):=(KeepsOthers.of_below HQ5.out).trans (KeepsOthers.setCell _ _ _);clear H5 H8 HG2 HNz HBW HQ5
   cases x2 with
   | false=>
    gi_wp2
    exact⟨KO.out,KP.out,⟨P3.out.1,P3.out.2.1,N3.out.1,a2,l2,c2,qs,P3.out.2.2,N3.out.2.1,HQ.out.2.1,by rw[pfold_snoc,HPF.out];exact HQ.out.2.2.1,HQ.out.2.2.2⟩,N3.out.2.2⟩
   | true =>
    have HM2:=mMul_any a2 a1 mo l2 c2 l1 c1 lm cm qs zs ms (W2.setCell ⟨g,0,none⟩ (.slice a2 l2 c2)) N3.out.2.1 N3.out.1 (NM.out.old N3.out.2.2) HZ.out.1 (by have:=HZ.out.2.2;have:=HXV.out.2;have:=HQ.out.2.2.2;omega);rw[HQ.out.2.2.1,HXV.out.1]at HM2;have k5:=P3.out.1.1;have k8:=P3.out.2.1.1;have k10:=P3.out.2.2.1;clear HQ
    gi_wp2_with fail
    refine⟨trivial,?_⟩;refine(CallsIn.inRound l (callsIn_wide.2 HM2)).mono ?_;rintro e W4 ⟨v,rfl,a3,l3,c3,rs,rfl,q1,q2,q3,q4,q5⟩;have g5:=P3.out.2.2.old q5;have k10c:=g5.1;have f10c:=g5.2;have HFIN:Hid (KeepsOthers W' (W4.setCell ⟨g,0,none⟩ (.slice a3 l3 c3))∧(BitsAt W' g3 g4 (val B64 ns) L→BitsAt (W4.setCell ⟨g,0,none⟩ (.slice a3 l3 c3)) g3 g4 (val B64 ns) L)∧PGo w w.heap.size w2.heap.size g mo lm cm ms a1 l1 c1 zs (val B64 ms) (val B64 xs%val B64 ms) (pre++[(x1,true)]) (W4.setCell ⟨g,0,none⟩ (.slice a3 l3 c3))):=by refine⟨KO.out.trans ((KeepsOthers.of_below q5).trans (KeepsOthers.setCell _ _ _)),fun hB=>((KP.out hB).old q5).setSlice g5 HNE.out _,⟨(P3.out.1.old q5).other (fun e=>HGS.out.2.1 e.symm) _,(P3.out.2.1.old q5).other (fun e=>HGS.out.2.2 e.symm) _,(N3.out.1.old q5).setSlice g5 _,a3,l3,c3,rs,g5.set _,q1.setSlice g5 _,q2,?_,q4⟩,(N3.out.2.2.trans (q5.mono N3.out.2.2.size)).setCell (p:=⟨g,0,none⟩) HGS.out.1 _⟩;rw[pfold_snoc,HPF.out];exact q3
    clear q1 q2 q3 q4 q5 g5 HM2 k5 k8 k10 P3 N3 KP KO k10b f10b
    gi_wp2
    exact HFIN.out
  case done=>
   rintro D ys W' hD hys ⟨⟨h5,h8,hz,a,lp,cp,ps,hg,hp,hcp,hvp,hlp⟩,hbW⟩ hK;have k10:=hg.1;have HV:Hid (val B64 ps=val B64 xs^(val B64 ns).toNat%val B64 ms):=by unfold Hid;rw[hvp,hys,pfold_all _ _ _ HVN.out HZ.out.2.1 L KL.out (pfold_range _ _ HZ.out.2.1)]
   have HP:Hid (NumIn .u64 B64 W' a lp cp ps∧Canon ps∧lp≤lm∧Below w.heap.size w W'):=⟨hp,hcp,hlp,hbW⟩
   have HK:Hid (W'.heap[D]?=some (.deferred (some []))∧W6.heap.size≤D):=⟨hK,hD⟩
   clear h5 h8 hg hz hp hcp hvp hlp hbW hBA HGI hys hK hD
   gi_wp2
   refine⟨by simp,.inl ⟨_,_,rfl,run_takeDeferred HK.out.1,?_⟩⟩;refine⟨_,results_tmp2 rfl _ _ _,_,rfl,a,lp,cp,ps,rfl,HP.out.1.keptc (grownBy_putObj' _ D (.deferred none)) (fun r e=>by cases e;exact⟨_,HK.out.1,rfl⟩),HP.out.2.1,HV.out,HP.out.2.2.1,HP.out.2.2.2.trans (belowK_b (w:=w) (Nat.le_refl _) _ D _ _ (by have:=HK.out.2;have:=HW6.out;omega) HK.out.1 rfl rfl)⟩
  case stop=> rintro D c pre W' _ _ h _;exact h.elim
 have c5:w3.cell? ⟨w.heap.size,0,none⟩=some (.slice mo lm cm):=K5.out.1;have bD:Hid (Below w3.heap.size w3 w3.drew):=(Below.refl _ _).drew;have bA:Hid (Below w3.heap.size w3 (w3.drew.alloc (.cells #[.slice none 0 0] 24))):=bD.out.alloc (Nat.le_refl _) _;have hlt5:=K5.out.lt;have cA5:=(K5.out.old bA.out).1;clear HA0 HVN;refine wpIn_noPanic ?_
 gi_region_with (first
  | (refine ⟨trivial, ?_⟩; gi_at_call 77; refine (callsIn_wide.2 (Of_any 1 _ (by decide) (by decide))).mono ?_; rintro e w4 ⟨v4, rfl, a4, l4, c4, x4, rfl, o1, o2, o3, o4, o5⟩
     have b4:Below w3.heap.size w3 w4:=(by first|exact bD.out.trans (o5.mono (Nat.le_refl _))|exact bA.out.trans (o5.mono bA.out.size))
     have c4m:w4.cell? ⟨w.heap.size,0,none⟩=some (.slice mo lm cm):=(b4.cell (p:=⟨w.heap.size,0,none⟩) K5.out.lt).trans K5.out.1
     try (have kA : Kc w4 w3.heap.size (.slice none 0 0) := (Kc.new w3.drew _ _ _ rfl).old o5
          have kA1:=kA.1;have kA2:=kA.2)
     have c4A:(w4.alloc (.cells #[.slice none 0 0] 24)).cell? ⟨w.heap.size,0,none⟩=some (.slice mo lm cm):=more_cell _ c4m;have O1:Hid (NumIn .u64 B64 w4 a4 l4 c4 x4∧val B64 x4=1∧l4≤1):=⟨o1,o3,o4⟩
     have B4:Hid (Below w3.heap.size w3 w4):=b4;clear o1 o2 o3 o4 o5 b4)
  | (refine ⟨trivial, ?_⟩; gi_at_call 76; refine (callsIn_wide.2 (mOf_any a4 mo l4 c4 lm cm x4 ms _ (by first | exact O1.out.1 | exact O1.out.1.old ((Below.refl _ _).alloc (Nat.le_refl _) _)) (NM.out.old (B1.out.trans ((by first | exact B4.out | exact B4.out.alloc B4.out.size _ : Below w3.heap.size w3 _).mono B1.out.size))) HZ.out.1 (by have := O1.out.2.2; have := HZ.out.2.2; omega))).mono ?_; rintro e w5 ⟨v5, rfl, a5, l5, c5', x5, rfl, s1, s2, s3, s4, s5⟩
     have b5:Below w3.heap.size w3 w5:=(by first|exact B4.out.trans (s5.mono B4.out.size)|exact(B4.out.alloc B4.out.size _).trans (s5.mono (B4.out.alloc B4.out.size _).size))
     try (have kB : Kc w5 w3.heap.size (.slice none 0 0) := kA.old s5
          have kB1:=kB.1;have kB2:=kB.2)
     try (have kB : Kc w5 w4.heap.size (.slice none 0 0) := (Kc.new w4 _ _ _ rfl).old s5
          have kB1:=kB.1;have kB2:=kB.2)
     have O5:Hid (NumIn .u64 B64 w5 a5 l5 c5' x5∧Canon x5∧val B64 x5=1%val B64 ms∧l5≤lm):=⟨s1,s2,(by rw[s3,O1.out.2.1]),s4⟩
     have B5:Hid (Below w3.heap.size w3 w5):=b5;clear s1 s2 s3 s4 s5 b5))
 all_goals (refine NoPanic.normal ?_;go_simp)
 all_goals first
  | exact HREST.out _ a5 l5 c5' x5 w5.heap.size _ (B5.out.alloc B5.out.size _) B5.out.size (Kc.new _ _ _ _ rfl) (O5.out.1.old ((Below.refl _ _).alloc (Nat.le_refl _) _)) O5.out.2.1 O5.out.2.2.1 O5.out.2.2.2
  | exact HREST.out _ a5 l5 c5' x5 w4.heap.size _ (B5.out.setCell (p:=⟨w4.heap.size,0,none⟩) B4.out.size _) B4.out.size (kB.set _) (O5.out.1.setSlice kB _) O5.out.2.1 O5.out.2.2.1 O5.out.2.2.2
  | exact HREST.out _ a5 l5 c5' x5 w3.heap.size _ (B5.out.setCell (p:=⟨w3.heap.size,0,none⟩) (Nat.le_refl _) _) (Nat.le_refl _) (kB.set _) (O5.out.1.setSlice kB _) O5.out.2.1 O5.out.2.2.1 O5.out.2.2.2
end
section
open Go.Shelf Go.RowKit
def Nv (w:World)(v:Value)(n:Int)(L:Nat):Prop:=∃ao len cap xs,v=.slice ao len cap∧NumIn .u64 B64 w ao len cap xs∧val B64 xs=n∧len≤L
theorem Nv.old{w w':World}{v:Value}{n:Int}{L:Nat}(h:Nv w v n L)(hb:Below w.heap.size w w'):Nv w' v n L:=by obtain⟨ao,len,cap,xs,e,h1,h2,h3⟩:=h;exact⟨ao,len,cap,xs,e,h1.old hb,h2,h3⟩
theorem Nv.up{w:World}{v:Value}{n:Int}{L L':Nat}(h:Nv w v n L)(hl:L≤L'):Nv w v n L':=by obtain⟨ao,len,cap,xs,e,h1,h2,h3⟩:=h;exact⟨ao,len,cap,xs,e,h1,h2,by omega⟩
theorem Nv.nonneg{w:World}{v:Value}{n:Int}{L:Nat}(h:Nv w v n L):0≤n:=by obtain⟨ao,len,cap,xs,e,h1,h2,h3⟩:=h;rw[←h2];exact val_nonneg B64_pos h1.dg
def Na (w w':World)(v:Value)(n:Int)(L:Nat):Prop:=Nv w' v n L∧Below w.heap.size w w'
theorem NumOut.na{w w':World}{v:Value}{n:Int}{L:Nat}(h:NumOut .u64 B64 w w' v n L):Na w w' v n L:=by obtain⟨ao,len,cap,xs,e,h1,_,h2,h3,h4⟩:=h;exact⟨⟨ao,len,cap,xs,e,h1,h2,h3⟩,h4⟩
theorem alloc_sz7(w:World)(o:Obj):(w.alloc o).heap.size=w.heap.size+1:=by show(w.heap.push o).size=_;simp
theorem box_cell(w:World)(v:Value)(t:TypeId):(w.alloc (.cells #[v] t)).cell? ⟨w.heap.size,0,none⟩=some v:=by rw[cell_of_row _ _ _ _ _ _ (heap_alloc_new w _)];rfl
theorem box_keep{w W:World}{v:Value}{t:TypeId}(hb:Below (w.alloc (.cells #[v] t)).heap.size (w.alloc (.cells #[v] t)) W):W.cell? ⟨w.heap.size,0,none⟩=some v:=(hb.cell (p:=⟨w.heap.size,0,none⟩) (by rw[alloc_sz7];show w.heap.size<_;omega)).trans (box_cell w v t)
theorem add_nv(a b m:Value)(x y M:Int)(L Lm:Nat)(w:World)(ha:Nv w a x L)(hb:Nv w b y L)(hm:Nv w m M Lm)(h0:M≠0)(hs:L+L+Lm<100000000):
  Calls Tryz.prog 148 #[a,b,m] w fun e w'=>∃v,e=.returned (.tuple #[v,.int .i64 0])∧Na w w' v ((x+y)%M) Lm:=by
 obtain⟨ao,la,ca,xs,rfl,h1,rfl,h2⟩:=ha;obtain⟨bo,lb,cb,ys,rfl,k1,rfl,k2⟩:=hb;obtain⟨mo,lm,cm,ms,rfl,m1,rfl,m2⟩:=hm;refine(mAdd_any ao bo mo la ca lb cb lm cm xs ys ms w h1 k1 m1 h0 (by omega)).mono ?_;rintro e w' ⟨v,rfl,h⟩;exact⟨v,rfl,h.na.1.up m2,h.na.2⟩
theorem mul_nv(a b m:Value)(x y M:Int)(L Lm:Nat)(w:World)(ha:Nv w a x L)(hb:Nv w b y L)(hm:Nv w m M Lm)(h0:M≠0)(hs:L+L+Lm<100000000):
  Calls Tryz.prog 79 #[a,b,m] w fun e w'=>∃v,e=.returned (.tuple #[v,.int .i64 0])∧Na w w' v ((x*y)%M) Lm:=by
 obtain⟨ao,la,ca,xs,rfl,h1,rfl,h2⟩:=ha;obtain⟨bo,lb,cb,ys,rfl,k1,rfl,k2⟩:=hb;obtain⟨mo,lm,cm,ms,rfl,m1,rfl,m2⟩:=hm;refine(mMul_any ao bo mo la ca lb cb lm cm xs ys ms w h1 k1 m1 h0 (by omega)).mono ?_;rintro e w' ⟨v,rfl,h⟩;exact⟨v,rfl,h.na.1.up m2,h.na.2⟩
theorem sub_nv(a b m:Value)(x y M:Int)(L Lm:Nat)(w:World)(ha:Nv w a x L)(hb:Nv w b y L)(hm:Nv w m M Lm)(h0:M≠0)(hs:L+L+Lm<100000000):
  Calls Tryz.prog 110 #[a,b,m] w fun e w'=>∃v,e=.returned (.tuple #[v,.int .i64 0])∧Na w w' v ((x-y)%M) Lm:=by
 obtain⟨ao,la,ca,xs,rfl,h1,rfl,h2⟩:=ha;obtain⟨bo,lb,cb,ys,rfl,k1,rfl,k2⟩:=hb;obtain⟨mo,lm,cm,ms,rfl,m1,rfl,m2⟩:=hm;refine(mSub_any ao bo mo la ca lb cb lm cm xs ys ms w h1 k1 m1 h0 (by omega)).mono ?_;rintro e w' ⟨v,rfl,h⟩;exact⟨v,rfl,h.na.1.up m2,h.na.2⟩
theorem plus_any(a b m:Value)(x y M:Int)(L Lm:Nat)(w:World)(ha:Nv w a x L)(hb:Nv w b y L)(hm:Nv w m M Lm)(h0:M≠0)(hs:L+L+Lm<100000000):
  Calls Tryz.prog 134 #[.agg #[m],a,b] w fun e w'=>∃v,e=.returned v∧Na w w' v ((x+y)%M) Lm:=by
 have HA:=fun W (hW:Below w.heap.size w W)=>add_nv a b m x y M L Lm W (ha.old hW) (hb.old hW) (hm.old hW) h0 hs;obtain⟨ao,la,ca,xs,rfl,_⟩:=ha;obtain⟨bo,lb,cb,ys,rfl,_⟩:=hb;obtain⟨mo,lm,cm,ms,rfl,_⟩:=hm;have b0:=(Below.refl w.heap.size w).alloc (Nat.le_refl _) (.cells #[.slice mo lm cm] 176);have HB:=HA _ b0;go_enter Tryz.func134,Tryz.ntmps134;go_wp2_with (go_at_call 148;refine HB.mono ?_;rintro e w1 ⟨v,rfl,h1,h2⟩;obtain⟨p1,p2,p3,p4,rfl,h3⟩:=h1)
 go_ret;exact⟨_,rfl,⟨p1,p2,p3,p4,rfl,h3⟩,b0.trans (h2.mono b0.size)⟩
theorem minus_any(a b m:Value)(x y M:Int)(L Lm:Nat)(w:World)(ha:Nv w a x L)(hb:Nv w b y L)(hm:Nv w m M Lm)(h0:M≠0)(hs:L+L+Lm<100000000):
  Calls Tryz.prog 152 #[.agg #[m],a,b] w fun e w'=>∃v,e=.returned v∧Na w w' v ((x-y)%M) Lm:=by
 have HA:=fun W (hW:Below w.heap.size w W)=>sub_nv a b m x y M L Lm W (ha.old hW) (hb.old hW) (hm.old hW) h0 hs;obtain⟨ao,la,ca,xs,rfl,_⟩:=ha;obtain⟨bo,lb,cb,ys,rfl,_⟩:=hb;obtain⟨mo,lm,cm,ms,rfl,_⟩:=hm;have b0:=(Below.refl w.heap.size w).alloc (Nat.le_refl _) (.cells #[.slice mo lm cm] 176);have HB:=HA _ b0;go_enter Tryz.func152,Tryz.ntmps152;go_wp2_with (go_at_call 110;refine HB.mono ?_;rintro e w1 ⟨v,rfl,h1,h2⟩;obtain⟨p1,p2,p3,p4,rfl,h3⟩:=h1)
 go_ret;exact⟨_,rfl,⟨p1,p2,p3,p4,rfl,h3⟩,b0.trans (h2.mono b0.size)⟩
theorem product_any(a b m:Value)(x y M:Int)(L Lm:Nat)(w:World)(ha:Nv w a x L)(hb:Nv w b y L)(hm:Nv w m M Lm)(h0:M≠0)(hs:L+L+Lm<100000000):
  Calls Tryz.prog 107 #[.agg #[m],a,b] w fun e w'=>∃v,e=.returned v∧Na w w' v ((x*y)%M) Lm:=by
 have HA:=fun W (hW:Below w.heap.size w W)=>mul_nv a b m x y M L Lm W (ha.old hW) (hb.old hW) (hm.old hW) h0 hs;obtain⟨ao,la,ca,xs,rfl,_⟩:=ha;obtain⟨bo,lb,cb,ys,rfl,_⟩:=hb;obtain⟨mo,lm,cm,ms,rfl,_⟩:=hm;have b0:=(Below.refl w.heap.size w).alloc (Nat.le_refl _) (.cells #[.slice mo lm cm] 176);have HB:=HA _ b0;go_enter Tryz.func107,Tryz.ntmps107;go_wp2_with (go_at_call 79;refine HB.mono ?_;rintro e w1 ⟨v,rfl,h1,h2⟩;obtain⟨p1,p2,p3,p4,rfl,h3⟩:=h1)
 go_ret;exact⟨_,rfl,⟨p1,p2,p3,p4,rfl,h3⟩,b0.trans (h2.mono b0.size)⟩
theorem inv_no(b m:Value)(y M:Int)(L Lm:Nat)(w:World)(hb:Nv w b y L)(hm:Nv w m M Lm)(h0:M≠0)(hg:gd M (y%M)≠1)(hs:L+Lm<100000000):
  Calls Tryz.prog 85 #[b,m] w fun e w'=>e=.returned (.tuple #[.slice none 0 0,.int .i64 5])∧Below w.heap.size w w':=by
 obtain⟨bo,lb,cb,ys,rfl,k1,rfl,k2⟩:=hb;obtain⟨mo,lm,cm,ms,rfl,m1,rfl,m2⟩:=hm;exact mInv_no bo mo lb cb lm cm ys ms w k1 m1 h0 hg (by omega)
theorem inv_yes(b m:Value)(y M:Int)(L Lm:Nat)(w:World)(hb:Nv w b y L)(hm:Nv w m M Lm)(h0:M≠0)(hg:gd M (y%M)=1)(hs:L+Lm<100000000):
  Calls Tryz.prog 85 #[b,m] w fun e w'=>∃v n,e=.returned (.tuple #[v,.int .i64 0])∧Na w w' v n Lm∧0≤n∧n<M∧Cg M (n*y) 1:=by
 obtain⟨bo,lb,cb,ys,rfl,k1,rfl,k2⟩:=hb;obtain⟨mo,lm,cm,ms,rfl,m1,rfl,m2⟩:=hm;refine(mInv_yes bo mo lb cb lm cm ys ms w k1 m1 h0 hg (by omega)).mono ?_;rintro e w' ⟨v,n,rfl,h,h2,h3,h4⟩;exact⟨v,n,rfl,⟨h.na.1.up m2,h.na.2⟩,h2,h3,h4⟩
theorem quot_no(a b m:Value)(x y M:Int)(L Lm:Nat)(w:World)(ha:Nv w a x L)(hb:Nv w b y L)(hm:Nv w m M Lm)(h0:M≠0)(hg:gd M (y%M)≠1)(hs:L+L+Lm<100000000):
  Calls Tryz.prog 151 #[.agg #[m],a,b] w fun e w'=>e=.returned (.tuple #[.slice none 0 0,.bool false])∧Below w.heap.size w w':=by
 have HA:=fun W (hW:Below w.heap.size w W)=>inv_no b m y M L Lm W (hb.old hW) (hm.old hW) h0 hg (by omega);obtain⟨ao,la,ca,xs,rfl,_⟩:=ha;obtain⟨bo,lb,cb,ys,rfl,_⟩:=hb;obtain⟨mo,lm,cm,ms,rfl,_⟩:=hm;have b0:=(Below.refl w.heap.size w).alloc (Nat.le_refl _) (.cells #[.slice mo lm cm] 176);have HB:=HA _ b0;go_enter Tryz.func151,Tryz.ntmps151;go_wp2_with (go_at_call 85;refine HB.mono ?_;rintro e w1 ⟨rfl,h2⟩)
 go_ret2
 exact⟨rfl,b0.trans (h2.mono b0.size)⟩
theorem quot_yes(a b m:Value)(x y M:Int)(L Lm:Nat)(w:World)(ha:Nv w a x L)(hb:Nv w b y L)(hm:Nv w m M Lm)(h0:M≠0)(hg:gd M (y%M)=1)(hs:L+L+Lm+Lm+Lm<100000000):
  Calls Tryz.prog 151 #[.agg #[m],a,b] w fun e w'=>∃v n,e=.returned (.tuple #[v,.bool true])∧Na w w' v ((x*n)%M) Lm∧0≤n∧n<M∧Cg M (n*y) 1:=by
 have HA:=fun W (hW:Below w.heap.size w W)=>inv_yes b m y M L Lm W (hb.old hW) (hm.old hW) h0 hg (by omega);have HP:=fun W (hW:Below w.heap.size w W) v n (hv:Nv W v n Lm)=>product_any a v m x n M (L+Lm) Lm W ((ha.old hW).up (by omega)) (hv.up (by omega)) (hm.old hW) h0;obtain⟨ao,la,ca,xs,rfl,_⟩:=ha;obtain⟨bo,lb,cb,ys,rfl,_⟩:=hb;obtain⟨mo,lm,cm,ms,rfl,_⟩:=hm;have b0:=(Below.refl w.heap.size w).alloc (Nat.le_refl _) (.cells #[.slice mo lm cm] 176);have HB:=HA _ b0;go_enter Tryz.func151,Tryz.ntmps151;go_wp2_with (go_at_call 85;refine HB.mono ?_;rintro e w1 ⟨v,n,rfl,⟨h1,h2⟩,h3⟩;obtain⟨p1,p2,p3,p4,rfl,h4⟩:=h1;have c1:=box_keep h2)
 have b1:=b0.trans (h2.mono b0.size);have HQ:=HP w1 b1 (.slice p1 p2 p3) n ⟨p1,p2,p3,p4,rfl,h4⟩ (by omega);go_at_call 107;refine HQ.mono ?_;rintro e w2 ⟨v2,rfl,h5,h6⟩;obtain⟨q1,q2,q3,q4,rfl,h7⟩:=h5;go_wp2;go_ret2
 exact⟨_,n,rfl,⟨⟨q1,q2,q3,q4,rfl,h7⟩,b1.trans (h6.mono b1.size)⟩,h3⟩
theorem drew7(w:World):∀k,Below w.heap.size w (w.drewN k)
 | 0=>Below.refl _ _
 | k+1=>(drew7 w k).drew
theorem isZero_any(a:Value)(x:Int)(L:Nat)(w:World)(ha:Nv w a x L):
  Calls Tryz.prog 105 #[a] w fun e w'=>e=.returned (.bool (decide (x=0)))∧w'=w:=by
 obtain⟨ao,la,ca,xs,rfl,h1,h2,h3⟩:=ha;have HL:=Len_any ao la ca xs w h1;have hn:=val_nonneg B64_pos h1.dg;obtain⟨ln,hln⟩:∃ln,lenOf xs=ln:=⟨_,rfl⟩
 have hz:decide ((ln:Int)=0)=decide (x=0):=by
  by_cases h0:x=0
  ·rw[←hln,lenOf_zero h1.dg (by omega)];simp[h0]
  ·have:=lenOf_pos h1.dg (by omega);simp[h0];omega
 rw[hln]at HL;rw[←hz];go_enter Tryz.func105,Tryz.ntmps105;go_wp2_with (go_at_call 69;refine HL.mono ?_;rintro e w1 ⟨rfl,rfl⟩)
 go_ret;exact⟨by first|rfl|simp,rfl⟩
theorem isBelow_any(a b:Value)(x y:Int)(L:Nat)(w:World)(ha:Nv w a x L)(hb:Nv w b y L):
  Calls Tryz.prog 106 #[a,b] w fun e w'=>e=.returned (.bool (decide (x<y)))∧Below w.heap.size w w':=by
 obtain⟨ao,la,ca,xs,rfl,h1,h2,h3⟩:=ha;obtain⟨bo,lb,cb,ys,rfl,k1,k2,k3⟩:=hb;have HC:=Cmp_any ao bo la ca lb cb xs ys w h1 k1;rw[h2,k2]at HC;obtain⟨z,hz⟩:∃z,cmpI x y=z:=⟨_,rfl⟩
 rw[hz]at HC;have hd:decide (z<0)=decide (x<y):=by
  rw[←hz];unfold cmpI;by_cases q:x<y
  ·simp[q]
  ·rw[if_neg q];split<;>simp[q]
 clear hz;go_enter Tryz.func106,Tryz.ntmps106;go_wp2_with (go_at_call 45;refine HC.mono ?_;rintro e w1 ⟨rfl,k,rfl⟩)
 go_ret;exact⟨rfl,(drew7 _ _)⟩
structure Cz where
 p:Int
 a:Int
 b:Int
 gx:Int
 gy:Int
 n:Int
structure Pz where
 x:Int
 y:Int
 inf:Bool
def Cu (w:World)(c:Value)(K:Cz)(L:Nat):Prop:=∃(g1 g2:Int) (oo:Option Addr) (lo co:Nat) (vp va vb vx vy vn:Value),c=.agg #[.int .i64 g1,.int .i64 g2,.slice oo lo co,vp,va,vb,vx,vy,vn]∧Nv w vp K.p L∧Nv w va K.a L∧Nv w vb K.b L∧Nv w vx K.gx L∧Nv w vy K.gy L∧Nv w vn K.n L
def Pv (w:World)(c:Value)(p:Pz)(L:Nat):Prop:=∃vx vy,c=.agg #[vx,vy,.bool p.inf]∧Nv w vx p.x L∧Nv w vy p.y L
theorem Cu.old{w w':World}{c:Value}{K:Cz}{L:Nat}(h:Cu w c K L)(hb:Below w.heap.size w w'):Cu w' c K L:=by obtain⟨g1,g2,oo,lo,co,vp,va,vb,vx,vy,vn,e,h1,h2,h3,h4,h5,h6⟩:=h;exact⟨g1,g2,oo,lo,co,vp,va,vb,vx,vy,vn,e,h1.old hb,h2.old hb,h3.old hb,h4.old hb,h5.old hb,h6.old hb⟩
theorem Pv.old{w w':World}{c:Value}{p:Pz}{L:Nat}(h:Pv w c p L)(hb:Below w.heap.size w w'):Pv w' c p L:=by obtain⟨vx,vy,e,h1,h2⟩:=h;exact⟨vx,vy,e,h1.old hb,h2.old hb⟩
structure FrS(W:World)(b:Nat)(cv pv qv:Array Value)(m:Value):Prop where
 c:W.heap[b]?=some (.cells cv 52 (0,0))
 p:W.heap[b+1]?=some (.cells pv 26 (0,0))
 q:W.heap[b+1+1]?=some (.cells qv 26 (0,0))
 f:W.heap[b+1+1+1]?=some (.cells #[m] 176 (0,0))
theorem heap_new{w:World}{o:Obj}{k:Nat}{x:Option Obj}(h:w.heap[k]?=x)(hx:k<w.heap.size):(w.alloc o).heap[k]?=x:=by rw[←h];exact heap_alloc_old _ _ hx
theorem frS_new(w:World)(cv pv qv:Array Value)(m:Value):FrS ((((w.alloc (.cells cv 52)).alloc (.cells pv 26)).alloc (.cells qv 26)).alloc (.cells #[m] 176)) w.heap.size cv pv qv m∧Below w.heap.size w ((((w.alloc (.cells cv 52)).alloc (.cells pv 26)).alloc (.cells qv 26)).alloc (.cells #[m] 176)):=by have z1:=alloc_sz7 w (.cells cv 52);have z2:=alloc_sz7 (w.alloc (.cells cv 52)) (.cells pv 26);have z3:=alloc_sz7 ((w.alloc (.cells cv 52)).alloc (.cells pv 26)) (.cells qv 26);have n1:=heap_alloc_new w (.cells cv 52);have n2:=heap_alloc_new (w.alloc (.cells cv 52)) (.cells pv 26);have n3:=heap_alloc_new ((w.alloc (.cells cv 52)).alloc (.cells pv 26)) (.cells qv 26);have n4:=heap_alloc_new (((w.alloc (.cells cv 52)).alloc (.cells pv 26)).alloc (.cells qv 26)) (.cells #[m] 176);rw[z1]at n2;rw[z2,z1]at n3;rw[z3,z2,z1]at n4;refine⟨⟨heap_new (heap_new (heap_new n1 (by omega)) (by omega)) (by omega),heap_new (heap_new n2 (by omega)) (by omega),heap_new n3 (by omega),n4⟩,?_⟩;exact((((Below.refl w.heap.size w).alloc (Nat.le_refl _) _).alloc (by omega) _).alloc (by omega) _).alloc (by omega) _
theorem FrS.keep{W W':World}{b:Nat}{cv pv qv:Array Value}{m:Value}(h:FrS W b cv pv qv m)(hb:Below W.heap.size W W'):FrS W' b cv pv qv m:=
 ⟨(hb.block _ (Array.getElem?_eq_some_iff.1 h.c).1).trans h.c,(hb.block _ (Array.getElem?_eq_some_iff.1 h.p).1).trans h.p,(hb.block _ (Array.getElem?_eq_some_iff.1 h.q).1).trans h.q,(hb.block _ (Array.getElem?_eq_some_iff.1 h.f).1).trans h.f⟩
theorem FrS.cells{W:World}{b:Nat}{y0 y1 y2 y3 y4 y5 y6 y7 y8 p0 p1 p2 q0 q1 q2 m:Value}(h:FrS W b #[y0,y1,y2,y3,y4,y5,y6,y7,y8] #[p0,p1,p2] #[q0,q1,q2] m):W.cell? ⟨b,3,none⟩=some y3∧W.cell? ⟨b,4,none⟩=some y4∧W.cell? ⟨b+1,0,none⟩=some p0∧W.cell? ⟨b+1,1,none⟩=some p1∧W.cell? ⟨b+1+1,0,none⟩=some q0∧W.cell? ⟨b+1+1,1,none⟩=some q1∧W.cell? ⟨b+1+1+1,0,none⟩=some m:=by
 refine⟨?_,?_,?_,?_,?_,?_,?_⟩
 ·rw[cell_of_row _ _ _ _ _ _ h.c];rfl
 ·rw[cell_of_row _ _ _ _ _ _ h.c];rfl
 ·rw[cell_of_row _ _ _ _ _ _ h.p];rfl
 ·rw[cell_of_row _ _ _ _ _ _ h.p];rfl
 ·rw[cell_of_row _ _ _ _ _ _ h.q];rfl
 ·rw[cell_of_row _ _ _ _ _ _ h.q];rfl
 ·rw[cell_of_row _ _ _ _ _ _ h.f];rfl
def riseZ(K:Cz)(p q:Pz):Int:=if (q.x-p.x)%K.p≠0 then (q.y-p.y)%K.p else ((3*((p.x*p.x)%K.p))%K.p+K.a)%K.p
def runZ (K:Cz)(p q:Pz):Int:=if (q.x-p.x)%K.p≠0 then (q.x-p.x)%K.p else (p.y+q.y)%K.p
theorem slope_any(c p q:Value)(K:Cz)(P Q:Pz)(L:Nat)(w:World)(hc:Cu w c K L)(hp:Pv w p P L)(hq:Pv w q Q L)(h0:K.p≠0)(hL:1≤L∧L≤1000):
  Calls Tryz.prog 150 #[c,p,q] w fun e w'=>∃v1 v2,e=.returned (.tuple #[v1,v2])∧Nv w' v1 (riseZ K P Q) L∧Nv w' v2 (runZ K P Q) L∧Below w.heap.size w w':=by
 obtain⟨g1,g2,oo,lo,co,vp,va,vb,vx,vy,vn,rfl,c1,c2,c3,c4,c5,c6⟩:=hc;obtain⟨px,py,rfl,p1,p2⟩:=hp;obtain⟨qx,qy,rfl,q1,q2⟩:=hq;have HM:=fun W (hW:Below w.heap.size w W)=>minus_any qx px vp Q.x P.x K.p L L W (q1.old hW) (p1.old hW) (c1.old hW) h0 (by omega);obtain⟨a1,a2,a3,a4,rfl,a5⟩:=c1;obtain⟨b1,b2,b3,b4,rfl,b5⟩:=c2;obtain⟨d1,d2,d3,d4,rfl,d5⟩:=c3;obtain⟨e1,e2,e3,e4,rfl,e5⟩:=c4;obtain⟨f1,f2,f3,f4,rfl,f5⟩:=c5;obtain⟨j1,j2,j3,j4,rfl,j5⟩:=c6;obtain⟨k1,k2,k3,k4,rfl,k5⟩:=p1;obtain⟨l1,l2,l3,l4,rfl,l5⟩:=p2;obtain⟨m1,m2,m3,m4,rfl,m5⟩:=q1;obtain⟨n1,n2,n3,n4,rfl,n5⟩:=q2;obtain⟨W,hW⟩:∃W,(((w.alloc (.cells #[.int .i64 g1,.int .i64 g2,.slice oo lo co,.slice a1 a2 a3,.slice b1 b2 b3,.slice d1 d2 d3,.slice e1 e2 e3,.slice f1 f2 f3,.slice j1 j2 j3] 52)).alloc (.cells #[.slice k1 k2 k3,.slice l1 l2 l3,.bool P.inf] 26)).alloc (.cells #[.slice m1 m2 m3,.slice n1 n2 n3,.bool Q.inf] 26)).alloc (.cells #[.slice a1 a2 a3] 176)=W:=⟨_,rfl⟩
 have FZ:=frS_new w #[.int .i64 g1,.int .i64 g2,.slice oo lo co,.slice a1 a2 a3,.slice b1 b2 b3,.slice d1 d2 d3,.slice e1 e2 e3,.slice f1 f2 f3,.slice j1 j2 j3] #[.slice k1 k2 k3,.slice l1 l2 l3,.bool P.inf] #[.slice m1 m2 m3,.slice n1 n2 n3,.bool Q.inf] (.slice a1 a2 a3);rw[hW]at FZ;obtain⟨FZ,hb⟩:=FZ;have HMW:=HM W hb;have HW:Hid (_=W):=hW;clear hW;obtain⟨RI,hRI⟩:∃r,riseZ K P Q=r:=⟨_,rfl⟩
 obtain⟨RU,hRU⟩:∃r,runZ K P Q=r:=⟨_,rfl⟩
 rw[hRI,hRU];have HRI:Hid (riseZ K P Q=RI∧runZ K P Q=RU):=⟨hRI,hRU⟩
 clear hRI hRU;go_enter Tryz.func150,Tryz.ntmps150;go_wp2_with fail
 go_at_call 152;rw[HW.out];refine HMW.mono ?_;rintro e w1 ⟨v1,rfl,hv1,hb1⟩;have F1:=FZ.keep hb1;obtain⟨x1,x2,x3,x4,x5,x6,x7⟩:=F1.cells;have HZ:=isZero_any v1 _ L w1 hv1;have B1:=hb.trans (hb1.mono hb.size);have HM2:=minus_any (.slice n1 n2 n3) (.slice l1 l2 l3) (.slice a1 a2 a3) Q.y P.y K.p L L w1 (Nv.old ⟨n1,n2,n3,n4,rfl,n5⟩ B1) (Nv.old ⟨l1,l2,l3,l4,rfl,l5⟩ B1) (Nv.old ⟨a1,a2,a3,a4,rfl,a5⟩ B1) h0 (by omega);have hv1':=hv1;obtain⟨r1,r2,r3,r4,rfl,r5⟩:=hv1;obtain⟨A,hA⟩:∃A,(Q.x-P.x)%K.p=A:=⟨_,rfl⟩
 rw[hA]at HZ hv1';by_cases hz:A=0
 ·have hd:decide (A=0)=true:=by simp[hz]
  rw[hd]at HZ;clear HM2 HM HMW;go_wp2_with (go_at_call 105;refine HZ.mono ?_;rintro e w2 ⟨rfl,rfl⟩)
  have HPr:=product_any (.slice k1 k2 k3) (.slice k1 k2 k3) (.slice a1 a2 a3) P.x P.x K.p L L w2 (Nv.old ⟨k1,k2,k3,k4,rfl,k5⟩ B1) (Nv.old ⟨k1,k2,k3,k4,rfl,k5⟩ B1) (Nv.old ⟨a1,a2,a3,a4,rfl,a5⟩ B1) h0 (by omega);go_at_call 107;refine HPr.mono ?_;rintro e w3 ⟨v3,rfl,hv3,hb3⟩;have hv3':=hv3;obtain⟨s1,s2,s3,s4,rfl,s5⟩:=hv3;have F3:=F1.keep hb3;have B3:=B1.trans (hb3.mono B1.size);clear HPr HZ x1 x2 x3 x4 x5 x6 x7;obtain⟨x1,x2,x3,x4,x5,x6,x7⟩:=F3.cells;have HK:=fun(W:World) (hW:Below w3.heap.size w3 W)=>(show W.cell? ⟨w.heap.size+1+1+1,0,none⟩=some (.slice a1 a2 a3)∧W.cell? ⟨w.heap.size,4,none⟩=some (.slice b1 b2 b3)∧W.cell? ⟨w.heap.size+1,1,none⟩=some (.slice l1 l2 l3)∧W.cell? ⟨w.heap.size+1+1,1,none⟩=some (.slice n1 n2 n3) from by obtain⟨y1,y2,y3,y4,y5,y6,y7⟩:=(F3.keep hW).cells;exact⟨y7,y2,y4,y6⟩)
  have K3:=HK w3 (Below.refl _ _);have K4:=HK w3.drew (Below.refl _ _).drew;have HOf:=Of_any 3 w3.drew (by decide) (by decide);have HPr:=fun W (hW:Below w.heap.size w W) (h3W:Below w3.heap.size w3 W) v (hv:Nv W v 3 1)=>product_any v (.slice s1 s2 s3) (.slice a1 a2 a3) 3 ((P.x*P.x)%K.p) K.p L L W (hv.up hL.1) (hv3'.old h3W) (Nv.old ⟨a1,a2,a3,a4,rfl,a5⟩ hW) h0 (by omega);have HP1:=fun W (hW:Below w.heap.size w W) v n (hv:Nv W v n L)=>plus_any v (.slice b1 b2 b3) (.slice a1 a2 a3) n K.a K.p L L W hv (Nv.old ⟨b1,b2,b3,b4,rfl,b5⟩ hW) (Nv.old ⟨a1,a2,a3,a4,rfl,a5⟩ hW) h0 (by omega);have HP2:=fun W (hW:Below w.heap.size w W)=>plus_any (.slice l1 l2 l3) (.slice n1 n2 n3) (.slice a1 a2 a3) P.y Q.y K.p L L W (Nv.old ⟨l1,l2,l3,l4,rfl,l5⟩ hW) (Nv.old ⟨n1,n2,n3,n4,rfl,n5⟩ hW) (Nv.old ⟨a1,a2,a3,a4,rfl,a5⟩ hW) h0 (by omega);have T1:True:=trivial;go_wp2_with fail
  go_region_held3 (fun W=>W.cell? ⟨w.heap.size+1+1+1,0,none⟩=some (.slice a1 a2 a3)∧W.cell? ⟨w.heap.size,4,none⟩=some (.slice b1 b2 b3)∧W.cell? ⟨w.heap.size+1,1,none⟩=some (.slice l1 l2 l3)∧W.cell? ⟨w.heap.size+1+1,1,none⟩=some (.slice n1 n2 n3))
   (first|exact K3|exact K4|exact K5|exact K6|exact K7|exact K8) (first
   | (go_at_call 77;refine HOf.mono ?_;rintro e w5 ⟨v5,rfl,hn5⟩;have hv5:=hn5.na.1;have C5:=((Below.refl w3.heap.size w3).drew).trans (hn5.na.2.mono (Nat.le_refl _));have K5:=HK w5 C5;have HPr2:=HPr w5 (B3.trans (C5.mono B3.size)) C5 v5 hv5;obtain⟨o1,o2,o3,o4,rfl,o5⟩:=hv5)
   | (go_at_call 107;refine HPr2.mono ?_;rintro e w6 ⟨v6,rfl,hv6,hb6⟩;have C6:=C5.trans (hb6.mono C5.size);have K6:=HK w6 C6;have HP12:=HP1 w6 (B3.trans (C6.mono B3.size)) v6 _ hv6;obtain⟨u1,u2,u3,u4,rfl,u5⟩:=hv6)
   | (go_at_call 134;clear T1;refine HP12.mono ?_;rintro e w7 ⟨v7,rfl,hv7,hb7⟩;have C7:=C6.trans (hb7.mono C6.size);have K7:=HK w7 C7;have hv7':=hv7;have HP22:=HP2 w7 (B3.trans (C7.mono B3.size));obtain⟨y1,y2,y3,y4,rfl,y5⟩:=hv7)
   | (go_at_call 134;refine HP22.mono ?_;rintro e w8 ⟨v8,rfl,hv8,hb8⟩;have C8:=C7.trans (hb8.mono C7.size);have K8:=HK w8 C8;have hv8':=hv8;obtain⟨z1,z2,z3,z4,rfl,z5⟩:=hv8))
  go_wp2;go_ret2
  refine⟨_,_,rfl,?_,?_,B3.trans (C8.mono B3.size)⟩
  ·rw[←HRI.out.1];unfold riseZ;rw[hA,if_neg (by simp[hz])];exact hv7'.old hb8
  ·rw[←HRI.out.2];unfold runZ;rw[hA,if_neg (by simp[hz])];exact hv8'
 ·have hd:decide (A=0)=false:=by simp[hz]
  rw[hd]at HZ;clear HM HMW;go_wp2_with (first
   | (go_at_call 105;refine HZ.mono ?_;rintro e w2 ⟨rfl,rfl⟩)
   | (go_at_call 152;refine HM2.mono ?_;rintro e w3 ⟨v3,rfl,hv3,hb3⟩;have hv3':=hv3;obtain⟨s1,s2,s3,s4,rfl,s5⟩:=hv3))
  go_ret2
  refine⟨_,_,rfl,?_,?_,B1.trans (hb3.mono B1.size)⟩
  ·rw[←HRI.out.1];unfold riseZ;rw[hA,if_pos hz];exact hv3'
  ·rw[←HRI.out.2];unfold runZ;rw[hA,if_pos hz];exact hv1'.old hb3
def dstOf(ops:Array Oper)(i:Nat):Nat:=((ops[i]?).bind (·.dst)).getD 0
def depsOf(ops:Array Oper)(i:Nat):List Nat:=((ops[i]?).map (fun o=>o.after.toList.map (·.on))).getD []
def reachL(ops:Array Oper):Nat→List Nat→List Nat
 | 0,S=>S
 | n+1,S=>reachL ops n (S++S.flatMap (depsOf ops))
def opOk (md:Region.Mode)(ops:Array Oper)(i:Nat):Bool:=
 match ops[i]? with
 | some o=>o.dst.isSome&&o.guard.isNone&&o.after.all (fun e=>Region.binds md e&&decide (e.on<i))
 | none=>false
def lateOk(md:Region.Mode)(ops:Array Oper)(m n i:Nat):Bool:=
 match ops[i]? with
 | some o=>o.after.all (fun e=>Region.binds md e)&&(o.after.any (fun e=>decide (m≤e.on))||(List.range m).all (fun j=>(reachL ops n (depsOf ops i)).contains j))
 | none=>false
def factsOk(md:Region.Mode)(ops:Array Oper)(m n:Nat):Bool:=
 decide (m≤ops.size)&&(List.range m).all (opOk md ops)&&(List.range m).all (fun i=>(List.range m).all fun j=>decide (i=j) || !(dstOf ops i==dstOf ops j))&&(List.range ops.size).all (fun i=>decide (i<m)||lateOk md ops m n i)
theorem put_get(a:Act)(d s:Nat)(v:Value)(h:d≠s):(a.put (some d) v).tmps.getD s undef=a.tmps.getD s undef:=by simp only[Act.put,Array.getD_eq_getD_getElem?];rw[Array.getElem?_setIfInBounds_ne h]
theorem put_self(a:Act)(d:Nat)(v:Value)(h:d<a.tmps.size):(a.put (some d) v).tmps.getD d undef=v:=by simp only[Act.put,Array.getD_eq_getD_getElem?];rw[Array.getElem?_setIfInBounds_self_of_lt h];rfl
theorem pz{a:Act}{d n:Nat}{v:Value}(h:Hid (a.tmps.size=n))(e:Nat.blt d n=true):(a.put (some d) v).tmps.getD d undef=v:=put_self a d v (by have h1:=h.out;rw[h1];exact Nat.le_of_ble_eq_true e)
section
variable {P : Program} {ops : Array Oper} {Q : Exit → Act → World → Prop} {md : Region.Mode}
theorem reach_sound{T:Nat→Prop}(dc:∀i,T i→∀j∈depsOf ops i,T j):∀(n:Nat) (S:List Nat),(∀i∈S,T i)→∀i∈reachL ops n S,T i
 | 0,S,h,i,hi=>h i hi
 | n + 1, S, h, i, hi => by
  refine reach_sound dc n _ ?_ i hi;intro j hj;rcases List.mem_append.1 hj with hj|hj
  ·exact h j hj
  ·obtain⟨k,hk,hj⟩:=List.mem_flatMap.1 hj;exact dc k (h k hk) j hj
structure FInv(ops:Array Oper)(m:Nat)(F:Nat→Value→World→Prop)(a0:Act)(w0:World)(listed:Array Bool)(a:Act)(w:World):Prop where
 size:listed.size=ops.size
 defers:a.defers=a0.defers
 slots:a.tmps.size=a0.tmps.size
 old:∀s,(∀j,j<m→dstOf ops j≠s)→a.tmps.getD s undef=a0.tmps.getD s undef
 below:Below w0.heap.size w0 w
 facts:∀i,i<m→listed.getD i false=true→F i (a.tmps.getD (dstOf ops i) undef) w
 none:∀i,m≤i→listed.getD i false=false
 down:∀i,i<m→listed.getD i false=true→∀j∈depsOf ops i,listed.getD j false=true
theorem lget_set(l:Array Bool)(i j:Nat)(hi:i<l.size):(l.setIfInBounds i true).getD j false=if i=j then true else l.getD j false:=by
 simp only[Array.getD_eq_getD_getElem?];by_cases h:i=j
 ·subst h;rw[if_pos rfl,Array.getElem?_setIfInBounds_self_of_lt hi];rfl
 ·rw[if_neg h,Array.getElem?_setIfInBounds_ne h]
theorem ready_mem{listed:Array Bool}{i:Nat}(h:i∈Region.ready md ops listed):i<ops.size∧listed.getD i true=false∧∃o,ops[i]?=some o∧∀e∈o.after,Region.binds md e=true→listed.getD e.on false=true:=by unfold Region.ready at h;rw[List.mem_filter,List.mem_range]at h;obtain⟨h1,h2⟩:=h;rw[Bool.and_eq_true]at h2;obtain⟨h2,h3⟩:=h2;refine⟨h1,by simpa using h2,ops[i],Array.getElem?_eq_getElem h1,?_⟩;rw[Array.getElem?_eq_getElem h1]at h3;simp only[Option.map_some,Option.getD_some]at h3;intro e he hb;rw[Array.all_eq_true']at h3;have:=h3 e he;rw[hb]at this;simpa using this
def unl (m:Nat)(listed:Array Bool):Nat:=((List.range m).filter (fun j => !listed.getD j false)).length
theorem filter_drop(l:List Nat)(p q:Nat→Bool)(i:Nat)(hn:l.Nodup)(hi:i∈l)(hp:p i=true)(hq:∀j,q j=if i=j then false else p j):(l.filter q).length+1=(l.filter p).length:=by
 induction l with
 | nil=>cases hi
 | cons x l ih =>
  rw[List.nodup_cons]at hn;by_cases hx:x=i
  ·subst hx;have hqx:q x=false:=by rw[hq,if_pos rfl]
   rw[List.filter_cons,List.filter_cons,hqx,hp];simp only[if_true,List.length_cons];have:l.filter q=l.filter p:=by apply List.filter_congr;intro j hj;rw[hq,if_neg (by rintro rfl;exact hn.1 hj)]
   simp[this]
  ·have hi':i∈l:=by
    rcases List.mem_cons.1 hi with h|h
    ·exact absurd h.symm hx
    ·exact h
   have hqx:q x=p x:=by rw[hq,if_neg (fun h=>hx h.symm)]
   rw[List.filter_cons,List.filter_cons,hqx];have:=ih hn.2 hi';by_cases hpx:p x=true
   ·rw[if_pos hpx,if_pos hpx,List.length_cons,List.length_cons];omega
   ·rw[if_neg hpx,if_neg hpx];exact this
theorem unl_set(m:Nat)(listed:Array Bool)(i:Nat)(hi:i<m)(hs:i<listed.size)(h:listed.getD i false=false):unl m (listed.setIfInBounds i true)+1=unl m listed:=by
 unfold unl;apply filter_drop (i:=i)
 ·exact List.nodup_range
 ·exact List.mem_range.2 hi
 ·rw[h];rfl
 ·intro j;rw[lget_set _ _ _ hs];by_cases hj:i=j
  ·rw[if_pos hj,if_pos hj];rfl
  ·rw[if_neg hj,if_neg hj]
theorem getD_or(l:Array Bool)(i:Nat)(hi:i<l.size):l.getD i true=l.getD i false:=by simp only[Array.getD_eq_getD_getElem?];rw[Array.getElem?_eq_getElem hi];rfl
theorem wpAny_facts(m n : Nat)(F : Nat → Value → World → Prop)(a0 : Act)(w0 : World)(hok : factsOk md ops m n = true)(hsl : ∀ i, i < m → dstOf ops i < a0.tmps.size)
  (keep:∀i v w w',i<m→F i v w→Below w.heap.size w w'→F i v w')
  (step : ∀ i o, i < m → ops[i]? = some o → ∀ a w, a.defers = a0.defers → a.tmps.size = a0.tmps.size → Below w0.heap.size w0 w → (∀ s, (∀ j, j < m → dstOf ops j ≠ s) → a.tmps.getD s undef = a0.tmps.getD s undef) → (∀ j ∈ depsOf ops i, F j (a.tmps.getD (dstOf ops j) undef) w) →
   ∀KK:Act→World→Prop,(∀v w',Below w.heap.size w w'→F i v w'→KK (a.put o.dst v) w')→o.wp P a w KK Q)
  (rest:∀listed a w,FInv ops m F a0 w0 listed a w→(∀i,i<m→listed.getD i false=true)→wpAny P md ops Q (ops.size-m) listed a w):
  ∀k listed a w,FInv ops m F a0 w0 listed a w→unl m listed=k→wpAny P md ops Q (k+(ops.size-m)) listed a w
 | 0,listed,a,w,h,hk=>by
  rw[Nat.zero_add];refine rest listed a w h fun i hi => ?_;have h1:(List.range m).filter (fun j => !listed.getD j false)=[]:=List.length_eq_zero_iff.1 hk;rw[List.filter_eq_nil_iff]at h1;have:=h1 i (List.mem_range.2 hi);simpa using this
 | k + 1, listed, a, w, h, hk => by
  unfold factsOk at hok;simp only[Bool.and_eq_true,decide_eq_true_eq,List.all_eq_true,List.mem_range,Bool.or_eq_true]at hok;obtain⟨⟨⟨hm,h1⟩,h2⟩,h3⟩:=hok;have hop:∀i,i<m→∃o,ops[i]?=some o∧o.dst=some (dstOf ops i)∧o.guard=none∧∀e∈o.after,Region.binds md e=true∧e.on<i:=by
   intro i hi;have h4:=h1 i hi;unfold opOk at h4;rw[Array.getElem?_eq_getElem (show i<ops.size by omega)]at h4;simp only[Bool.and_eq_true,Array.all_eq_true',decide_eq_true_eq]at h4;refine⟨_,Array.getElem?_eq_getElem (show i<ops.size by omega),?_,?_,h4.2⟩
   ·unfold dstOf;rw[Array.getElem?_eq_getElem (show i<ops.size by omega)];have:=h4.1.1;show(ops[i]).dst=some (((ops[i]).dst).getD 0);revert this
    cases (ops[i]).dst with
    | none=>intro h;cases h
    | some d=>intro _;rfl
   ·have:=h4.1.2;revert this
    cases (ops[i]).guard with
    | none=>intro _;rfl
    | some d=>intro h;cases h
  have hdep:∀i o,ops[i]?=some o→∀j,j∈depsOf ops i↔∃e∈o.after,e.on=j:=by intro i o ho j;unfold depsOf;rw[ho];simp
  -- one of them has not come
  obtain⟨u,hu,hun,hul⟩:∃u,u<m∧listed.getD u false=false∧∀v,v<u→listed.getD v false=true:=by
   have hex:∃u,u<m∧listed.getD u false=false:=by
    have h4:0<unl m listed:=by omega
    obtain⟨x,hx⟩:=List.exists_mem_of_length_pos h4;rw[List.mem_filter,List.mem_range]at hx;exact⟨x,hx.1,by simpa using hx.2⟩
   obtain⟨u,hu⟩:=hex;induction u using Nat.strongRecOn with
   | ind u ih =>
    by_cases hv:∃v,v<u∧listed.getD v false=false
    ·obtain⟨v,hv1,hv2⟩:=hv;exact ih v hv1 ⟨by omega,hv2⟩
    ·refine⟨u,hu.1,hu.2,fun v hvu => ?_⟩
     cases hq:listed.getD v false with
     | true=>rfl
     | false=>exact absurd ⟨v,hvu,hq⟩ hv
  rw[show k+1+(ops.size-m)=(k+(ops.size-m))+1 by omega];refine⟨fun hr => ?_,fun i hi => ?_⟩
  ·
   -- the least of them is ready
   exfalso;have hmem:u∈Region.ready md ops listed:=by unfold Region.ready;rw[List.mem_filter,List.mem_range];obtain⟨o,ho,_,_,hd⟩:=hop u hu;refine⟨by omega,?_⟩;rw[Bool.and_eq_true];refine⟨by rw[getD_or _ _ (by rw[h.size];omega),hun];rfl,?_⟩;rw[ho];simp only[Option.map_some,Option.getD_some];rw[Array.all_eq_true'];intro e he;rw[hul _ (hd e he).2];simp
   rw[hr]at hmem
   cases hmem
  ·obtain⟨hi1,hi2,o,ho,hd⟩:=ready_mem hi;rw[getD_or _ _ (by rw[h.size];omega)]at hi2;by_cases him:i<m
   ·obtain⟨o',ho',hdst,hg,hb⟩:=hop i him;rw[ho]at ho'
    cases ho'
    unfold wpOp;rw[ho];simp only;rw[if_pos (by unfold Region.wanted;rw[hg])];refine .inl (Oper.wp_mono ?_ (step i o him ho a w h.defers h.slots h.below h.old ?_ (fun a' w'=>∃v,a'=a.put o.dst v∧Below w.heap.size w w'∧F i v w') (fun v w' h1 h2=>⟨v,rfl,h1,h2⟩)))
    ·rintro a' w' ⟨v,rfl,hbw,hv⟩;refine wpAny_facts m n F a0 w0 (by unfold factsOk;simp only[Bool.and_eq_true,decide_eq_true_eq,List.all_eq_true,List.mem_range,Bool.or_eq_true];exact⟨⟨⟨hm,h1⟩,h2⟩,h3⟩) hsl keep step rest k _ _ _ ?_ ?_
     ·rw[hdst];refine⟨by simp[h.size],h.defers,by simp[Act.put,h.slots],?_,h.below.trans (hbw.mono h.below.size),?_,?_,?_⟩
      ·intro s hs;rw[put_get _ _ _ _ (hs i him)];exact h.old s hs
      ·intro j hj hl;rw[lget_set _ _ _ (by rw[h.size];omega)]at hl;by_cases hij:i=j
       ·subst hij;rw[put_self _ _ _ (by rw[h.slots];exact hsl i him)];exact hv
       ·rw[if_neg hij]at hl;have h5:=h2 i him j hj;rcases h5 with h5|h5
        ·exact absurd h5 hij
        ·rw[put_get _ _ _ _ (by intro e;rw[e]at h5;simp at h5)];exact keep j _ _ _ hj (h.facts j hj hl) hbw
      ·intro j hj;rw[lget_set _ _ _ (by rw[h.size];omega),if_neg (by omega)];exact h.none j hj
      ·intro j hj hl x hx;rw[lget_set _ _ _ (by rw[h.size];omega)]at hl ⊢;by_cases hix:i=x
       ·rw[if_pos hix]
       ·rw[if_neg hix];by_cases hij:i=j
        ·subst hij;obtain⟨e,he,rfl⟩:=(hdep i o ho x).1 hx;exact hd e he (hb e he).1
        ·rw[if_neg hij]at hl;exact h.down j hj hl x hx
     ·have:=unl_set m listed i him (by rw[h.size];omega) hi2;omega
    ·intro j hj;obtain⟨e,he,rfl⟩:=(hdep i o ho j).1 hj;exact h.facts _ (by have:=(hb e he).2;omega) (hd e he (hb e he).1)
   ·exfalso;have h4:=h3 i hi1;rcases h4 with h4|h4
    ·omega
    ·unfold lateOk at h4;rw[ho]at h4;simp only[Bool.and_eq_true,Array.all_eq_true',Bool.or_eq_true,Array.any_eq_true',decide_eq_true_eq,List.all_eq_true,List.mem_range]at h4;obtain⟨hbi,h4⟩:=h4;rcases h4 with⟨e,he,hem⟩|h4
     ·have h5:=hd e he (hbi e he);rw[h.none _ hem]at h5
      cases h5
     ·have h5:=h4 u hu;have h6:u∈reachL ops n (depsOf ops i):=by simpa using h5
      have h7:=reach_sound (ops:=ops) (T:=fun j=>listed.getD j false=true) (by
       intro x hx j hj;by_cases hxm:x<m
       ·exact h.down x hxm hx j hj
       ·rw[h.none x (by omega)]at hx;cases hx) n (depsOf ops i) (by
       intro j hj;obtain⟨e,he,rfl⟩:=(hdep i o ho j).1 hj;exact hd e he (hbi e he)) u h6
      rw[hun]at h7
      cases h7
theorem FInv.list{m:Nat}{F:Nat→Value→World→Prop}{a0:Act}{w0:World}{listed:Array Bool}{a:Act}{w:World}(h:FInv ops m F a0 w0 listed a w)(hm:m≤ops.size)(hall:∀i,i<m→listed.getD i false=true):listed=(List.replicate m true++List.replicate (ops.size-m) false).toArray:=by
 apply Array.ext
 ·simp[h.size];omega
 ·intro i h1 h2;have h3:listed.getD i false=listed[i]:=by
   simp only[Array.getD_eq_getD_getElem?];rw[Array.getElem?_eq_getElem h1];rfl
  rw[←h3];by_cases hi:i<m
  ·rw[hall i hi];simp[List.getElem_append,hi]
  ·rw[h.none i (by omega)];simp[List.getElem_append,hi]
theorem arr_of(t:Array Value)(n:Nat)(h:t.size=n):t=((List.range n).map fun i=>t.getD i undef).toArray:=by
 apply Array.ext
 ·simp[h]
 ·intro i h1 h2;simp[Array.getD_eq_getD_getElem?,h1]
theorem wp_region_facts{id:Nat}{a0:Act}{w0:World}(m n:Nat)(F:Nat→Value→World→Prop)(hmx:P.follows .mixedOrders=true)(hok:factsOk .any ops m n=true)(hsa:(List.range m).all (fun i=>decide (dstOf ops i<a0.tmps.size))=true)
  (keep:∀i v w w',i<m→F i v w→Below w.heap.size w w'→F i v w')
  (step : ∀ i o, i < m → ops[i]? = some o → ∀ a w, a.defers = a0.defers → a.tmps.size = a0.tmps.size → Below w0.heap.size w0 w → (∀ s, (∀ j, j < m → dstOf ops j ≠ s) → a.tmps.getD s undef = a0.tmps.getD s undef) → (∀ j ∈ depsOf ops i, F j (a.tmps.getD (dstOf ops j) undef) w) →
   ∀KK:Act→World→Prop,(∀v w',Below w.heap.size w w'→F i v w'→KK (a.put o.dst v) w')→o.wp P a w KK Q)
  (rest:∀listed a w,FInv ops m F a0 w0.drew listed a w→(∀i,i<m→listed.getD i false=true)→wpAny P .any ops Q (ops.size-m) listed a w):(Code.region id ops true).wp P Q a0 w0:=by
 have hm:m≤ops.size:=by unfold factsOk at hok;simp only[Bool.and_eq_true,decide_eq_true_eq]at hok;exact hok.1.1.1
 have hrep:∀i,(Array.replicate ops.size false).getD i false=false:=fun i=>by
  simp only[Array.getD_eq_getD_getElem?];by_cases h:i<ops.size
  ·rw[Array.getElem?_eq_getElem (by simpa using h)];simp
  ·rw[Array.getElem?_eq_none (by simpa using Nat.le_of_not_lt h)];rfl
 have hsl:∀i,i<m→dstOf ops i<a0.tmps.size:=fun i hi=>by rw[List.all_eq_true]at hsa;simpa using hsa i (List.mem_range.2 hi)
 refine wp_region_any hmx ?_;have hu:unl m (Array.replicate ops.size false)=m:=by
  unfold unl;have:(List.range m).filter (fun j => !(Array.replicate ops.size false).getD j false)=List.range m:=by rw[List.filter_eq_self];intro j _;rw[hrep];rfl
  rw[this,List.length_range]
 have h:=wpAny_facts (P:=P) (Q:=Q) (md:=.any) m n F a0 w0.drew hok hsl keep (fun i o hi ho a w h1 h2 h3=>step i o hi ho a w h1 h2 ((Below.refl _ _).drew.trans h3)) rest m (Array.replicate ops.size false) a0 w0.drew ⟨by simp,rfl,rfl,fun _ _=>rfl,Below.refl _ _,fun i _ hl=>(by rw[hrep]at hl;cases hl),fun i _=>hrep i,fun i _ hl=>(by rw[hrep]at hl;cases hl)⟩ hu;rw[show m+(ops.size-m)=ops.size by omega]at h;exact h
end
end
section
open Go.Shelf Go.RowKit
def needsOf(md:Region.Mode)(ops:Array Oper)(i:Nat):List Nat:=((ops[i]?).map (fun o=>(o.after.toList.filter (Region.binds md)).map (·.on))).getD []
def reachN(md:Region.Mode)(ops:Array Oper):Nat→List Nat→List Nat
 | 0,S=>S
 | n+1,S=>reachN md ops n ((S++S.flatMap (needsOf md ops)).eraseDups)
def reachOf(md:Region.Mode)(ops:Array Oper)(n i:Nat):List Nat:=reachN md ops n (needsOf md ops i)
def dstIs(ops:Array Oper)(i s:Nat):Bool:=match ops[i]? with
 | some o=>o.dst==some s
 | none=>false
def framesOk(md:Region.Mode)(ops:Array Oper)(n:Nat)(rd:List (List Nat)):Bool:=
 (List.range ops.size).all fun i=>(needsOf md ops i).all (fun e=>decide (e<i) || !decide (e<ops.size)||(needsOf md ops e).all (fun x=>decide (x≠i)))&&(List.range ops.size).all fun j=>(rd.getD j []).all fun s => !dstIs ops i s||decide (i=j)||(reachOf md ops n j).contains i
def orderOk(md:Region.Mode)(ops:Array Oper):List Nat→List Nat→Bool
 | [],seen=>(List.range ops.size).all fun i=>seen.contains i
 | i::l,seen=>decide (i<ops.size)&&(needsOf md ops i).all (fun e=>seen.contains e)&&orderOk md ops l (i::seen)
section
variable {P : Program} {ops : Array Oper} {Q : Exit → Act → World → Prop} {md : Region.Mode}
theorem reachN_sound{T:Nat→Prop}(dc:∀i,T i→∀j∈needsOf md ops i,T j):∀(n:Nat) (S:List Nat),(∀i∈S,T i)→∀i∈reachN md ops n S,T i
 | 0,S,h,i,hi=>h i hi
 | n + 1, S, h, i, hi => by
  refine reachN_sound dc n _ ?_ i hi;intro j hj;rw[List.mem_eraseDups]at hj;rcases List.mem_append.1 hj with hj|hj
  ·exact h j hj
  ·obtain⟨k,hk,hj⟩:=List.mem_flatMap.1 hj;exact dc k (h k hk) j hj
structure GInv(md:Region.Mode)(ops:Array Oper)(rd:List (List Nat))(Fs:List (List Value→World→Prop))(a0:Act)(w0:World)(listed:Array Bool)(a:Act)(w:World):Prop where
 size:listed.size=ops.size
 defers:a.defers=a0.defers
 slots:a.tmps.size=a0.tmps.size
 old:∀s,(∀j,listed.getD j false=true→dstIs ops j s=false)→a.tmps.getD s undef=a0.tmps.getD s undef
 below:Below w0.heap.size w0 w
 facts:∀j,listed.getD j false=true→Fs.getD j (fun _ _=>True) ((rd.getD j []).map fun s=>a.tmps.getD s undef) w
 down:∀j,listed.getD j false=true→∀e∈needsOf md ops j,listed.getD e false=true
theorem GInv.deep{rd:List (List Nat)}{Fs:List (List Value→World→Prop)}{a0:Act}{w0:World}{listed:Array Bool}{a:Act}{w:World}(h:GInv md ops rd Fs a0 w0 listed a w){i:Nat}(hr:∀e∈needsOf md ops i,listed.getD e false=true)(n e:Nat)(he:e∈reachOf md ops n i):Fs.getD e (fun _ _=>True) ((rd.getD e []).map fun s=>a.tmps.getD s undef) w:=
 h.facts e (reachN_sound (T:=fun j=>listed.getD j false=true) (fun x hx j hj=>h.down x hx j hj) n _ hr e he)
theorem GInv.stays{rd:List (List Nat)}{Fs:List (List Value→World→Prop)}{a0:Act}{w0:World}{listed:Array Bool}{a:Act}{w:World}(h:GInv md ops rd Fs a0 w0 listed a w){i:Nat}(hi:listed.getD i false=false)(n s:Nat)(hs:(List.range ops.size).all (fun j => !dstIs ops j s||(reachOf md ops n j).contains i||decide (i=j))=true):a.tmps.getD s undef=a0.tmps.getD s undef:=by
 refine h.old s fun j hj => ?_;rw[List.all_eq_true]at hs;by_cases hjs:j<ops.size
 ·have:=hs j (List.mem_range.2 hjs);rw[Bool.or_eq_true,Bool.or_eq_true]at this;rcases this with(this|this)|this
  ·simpa using this
  ·have hm:i∈reachOf md ops n j:=by simpa using this
   have:=reachN_sound (md:=md) (ops:=ops) (T:=fun j=>listed.getD j false=true) (fun x hx j hj=>h.down x hx j hj) n _ (h.down j hj) i hm;rw[hi]at this
   cases this
  ·have:i=j:=by simpa using this
   rw[this,hj]at hi
   cases hi
 ·unfold dstIs;rw[Array.getElem?_eq_none (by omega)]
theorem needs_mem(i:Nat)(o:Oper)(ho:ops[i]?=some o)(j:Nat):j∈needsOf md ops i↔∃e∈o.after,Region.binds md e=true∧e.on=j:=by unfold needsOf;rw[ho];simp[and_assoc]
theorem order_all:∀(l seen:List Nat) (listed:Array Bool),orderOk md ops l seen=true→(∀i∈seen,listed.getD i false=true)→listed.size=ops.size→(∀i,i<ops.size→listed.getD i false=true)∨∃i,i∈Region.ready md ops listed
 | [],seen,listed,h,hs,hz=>by
  left;intro i hi;unfold orderOk at h;rw[List.all_eq_true]at h;exact hs i (by simpa using h i (List.mem_range.2 hi))
 | i :: l, seen, listed, h, hs, hz => by
  unfold orderOk at h;simp only[Bool.and_eq_true,decide_eq_true_eq,List.all_eq_true]at h;obtain⟨⟨h1,h2⟩,h3⟩:=h
  cases hl:listed.getD i false with
  | true =>
   refine order_all l (i::seen) listed h3 ?_ hz;intro j hj;rcases List.mem_cons.1 hj with rfl|hj
   ·exact hl
   ·exact hs j hj
  | false =>
   right;refine⟨i,?_⟩;unfold Region.ready;rw[List.mem_filter,List.mem_range];refine⟨h1,?_⟩;rw[Bool.and_eq_true];refine⟨by rw[getD_or _ _ (by omega),hl];rfl,?_⟩;rw[Array.getElem?_eq_getElem h1];simp only[Option.map_some,Option.getD_some];rw[Array.all_eq_true'];intro e he;by_cases hb:Region.binds md e=true
   ·have:=h2 e.on ((needs_mem i _ (Array.getElem?_eq_getElem h1) e.on).2 ⟨e,he,hb,rfl⟩);rw[hs e.on (by simpa using this)];simp
   ·simp[hb]
def GStep(P:Program)(Q:Exit→Act→World→Prop)(ops:Array Oper)(rd:List (List Nat))(Fs:List (List Value→World→Prop))(w0:World)(i:Nat)(o:Oper)(listed:Array Bool)(a:Act)(w:World):Prop:=
 ∀KK:Act→World→Prop,
  (∀v w',Below w0.heap.size w0 w'→(∀j vs,listed.getD j false=true→Fs.getD j (fun _ _=>True) vs w→Fs.getD j (fun _ _=>True) vs w')→Fs.getD i (fun _ _=>True) ((rd.getD i []).map fun s=>(a.put o.dst v).tmps.getD s undef) w'→KK (a.put o.dst v) w') →
  if Region.wanted o (yielded ops a.tmps)=true then o.wp P a w KK Q else KK (a.put o.dst undef) w
theorem wpAny_frames(n : Nat)(rd : List (List Nat))(Fs : List (List Value → World → Prop))(ord : List Nat)(a0 : Act)(w0 : World)(hok : framesOk md ops n rd = true)(hord : orderOk md ops ord [] = true)
  (step:∀i o,ops[i]?=some o→∀listed a w,GInv md ops rd Fs a0 w0 listed a w→listed.getD i false=false→(∀e∈needsOf md ops i,listed.getD e false=true)→GStep P Q ops rd Fs w0 i o listed a w)
  (done:∀listed a w,GInv md ops rd Fs a0 w0 listed a w→(∀i,i<ops.size→listed.getD i false=true)→Q .normal a w):
  ∀k listed a w,GInv md ops rd Fs a0 w0 listed a w→unl ops.size listed=k→wpAny P md ops Q k listed a w
 | 0, listed, a, w, h, hk => by
  have hall:∀i,i<ops.size→listed.getD i false=true:=fun i hi=>by have h1:(List.range ops.size).filter (fun j => !listed.getD j false)=[]:=List.length_eq_zero_iff.1 hk;rw[List.filter_eq_nil_iff]at h1;have:=h1 i (List.mem_range.2 hi);simpa using this
  refine⟨?_,done listed a w h hall⟩
  cases hr:Region.ready md ops listed with
  | nil=>rfl
  | cons i l=>
   obtain⟨h1,h2,_⟩:=ready_mem (md:=md) (ops:=ops) (listed:=listed) (i:=i) (by rw[hr];exact List.mem_cons_self);rw[getD_or _ _ (by rw[h.size];exact h1),hall i h1]at h2
   cases h2
 | k + 1, listed, a, w, h, hk => by
  refine⟨fun hr => ?_,fun i hi => ?_⟩
  ·rcases order_all ord [] listed hord (fun i hi=>by cases hi) h.size with h1|⟨i,hi⟩
   ·exact done listed a w h h1
   ·rw[hr]at hi;cases hi
  ·obtain⟨hi1,hi2,o,ho,hd⟩:=ready_mem hi;rw[getD_or _ _ (by rw[h.size];omega)]at hi2;have hneed:∀e∈needsOf md ops i,listed.getD e false=true:=fun e he=>by
    obtain⟨e',h1,h2,rfl⟩:=(needs_mem i o ho e).1 he;exact hd e' h1 h2
   unfold wpOp;rw[ho];simp only
   have hs := step i o ho listed a w h hi2 hneed (wpAny P md ops Q k (listed.setIfInBounds i true)) (by
    intro v w' hb hkeep hnew;refine wpAny_frames n rd Fs ord a0 w0 hok hord step done k _ _ _ ?_ ?_
    ·have hput:∀s,dstIs ops i s=false→(a.put o.dst v).tmps.getD s undef=a.tmps.getD s undef:=fun s hs=>by
      unfold dstIs at hs;rw[ho]at hs
      cases hdst:o.dst with
      | none=>rfl
      | some d=>
       refine put_get _ _ _ _ ?_;rintro rfl;simp[hdst]at hs
     refine⟨by simp[h.size],?_,?_,?_,hb,?_,?_⟩
     ·cases hdst:o.dst<;>exact h.defers
     ·rw[←h.slots]
      cases hdst:o.dst with
      | none=>rfl
      | some d=>simp[Act.put]
     ·intro s hs;have h1:=hs i (by rw[lget_set _ _ _ (by rw[h.size];omega),if_pos rfl]);rw[hput s h1];refine h.old s fun j hj=>hs j ?_;rw[lget_set _ _ _ (by rw[h.size];omega)];split
      ·rfl
      ·exact hj
     ·intro j hj;rw[lget_set _ _ _ (by rw[h.size];omega)]at hj;by_cases hij:i=j
      ·subst hij;exact hnew
      ·rw[if_neg hij]at hj;have h5:=hkeep j _ hj (h.facts j hj);have e:((rd.getD j []).map fun s=>(a.put o.dst v).tmps.getD s undef)=((rd.getD j []).map fun s=>a.tmps.getD s undef):=by
        apply List.map_congr_left;intro s hs;refine hput s ?_;unfold framesOk at hok;rw[List.all_eq_true]at hok;have h6:=hok i (List.mem_range.2 hi1);rw[Bool.and_eq_true,List.all_eq_true,List.all_eq_true]at h6;by_cases hjs:j<ops.size
        ·have h7:=h6.2 j (List.mem_range.2 hjs);rw[List.all_eq_true]at h7;have h8:=h7 s hs;rw[Bool.or_eq_true,Bool.or_eq_true]at h8;rcases h8 with(h8|h8)|h8
         ·simpa using h8
         ·exact absurd (by simpa using h8) hij
         ·have hm:i∈reachOf md ops n j:=by simpa using h8
          have:=reachN_sound (md:=md) (ops:=ops) (T:=fun j=>listed.getD j false=true) (fun x hx j hj=>h.down x hx j hj) n _ (h.down j hj) i hm;rw[hi2]at this
          cases this
        ·have:listed.getD j false=false:=by
          simp only[Array.getD_eq_getD_getElem?];rw[Array.getElem?_eq_none (by rw[h.size];omega)];rfl
         rw[this]at hj
         cases hj
       rw[e];exact h5
     ·intro j hj e he;rw[lget_set _ _ _ (by rw[h.size];omega)]at hj ⊢;by_cases hie:i=e
      ·rw[if_pos hie]
      ·rw[if_neg hie];by_cases hij:i=j
       ·subst hij;exact hneed e he
       ·rw[if_neg hij]at hj;exact h.down j hj e he
    ·have:=unl_set ops.size listed i hi1 (by rw[h.size];omega) hi2;omega)
   by_cases hw:Region.wanted o (yielded ops a.tmps)=true
   ·rw[if_pos hw]at hs ⊢;exact .inl hs
   ·rw[if_neg hw]at hs ⊢;exact hs
theorem wp_region_frames{id:Nat}{a0:Act}{w0:World}(n:Nat)(rd:List (List Nat))(Fs:List (List Value→World→Prop))(ord:List Nat)(hmx:P.follows .mixedOrders=true)(hok:framesOk .any ops n rd=true)(hord:orderOk .any ops ord []=true)
  (step:∀i o,ops[i]?=some o→∀listed a w,GInv .any ops rd Fs a0 w0.drew listed a w→listed.getD i false=false→(∀e∈needsOf .any ops i,listed.getD e false=true)→GStep P Q ops rd Fs w0.drew i o listed a w)
  (done:∀listed a w,GInv .any ops rd Fs a0 w0.drew listed a w→(∀i,i<ops.size→listed.getD i false=true)→Q .normal a w):(Code.region id ops true).wp P Q a0 w0:=by
 have hrep:∀i,(Array.replicate ops.size false).getD i false=false:=fun i=>by
  simp only[Array.getD_eq_getD_getElem?];by_cases h:i<ops.size
  ·rw[Array.getElem?_eq_getElem (by simpa using h)];simp
  ·rw[Array.getElem?_eq_none (by simpa using Nat.le_of_not_lt h)];rfl
 refine wp_region_any hmx ?_;have hu:unl ops.size (Array.replicate ops.size false)=ops.size:=by
  unfold unl;have:(List.range ops.size).filter (fun j => !(Array.replicate ops.size false).getD j false)=List.range ops.size:=by rw[List.filter_eq_self];intro j _;rw[hrep];rfl
  rw[this,List.length_range]
 exact wpAny_frames (P:=P) (Q:=Q) (md:=.any) n rd Fs ord a0 w0.drew hok hord step done ops.size (Array.replicate ops.size false) a0 w0.drew ⟨by simp,rfl,rfl,fun _ _=>rfl,Below.refl _ _,fun i hl=>(by rw[hrep]at hl;cases hl),fun i hl=>(by rw[hrep]at hl;cases hl)⟩ hu
end
end
section
open Go.Shelf Go.RowKit
structure Fq where
 sem:List Value→World→Prop
 keep:∀vs w w',Below w.heap.size w w'→sem vs w→sem vs w'
def Fq.eq(e:Value):Fq:=⟨fun vs _=>vs.getD 0 undef=e,fun _ _ _ _ h=>h⟩
theorem fq_keep(fs:List Fq)(j:Nat)(vs:List Value){w w':World}(hb:Below w.heap.size w w')(h:(fs.map Fq.sem).getD j (fun _ _=>True) vs w):(fs.map Fq.sem).getD j (fun _ _=>True) vs w':=by
 rw[List.getD_eq_getElem?_getD,List.getElem?_map]at h ⊢
 cases hf:fs[j]? with
 | none=>trivial
 | some f=>rw[hf]at h;exact f.keep vs w w' hb h
section
variable {P : Program} {ops : Array Oper} {Q : Exit → Act → World → Prop}
theorem GInv.growQ{rd:List (List Nat)}{fs:List Fq}{a0:Act}{w0:World}{listed:Array Bool}{a:Act}{w:World}(h:GInv .any ops rd (fs.map Fq.sem) a0 w0 listed a w){i:Nat}{dst:Option Tmp}{KK:Act→World→Prop}
  (hK:∀v w',Below w0.heap.size w0 w'→(∀j vs,listed.getD j false=true→(fs.map Fq.sem).getD j (fun _ _=>True) vs w→(fs.map Fq.sem).getD j (fun _ _=>True) vs w')→(fs.map Fq.sem).getD i (fun _ _=>True) ((rd.getD i []).map fun s=>(a.put dst v).tmps.getD s undef) w'→KK (a.put dst v) w') (v:Value) (w':World) (hb:Below w.heap.size w w') (hf:(fs.map Fq.sem).getD i (fun _ _=>True) ((rd.getD i []).map fun s=>(a.put dst v).tmps.getD s undef) w'):KK (a.put dst v) w':=
 hK v w' (h.below.trans (hb.mono h.below.size)) (fun j vs _ hj=>fq_keep fs j vs hb hj) hf
theorem GInv.keptQ{md:Region.Mode}{rd:List (List Nat)}{Fs:List (List Value→World→Prop)}{a0:Act}{w0:World}{listed:Array Bool}{a:Act}{w:World}(h:GInv md ops rd Fs a0 w0 listed a w)(s:Nat)(hs:(List.range ops.size).all (fun j => !dstIs ops j s)=true):a.tmps.getD s undef=a0.tmps.getD s undef:=by
 refine h.old s fun j _ => ?_;rw[List.all_eq_true]at hs;by_cases hjs:j<ops.size
 ·simpa using hs j (List.mem_range.2 hjs)
 ·unfold dstIs;rw[Array.getElem?_eq_none (by omega)]
end
end
section
open Go.Shelf Go.RowKit
theorem op_is{l:List Oper}{i:Nat}{o o':Oper}(h:l.toArray[i]?=some o)(h':l[i]?=some o'):o'=o:=by rw[List.getElem?_toArray,h']at h;exact Option.some.inj h
def frameV:List Bool→Nat→List Value→Array Value→List Value
 | b::bs,i,v::vs,tm=>(bif b then tm.getD i undef else v)::frameV bs (i+1) vs tm
 | _,_,_,_=>[]
theorem frameV_get:∀(bs:List Bool) (i:Nat) (l:List Value) (tm:Array Value),bs.length=l.length→(frameV bs i l tm).length=l.length∧∀s,s<l.length→(frameV bs i l tm)[s]?=some (bif bs.getD s false then tm.getD (i+s) undef else l.getD s undef)
 | [],i,[],tm,h=>⟨rfl,fun s hs=>by simp at hs⟩
 | b :: bs, i, v :: vs, tm, h => by
  obtain⟨h1,h2⟩:=frameV_get bs (i+1) vs tm (by simpa using h);refine⟨by simp[frameV,h1],fun s hs => ?_⟩
  cases s with
  | zero=>simp[frameV,List.getD]
  | succ s=>
   have:=h2 s (by simpa using hs);simp only[frameV,List.getElem?_cons_succ,this,List.getD_cons_succ];rw[show i+1+s=i+(s+1) by omega]
theorem frame_of(ops:Array Oper)(l:List Value)(tm:Array Value)(bs:List Bool)(N:Nat)(hN:l.length=N)(hb:bs.length=N)(hs:tm.size=l.length)(hold:∀s,(List.range ops.size).all (fun j => !dstIs ops j s)=true→tm.getD s undef=l.toArray.getD s undef)
  (hm:(List.range N).all (fun s=>bs.getD s false||(List.range ops.size).all (fun j => !dstIs ops j s))=true):tm=(frameV bs 0 l tm).toArray:=by
 obtain⟨h1,h2⟩:=frameV_get bs 0 l tm (by omega);apply Array.ext
 ·simp[h1,hs]
 ·intro i hi1 hi2;have hil:i<l.length:=by omega
  have h3:=h2 i hil;rw[List.all_eq_true]at hm;have h4:=hm i (List.mem_range.2 (by omega));have h5:(frameV bs 0 l tm)[i]?=some tm[i]:=by
   rw[h3,Nat.zero_add]
   cases hbi:bs.getD i false with
   | true=>
    simp only[cond_true,Array.getD_eq_getD_getElem?,Array.getElem?_eq_getElem hi1,Option.getD_some]
   | false=>
    rw[hbi,Bool.false_or]at h4;have h6:=hold i h4;rw[Array.getD_eq_getD_getElem?,Array.getElem?_eq_getElem hi1,Option.getD_some]at h6;rw[h6];simp[Array.getD_eq_getD_getElem?,List.getD,hil]
  rw[List.getElem_toArray];rw[List.getElem?_eq_getElem (by omega)]at h5;injection h5 with h5;exact h5.symm
section
variable {ops : Array Oper}
theorem GInv.frame{md:Region.Mode}{rd:List (List Nat)}{Fs:List (List Value→World→Prop)}{a0:Act}{w0:World}{listed:Array Bool}{a:Act}{w:World}(h:GInv md ops rd Fs a0 w0 listed a w)(l:List Value)(ha:a0.tmps=l.toArray)(bs:List Bool)(N:Nat)(hN:l.length=N)(hb:bs.length=N)
  (hm:(List.range N).all (fun s=>bs.getD s false||(List.range ops.size).all (fun j => !dstIs ops j s))=true):a.tmps=(frameV bs 0 l a.tmps).toArray:=
 frame_of ops l a.tmps bs N hN hb (by rw[h.slots,ha];simp) (fun s hs=>by rw[h.keptQ s hs,ha]) hm
end
end
section
open Go.RowKit
abbrev Bs:=List UInt8
def len1:Bs→Option (Nat × Bs)
 | []=>none
 | a::ys=>if a.toNat<128 then none else some (a.toNat,ys)
def len2:Bs→Option (Nat × Bs)
 | []=>none
 | [_]=>none
 | a::b::ys=>if a.toNat*256+b.toNat<256 then none else some (a.toNat*256+b.toNat,ys)
def lenD:Bs→Option (Nat × Bs)
 | []=>none
 | f::xs=>if f.toNat<128 then some (f.toNat,xs) else if f.toNat=129 then len1 xs else if f.toNat=130 then len2 xs else none
def readD(bs:Bs):Except Nat ((UInt8 × Bs) × Bs):=
 if 4096<bs.length then .error 3 else match bs with
 | []=>.error 30
 | t::xs=>if t.toNat%32=31 then .error 30 else match lenD xs with
  | none=>.error 30
  | some (n,ys)=>if ys.length<n then .error 30 else .ok ((t,ys.take n),ys.drop n)
def headD(n:Nat):Bs:=if n<128 then [UInt8.ofNat n] else if n<256 then [129,UInt8.ofNat n] else [130,UInt8.ofNat (n/256),UInt8.ofNat n]
def writeD(t:UInt8)(b:Bs):Bs:=t::(headD b.length++b)
theorem headD_len(n:Nat):(headD n).length=if n<128 then 1 else if n<256 then 2 else 3:=by
 unfold headD
 repeat' split
 all_goals rfl
theorem u8_of_toNat(c:UInt8)(n:Nat)(h:n%256=c.toNat):UInt8.ofNat n=c:=by apply UInt8.toNat_inj.1;rw[UInt8.toNat_ofNat'];exact h
theorem lenD_form:∀ {xs:Bs} {n:Nat} {ys:Bs},lenD xs=some (n,ys)→xs=headD n++ys∧n<65536:=by
 intro xs n ys h
 cases xs with
 | nil=>cases h
 | cons f xs =>
  have hf:=f.toNat_lt;simp only[lenD]at h;by_cases h1:f.toNat<128
  ·rw[if_pos h1]at h
   cases h
   exact⟨by unfold headD;rw[if_pos h1,u8_of_toNat f _ (by omega)];rfl,by omega⟩
  rw[if_neg h1]at h;by_cases h2:f.toNat=129
  ·rw[if_pos h2]at h
   cases xs with
   | nil=>cases h
   | cons a xs =>
    simp only[len1]at h;have ha:=a.toNat_lt;by_cases h3:a.toNat<128
    ·rw[if_pos h3]at h;cases h
    rw[if_neg h3]at h
    cases h
    have e:f=129:=UInt8.toNat_inj.1 h2;exact⟨by unfold headD;rw[if_neg h3,if_pos (by omega),u8_of_toNat a _ (by omega),e];rfl,by omega⟩
  rw[if_neg h2]at h;by_cases h3:f.toNat=130
  ·rw[if_pos h3]at h;match xs,h with
   | [],h=>cases h
   | [_],h=>cases h
   | a :: b :: xs, h =>
    simp only[len2]at h;have ha:=a.toNat_lt;have hb:=b.toNat_lt;by_cases h4:a.toNat*256+b.toNat<256
    ·rw[if_pos h4]at h;cases h
    rw[if_neg h4]at h
    cases h
    have e:f=130:=UInt8.toNat_inj.1 h3;exact⟨by unfold headD;rw[if_neg (by omega),if_neg h4,u8_of_toNat a ((a.toNat*256+b.toNat)/256) (by omega),u8_of_toNat b (a.toNat*256+b.toNat) (by omega),e];rfl,by omega⟩
  rw[if_neg h3]at h
  cases h
theorem lenD_head(n:Nat)(ys:Bs)(hn:n<65536):lenD (headD n++ys)=some (n,ys):=by
 unfold headD;by_cases h1:n<128
 ·rw[if_pos h1];have:(UInt8.ofNat n).toNat=n:=by rw[UInt8.toNat_ofNat'];omega
  simp[lenD,this,h1]
 rw[if_neg h1];by_cases h2:n<256
 ·rw[if_pos h2];have:(UInt8.ofNat n).toNat=n:=by rw[UInt8.toNat_ofNat'];omega
  simp[lenD,len1,this,h1]
 rw[if_neg h2];have e1:(UInt8.ofNat (n/256)).toNat=n/256:=by rw[UInt8.toNat_ofNat'];omega
 have e2:(UInt8.ofNat n).toNat=n%256:=by rw[UInt8.toNat_ofNat']
 have e3:n/256*256+n%256=n:=by omega
 simp only[lenD,len2,List.cons_append,List.nil_append,e1,e2,e3,if_neg h2];rfl
theorem read_form{bs:Bs}{t:UInt8}{b r:Bs}(h:readD bs=.ok ((t,b),r)):bs=writeD t b++r∧t.toNat%32≠31∧bs.length≤4096:=by
 unfold readD at h;by_cases h0:4096<bs.length
 ·rw[if_pos h0]at h;cases h
 rw[if_neg h0]at h
 cases bs with
 | nil=>cases h
 | cons c xs =>
  simp only[]at h;by_cases h1:c.toNat%32=31
  ·rw[if_pos h1]at h;cases h
  rw[if_neg h1]at h
  cases hl:lenD xs with
  | none=>rw[hl]at h;cases h
  | some q =>
   obtain⟨n,ys⟩:=q;rw[hl]at h;simp only[]at h;by_cases h2:ys.length<n
   ·rw[if_pos h2]at h;cases h
   rw[if_neg h2]at h
   cases h
   obtain⟨e,hn⟩:=lenD_form hl;refine⟨?_,h1,by omega⟩;unfold writeD;rw[List.length_take,Nat.min_eq_left (by omega),e];simp
theorem write_read{t:UInt8}{b r:Bs}(ht:t.toNat%32≠31)(hl:(writeD t b++r).length≤4096):readD (writeD t b++r)=.ok ((t,b),r):=by unfold readD;rw[if_neg (by omega)];unfold writeD at hl ⊢;simp only[List.cons_append,List.append_assoc];rw[if_neg ht,lenD_head _ _ (by simp at hl;omega)];simp
theorem read_err{bs:Bs}{k:Nat}(h:readD bs=.error k):k=3∧4096<bs.length∨k=30∧bs.length≤4096:=by
 unfold readD at h;by_cases h0:4096<bs.length
 ·rw[if_pos h0]at h;cases h;exact .inl ⟨rfl,h0⟩
 rw[if_neg h0]at h;refine .inr ⟨?_,by omega⟩
 cases bs with
 | nil=>cases h;rfl
 | cons c xs =>
  simp only[]at h;by_cases h1:c.toNat%32=31
  ·rw[if_pos h1]at h;cases h;rfl
  rw[if_neg h1]at h
  cases hl:lenD xs with
  | none=>rw[hl]at h;cases h;rfl
  | some q =>
   rw[hl]at h;simp only[]at h;by_cases h2:q.2.length<q.1
   ·rw[if_pos h2]at h;cases h;rfl
   rw[if_neg h2]at h
   cases h
theorem read_len{bs:Bs}{t:UInt8}{b r:Bs}(h:readD bs=.ok ((t,b),r)):r.length+2≤bs.length∧b.length+2≤bs.length∧r.length+b.length+2≤bs.length:=by
 obtain⟨e,_⟩:=read_form h;have hh:=headD_len b.length;have:1≤(headD b.length).length:=by rw[hh];(repeat' split)<;>omega
 rw[e];simp[writeD];omega
def allD:Nat→Bs→List (UInt8 × Bs) × Nat
 | 0,_=>([],0)
 | m+1,bs=>if bs=[] then ([],0) else match readD bs with
  | .error k=>([],k)
  | .ok (p,r)=>(p::(allD m r).1,(allD m r).2)
end
end Go.Proofs.YtkhnnhbmchnajaaGreat
