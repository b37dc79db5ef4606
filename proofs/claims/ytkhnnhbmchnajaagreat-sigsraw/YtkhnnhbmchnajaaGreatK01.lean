import Derived.Test.YtkhnnhbmchnajaaGreatK00
import Derived.Laws.BytesArg
import Derived.Laws.AppendOwnNone
import Derived.RangeFuncNested
import Derived.RangeFuncBound
import Derived.RangeFuncCalls
import Derived.RangeFuncLeaves
import Derived.Shelf.Abstract
import Derived.Shelf.RegionOpen
import Derived.OwnWalkIn
import Derived.TacticsInMore
import Derived.LoopNIn
import Derived.LoopIn
set_option maxRecDepth 100000
set_option maxHeartbeats 40000000
set_option linter.unusedVariables false
set_option linter.unusedSimpArgs false
namespace Go.Proofs.YtkhnnhbmchnajaaGreat
section
open Go.RowKit
def Gs (H u y1 y0 q r:Int):Prop:=q*y1+r=H∧(H*4294967296+u)/(y1*4294967296+y0)≤q∧0≤r∧0≤q∧q≤4294967297
def Fd (H u y1 y0 q:Int):Prop:=q=(H*4294967296+u)/(y1*4294967296+y0)
structure Hv(H u y1 y0:Int):Prop where
 h0:0≤H
 h1:H<y1*4294967296+y0
 u0:0≤u
 u1:u<4294967296
 a0:2147483648≤y1
 a1:y1<4294967296
 b0:0≤y0
 b1:y0<4294967296
theorem Hv.qlt{H u y1 y0:Int}(h:Hv H u y1 y0):(H*4294967296+u)/(y1*4294967296+y0)<4294967296:=by
 obtain⟨h0,h1,u0,u1,a0,a1,b0,b1⟩:=h;apply Int.ediv_lt_of_lt_mul (by omega);have:(H+1)*4294967296≤(y1*4294967296+y0)*4294967296:=by omega
 generalize y1*4294967296+y0=Y at *;omega
theorem Hv.qge{H u y1 y0:Int}(h:Hv H u y1 y0):0≤(H*4294967296+u)/(y1*4294967296+y0):=by obtain⟨h0,h1,u0,u1,a0,a1,b0,b1⟩:=h;exact Int.ediv_nonneg (by omega) (by omega)
theorem Hv.start{H u y1 y0:Int}(h:Hv H u y1 y0):Gs H u y1 y0 (H/y1) (H%y1)∧H%y1<4294967296:=by
 obtain⟨h0,h1,u0,u1,a0,a1,b0,b1⟩:=h;have e:=Int.mul_ediv_add_emod H y1;have r0:=Int.emod_nonneg H (show y1≠0 by omega);have r1:=Int.emod_lt_of_pos H (show 0<y1 by omega);have q0:0≤H/y1:=Int.ediv_nonneg h0 (by omega);have qle:H/y1≤4294967297:=by
  have:H/y1<4294967298:=by apply Int.ediv_lt_of_lt_mul (by omega);omega
  omega
 refine⟨⟨by rw[Int.mul_comm];exact e,?_,r0,q0,qle⟩,by omega⟩;have:(H*4294967296+u)/(y1*4294967296+y0)<H/y1+1:=by
  apply Int.ediv_lt_of_lt_mul (by omega);generalize H/y1=q at *;generalize H%y1=r at *;have e2:(q+1)*(y1*4294967296+y0)=(y1*q)*4294967296+y1*4294967296+q*y0+y0:=by grind
  have e3:0≤q*y0:=Int.mul_nonneg q0 b0;rw[e2,←e];generalize y1*q=P at *;generalize q*y0=R at *;omega
 omega
theorem Gs.step{H u y1 y0 q r:Int}(hv:Hv H u y1 y0)(h:Gs H u y1 y0 q r)(hr:r<4294967296)(hc:4294967296≤q∨4294967296*r+u<q*y0):
  Gs H u y1 y0 (q-1) (r+y1)∧1≤q∧q-1≤4294967296:=by
 have hq:=hv.qlt;have hqg:=hv.qge;obtain⟨h0,h1,u0,u1,a0,a1,b0,b1⟩:=hv;obtain⟨g1,g2,g3,g4,g5⟩:=h;have key:(H*4294967296+u)/(y1*4294967296+y0)≤q-1:=by
  rcases hc with hc|hc
  ·omega
  ·have:(H*4294967296+u)/(y1*4294967296+y0)<q:=by
    apply Int.ediv_lt_of_lt_mul (by omega);have e2:q*(y1*4294967296+y0)=(q*y1)*4294967296+q*y0:=by grind
    rw[e2,←g1];generalize q*y1=P at *;generalize q*y0=R at *;omega
   omega
 refine⟨⟨?_,key,by omega,by omega,by omega⟩,by omega,by omega⟩;rw[←g1];grind
theorem Gs.found{H u y1 y0 q r:Int}(hv:Hv H u y1 y0)(h:Gs H u y1 y0 q r)(hc:q*y0≤4294967296*r+u):Fd H u y1 y0 q:=by
 obtain⟨h0,h1,u0,u1,a0,a1,b0,b1⟩:=hv;obtain⟨g1,g2,g3,g4,g5⟩:=h;unfold Fd;have:q≤(H*4294967296+u)/(y1*4294967296+y0):=by
  apply(Int.le_ediv_iff_mul_le (by omega)).2;have e2:q*(y1*4294967296+y0)=(q*y1)*4294967296+q*y0:=by grind
  rw[e2,←g1];generalize q*y1=P at *;generalize q*y0=R at *;omega
 omega
theorem Gs.over{H u y1 y0 q r:Int}(hv:Hv H u y1 y0)(h:Gs H u y1 y0 q r)(hq:q≤4294967296)(hr:4294967296≤r):Fd H u y1 y0 q:=by refine h.found hv ?_;obtain⟨h0,h1,u0,u1,a0,a1,b0,b1⟩:=hv;obtain⟨g1,g2,g3,g4,g5⟩:=h;have:q*y0≤4294967296*4294967295:=Int.mul_le_mul hq (by omega) b0 (by omega);omega
theorem Fd.lt{H u y1 y0 q:Int}(hv:Hv H u y1 y0)(h:Fd H u y1 y0 q):0≤q∧q<4294967296:=by unfold Fd at h;have:=hv.qlt;have:=hv.qge;omega
theorem Fd.rest{H u y1 y0 q:Int}(hv:Hv H u y1 y0)(h:Fd H u y1 y0 q):(H*4294967296+u-q*(y1*4294967296+y0))%18446744073709551616=(H*4294967296+u)%(y1*4294967296+y0):=by
 unfold Fd at h;obtain⟨h0,h1,u0,u1,a0,a1,b0,b1⟩:=hv;have e:H*4294967296+u-q*(y1*4294967296+y0)=(H*4294967296+u)%(y1*4294967296+y0):=by rw[Int.emod_def,h,Int.mul_comm (y1*4294967296+y0)]
 rw[e];have r0:=Int.emod_nonneg (H*4294967296+u) (show y1*4294967296+y0≠0 by omega);have r1:=Int.emod_lt_of_pos (H*4294967296+u) (show 0<y1*4294967296+y0 by omega);exact Int.emod_eq_of_lt r0 (by omega)
theorem two_halves(hi u1 u0 Y q1 q0:Int)(hY:0<Y)(h1:q1=(hi*4294967296+u1)/Y)(h0:q0=((hi*4294967296+u1)%Y*4294967296+u0)/Y):
  q1*4294967296+q0=(hi*18446744073709551616+(u1*4294967296+u0))/Y:=by
 have e:=Int.mul_ediv_add_emod (hi*4294967296+u1) Y;rw[←h1]at e;generalize (hi*4294967296+u1)%Y=R at *;have e2:hi*18446744073709551616+(u1*4294967296+u0)=(R*4294967296+u0)+Y*(q1*4294967296):=by
  have:hi*18446744073709551616+(u1*4294967296+u0)=(hi*4294967296+u1)*4294967296+u0:=by omega
  rw[this,←e]
  grind
 rw[e2,Int.add_mul_ediv_left _ _ (by omega),←h0];omega
theorem wrap_prod(q b:Int)(h0:0≤q)(h1:q<4294967296)(b0:0≤b)(b1:b<4294967296):IntKind.u64.wrap (q*b)=q*b:=by rw[IntKind.wrap_u64];have a:0≤q*b:=Int.mul_nonneg h0 b0;have c:q*b≤4294967295*4294967295:=Int.mul_le_mul (by omega) (by omega) b0 (by omega);exact Int.emod_eq_of_lt a (by omega)
theorem wrap_back(R a:Int){u b:Int}(h0:0≤R)(hv:Hv R u a b):IntKind.u64.wrap (R/a*a)=R-R%a:=by have e:=Int.mul_ediv_add_emod R a;have r0:=Int.emod_nonneg R (show a≠0 by have:=hv.a0;omega);have x:=hv.h1;have y:=hv.a1;have z:=hv.b1;rw[IntKind.wrap_u64,Int.mul_comm,show a*(R/a)=R-R%a by omega];have q0:0≤a*(R/a):=Int.mul_nonneg (by have:=hv.a0;omega) (Int.ediv_nonneg h0 (by have:=hv.a0;omega));exact Int.emod_eq_of_lt (by omega) (by omega)
theorem back_nonneg(R a:Int)(h0:0≤R)(ha:0<a):0≤R-R%a:=by have e:=Int.mul_ediv_add_emod R a;have:0≤a*(R/a):=Int.mul_nonneg (by omega) (Int.ediv_nonneg h0 (by omega));omega
theorem wrap_chain(hi u1 q y:Int):IntKind.u64.wrap (IntKind.u64.wrap (IntKind.u64.wrap (hi*4294967296)+u1)-IntKind.u64.wrap (q*y))=(hi*4294967296+u1-q*y)%18446744073709551616:=by simp only[IntKind.wrap_u64];generalize q*y=Z;omega
theorem div64_hi(hi lo y : Int)(w : World)(h0 : 1 ≤ hi)(h1 : hi < y)(l0 : 0 ≤ lo)(l1 : lo < 18446744073709551616)(y0 : 9223372036854775808 ≤ y)(y1 : y < 18446744073709551616) :
  Calls Tryz.prog 153 #[.int .u64 hi,.int .u64 lo,.int .u64 y] w fun e w'=>∃r,e=.returned (.tuple #[.int .u64 ((hi*18446744073709551616+lo)/y),.int .u64 r])∧w'=w:=by
 have HL:=lead_any y w (by omega) y1;have e64:64-blen y.toNat=0:=by rw[blen_eq y.toNat 63 (by omega) (by omega)]
 rw[e64]at HL;clear e64;obtain⟨a,ea⟩:∃a,y/4294967296=a:=⟨_,rfl⟩
 obtain⟨b,eb⟩:∃b,bits .and .u64 y 4294967295=b:=⟨_,rfl⟩
 obtain⟨u1,eu1⟩:∃u1,lo/4294967296=u1:=⟨_,rfl⟩
 obtain⟨u0,eu0⟩:∃u0,bits .and .u64 lo 4294967295=u0:=⟨_,rfl⟩
 have mask:∀z:Int,0≤z→z<18446744073709551616→bits .and .u64 z 4294967295=z%4294967296:=fun z z0 z1=>by obtain⟨z,rfl⟩:=Int.eq_ofNat_of_zero_le z0;rw[low_half z (by omega)];omega
 have hbm:b=y%4294967296:=by rw[←eb];exact mask y (by omega) y1
 have hum:u0=lo%4294967296:=by rw[←eu0];exact mask lo l0 l1
 have eo:bits .or .u64 hi (lo/18446744073709551616)=hi:=by rw[Int.ediv_eq_zero_of_lt l0 l1];obtain⟨z,rfl⟩:=Int.eq_ofNat_of_zero_le (show 0≤hi by omega);have:=bits_or_u64_nat z 0 (by omega) (by omega);simpa using this
 have a0:2147483648≤a:=by omega
 have a1:a<4294967296:=by omega
 have b0:0≤b:=by omega
 have b1:b<4294967296:=by omega
 have u10:0≤u1:=by omega
 have u11:u1<4294967296:=by omega
 have u00:0≤u0:=by omega
 have u01:u0<4294967296:=by omega
 have hY:a*4294967296+b=y:=by omega
 have elo:lo=u1*4294967296+u0:=by omega
 have hv:Hv hi u1 a b:=⟨by omega,by omega,u10,u11,a0,a1,b0,b1⟩
 have HV:Hid (Hv hi u1 a b):=hv;have hs:=hv.start;obtain⟨qq,eqq⟩:∃q2,hi/a=q2:=⟨_,rfl⟩
 obtain⟨PP,ePP⟩:∃P2,IntKind.u64.wrap (qq*a)=P2:=⟨_,rfl⟩
 have hqqe:qq=hi/a:=eqq.symm;have hPPe:PP=hi-hi%a:=by rw[←ePP,hqqe];exact wrap_back hi a (by omega) hv
 obtain⟨rr,err⟩:∃r2,hi-PP=r2:=⟨_,rfl⟩
 have hrre:rr=hi%a:=by omega
 have hst0:Gs hi u1 a b qq rr∧rr<4294967296:=by rw[hqqe,hrre];exact hs
 have HST0:Hid _:=hst0;have hrr0:=hst0.1.2.2.1;have hrr1:=hst0.2;have hPP0:0≤PP∧PP≤hi:=by have:=back_nonneg hi a (by omega) (by omega);omega
 have HY:Hid _:=hY;have HLO:Hid _:=elo;clear hst0 hv hs hqqe hPPe hrre mask hbm hum hY elo;go_enter Tryz.func153,Tryz.ntmps153;go_wp2_with (go_at_call 124;refine HL.mono ?_;rintro e w' ⟨rfl,rfl⟩)
 go_loop [15,16] (fun vq vr=>∃q r:Int,vq=.int .u64 q∧vr=.int .u64 r∧Gs hi u1 a b q r∧r<4294967296) (fun vq _=>(intOf vq).toNat)
 case atStart=>exact⟨_,_,rfl,rfl,by rw[eqq];exact HST0.out.1,HST0.out.2⟩
 case round =>
  obtain⟨q,r,rfl,rfl,hg,hr⟩:=hrel;have hr0:=hg.2.2.1;have hq0:=hg.2.2.2.1;have hqm:=hg.2.2.2.2;obtain⟨M,hM⟩:∃M,IntKind.u64.wrap (q*b)=M:=⟨_,rfl⟩
  by_cases hA:4294967296≤q
  ·have hst:=hg.step HV.out hr (.inl hA);obtain⟨q',e1⟩:∃q',q-1=q':=⟨_,rfl⟩
   obtain⟨r',e2⟩:∃r',r+a=r':=⟨_,rfl⟩
   rw[e1,e2]at hst;have HG:Hid (Gs _ _ _ _ _ _):=hst.1;have hq1:1≤q:=hst.2.1;have hq2:q'≤4294967296:=hst.2.2;have HD:Hid (q'.toNat<q.toNat):=by unfold Hid;omega
   by_cases hC:4294967296≤r'
   ·have hF:Fd hi u1 a b q':=HG.out.over HV.out hq2 hC;clear hst hg HG HD;have hY:=HY.out;have elo:=HLO.out;have hq1b:=hF.lt HV.out;obtain⟨W1,w1⟩:∃W1,IntKind.u64.wrap (hi*4294967296)=W1:=⟨_,rfl⟩
    obtain⟨W2,w2⟩:∃W2,IntKind.u64.wrap (W1+u1)=W2:=⟨_,rfl⟩
    obtain⟨W3,w3⟩:∃W3,IntKind.u64.wrap (q'*y)=W3:=⟨_,rfl⟩
    obtain⟨R,w4⟩:∃R,IntKind.u64.wrap (W2-W3)=R:=⟨_,rfl⟩
    have eR:R=(hi*4294967296+u1)%y:=by rw[←w4,←w3,←w2,←w1,wrap_chain];have:=hF.rest HV.out;rw[hY]at this;exact this
    have hv2:Hv R u0 a b:=by have x0:=Int.emod_nonneg (hi*4294967296+u1) (show y≠0 by omega);have x1:=Int.emod_lt_of_pos (hi*4294967296+u1) (show 0<y by omega);exact⟨by omega,by omega,u00,u01,a0,a1,b0,b1⟩
    have hR0:=hv2.h0;have HFIN:Hid (∀p,Fd R u0 a b p→q'*4294967296+p=(hi*18446744073709551616+lo)/y):=fun p hp=>by unfold Fd at hp hF;rw[hY]at hp hF;rw[elo];exact two_halves hi u1 u0 y q' p (by omega) hF (by rw[←eR];exact hp)
    have hs2:=hv2.start;obtain⟨q2,eq2⟩:∃q2,R/a=q2:=⟨_,rfl⟩
    obtain⟨P2,eP2⟩:∃P2,IntKind.u64.wrap (q2*a)=P2:=⟨_,rfl⟩
    have hq2e:q2=R/a:=eq2.symm;have hP2e:P2=R-R%a:=by rw[←eP2,hq2e];exact wrap_back R a hR0 hv2
    obtain⟨r2,er2⟩:∃r2,R-P2=r2:=⟨_,rfl⟩
    have hr2e:r2=R%a:=by omega
    have hst2:Gs R u0 a b q2 r2∧r2<4294967296:=by rw[hq2e,hr2e];exact hs2
    have hr20:=hst2.1.2.2.1;have hr21:=hst2.2;have hP20:0≤P2∧P2≤R:=by have:=back_nonneg R a hR0 (by omega);omega
    have hRb:R<18446744073709551616:=by have:=hv2.h1;omega
    have HST:Hid _:=hst2;have HV1:Hid _:=HV;clear HV;have HV:Hid (Hv R u0 a b):=hv2;clear hs2 hv2 eR hq2e hP2e hr2e hst2 hF HV1 hY elo;go_wp2;go_loop [18,16] (fun vq vr=>∃q r:Int,vq=.int .u64 q∧vr=.int .u64 r∧Gs R u0 a b q r∧r<4294967296) (fun vq _=>(intOf vq).toNat)
    case atStart=>exact⟨_,_,rfl,rfl,HST.out.1,HST.out.2⟩
    case round=>
     obtain⟨q,r,rfl,rfl,hg,hr⟩:=hrel;have hr0:=hg.2.2.1;have hq0:=hg.2.2.2.1;have hqm:=hg.2.2.2.2;obtain⟨M,hM⟩:∃M,IntKind.u64.wrap (q*b)=M:=⟨_,rfl⟩
     by_cases hA:4294967296≤q
     ·have hst:=hg.step HV.out hr (.inl hA);obtain⟨q',e1⟩:∃q',q-1=q':=⟨_,rfl⟩
      obtain⟨r',e2⟩:∃r',r+a=r':=⟨_,rfl⟩
      rw[e1,e2]at hst;have HG:Hid (Gs _ _ _ _ _ _):=hst.1;have hq1:1≤q:=hst.2.1;have hq2:q'≤4294967296:=hst.2.2;have HD:Hid (q'.toNat<q.toNat):=by unfold Hid;omega
      by_cases hC:4294967296≤r'
      ·have hF:Fd R u0 a b q':=HG.out.over HV.out hq2 hC;clear hst hg HG HD;have HQ:=HFIN.out q' hF;have hpb:=hF.lt HV.out;clear hF;have HQH:Hid _:=HQ;clear HQ;go_wp2;go_ret2
       exact⟨⟨_,ret_two HQH.out rfl⟩,rfl⟩
      ·have hC':r'<4294967296:=by omega
       clear hst hg;go_wp2;go_round
       case rel=>exact⟨q',r',rfl,rfl,HG.out,hC'⟩
       case measure=>simp only[intOf];exact HD.out
     ·have hlt:q<4294967296:=by omega
      have eM:M=q*b:=by rw[←hM];exact wrap_prod q b hq0 hlt b0 b1
      by_cases hB:4294967296*r+u0<M
      ·have hst:=hg.step HV.out hr (.inr (by rw[←eM];exact hB));obtain⟨q',e1⟩:∃q',q-1=q':=⟨_,rfl⟩
       obtain⟨r',e2⟩:∃r',r+a=r':=⟨_,rfl⟩
       rw[e1,e2]at hst;have HG:Hid (Gs _ _ _ _ _ _):=hst.1;have hq1:1≤q:=hst.2.1;have hq2:q'≤4294967296:=hst.2.2;have HD:Hid (q'.toNat<q.toNat):=by unfold Hid;omega
       by_cases hC:4294967296≤r'
       ·have hF:Fd R u0 a b q':=HG.out.over HV.out hq2 hC;clear hst hg HG HD eM;have HQ:=HFIN.out q' hF;have hpb:=hF.lt HV.out;clear hF;have HQH:Hid _:=HQ;clear HQ;go_wp2;go_ret2
        exact⟨⟨_,ret_two HQH.out rfl⟩,rfl⟩
       ·have hC':r'<4294967296:=by omega
        clear hst hg eM;go_wp2;go_round
        case rel=>exact⟨q',r',rfl,rfl,HG.out,hC'⟩
        case measure=>simp only[intOf];exact HD.out
      ·have hF:Fd R u0 a b q:=hg.found HV.out (by rw[←eM];omega);clear hg eM;have HQ:=HFIN.out q hF;have hpb:=hF.lt HV.out;clear hF;have HQH:Hid _:=HQ;clear HQ;go_wp2;go_ret2
       exact⟨⟨_,ret_two HQH.out rfl⟩,rfl⟩
   ·have hC':r'<4294967296:=by omega
    clear hst hg;go_wp2;go_round
    case rel=>exact⟨q',r',rfl,rfl,HG.out,hC'⟩
    case measure=>simp only[intOf];exact HD.out
  ·have hlt:q<4294967296:=by omega
   have eM:M=q*b:=by rw[←hM];exact wrap_prod q b hq0 hlt b0 b1
   by_cases hB:4294967296*r+u1<M
   ·have hst:=hg.step HV.out hr (.inr (by rw[←eM];exact hB));obtain⟨q',e1⟩:∃q',q-1=q':=⟨_,rfl⟩
    obtain⟨r',e2⟩:∃r',r+a=r':=⟨_,rfl⟩
    rw[e1,e2]at hst;have HG:Hid (Gs _ _ _ _ _ _):=hst.1;have hq1:1≤q:=hst.2.1;have hq2:q'≤4294967296:=hst.2.2;have HD:Hid (q'.toNat<q.toNat):=by unfold Hid;omega
    by_cases hC:4294967296≤r'
    ·have hF:Fd hi u1 a b q':=HG.out.over HV.out hq2 hC;clear hst hg HG HD eM;have hY:=HY.out;have elo:=HLO.out;have hq1b:=hF.lt HV.out;obtain⟨W1,w1⟩:∃W1,IntKind.u64.wrap (hi*4294967296)=W1:=⟨_,rfl⟩
     obtain⟨W2,w2⟩:∃W2,IntKind.u64.wrap (W1+u1)=W2:=⟨_,rfl⟩
     obtain⟨W3,w3⟩:∃W3,IntKind.u64.wrap (q'*y)=W3:=⟨_,rfl⟩
     obtain⟨R,w4⟩:∃R,IntKind.u64.wrap (W2-W3)=R:=⟨_,rfl⟩
     have eR:R=(hi*4294967296+u1)%y:=by rw[←w4,←w3,←w2,←w1,wrap_chain];have:=hF.rest HV.out;rw[hY]at this;exact this
     have hv2:Hv R u0 a b:=by have x0:=Int.emod_nonneg (hi*4294967296+u1) (show y≠0 by omega);have x1:=Int.emod_lt_of_pos (hi*4294967296+u1) (show 0<y by omega);exact⟨by omega,by omega,u00,u01,a0,a1,b0,b1⟩
     have hR0:=hv2.h0;have HFIN:Hid (∀p,Fd R u0 a b p→q'*4294967296+p=(hi*18446744073709551616+lo)/y):=fun p hp=>by unfold Fd at hp hF;rw[hY]at hp hF;rw[elo];exact two_halves hi u1 u0 y q' p (by omega) hF (by rw[←eR];exact hp)
     have hs2:=hv2.start;obtain⟨q2,eq2⟩:∃q2,R/a=q2:=⟨_,rfl⟩
     obtain⟨P2,eP2⟩:∃P2,IntKind.u64.wrap (q2*a)=P2:=⟨_,rfl⟩
     have hq2e:q2=R/a:=eq2.symm;have hP2e:P2=R-R%a:=by rw[←eP2,hq2e];exact wrap_back R a hR0 hv2
     obtain⟨r2,er2⟩:∃r2,R-P2=r2:=⟨_,rfl⟩
     have hr2e:r2=R%a:=by omega
     have hst2:Gs R u0 a b q2 r2∧r2<4294967296:=by rw[hq2e,hr2e];exact hs2
     have hr20:=hst2.1.2.2.1;have hr21:=hst2.2;have hP20:0≤P2∧P2≤R:=by have:=back_nonneg R a hR0 (by omega);omega
     have hRb:R<18446744073709551616:=by have:=hv2.h1;omega
     have HST:Hid _:=hst2;have HV1:Hid _:=HV;clear HV;have HV:Hid (Hv R u0 a b):=hv2;clear hs2 hv2 eR hq2e hP2e hr2e hst2 hF HV1 hY elo;go_wp2;go_loop [18,16] (fun vq vr=>∃q r:Int,vq=.int .u64 q∧vr=.int .u64 r∧Gs R u0 a b q r∧r<4294967296) (fun vq _=>(intOf vq).toNat)
     case atStart=>exact⟨_,_,rfl,rfl,HST.out.1,HST.out.2⟩
     case round=>
      obtain⟨q,r,rfl,rfl,hg,hr⟩:=hrel;have hr0:=hg.2.2.1;have hq0:=hg.2.2.2.1;have hqm:=hg.2.2.2.2;obtain⟨M,hM⟩:∃M,IntKind.u64.wrap (q*b)=M:=⟨_,rfl⟩
      by_cases hA:4294967296≤q
      ·have hst:=hg.step HV.out hr (.inl hA);obtain⟨q',e1⟩:∃q',q-1=q':=⟨_,rfl⟩
       obtain⟨r',e2⟩:∃r',r+a=r':=⟨_,rfl⟩
       rw[e1,e2]at hst;have HG:Hid (Gs _ _ _ _ _ _):=hst.1;have hq1:1≤q:=hst.2.1;have hq2:q'≤4294967296:=hst.2.2;have HD:Hid (q'.toNat<q.toNat):=by unfold Hid;omega
       by_cases hC:4294967296≤r'
       ·have hF:Fd R u0 a b q':=HG.out.over HV.out hq2 hC;clear hst hg HG HD;have HQ:=HFIN.out q' hF;have hpb:=hF.lt HV.out;clear hF;have HQH:Hid _:=HQ;clear HQ;go_wp2;go_ret2
        exact⟨⟨_,ret_two HQH.out rfl⟩,rfl⟩
       ·have hC':r'<4294967296:=by omega
        clear hst hg;go_wp2;go_round
        case rel=>exact⟨q',r',rfl,rfl,HG.out,hC'⟩
        case measure=>simp only[intOf];exact HD.out
      ·have hlt:q<4294967296:=by omega
       have eM:M=q*b:=by rw[←hM];exact wrap_prod q b hq0 hlt b0 b1
       by_cases hB:4294967296*r+u0<M
       ·have hst:=hg.step HV.out hr (.inr (by rw[←eM];exact hB));obtain⟨q',e1⟩:∃q',q-1=q':=⟨_,rfl⟩
        obtain⟨r',e2⟩:∃r',r+a=r':=⟨_,rfl⟩
        rw[e1,e2]at hst;have HG:Hid (Gs _ _ _ _ _ _):=hst.1;have hq1:1≤q:=hst.2.1;have hq2:q'≤4294967296:=hst.2.2;have HD:Hid (q'.toNat<q.toNat):=by unfold Hid;omega
        by_cases hC:4294967296≤r'
        ·have hF:Fd R u0 a b q':=HG.out.over HV.out hq2 hC;clear hst hg HG HD eM;have HQ:=HFIN.out q' hF;have hpb:=hF.lt HV.out;clear hF;have HQH:Hid _:=HQ;clear HQ;go_wp2;go_ret2
         exact⟨⟨_,ret_two HQH.out rfl⟩,rfl⟩
        ·have hC':r'<4294967296:=by omega
         clear hst hg eM;go_wp2;go_round
         case rel=>exact⟨q',r',rfl,rfl,HG.out,hC'⟩
         case measure=>simp only[intOf];exact HD.out
       ·have hF:Fd R u0 a b q:=hg.found HV.out (by rw[←eM];omega);clear hg eM;have HQ:=HFIN.out q hF;have hpb:=hF.lt HV.out;clear hF;have HQH:Hid _:=HQ;clear HQ;go_wp2;go_ret2
        exact⟨⟨_,ret_two HQH.out rfl⟩,rfl⟩
    ·have hC':r'<4294967296:=by omega
     clear hst hg eM;go_wp2;go_round
     case rel=>exact⟨q',r',rfl,rfl,HG.out,hC'⟩
     case measure=>simp only[intOf];exact HD.out
   ·have hF:Fd hi u1 a b q:=hg.found HV.out (by rw[←eM];omega);clear hg eM;have hY:=HY.out;have elo:=HLO.out;have hq1b:=hF.lt HV.out;obtain⟨W1,w1⟩:∃W1,IntKind.u64.wrap (hi*4294967296)=W1:=⟨_,rfl⟩
    obtain⟨W2,w2⟩:∃W2,IntKind.u64.wrap (W1+u1)=W2:=⟨_,rfl⟩
    obtain⟨W3,w3⟩:∃W3,IntKind.u64.wrap (q*y)=W3:=⟨_,rfl⟩
    obtain⟨R,w4⟩:∃R,IntKind.u64.wrap (W2-W3)=R:=⟨_,rfl⟩
    have eR:R=(hi*4294967296+u1)%y:=by rw[←w4,←w3,←w2,←w1,wrap_chain];have:=hF.rest HV.out;rw[hY]at this;exact this
    have hv2:Hv R u0 a b:=by have x0:=Int.emod_nonneg (hi*4294967296+u1) (show y≠0 by omega);have x1:=Int.emod_lt_of_pos (hi*4294967296+u1) (show 0<y by omega);exact⟨by omega,by omega,u00,u01,a0,a1,b0,b1⟩
    have hR0:=hv2.h0;have HFIN:Hid (∀p,Fd R u0 a b p→q*4294967296+p=(hi*18446744073709551616+lo)/y):=fun p hp=>by unfold Fd at hp hF;rw[hY]at hp hF;rw[elo];exact two_halves hi u1 u0 y q p (by omega) hF (by rw[←eR];exact hp)
    have hs2:=hv2.start;obtain⟨q2,eq2⟩:∃q2,R/a=q2:=⟨_,rfl⟩
    obtain⟨P2,eP2⟩:∃P2,IntKind.u64.wrap (q2*a)=P2:=⟨_,rfl⟩
    have hq2e:q2=R/a:=eq2.symm;have hP2e:P2=R-R%a:=by rw[←eP2,hq2e];exact wrap_back R a hR0 hv2
    obtain⟨r2,er2⟩:∃r2,R-P2=r2:=⟨_,rfl⟩
    have hr2e:r2=R%a:=by omega
    have hst2:Gs R u0 a b q2 r2∧r2<4294967296:=by rw[hq2e,hr2e];exact hs2
    have hr20:=hst2.1.2.2.1;have hr21:=hst2.2;have hP20:0≤P2∧P2≤R:=by have:=back_nonneg R a hR0 (by omega);omega
    have hRb:R<18446744073709551616:=by have:=hv2.h1;omega
    have HST:Hid _:=hst2;have HV1:Hid _:=HV;clear HV;have HV:Hid (Hv R u0 a b):=hv2;clear hs2 hv2 eR hq2e hP2e hr2e hst2 hF HV1 hY elo;go_wp2;go_loop [18,16] (fun vq vr=>∃q r:Int,vq=.int .u64 q∧vr=.int .u64 r∧Gs R u0 a b q r∧r<4294967296) (fun vq _=>(intOf vq).toNat)
    case atStart=>exact⟨_,_,rfl,rfl,HST.out.1,HST.out.2⟩
    case round=>
     obtain⟨q,r,rfl,rfl,hg,hr⟩:=hrel;have hr0:=hg.2.2.1;have hq0:=hg.2.2.2.1;have hqm:=hg.2.2.2.2;obtain⟨M,hM⟩:∃M,IntKind.u64.wrap (q*b)=M:=⟨_,rfl⟩
     by_cases hA:4294967296≤q
     ·have hst:=hg.step HV.out hr (.inl hA);obtain⟨q',e1⟩:∃q',q-1=q':=⟨_,rfl⟩
      obtain⟨r',e2⟩:∃r',r+a=r':=⟨_,rfl⟩
      rw[e1,e2]at hst;have HG:Hid (Gs _ _ _ _ _ _):=hst.1;have hq1:1≤q:=hst.2.1;have hq2:q'≤4294967296:=hst.2.2;have HD:Hid (q'.toNat<q.toNat):=by unfold Hid;omega
      by_cases hC:4294967296≤r'
      ·have hF:Fd R u0 a b q':=HG.out.over HV.out hq2 hC;clear hst hg HG HD;have HQ:=HFIN.out q' hF;have hpb:=hF.lt HV.out;clear hF;have HQH:Hid _:=HQ;clear HQ;go_wp2;go_ret2
       exact⟨⟨_,ret_two HQH.out rfl⟩,rfl⟩
      ·have hC':r'<4294967296:=by omega
       clear hst hg;go_wp2;go_round
       case rel=>exact⟨q',r',rfl,rfl,HG.out,hC'⟩
       case measure=>simp only[intOf];exact HD.out
     ·have hlt:q<4294967296:=by omega
      have eM:M=q*b:=by rw[←hM];exact wrap_prod q b hq0 hlt b0 b1
      by_cases hB:4294967296*r+u0<M
      ·have hst:=hg.step HV.out hr (.inr (by rw[←eM];exact hB));obtain⟨q',e1⟩:∃q',q-1=q':=⟨_,rfl⟩
       obtain⟨r',e2⟩:∃r',r+a=r':=⟨_,rfl⟩
       rw[e1,e2]at hst;have HG:Hid (Gs _ _ _ _ _ _):=hst.1;have hq1:1≤q:=hst.2.1;have hq2:q'≤4294967296:=hst.2.2;have HD:Hid (q'.toNat<q.toNat):=by unfold Hid;omega
       by_cases hC:4294967296≤r'
       ·have hF:Fd R u0 a b q':=HG.out.over HV.out hq2 hC;clear hst hg HG HD eM;have HQ:=HFIN.out q' hF;have hpb:=hF.lt HV.out;clear hF;have HQH:Hid _:=HQ;clear HQ;go_wp2;go_ret2
        exact⟨⟨_,ret_two HQH.out rfl⟩,rfl⟩
       ·have hC':r'<4294967296:=by omega
        clear hst hg eM;go_wp2;go_round
        case rel=>exact⟨q',r',rfl,rfl,HG.out,hC'⟩
        case measure=>simp only[intOf];exact HD.out
      ·have hF:Fd R u0 a b q:=hg.found HV.out (by rw[←eM];omega);clear hg eM;have HQ:=HFIN.out q hF;have hpb:=hF.lt HV.out;clear hF;have HQH:Hid _:=HQ;clear HQ;go_wp2;go_ret2
       exact⟨⟨_,ret_two HQH.out rfl⟩,rfl⟩
theorem div64_any(hi lo y:Int)(w:World)(h0:0≤hi)(h1:hi<y)(l0:0≤lo)(l1:lo<18446744073709551616)(y0:9223372036854775808≤y)(y1:y<18446744073709551616):
  Calls Tryz.prog 153 #[.int .u64 hi,.int .u64 lo,.int .u64 y] w fun e w'=>∃r,e=.returned (.tuple #[.int .u64 ((hi*18446744073709551616+lo)/y),.int .u64 r])∧Drew w w':=by
 by_cases h:hi=0
 ·subst h;rw[Int.zero_mul,Int.zero_add];have e1:(y==0)=false:=by simp;omega
  go_enter Tryz.func153,Tryz.ntmps153;go_wp2;go_quiet (fail)
  go_wp2;go_ret2
  exact⟨_,rfl,⟨nq,rfl⟩⟩
 ·refine(div64_hi hi lo y w (by omega) h1 l0 l1 y0 y1).mono ?_;rintro e w' ⟨r,rfl,rfl⟩;exact⟨r,rfl,Drew.refl _⟩
def gss (hi lo y:Int):Int:=if y≤hi then 18446744073709551615 else (hi*18446744073709551616+lo)/y
theorem guessLimb_any(hi lo y:Int)(w:World)(h0:0≤hi)(l0:0≤lo)(l1:lo<18446744073709551616)(y0:9223372036854775808≤y)(y1:y<18446744073709551616):
  Calls Tryz.prog 142 #[.int .u64 hi,.int .u64 lo,.int .u64 y] w fun e w'=>e=.returned (.int .u64 (gss hi lo y))∧Drew w w':=by
 by_cases h:y≤hi
 ·have HG:Hid (gss hi lo y=18446744073709551615):=by unfold Hid gss;rw[if_pos h]
  go_enter Tryz.func142,Tryz.ntmps142;go_wp2;go_ret;exact⟨ret_int HG.out.symm,Drew.refl _⟩
 ·have HG:Hid (gss hi lo y=(hi*18446744073709551616+lo)/y):=by unfold Hid gss;rw[if_neg h]
  have h':hi<y:=by omega
  have HD:=div64_any hi lo y w h0 h' l0 l1 y0 y1;generalize (hi*18446744073709551616+lo)/y=g at *;clear h;go_enter Tryz.func142,Tryz.ntmps142;go_wp2_with (go_at_call 153;refine HD.mono ?_;rintro e w' ⟨r,rfl,hd⟩)
  go_ret;exact⟨ret_int HG.out.symm,by assumption⟩
attribute [local go_sem ↓] Go.wp_at_zero Go.wp_at_succ
theorem guess_bounds(P ll ld xn x v L D:Int)(hP:0<P)(hl:0≤ll∧ll<P)(hd:0≤ld∧ld<P)(hx:0≤x∧x<18446744073709551616)(hxn:0≤xn)(hv:9223372036854775808≤v∧v<18446744073709551616)
  (eL:L=ll+P*(xn*18446744073709551616+x)) (eD:D=ld+P*v) (hlt:L<18446744073709551616*D):
  L/D≤gss xn x v∧gss xn x v≤L/D+2∧0≤gss xn x v∧gss xn x v<18446744073709551616:=by
 have hPv:0<P*v:=Int.mul_pos hP (by omega);have hD:0<D:=by omega
 have hS:0≤xn*18446744073709551616+x:=by omega
 have hL0:0≤L:=by have:=Int.mul_nonneg (show 0≤P by omega) hS;omega
 have hq:L/D<18446744073709551616:=Int.ediv_lt_of_lt_mul hD hlt;have hq0:0≤L/D:=Int.ediv_nonneg hL0 (by omega);have hG:0≤gss xn x v∧gss xn x v≤18446744073709551615∧gss xn x v*v≤xn*18446744073709551616+x:=by
  unfold gss;split
  ·rename_i h;exact⟨by omega,by omega,by omega⟩
  ·rename_i h;refine⟨Int.ediv_nonneg hS (by omega),?_,Int.ediv_mul_le _ (by omega)⟩;have:(xn*18446744073709551616+x)/v<18446744073709551616:=Int.ediv_lt_of_lt_mul (by omega) (by omega);omega
 refine⟨?_,?_,hG.1,by omega⟩
 ·unfold gss;split
  ·omega
  ·apply(Int.le_ediv_iff_mul_le (by omega)).2;have h1:L/D*D≤L:=Int.ediv_mul_le L (by omega);have h2:L/D*(P*v)≤L/D*D:=Int.mul_le_mul_of_nonneg_left (by omega) hq0;have h3:P*(L/D*v)<P*(xn*18446744073709551616+x+1):=by
    have:P*(L/D*v)=L/D*(P*v):=by grind
    rw[this,Int.mul_add];omega
   have:=Int.lt_of_mul_lt_mul_left h3 (by omega);omega
 ·generalize gss xn x v=G at *;have h1:G*ld≤18446744073709551615*P:=Int.mul_le_mul hG.2.1 (by omega) hd.1 (by omega);have h2:P*(G*v)≤P*(xn*18446744073709551616+x):=Int.mul_le_mul_of_nonneg_left hG.2.2 (by omega);have h3:P*18446744073709551616≤P*(2*v):=Int.mul_le_mul_of_nonneg_left (by omega) (by omega);have h4:G*D=G*ld+P*(G*v):=by rw[eD];grind
  have h5:P*(2*v)=2*(P*v):=by grind
  have h6:(G-2)*D≤L:=by rw[Int.sub_mul,h4];omega
  have:=(Int.le_ediv_iff_mul_le hD).2 h6;omega
def Dls (xs:List Int)(L D:Int)(o n:Nat)(cur:List Int)(G t:Int):Prop:=
 cur.length=xs.length∧(∀j,j<o∨o+n<j→cur.getD j 0=xs.getD j 0)∧Dg B64 cur∧cur.getD (o+n) 0=t%18446744073709551616 ∧
  val B64 (seg cur o n)+B64^n*t=L-G*D∧L/D≤G∧G≤L/D+2
theorem Dls.range{xs:List Int}{L D:Int}{o n:Nat}{cur:List Int}{G t:Int}(h:Dls xs L D o n cur G t)(hD0:0<D)(hD:D<B64^n)(hL:0≤L)(ho:o+n<xs.length) : -2≤t∧t≤0:=by
 obtain⟨h1,h2,h3,h4,h5,h6,h7⟩:=h;have hs:Dg B64 (seg cur o n):=(h3.drop o).take n;have v0:=val_nonneg B64_pos hs;have v1:=val_lt B64_pos hs;rw[seg_len cur o n (by omega)]at v1;have e:=Int.mul_ediv_add_emod L D;have r0:=Int.emod_nonneg L (show D≠0 by omega);have r1:=Int.emod_lt_of_pos L hD0;have m1:D*(L/D)≤D*G:=Int.mul_le_mul_of_nonneg_left h6 (by omega);have m2:D*G≤D*(L/D+2):=Int.mul_le_mul_of_nonneg_left h7 (by omega);rw[Int.mul_add]at m2;rw[Int.mul_comm G D]at h5;have hp:0<B64^n:=Int.pow_pos B64_pos;generalize B64^n=p at *;generalize val B64 (seg cur o n)=V at *;generalize D*(L/D)=Q at *;generalize D*G=W at *;constructor
 ·have:p*(-3)<p*t:=by omega
  have:=Int.lt_of_mul_lt_mul_left this (by omega);omega
 ·have:p*t<p*1:=by omega
  have:=Int.lt_of_mul_lt_mul_left this (by omega);omega
theorem Dls.done{xs:List Int}{L D:Int}{o n:Nat}{cur:List Int}{G t:Int}(h:Dls xs L D o n cur G t)(hD0:0<D)(hD:D<B64^n)(hL:0≤L)(ho:o+n<xs.length)(hz:cur.getD (o+n) 0=0):
  G=L/D∧val B64 (seg cur o (n+1))=L%D:=by
 have ht:=h.range hD0 hD hL ho;obtain⟨h1,h2,h3,h4,h5,h6,h7⟩:=h;have t0:t=0:=by omega
 have hs:Dg B64 (seg cur o n):=(h3.drop o).take n;have v0:=val_nonneg B64_pos hs;rw[t0,Int.mul_zero,Int.add_zero]at h5;have:G≤L/D:=(Int.le_ediv_iff_mul_le hD0).2 (by omega);have hG:G=L/D:=by omega
 refine⟨hG,?_⟩;rw[seg_succ _ _ _ (by omega),val_append,hz];simp only[val,Int.mul_zero,Int.add_zero];rw[h5,hG,Int.emod_def,Int.mul_comm]
theorem Dls.more{xs:List Int}{L D:Int}{o n:Nat}{cur:List Int}{G t:Int}(h:Dls xs L D o n cur G t)(hD0:0<D)(hD:D<B64^n)(hL:0≤L)(ho:o+n<xs.length)(hz:cur.getD (o+n) 0≠0):L/D<G:=by
 obtain⟨h1,h2,h3,h4,h5,h6,h7⟩:=h;by_cases hG:G=L/D
 ·exfalso;have hs:Dg B64 (seg cur o n):=(h3.drop o).take n;have v0:=val_nonneg B64_pos hs;have v1:=val_lt B64_pos hs;rw[seg_len cur o n (by omega)]at v1;have e:=Int.mul_ediv_add_emod L D;have r0:=Int.emod_nonneg L (show D≠0 by omega);have r1:=Int.emod_lt_of_pos L hD0;rw[hG,Int.mul_comm (L/D) D]at h5;have hp:0<B64^n:=Int.pow_pos B64_pos;generalize B64^n=p at *;generalize val B64 (seg cur o n)=V at *;generalize D*(L/D)=Q at *;have a:p*(-1)<p*t:=by omega
  have a:=Int.lt_of_mul_lt_mul_left a (by omega);have b:p*t<p*1:=by omega
  have b:=Int.lt_of_mul_lt_mul_left b (by omega);have:t=0:=by omega
  rw[this]at h4;exact hz h4
 ·omega
theorem Dls.start{xs ds:List Int}{o n:Nat}{cur:List Int}{G c:Int}(hr:Runs (-1) xs ds o n G cur c)(hn:ds.length=n)(ho:o+n<xs.length){L D:Int}(eL:L=val B64 (seg xs o (n+1)))(eD:D=val B64 ds)
  (g1:L/D≤G) (g2:G≤L/D+2):Dls xs L D o n (cur.set (o+n) (IntKind.u64.wrap (xs.getD (o+n) 0-c))) G (xs.getD (o+n) 0-c):=by
 obtain⟨r1,r2,r3,r4,r5,r6⟩:=hr;rw[IntKind.wrap_u64];refine⟨by simp[r1],fun j hj => ?_,r3.set _ ⟨by omega,by unfold B64;omega⟩,?_,?_,g1,g2⟩
 ·rw[getD_set _ _ _ _ (by omega),if_neg (by omega)];exact r2 j (by omega)
 ·rw[getD_set _ _ _ _ (by omega),if_pos rfl]
 ·rw[seg_set,eL,eD,seg_succ xs o n ho,val_append,seg_len xs o n (by omega)];simp only[val,Int.mul_zero,Int.add_zero];rw[←hn,List.take_of_length_le (Nat.le_refl _)]at r6;rw[←hn];generalize val B64 (seg cur o ds.length)=A at *;generalize val B64 (seg xs o ds.length)=X at *;generalize val B64 ds=Y at *;generalize B64^ds.length=p at *;generalize xs.getD (o+ds.length) 0=x at *
  grind
theorem Dls.step{xs ds:List Int}{o n:Nat}{cur cur':List Int}{G t c L D:Int}(h:Dls xs L D o n cur G t)(hr:Runs 1 cur ds o n 1 cur' c)(hn:ds.length=n)(ho:o+n<xs.length)(eD:D=val B64 ds)(hG:L/D<G):
  Dls xs L D o n (cur'.set (o+n) (IntKind.u64.wrap (cur.getD (o+n) 0+c))) (G-1) (t+c):=by
 obtain⟨h1,h2,h3,h4,h5,h6,h7⟩:=h;obtain⟨r1,r2,r3,r4,r5,r6⟩:=hr;rw[IntKind.wrap_u64];refine⟨by simp[r1,h1],fun j hj => ?_,r3.set _ ⟨by omega,by unfold B64;omega⟩,?_,?_,by omega,by omega⟩
 ·rw[getD_set _ _ _ _ (by omega),if_neg (by omega),r2 j (by omega)];exact h2 j hj
 ·rw[getD_set _ _ _ _ (by omega),if_pos rfl,h4];omega
 ·rw[seg_set];rw[←hn,List.take_of_length_le (Nat.le_refl _)]at r6;rw[←hn]at h5 ⊢;rw[←eD]at r6;generalize val B64 (seg cur o ds.length)=A at *;generalize val B64 (seg cur' o ds.length)=X at *;generalize B64^ds.length=p at *
  grind
structure Dv(w:World)(ao:Option Addr)(n:Nat)(ds:List Int):Prop where
 lies:Lies .u64 w ao n ds
 dg:Dg B64 ds
 pos:0<n
 big:9223372036854775808≤ds.getD (n-1) 0
theorem Dv.range{w:World}{ao:Option Addr}{n:Nat}{ds:List Int}(h:Dv w ao n ds):0<val B64 ds∧val B64 ds<B64^n:=by
 have hl:=h.lies.len;have hp:=h.pos;have hb:=h.big;have ht:top ds=(n-1)+1:=by rw[show n-1+1=n by omega];exact top_eq ds n (fun j h1 h2=>by omega) (.inr (by omega))
 have a:=val_ge B64_pos h.dg (n-1) ht;have b:=val_lt B64_pos h.dg;have c:(0:Int)<B64^(n-1):=Int.pow_pos B64_pos;rw[hl]at b;exact⟨by omega,b⟩
theorem split_top(xs:List Int)(o n:Nat)(hn:0<n)(h:o+n≤xs.length):val B64 (seg xs o n)=val B64 (seg xs o (n-1))+B64^(n-1)*xs.getD (o+(n-1)) 0:=by
 have e:n=(n-1)+1:=by omega
 conv=>lhs;rw[e]
 rw[seg_succ _ _ _ (by omega),val_append,seg_len _ _ _ (by omega)];simp[val]
theorem pow_pred(n:Nat)(h:0<n):B64^n=B64^(n-1)*B64:=by
 obtain⟨m,rfl⟩:∃m,n=m+1:=⟨n-1,by omega⟩
 rw[Nat.add_sub_cancel,Int.pow_succ]
theorem Dv.guess{w:World}{ao:Option Addr}{n:Nat}{ds xs:List Int}(h:Dv w ao n ds)(hx:Dg B64 xs)(o:Nat)(ho:o+n<xs.length)(hlt:val B64 (seg xs o (n+1))<18446744073709551616*val B64 ds):
  val B64 (seg xs o (n+1))/val B64 ds≤gss (xs.getD (o+n) 0) (xs.getD (o+(n-1)) 0) (ds.getD (n-1) 0) ∧
  gss (xs.getD (o+n) 0) (xs.getD (o+(n-1)) 0) (ds.getD (n-1) 0)≤val B64 (seg xs o (n+1))/val B64 ds+2 ∧
  0≤gss (xs.getD (o+n) 0) (xs.getD (o+(n-1)) 0) (ds.getD (n-1) 0)∧gss (xs.getD (o+n) 0) (xs.getD (o+(n-1)) 0) (ds.getD (n-1) 0)<18446744073709551616:=by
 have hl:=h.lies.len;have hp:=h.pos;have e1:=split_top xs o (n+1) (by omega) (by omega);have e2:=split_top xs o n hp (by omega);have e3:=split_top ds 0 n hp (by omega);have e4:seg ds 0 n=ds:=by unfold seg;rw[List.drop_zero,List.take_of_length_le (by omega)]
 rw[e4]at e3;simp only[Nat.add_sub_cancel,Nat.zero_add]at e1 e3;rw[e2]at e1;have eB:B64^n=B64^(n-1)*B64:=pow_pred n hp;have l0:=val_nonneg B64_pos ((hx.drop o).take (n-1));have l1:=val_lt B64_pos ((hx.drop o).take (n-1));have d0:=val_nonneg B64_pos ((h.dg.drop 0).take (n-1));have d1:=val_lt B64_pos ((h.dg.drop 0).take (n-1));have s1:=seg_len xs o (n-1) (by omega);have s2:=seg_len ds 0 (n-1) (by omega);unfold seg at s1 s2;rw[s1]at l1;rw[s2]at d1;refine guess_bounds (B64^(n-1)) (val B64 (seg xs o (n-1))) (val B64 (seg ds 0 (n-1))) _ _ _ _ _ (Int.pow_pos B64_pos) ⟨l0,l1⟩ ⟨d0,d1⟩ (hx.getD B64_pos _) (hx.getD B64_pos _).1 ⟨h.big,(h.dg.getD B64_pos _).2⟩ ?_ e3 hlt;rw[e1,eB];have e5:B64=18446744073709551616:=rfl;generalize B64^(n-1)=p at *;rw[e5]
 grind
end
section
open Go.RowKit
attribute [local go_sem ↓] Go.wp_at_zero Go.wp_at_succ
def DlOut(e:TypeId)(g o n:Nat)(xs:List Int)(L D:Int)(w w':World)(G:Int):Prop:=
 ∃cur,Row e .u64 w' g cur∧cur.length=xs.length∧Dg B64 cur∧(∀j,j<o∨o+n<j→cur.getD j 0=xs.getD j 0)∧G=L/D∧val B64 (seg cur o (n+1))=L%D∧w.grownBy w' (some g)
theorem divLimb_any(e:TypeId)(g o m cl cd:Nat)(ao:Option Addr)(xs ds:List Int)(w:World)(hr:Row e .u64 w g xs)(hx:Dg B64 xs)(hd:Dv w ao (m+1) ds)(hne:∀b off s,ao=some ⟨b,off,s⟩→b≠g)
  (ho:o+(m+1)<xs.length) (hs:xs.length≤1073741824) (L D:Int) (eL:L=val B64 (seg xs o (m+1+1))) (eD:D=val B64 ds) (hlt:L<18446744073709551616*D):
  Calls Tryz.prog 125 #[.slice (some ⟨g,o,none⟩) (m+1+1) cl,.slice ao (m+1) cd] w fun e' w'=>∃G,e'=.returned (.int .u64 G)∧DlOut e g o (m+1) xs L D w w' G:=by
 have hl:=hd.lies.len;obtain⟨g1,g2,g3,g4⟩:=hd.guess hx o ho (by rw[←eL,←eD];exact hlt);have hdv:=hd.range;have hL0:0≤L:=by rw[eL];exact val_nonneg B64_pos ((hx.drop o).take (m+1+1))
 rw[←eD]at hdv;rw[←eL,←eD]at g1 g2;obtain⟨b,off,rfl,hblk,hc⟩:=hd.lies.at (by omega);have hcd:=hc m (by omega);have hcx:=hr.cell (o+(m+1)) (by omega);have hcx1:=hr.cell (o+m) (by omega);have gx:=hx.getD B64_pos (o+(m+1));have gx1:=hx.getD B64_pos (o+m);have gd:=hd.dg.getD B64_pos m;have hbig:=hd.big;simp only[Nat.add_sub_cancel]at g1 g2 g3 g4 hbig;have HGS:=fun w=>guessLimb_any (xs.getD (o+(m+1)) 0) (xs.getD (o+m) 0) (ds.getD m 0) w gx.1 gx1.1 gx1.2 hbig gd.2;have HSUB:=fun w hw hl'=>subTimes_any e g o (m+1+1) cl (some ⟨b,off,none⟩) (m+1) cd xs ds (gss (xs.getD (o+(m+1)) 0) (xs.getD (o+m) 0) (ds.getD m 0)) w hw hl' (fun _=>hne) (by omega) (by omega) (by unfold maxLen;omega) hx hd.dg g3 g4;have HSTART:=fun cur c hrn=>Dls.start (xs:=xs) (ds:=ds) (o:=o) (n:=m+1) (cur:=cur) (c:=c) hrn hl ho eL eD g1 g2;have HADD:Hid (∀cur w,cur.length=xs.length→Dg B64 cur→Row e .u64 w g cur→Lies .u64 w (some ⟨b,off,none⟩) (m+1) ds →
   Calls Tryz.prog 127 #[.slice (some ⟨g,o,none⟩) (m+1+1) cl,.slice (some ⟨b,off,none⟩) (m+1) cd,.int .u64 1] w fun e' w'=>∃cur' c,e'=.returned (.int .u64 c)∧Row e .u64 w' g cur'∧Runs 1 cur ds o (m+1) 1 cur' c∧w.grownBy w' (some g)):=
  fun cur w hlen hdg hw hl'=>addTimes_any e g o (m+1+1) cl (some ⟨b,off,none⟩) (m+1) cd cur ds 1 w hw hl' (fun _=>hne) (by omega) (by omega) (by unfold maxLen;omega) hdg hd.dg (by decide) (by decide)
 have hbne:some b≠some g:=by have:=hne b off none rfl;simp;omega
 generalize hxn:xs.getD (o+(m+1)) 0=xn at *;generalize xs.getD (o+m) 0=x1 at *;generalize ds.getD m 0=dn at *;generalize gss xn x1 dn=G at *;have hmb:m<1073741824:=by omega
 have HR:Hid (Row e .u64 w g xs):=hr;have HLD:Hid (Lies .u64 w (some ⟨b,off,none⟩) (m+1) ds):=hd.lies;have HDG:Hid (Dg B64 ds):=hd.dg;have HST:Hid (∀cur c,Runs (-1) xs ds o (m+1) G cur c→Dls xs L D o (m+1) (cur.set (o+(m+1)) (IntKind.u64.wrap (xn-c))) G (xn-c)):=HSTART;have HDV:Hid (0<D∧D<B64^(m+1)):=hdv;have HL0:Hid (0≤L):=hL0;have HED:Hid (D=val B64 ds):=eD;have HLEN:Hid (ds.length=m+1):=hl;have HXN:Hid (xs.getD (o+(m+1)) 0=xn):=hxn;clear hc eL eD hxn hr hx hd hne HSTART gx gx1 gd hbig hlt g1 g2 hdv hL0 hl;go_enter Tryz.func125,Tryz.ntmps125;go_wp2;go_quiet ((go_at_call 142;exact Calls.quiet_of (HGS _)))
 obtain⟨w1,hw1⟩:∃w1,w1=w.drewN nq:=⟨_,rfl⟩
 rw[←hw1];have hcx':w1.cell? ⟨g,o+(m+1),none⟩=some (.int .u64 xn):=by rw[hw1];exact hcx
 have HR1:Hid (Row e .u64 w1.drew g xs):=by rw[hw1];exact HR.out
 have HLD1:Hid (Lies .u64 w1.drew (some ⟨b,off,none⟩) (m+1) ds):=by rw[hw1];exact HLD.out
 have HGR1:Hid (w.grownBy w1.drew (some g)):=by rw[hw1];exact⟨rfl,rfl,rfl,Nat.le_refl _,fun _ _ _=>rfl⟩
 have HSUB1:=HSUB w1.drew HR1.out HLD1.out;clear hw1 hcx hcx1 hcd HGS HSUB;go_wp2;go_region_with (first|(go_at_call 143;refine HSUB1.mono ?_;rintro e2 w4 ⟨cur',c,rfl,hrow',hrun',hgr'⟩;have hcx4:=(hrow'.cell (o+(m+1)) (by have:=hrun'.1;omega)).trans (congrArg (fun z=>some (Value.int IntKind.u64 z)) ((hrun'.2.1 (o+(m+1)) (.inr (Nat.le_refl _))).trans HXN.out));have hfr4:=hrow'.frozen (o+(m+1))))
 all_goals
  have HRW:Hid (Row e .u64 (w4.setCell ⟨g,o+(m+1),none⟩ (.int .u64 (IntKind.u64.wrap (xn-c)))) g (cur'.set (o+(m+1)) (IntKind.u64.wrap (xn-c)))):=hrow'.set _ _;have HDL:=HST.out cur' c hrun';have HGR:Hid (w.grownBy (w4.setCell ⟨g,o+(m+1),none⟩ (.int .u64 (IntKind.u64.wrap (xn-c)))) (some g)):=grown_trans (grown_trans HGR1.out hgr') (grown_set _ _ _ _);have HDLH:Hid (Dls _ _ _ _ _ _ _ _):=HDL;generalize w4.setCell ⟨g,o+(m+1),none⟩ (.int .u64 (IntKind.u64.wrap (xn-c)))=w5 at *;clear hrow' hrun' hgr' hcx4 hfr4 HDL HST HSUB1 HR1 HLD1 HGR1 hcx';go_wp2;go_loopw [6] (fun v wr=>∃(G t:Int) (cur:List Int),v=.int .u64 G∧0≤G∧G<18446744073709551616∧Row e .u64 wr g cur∧Dls xs L D o (m+1) cur G t∧w.grownBy wr (some g)) (fun v _=>(intOf v).toNat)
  case atStart=>exact⟨_,_,_,rfl,g3,g4,HRW.out,HDLH.out,HGR.out⟩
  case round=>
   obtain⟨G2,t,cur,rfl,gg0,gg1,hrw,hdl,hgw⟩:=hrel;have hcl:=hrw.cell (o+(m+1)) (by have:=hdl.1;omega);have hcl':wr.drew.cell? ⟨g,o+(m+1),none⟩=some (.int .u64 (cur.getD (o+(m+1)) 0)):=hcl;by_cases hz:cur.getD (o+(m+1)) 0=0
   ·have hdn:=hdl.done HDV.out.1 HDV.out.2 HL0.out ho hz;have HF:Hid (DlOut e g o (m+1) xs L D w wr G2):=⟨cur,hrw,hdl.1,hdl.2.2.1,hdl.2.1,hdn.1,hdn.2,hgw⟩
    rw[hz]at hcl;clear hcl' hdn hrw hdl hgw hz;go_wp2;go_ret;exact⟨_,rfl,HF.out⟩
   ·have hmore:=hdl.more HDV.out.1 HDV.out.2 HL0.out ho hz;have hq0:0≤L/D:=Int.ediv_nonneg HL0.out (by have:=HDV.out.1;omega);have hG1:1≤G2:=by omega
    have hld:Lies .u64 wr.drew (some ⟨b,off,none⟩) (m+1) ds:=by have:Lies .u64 wr (some ⟨b,off,none⟩) (m+1) ds:=HLD.out.kept hgw (fun b' off' s hb'=>by injection hb' with hb';injection hb' with hb';rw[←hb'];exact hbne);exact this
    have HA:=HADD.out cur wr.drew hdl.1 hdl.2.2.1 hrw hld;have HSTEP:Hid (∀cur' c,Runs 1 cur ds o (m+1) 1 cur' c→Dls xs L D o (m+1) (cur'.set (o+(m+1)) (IntKind.u64.wrap (cur.getD (o+(m+1)) 0+c))) (G2-1) (t+c)):=fun cur' c hrn=>hdl.step hrn HLEN.out ho HED.out hmore;have HLC:Hid (cur.length=xs.length):=hdl.1;have HGW:Hid (w.grownBy wr.drew (some g)):=⟨hgw.os,hgw.tape,hgw.output,hgw.size,hgw.block⟩
    have HZ:Hid (∃z,z=cur.getD (o+(m+1)) 0):=⟨_,rfl⟩
    have hzb:(cur.getD (o+(m+1)) 0 != 0)=true:=by simpa using hz
    have HCD:Hid (∀cur':List Int,(∀j,j<o∨o+(m+1)≤j→cur'.getD j 0=cur.getD j 0)→cur'.getD (o+(m+1)) 0=cur.getD (o+(m+1)) 0):=fun cur' h=>h _ (.inr (Nat.le_refl _));generalize cur.getD (o+(m+1)) 0=z at *;clear hrw hdl hgw hz hmore hq0 hld HZ;go_wp2;go_region_with (first|(go_at_call 127;refine HA.mono ?_;rintro e2 w6 ⟨cur2,c2,rfl,hrow2,hrun2,hgr2⟩;have hcx6:=(hrow2.cell (o+(m+1)) (by have:=hrun2.1;have:=HLC.out;omega)).trans (congrArg (fun z=>some (Value.int IntKind.u64 z)) (HCD.out cur2 hrun2.2.1));have hfr6:=hrow2.frozen (o+(m+1))))
    all_goals
     have HRW2:Hid (Row e .u64 (w6.setCell ⟨g,o+(m+1),none⟩ (.int .u64 (IntKind.u64.wrap (z+c2)))) g (cur2.set (o+(m+1)) (IntKind.u64.wrap (z+c2)))):=hrow2.set _ _;have HD2:Hid (Dls _ _ _ _ _ _ _ _):=HSTEP.out cur2 c2 hrun2;have HGR2:Hid (w.grownBy (w6.setCell ⟨g,o+(m+1),none⟩ (.int .u64 (IntKind.u64.wrap (z+c2)))) (some g)):=grown_trans (grown_trans HGW.out hgr2) (grown_set _ _ _ _);clear hrow2 hrun2 hgr2 hcx6 hfr6 HSTEP HA HCD;go_wp2;go_roundw
     case rel=>exact⟨G2-1,_,_,rfl,by omega,by omega,HRW2.out,HD2.out,HGR2.out⟩
     case measure=>simp[intOf];omega
end
section
open Go.RowKit
attribute [local go_sem ↓] Go.wp_at_zero Go.wp_at_succ
theorem Shift_neg(ao:Option Addr)(la ca:Nat)(xs:List Int)(t:Nat)(w:World)(h:NumIn .u64 B64 w ao la ca xs)(ht:t<64)(hlb:la<1073741000):
  Calls Tryz.prog 111 #[.slice ao la ca,.int .i64 (-(t:Int))] w fun e w'=>∃v,e=.returned v∧NumOut .u64 B64 w w' v (val B64 xs*2^t) (la+1):=by
 by_cases h0:t=0
 ·subst h0;refine(Shift_down ao la ca xs 0 w h (by decide)).mono ?_;rintro e w' ⟨v,rfl,a,b,c,d,rfl,e1,e2,e3,e4,e5⟩;refine⟨_,rfl,a,b,c,d,rfl,e1,e2,?_,by omega,e5⟩;rw[e3];simp
 ·refine(Shift_up ao la ca xs t w h (by omega) (by omega) hlb).mono ?_;rintro e w' ⟨v,rfl,a,b,c,d,rfl,e1,e2,e3,e4,e5⟩;exact⟨_,rfl,a,b,c,d,rfl,e1,e2,e3,by omega,e5⟩
theorem canon_len{xs:List Int}(hd:Dg B64 xs)(hc:Canon xs)(n:Nat)(h1:B64^n≤val B64 xs)(h2:val B64 xs<B64^(n+1)):xs.length=n+1:=by
 unfold Canon at hc;have a:=val_lt B64_pos hd;rcases Nat.lt_trichotomy xs.length (n+1) with h|h|h
 ·have:=pow_mono (B:=B64) (by decide) (show xs.length≤n by omega);omega
 ·exact h
 ·have b:=val_ge B64_pos hd (xs.length-1) (by omega);have:=pow_mono (B:=B64) (by decide) (show n+1≤xs.length-1 by omega);omega
theorem norm_div(ys:List Int)(hd:Dg B64 ys)(n:Nat)(hn:ys.length=n+1)(hc:Canon ys):
  ∃t,t<64∧64-blen (ys.getD n 0).toNat=t∧9223372036854775808*B64^n≤val B64 ys*2^t∧val B64 ys*2^t<B64^(n+1):=by
 have hg:=hd.getD B64_pos n;have ht:ys.getD n 0≠0:=by have:=top_hit ys (by unfold Canon at hc;omega);unfold Canon at hc;rw[hc,hn]at this;simpa using this
 have hv:=split_top ys 0 (n+1) (by omega) (by omega);have e4:seg ys 0 (n+1)=ys:=by unfold seg;rw[List.drop_zero,List.take_of_length_le (by omega)]
 rw[e4]at hv;simp only[Nat.add_sub_cancel,Nat.zero_add]at hv;have l0:=val_nonneg B64_pos ((hd.drop 0).take n);have l1:=val_lt B64_pos ((hd.drop 0).take n);have s2:=seg_len ys 0 n (by omega);have l0':0≤val B64 (seg ys 0 n):=l0;have l1':val B64 (seg ys 0 n)<B64^n:=by
  have:val B64 (seg ys 0 n)<B64^(seg ys 0 n).length:=l1
  rwa [s2]at this
 generalize val B64 (seg ys 0 n)=lo at *;generalize ys.getD n 0=d at *;obtain⟨e,rfl⟩:=Int.eq_ofNat_of_zero_le hg.1;have hne:e≠0:=by omega
 have hlt:e<2^64:=by have:=hg.2;unfold B64 at this;omega
 have b0:=blen_le e 64 hlt;have b1:=blen_lt e;have b2:=blen_ge e hne;have b3:=blen_pos e hne;rw[Int.toNat_natCast];obtain⟨t,et⟩:∃t,64-blen e=t:=⟨_,rfl⟩
 refine⟨t,by omega,et,?_,?_⟩
 ·have c1:2^63≤e*2^t:=by
   have:2^(blen e-1)*2^t≤e*2^t:=Nat.mul_le_mul_right _ b2;rw[←Nat.pow_add,show blen e-1+t=63 by omega]at this;exact this
  have c2:(9223372036854775808:Int)≤(e:Int)*2^t:=by
   have:((2^63:Nat):Int)≤((e*2^t:Nat):Int):=by omega
   rw[Int.natCast_mul,Int.natCast_pow]at this;exact this
  have hp:(0:Int)<B64^n:=Int.pow_pos B64_pos;have c3:=Int.mul_le_mul_of_nonneg_right c2 (show(0:Int)≤B64^n by omega);have c4:0≤lo*2^t:=Int.mul_nonneg l0' (Int.le_of_lt (Int.pow_pos (by decide)));rw[hv,Int.add_mul];have:B64^n*(e:Int)*2^t=(e:Int)*2^t*B64^n:=by grind
  omega
 ·have c1:(e+1)*2^t≤2^64:=by
   have:(e+1)*2^t≤2^blen e*2^t:=Nat.mul_le_mul_right _ (by omega);rw[←Nat.pow_add,show blen e+t=64 by omega]at this;exact this
  have c2:((e:Int)+1)*2^t≤B64:=by
   have:(((e+1)*2^t:Nat):Int)≤((2^64:Nat):Int):=by omega
   rw[Int.natCast_mul,Int.natCast_pow,Int.natCast_add]at this;exact this
  have hp:(0:Int)<2^t:=Int.pow_pos (by decide);have hp2:(0:Int)<B64^n:=Int.pow_pos B64_pos;have c3:(lo+B64^n*e)*2^t<(B64^n+B64^n*e)*2^t:=Int.mul_lt_mul_of_pos_right (by omega) hp;have c4:(B64^n+B64^n*(e:Int))*2^t=B64^n*(((e:Int)+1)*2^t):=by grind
  have c5:B64^n*(((e:Int)+1)*2^t)≤B64^n*B64:=Int.mul_le_mul_of_nonneg_left c2 (by omega);rw[hv,Int.pow_succ];omega
def Dvs (X D:Int)(lx m p:Nat)(cur qs:List Int):Prop:=
 cur.length=lx+1∧Dg B64 cur∧qs.length=m∧Dg B64 qs∧val B64 cur<B64^p*D∧X=val B64 cur+B64^p*val B64 (qs.drop p)*D
theorem seg_whole(xs:List Int)(k n:Nat)(hk:k+n≤xs.length)(hz:∀j,k+n≤j→xs.getD j 0=0):val B64 xs=low B64 xs k+B64^k*val B64 (seg xs k n):=by
 rw[←low_add _ _ _ _ hk];refine(low_all _ _ _ ?_).symm;by_cases h:top xs≤k+n
 ·exact h
 ·exfalso;exact top_hit xs (by omega) (hz _ (by omega))
theorem high_zero{xs:List Int}(hd:Dg B64 xs)(n:Nat)(h:val B64 xs<B64^n)(j:Nat)(hj:n≤j):xs.getD j 0=0:=by
 apply top_above;by_cases ht:top xs≤n
 ·omega
 ·exfalso;obtain⟨m,hm⟩:∃m,top xs=m+1:=⟨top xs-1,by omega⟩
  have:=val_ge B64_pos hd m hm;have:=pow_mono (B:=B64) (by decide) (show n≤m by omega);omega
theorem drop_cons(qs:List Int)(k:Nat)(h:k<qs.length):qs.drop k=qs.getD k 0::qs.drop (k+1):=by rw[List.drop_eq_getElem_cons h];simp[List.getD,List.getElem?_eq_getElem h]
theorem Dvs.pre{X D:Int}{lx m k n:Nat}{cur qs:List Int}(h:Dvs X D lx m (k+1) cur qs)(hn:k+n+1≤lx+1)(hD:D<B64^n)(hD0:0<D):
  val B64 cur=low B64 cur k+B64^k*val B64 (seg cur k (n+1))∧val B64 (seg cur k (n+1))<18446744073709551616*D:=by
 obtain⟨h1,h2,h3,h4,h5,h6⟩:=h;have hp:(0:Int)<B64^k:=Int.pow_pos B64_pos;have hpp:(0:Int)<B64^(k+1):=Int.pow_pos B64_pos;have hb:val B64 cur<B64^(k+1+n):=by rw[Int.pow_add];have:=Int.mul_lt_mul_of_pos_left hD hpp;omega
 have hz:=high_zero h2 (k+1+n) hb;have e:=seg_whole cur k (n+1) (by omega) (fun j hj=>hz j (by omega));refine⟨e,?_⟩;have l0:0≤low B64 cur k:=val_nonneg B64_pos (h2.take k);have:B64^k*val B64 (seg cur k (n+1))<B64^k*(18446744073709551616*D):=by
  have e2:B64^(k+1)*D=B64^k*(18446744073709551616*D):=by rw[Int.pow_succ];have:B64=18446744073709551616:=rfl;rw[Int.mul_assoc];conv=>lhs;rw[show B64*D=18446744073709551616*D from by rw[this]]
  omega
 exact Int.lt_of_mul_lt_mul_left this (by omega)
theorem Dvs.step{X D:Int}{lx m k n:Nat}{cur cur' qs:List Int}{G:Int}(h:Dvs X D lx m (k+1) cur qs)(hn:k+n+1≤lx+1)(hk:k<m)(hD:D<B64^n)(hD0:0<D)
  (c1:cur'.length=cur.length) (c2:Dg B64 cur') (c3:∀j,j<k∨k+n<j→cur'.getD j 0=cur.getD j 0) (eG:G=val B64 (seg cur k (n+1))/D) (eR:val B64 (seg cur' k (n+1))=val B64 (seg cur k (n+1))%D):
  (0≤G∧G<18446744073709551616)∧Dvs X D lx m k cur' (qs.set k G):=by
 obtain⟨p1,p2⟩:=h.pre hn hD hD0;obtain⟨h1,h2,h3,h4,h5,h6⟩:=h;have hp:(0:Int)<B64^k:=Int.pow_pos B64_pos;have hb:val B64 cur<B64^(k+1+n):=by have hpp:(0:Int)<B64^(k+1):=Int.pow_pos B64_pos;rw[Int.pow_add];have:=Int.mul_lt_mul_of_pos_left hD hpp;omega
 have hz:=high_zero h2 (k+1+n) hb;have s0:0≤val B64 (seg cur k (n+1)):=val_nonneg B64_pos ((h2.drop k).take (n+1));have hG:0≤G∧G<18446744073709551616:=⟨by rw[eG];exact Int.ediv_nonneg s0 (by omega),by rw[eG];exact Int.ediv_lt_of_lt_mul hD0 p2⟩
 have q1:=seg_whole cur' k (n+1) (by omega) (fun j hj=>by rw[c3 j (by omega)];exact hz j (by omega));rw[low_congr B64 cur' cur k (fun j hj=>c3 j (by omega)),eR]at q1;have l0:0≤low B64 cur k:=val_nonneg B64_pos (h2.take k);have l1:low B64 cur k<B64^k:=by
  have a:=val_lt B64_pos (h2.take k);have b:(cur.take k).length=k:=by simp;omega
  rw[b]at a;exact a
 have r0:=Int.emod_nonneg (val B64 (seg cur k (n+1))) (show D≠0 by omega);have r1:=Int.emod_lt_of_pos (val B64 (seg cur k (n+1))) hD0;refine⟨hG,by omega,c2,by simp[h3],h4.set _ hG,?_,?_⟩
 ·rw[q1];have:B64^k*(val B64 (seg cur k (n+1))%D+1)≤B64^k*D:=Int.mul_le_mul_of_nonneg_left (by omega) (by omega);rw[Int.mul_add]at this;omega
 ·have e1:(qs.set k G).drop k=G::qs.drop (k+1):=by
   rw[drop_cons _ _ (by simp;omega),getD_set _ _ _ _ (by omega),if_pos rfl,List.drop_set_of_lt (by omega)]
  rw[e1,val,h6,p1,q1,Int.pow_succ];have e2:=Int.mul_ediv_add_emod (val B64 (seg cur k (n+1))) D;rw[←eG]at e2;generalize val B64 (seg cur k (n+1))%D=r at *;generalize val B64 (qs.drop (k+1))=Q at *;rw[←e2];generalize low B64 cur k=l at *;generalize B64^k=p at *;generalize B64=b at *
  grind
theorem Dvs.done{D:Int}{lx m t:Nat}{cur qs:List Int}{x y:Int}(h:Dvs (x*2^t) D lx m 0 cur qs)(eD:D=y*2^t)(hD0:0<D):val B64 qs=x/y∧val B64 cur/2^t=x%y:=by
 obtain⟨h1,h2,h3,h4,h5,h6⟩:=h;simp only[Int.pow_zero,Int.one_mul,List.drop_zero]at h5 h6;have hp:(0:Int)<2^t:=Int.pow_pos (by decide);have v0:=val_nonneg B64_pos h2;have hy:0<y:=by
  by_cases hy:0<y
  ·exact hy
  ·exfalso;have:y*2^t≤0*2^t:=Int.mul_le_mul_of_nonneg_right (by omega) (by omega);omega
 have e1:x*2^t/D=val B64 qs:=by rw[h6,Int.add_mul_ediv_right _ _ (by omega),Int.ediv_eq_zero_of_lt v0 h5];omega
 have e2:x*2^t%D=val B64 cur:=by rw[h6,Int.add_mul_emod_self_right];exact Int.emod_eq_of_lt v0 h5
 rw[eD]at e1 e2;rw[Int.mul_ediv_mul_of_pos_left _ _ hp]at e1;rw[Int.mul_comm x,Int.mul_comm y,Int.mul_emod_mul_of_pos _ _ hp]at e2;refine⟨e1.symm,?_⟩;rw[←e2,Int.mul_ediv_cancel_left _ (by omega)]
end
section
open Go.RowKit
attribute [local go_sem ↓] Go.wp_at_zero Go.wp_at_succ
theorem Div_zero(ao bo:Option Addr)(la ca lb cb:Nat)(xs ys:List Int)(w:World)(h:NumIn .u64 B64 w ao la ca xs)(h':NumIn .u64 B64 w bo lb cb ys)(h0:val B64 ys=0):
  Calls Tryz.prog 97 #[.slice ao la ca,.slice bo lb cb] w fun e w'=>e=.returned (.tuple #[.slice none 0 0,.slice none 0 0,.bool false])∧w'=w:=by
 have HX:=trim_any ao la ca xs w h.lies h.lc h.cm h.nn;have HY:=trim_any bo lb cb ys w h'.lies h'.lc h'.cm h'.nn;have hz:top ys=0:=by
  by_cases ht:top ys=0
  ·exact ht
  ·exfalso;have:=val_ge B64_pos h'.dg (top ys-1) (by omega);have:(0:Int)<B64^(top ys-1):=Int.pow_pos B64_pos;omega
 rw[hz]at HY;go_enter Tryz.func97,Tryz.ntmps97;go_wp2_with fail
 refine HX.mono ?_;rintro e w1 ⟨rfl,rfl⟩;go_wp2_with fail
 refine HY.mono ?_;rintro e w2 ⟨rfl,rfl⟩;go_wp2;go_ret3
 exact⟨rfl,rfl⟩
def DivOut(w w':World)(q r:Value)(x y:Int)(L:Nat):Prop:=NumOut .u64 B64 w w' q (x/y) L∧NumOut .u64 B64 w w' r (x%y) L
theorem Div_any(ao bo:Option Addr)(la ca lb cb:Nat)(xs0 ys0:List Int)(w:World)(h0:NumIn .u64 B64 w ao la ca xs0)(h0':NumIn .u64 B64 w bo lb cb ys0)(hy0:val B64 ys0≠0)(hsm:la+lb<1073740000):
  Calls Tryz.prog 97 #[.slice ao la ca,.slice bo lb cb] w fun e w'=>∃q r,e=.returned (.tuple #[q,r,.bool true])∧DivOut w w' q r (val B64 xs0) (val B64 ys0) (la+1):=by
 have hl:=h0.len;have hl':=h0'.len;have ht:=top_le xs0;have ht':=top_le ys0;have h:=h0.take (top xs0) (by omega);have h':=h0'.take (top ys0) (by omega);have HX:=trim_any ao la ca xs0 w h0.lies h0.lc h0.cm h0.nn;have HY:=trim_any bo lb cb ys0 w h0'.lies h0'.lc h0'.cm h0'.nn;have cx:=canon_take_top xs0;have cy:=canon_take_top ys0;rw[←val_take_top B64 ys0]at hy0;rw[←val_take_top B64 xs0,←val_take_top B64 ys0];have lx:=h.len;have ly:=h'.len;generalize xs0.take (top xs0)=xs at *;generalize ys0.take (top ys0)=ys at *;generalize top xs0=n at *;generalize htm:top ys0=m1 at *;have hm0:m1≠0:=by intro hz;apply hy0;have:ys=[]:=List.eq_nil_of_length_eq_zero (by omega);rw[this];rfl
 obtain⟨m,rfl⟩:∃m,m1=m+1:=⟨m1-1,by omega⟩
 have hnl:n≤la:=by omega
 have hml:m+1≤lb:=by omega
 clear h0 h0' ht ht' hl hl' htm hm0;have hx0:=val_nonneg B64_pos h.dg;have hyp:0<val B64 ys:=by have:=val_nonneg B64_pos h'.dg;omega
 by_cases hlt:n<m+1
 ·have hv:val B64 xs<val B64 ys:=by
   apply top_lt_val B64_one h.dg h'.dg;unfold Canon at cx cy;omega
  have HN:=Norm_any ao n ca xs w h;have HFIN:Hid (∀v w',NumOut .u64 B64 w w' v (val B64 xs) n→DivOut w w' (.slice none 0 0) v (val B64 xs) (val B64 ys) (la+1)):=by
   rintro v w' ⟨a,b,c,d,rfl,e1,e2,e3,e4,e5⟩;refine⟨⟨none,0,0,[],rfl,NumIn.nil,Canon.nil,?_,by omega,e5⟩,⟨a,b,c,d,rfl,e1,e2,?_,by omega,e5⟩⟩
   ·rw[Int.ediv_eq_zero_of_lt hx0 hv];rfl
   ·rw[e3,Int.emod_eq_of_lt hx0 hv]
  clear hv h h' cx cy hx0 hyp hy0;go_enter Tryz.func97,Tryz.ntmps97;go_wp2_with fail
  refine HX.mono ?_;rintro e w1 ⟨rfl,rfl⟩;go_wp2_with fail
  refine HY.mono ?_;rintro e w2 ⟨rfl,rfl⟩;go_wp2_with (go_at_call 98;refine HN.mono ?_;rintro e w3 ⟨v,rfl,hv⟩)
  go_ret3
  exact⟨_,_,rfl,HFIN.out _ _ (by assumption)⟩
 ·obtain⟨t,ht64,ebl,hbig,hsmall⟩:=norm_div ys h'.dg m ly cy;obtain⟨b,off,rfl,hblk,hc⟩:=h'.lies.at (by omega);have hcell:=hc m (by omega);have gy:=h'.dg.getD B64_pos m;have HLZ:=fun w=>lead_any (ys.getD m 0) w gy.1 gy.2;rw[ebl]at HLZ;generalize ys.getD m 0=yt at *;have HSY:=Shift_neg (some ⟨b,off,none⟩) (m+1) cb ys t w h' ht64 (by omega);have hmn:m+1≤n:=by omega
  clear hlt hc ebl gy;go_enter Tryz.func97,Tryz.ntmps97;go_wp2_with fail
  refine HX.mono ?_;rintro e w1 ⟨rfl,rfl⟩;go_wp2_with fail
  refine HY.mono ?_;rintro e w2 ⟨rfl,rfl⟩;go_wp2_with fail
  refine(HLZ _).mono ?_;rintro e w3 ⟨rfl,rfl⟩;go_wp2_with fail
  refine HSY.mono ?_;rintro e w4 ⟨v,rfl,ad,ld,cd,ds,rfl,hdn,hdc,hdv,hdl,hbel⟩;have hld:ld=m+1:=by have hp:(0:Int)<B64^m:=Int.pow_pos B64_pos;rw[←hdn.len];exact canon_len hdn.dg hdc m (by rw[hdv];omega) (by rw[hdv];exact hsmall)
  subst hld;have hDv:Dv w4 ad (m+1) ds:=by refine⟨hdn.lies,hdn.dg,by omega,?_⟩;rw[Nat.add_sub_cancel,digit_at B64_pos ds hdn.dg m,hdv];have hp:(0:Int)<B64^m:=Int.pow_pos B64_pos;have a1:9223372036854775808≤val B64 ys*2^t/B64^m:=(Int.le_ediv_iff_mul_le hp).2 hbig;have a2:val B64 ys*2^t/B64^m<B64:=Int.ediv_lt_of_lt_mul hp (by rw[Int.mul_comm B64,←Int.pow_succ];exact hsmall);rw[Int.emod_eq_of_lt (by omega) a2];exact a1
  obtain⟨b2,off2,rfl,hblk2,hc2⟩:=hdn.lies.at (by omega);obtain⟨M,rfl⟩:∃M,n=m+1+M:=⟨n-(m+1),by omega⟩
  have h4:=h.old hbel;have HBEL:Hid (Below w3.heap.size w3 w4):=hbel;have HD0:Hid (0<val B64 ds∧val B64 ds<B64^(m+1)):=hDv.range;have HX0:Hid (val B64 xs*2^t<B64^(M+1)*val B64 ds):=by
   unfold Hid;have a:=val_lt B64_pos h.dg;rw[lx]at a;have hp:(0:Int)<2^t:=Int.pow_pos (by decide);have hp2:(0:Int)<B64^(M+1):=Int.pow_pos B64_pos;have c1:=Int.mul_lt_mul_of_pos_right a hp;have c2:(2:Int)^t≤9223372036854775808:=pow_mono (B:=2) (by decide) (show t≤63 by omega);have c3:(0:Int)<B64^m:=Int.pow_pos B64_pos;have c4:B64^m*2^t≤B64^m*9223372036854775808:=Int.mul_le_mul_of_nonneg_left c2 (by omega);have c5:B64^(M+1)*(B64^m*2^t)≤B64^(M+1)*val B64 ds:=Int.mul_le_mul_of_nonneg_left (by rw[hdv];omega) (by omega);have c6:B64^(m+1+M)*2^t=B64^(M+1)*(B64^m*2^t):=by rw[show m+1+M=(M+1)+m by omega,Int.pow_add];grind
   omega
  have HDV:Hid (val B64 ds=val B64 ys*2^t):=hdv;have HLX:Hid (xs.length=m+1+M):=lx;clear hsmall hbig hdv hdc HLZ hcell hbel cx cy hy0 hx0 hyp lx ly hc2 HX HY HSY h' hblk;go_wp2_with (at_make;refine wpList_make_row _ rfl _ _ 24 rfl 47 .u64 8 Tryz.underlying24 Tryz.infoU _ _ _ _ (m+1+M+1) rfl rfl (by omega) (by omega) (by omega) (by unfold maxLen;omega) ?_)
  intro w5 hrowl hbel5;have HSX:=Shift_neg ao (m+1+M) ca xs t w5 (h4.old hbel5) ht64 (by omega);go_wp2_with fail
  refine HSX.mono ?_;rintro e w6 ⟨v,rfl,asx,ls,cs,sx,rfl,hsn,hsc,hsv,hsl,hbel6⟩;have hrow6:=hrowl.below hbel6 hrowl.lt;have hbel46:Below w4.heap.size w4 w6:=hbel5.trans (hbel6.mono hbel5.size);have hlsx:=hsn.len;go_wp2_with (refine wpList_copy_row rfl _ _ 24 24 rfl 47 Tryz.underlying24 .u64 8 Tryz.infoU w4.heap.size asx _ _ _ _ rfl rfl _ sx hrow6 hsn.lies (by simp) ls (by omega) w4.heap.size w4 hbel46 (Nat.le_refl _) ?_)
  intro w7 hrow7 hbel7;have HV7:Hid (val B64 (sx.take ls++List.replicate (m+1+M+1-ls) 0)=val B64 xs*2^t∧Dg B64 (sx.take ls++List.replicate (m+1+M+1-ls) 0)∧(sx.take ls++List.replicate (m+1+M+1-ls) (0:Int)).length=m+1+M+1):=by
   refine⟨?_,(hsn.dg.take _).append (Dg.zeros B64_pos _),?_⟩
   ·rw[val_append,List.take_of_length_le (by omega),hsv,val_replicate];simp
   ·simp;omega
  have HROW7:Hid (Row 47 .u64 w7 w4.heap.size (sx.take ls++List.replicate (m+1+M+1-ls) 0)):=hrow7;clear hrow7 hsv hsc hsl hsn hlsx hrow6 hbel46 hbel6 hbel5 hrowl HSX;generalize sx.take ls++List.replicate (m+1+M+1-ls) 0=cur0 at *;go_wp2_with (at_make;refine wpList_make_row _ rfl _ _ 24 rfl 47 .u64 8 Tryz.underlying24 Tryz.infoU _ _ _ _ (M+1) rfl rfl (by omega) (by omega) (by omega) (by unfold maxLen;omega) ?_)
  intro w8 hrowq hbel8;have hrow8:=HROW7.out.below hbel8 HROW7.out.lt;have hgq:w4.heap.size<w7.heap.size:=HROW7.out.lt;have hbel48:Below w4.heap.size w4 w8:=hbel7.trans (hbel8.mono hbel7.size);have HINI:Hid (Dvs (val B64 xs*2^t) (val B64 ds) (m+1+M) (M+1) (M+1) cur0 (List.replicate (M+1) 0)):=by refine⟨HV7.out.2.2,HV7.out.2.1,by simp,Dg.zeros B64_pos _,by rw[HV7.out.1];exact HX0.out,?_⟩;rw[HV7.out.1,List.drop_eq_nil_of_le (by simp)];simp[val]
  clear HROW7 hbel7 hbel8;go_wp2;go_loopw [58] (fun v wr=>∃(i:Nat) (cur qs:List Int),i≤M+1∧v=.int .i64 i∧Row 47 .u64 wr w4.heap.size cur∧Row 47 .u64 wr w7.heap.size qs∧Dvs (val B64 xs*2^t) (val B64 ds) (m+1+M) (M+1) (M+1-i) cur qs∧Below w4.heap.size w4 wr) (fun v _=>M+1-(intOf v).toNat)
  case atStart=>exact⟨0,_,_,Nat.zero_le _,rfl,hrow8,hrowq,HINI.out,hbel48⟩
  case round=>
   obtain⟨i,cur,qs,hi,rfl,hrl,hrq,hdv,hbw⟩:=hrel;by_cases hlt:i<M+1
   ·obtain⟨k,hk⟩:∃k:Nat,(M:Int)-i=k:=⟨M-i,by omega⟩
    have hkM:k<M+1:=by omega
    rw[show M+1-i=k+1 by omega]at hdv;have hpre:=hdv.pre (n:=m+1) (by omega) HD0.out.2 HD0.out.1;have hlc:=hdv.1;have hDw:Dv wr (some ⟨b2,off2,none⟩) (m+1) ds:=⟨hDv.lies.old hbw,hDv.dg,hDv.pos,hDv.big⟩
    have HDL:=divLimb_any 47 w4.heap.size k m (m+1+M+1-k) cd (some ⟨b2,off2,none⟩) cur ds wr hrl hdv.2.1 hDw (fun b' off' s hb'=>by injection hb' with hb';injection hb' with hb';omega) (by omega) (by omega) _ _ rfl rfl hpre.2;have HST:Hid (∀cur' G,cur'.length=cur.length→Dg B64 cur'→(∀j,j<k∨k+(m+1)<j→cur'.getD j 0=cur.getD j 0)→G=val B64 (seg cur k (m+1+1))/val B64 ds→val B64 (seg cur' k (m+1+1))=val B64 (seg cur k (m+1+1))%val B64 ds →
      (0≤G∧G<18446744073709551616)∧Dvs (val B64 xs*2^t) (val B64 ds) (m+1+M) (M+1) k cur' (qs.set k G)):=fun cur' G a b c d e=>hdv.step (n:=m+1) (by omega) hkM HD0.out.2 HD0.out.1 a b c d e
    have hlq:=hdv.2.2.1;have HRQ:Hid (Row 47 .u64 wr w7.heap.size qs):=hrq;have HBW:Hid (Below w4.heap.size w4 wr):=hbw;have HKI:Hid (M+1-(i+1)=k):=by unfold Hid;omega
    have hke:k+(m+1+1)≤m+1+M+1:=by omega
    clear hdv hpre hrl hrq hbw hrow8 hrowq hbel48 hDw HINI HV7;go_wp2_with fail
    rw[show k+(m+1)+1-k=m+1+1 by omega];refine HDL.mono ?_;rintro e w9 ⟨G,rfl,cur',hrl',c1,c2,c3,eG,eR,hgr⟩;have hst:=HST.out cur' G c1 c2 c3 eG eR;have hrq9:=HRQ.out.kept hgr (by simp;omega);have hfr:=hrq9.frozen k;have hcl:=hrq9.cell k (by omega);have HRL:Hid (Row 47 .u64 (w9.setCell ⟨w7.heap.size,k,none⟩ (.int .u64 G)) w4.heap.size cur'):=hrl'.kept (grown_set _ _ _ _) (by simp;omega);have HRQ9:Hid (Row 47 .u64 (w9.setCell ⟨w7.heap.size,k,none⟩ (.int .u64 G)) w7.heap.size (qs.set k G)):=hrq9.set k G;have HB9:Hid (Below w4.heap.size w4 (w9.setCell ⟨w7.heap.size,k,none⟩ (.int .u64 G))):=(HBW.out.grown hgr HBW.out.size (fun j hj=>by injection hj with hj;omega)).setCell (p:=⟨w7.heap.size,k,none⟩) (by show w4.heap.size≤w7.heap.size;omega) _;have HDS:Hid (Dvs _ _ _ _ _ _ _):=hst.2;clear hst hrq9 hrl' c1 c2 c3 eG eR hgr HST HDL HRQ HBW;go_wp2;go_roundw
    case rel=>exact⟨i+1,cur',_,by omega,by go_num,HRL.out,HRQ9.out,by rw[HKI.out];exact HDS.out,HB9.out⟩
    case measure=>simp[intOf];omega
   ·obtain rfl:i=M+1:=by omega
    rw[Nat.sub_self]at hdv;have hdone:=hdv.done HDV.out HD0.out.1;have hlc:=hdv.1;have hlq:=hdv.2.2.1;have hnq:=hrq.num hdv.2.2.2.1 (by omega);have hnl':=hrl.num hdv.2.1 (by omega);rw[hlq]at hnq;rw[hlc]at hnl';have HSH:=Shift_down (some ⟨w4.heap.size,0,none⟩) (m+1+M+1) (m+1+M+1) cur t wr hnl' (by omega);rw[hdone.2]at HSH;have HQV:Hid (val B64 qs=val B64 xs/val B64 ys):=hdone.1;have HNQ:Hid (NumIn _ _ _ _ _ _ _):=hnq;have HB:Hid (Below w3.heap.size w3 wr):=HBEL.out.trans (hbw.mono HBEL.out.size);clear hdv hdone hrl hrq hnq hnl' hbw hrow8 hrowq hbel48 HINI HV7 hlc hlq h h4 hdn hDv HX0 HD0 HDV;go_wp2_with fail
    refine(trim_any _ _ _ _ _ HNQ.out.lies HNQ.out.lc HNQ.out.cm HNQ.out.nn).mono ?_;rintro e w10 ⟨rfl,rfl⟩;go_wp2_with fail
    refine HSH.mono ?_;rintro e w11 ⟨v,rfl,ar,lr,cr,rs,rfl,r1,r2,r3,r4,r5⟩;have HF:Hid (DivOut w3 w11 (.slice (some ⟨w7.heap.size,0,none⟩) (top qs) (M+1)) (.slice ar lr cr) (val B64 xs) (val B64 ys) (la+1)):=by have hbb:Below w3.heap.size w3 w11:=HB.out.trans (r5.mono HB.out.size);refine⟨(HNQ.out.old r5).out hbb _ HQV.out _ (by omega),⟨ar,lr,cr,rs,rfl,r1,r2,r3,by omega,hbb⟩⟩
    clear r1 r2 r3 r4 r5 HB HNQ HQV;go_wp2;go_ret3
    exact⟨_,_,rfl,HF.out⟩
end
section
open Go.RowKit
def Came (k:IntKind)(w:World)(a:Option Addr)(len cap:Nat)(zs:List Int):Prop:=
 (a=none∧len=0∧cap=0∧zs=[]) ∨
 ∃x,a=some x∧len≤cap∧cap≤maxLen∧zs.length=cap∧(∀i,i<zs.length→w.cell? (x.add i)=some (.int k (zs.getD i 0)))∧∀n∈zs,(Lit.int k n).wf=true
theorem word_u64{x:Int}(h:(Lit.int .u64 x).wf=true):0≤x∧x<18446744073709551616:=by simp[Lit.wf,IntKind.min,IntKind.max,IntKind.signed,IntKind.bits]at h;exact⟨by omega,by omega⟩
theorem word_u8{x:Int}(h:(Lit.int .u8 x).wf=true):0≤x∧x<256:=by simp[Lit.wf,IntKind.min,IntKind.max,IntKind.signed,IntKind.bits]at h;exact⟨by omega,by omega⟩
theorem Came.le{k:IntKind}{w:World}{a:Option Addr}{len cap:Nat}{zs:List Int}(h:Came k w a len cap zs):len≤maxLen:=by
 rcases h with⟨rfl,rfl,rfl,rfl⟩|⟨x,rfl,h1,h2,_⟩
 ·simp
 ·omega
theorem Came.num{k:IntKind}{B:Int}{w:World}{a:Option Addr}{len cap:Nat}{zs:List Int}(hk:∀n,(Lit.int k n).wf=true→0≤n∧n<B)(h:Came k w a len cap zs)(hs:len≤1073741824):NumIn k B w a len cap (zs.take len):=by
 rcases h with⟨rfl,rfl,rfl,rfl⟩|⟨x,rfl,h1,h2,h3,h4,h5⟩
 ·exact NumIn.nil
 ·refine⟨⟨by simp;omega,?_⟩,h1,h2,(fun h=>by cases h),fun n hn=>hk n (h5 n (List.mem_of_mem_take hn)),hs⟩;by_cases h0:len=0
  ·exact .inl h0
  ·right;obtain⟨b,off,spot⟩:=x;have hc:=h4 0 (by omega);have hspot:spot=none:=by simpa [Addr.add] using World.cell?_spot hc
   subst hspot;refine⟨b,off,rfl,?_,fun i hi => ?_⟩
   ·rw[add_none]at hc;exact World.block_lt_of_cell? w ⟨b,off+0,none⟩ hc
   ·have:=h4 i (by omega);rw[add_none]at this;rw[this];simp only[List.getD,List.getElem?_take];rw[if_pos hi]
theorem Came.bytes{w:World}{a:Option Addr}{len cap:Nat}{zs:List Int}(h:Came .u8 w a len cap zs)(hs:len≤2000):NumIn .u8 256 w a len cap (zs.take len):=h.num (fun _=>word_u8) (by omega)
theorem Came.old{k:IntKind}{w w':World}{a:Option Addr}{len cap:Nat}{zs:List Int}(h:Came k w a len cap zs)(hb:Below w.heap.size w w'):Came k w' a len cap zs:=by
 rcases h with h|⟨x,rfl,h1,h2,h3,h4,h5⟩
 ·exact .inl h
 ·refine .inr ⟨x,rfl,h1,h2,h3,fun i hi => ?_,h5⟩;have:=h4 i hi;have hlt:=World.block_lt_of_cell? w _ this;rw[hb.cell hlt];exact this
def Own (e:TypeId)(k:IntKind)(w:World)(base:Nat)(v:Value)(xs:List Int):Prop:=w.ownsRow base e 1 v xs.length (xs.map (Value.int k))
theorem Own.nil(e:TypeId)(k:IntKind)(w:World)(base:Nat):Own e k w base (.slice none 0 0) []:=World.ownsRow_nil w base e 1
theorem Own.num{e:TypeId}{k:IntKind}{B:Int}{w:World}{base:Nat}{v:Value}{xs:List Int}(h:Own e k w base v xs)(hd:Dg B xs)(hs:xs.length≤1073741824):∃ao cap,v=.slice ao xs.length cap∧NumIn k B w ao xs.length cap xs:=by
 rcases h.2 with⟨rfl,h0⟩|⟨g,cap,cur,rfl,hg,hrow,h1,h2,h3,h4⟩
 ·have:xs=[]:=List.eq_nil_of_length_eq_zero h0;subst this;exact⟨none,0,rfl,NumIn.nil⟩
 ·refine⟨_,cap,rfl,⟨⟨rfl,?_⟩,h1,h2,(fun h=>by cases h),hd,hs⟩⟩;right;refine⟨g,0,rfl,(Array.getElem?_eq_some_iff.1 hrow).1,fun i hi => ?_⟩;rw[Nat.zero_add,cell_of_row w g i cur e (0,0) hrow];have:(cur.toList.take (xs.length*1))[i]?=(xs.map (Value.int k))[i]?:=by rw[h4]
  rw[List.getElem?_take,if_pos (by omega)]at this;rw[←Array.getElem?_toList,this];simp[hi]
theorem Own.below{e:TypeId}{k:IntKind}{w w':World}{base:Nat}{v:Value}{xs:List Int}(h:Own e k w base v xs)(hb:Below w.heap.size w w'):Own e k w' base v xs:=by
 refine⟨h.1,?_⟩;rcases h.2 with h0|⟨g,cap,cur,rfl,hg,hrow,r⟩
 ·exact .inl h0
 ·exact .inr ⟨g,cap,cur,rfl,hg,by rw[hb.block g (Array.getElem?_eq_some_iff.1 hrow).1];exact hrow,r⟩
theorem Own.alloc{e:TypeId}{k:IntKind}{w:World}{base:Nat}{v:Value}{xs:List Int}(h:Own e k w base v xs)(o:Obj):Own e k (w.alloc o) base v xs:=World.ownsRow.alloc h o
theorem own_lit0(e:TypeId)(k:IntKind)(w:World)(base:Nat)(hb:base≤w.heap.size):Own e k (w.alloc (.cells #[] e)) base (.slice (some ⟨w.heap.size,0,none⟩) 0 0) []:=
 World.ownsRow_lit w #[] 0 hb (Nat.zero_le _) (by simp)
theorem Row.own{e:TypeId}{k:IntKind}{w:World}{g base:Nat}{xs:List Int}(h:Row e k w g xs)(hb:base≤g)(hs:xs.length≤1073741824):Own e k w base (.slice (some ⟨g,0,none⟩) xs.length xs.length) xs:=by refine⟨by simp,.inr ⟨g,xs.length,_,rfl,hb,h,Nat.le_refl _,by unfold maxLen;omega,by simp,?_⟩⟩;simp only[Nat.mul_one];exact List.take_of_length_le (by simp)
theorem wpList_append_nums{P:Program}{w:World}{ops:Array Oper}{rest:List Oper}{o:Oper}{a:Act}{Q:Exit→Act→World→Prop}(hgd:o.guard=none)(s x:Operand)(t:TypeId)
  (ho:o.op=.call { callee:=.builtin .append,args:=#[s,x],argTypes:=#[t,t] }) (e:TypeId) (k:IntKind) (bytes:Nat) (ht:P.underlying t=some (.slice e))
  (h2:(P.info? e).map (fun i=>(i.zero,i.size,i.bytes))=some (some (.int k 0),1,bytes)) (base:Nat) (v:Value) (xs:List Int) (hs:a.eval s=v) (hown:Own e k w base v xs)
  (ao:Option Addr) (m c:Nat) (ys:List Int) (hx:a.eval x=.slice ao m c) (hy:Lies k w ao m ys) (hnn:ao=none→c=0) (hb1:xs.length+m≤1073741824) (hb2:bytes≤8) (w0:World) (hb:Below base w0 w) (hbase:base≤w.heap.size)
  (h:∀v' w',Own e k w' base v' (xs++ys)→Below base w0 w'→(∀g,v.ownBlock≠some g→g<w.heap.size→w'.heap[g]?=w.heap[g]?)→w.heap.size≤w'.heap.size→wpList P ops Q rest (a.put o.dst v') w'):wpList P ops Q (o::rest) a w:=by
 obtain⟨i,hi,hz0,hz1,hz2⟩:=info_parts h2;have hl:=hy.len
 cases ao with
 | none =>
  obtain rfl:=hnn rfl;have hm0:m=0:=by
   rcases hy.2 with h|⟨b,off,e',_⟩
   ·exact h
   ·cases e'
  subst hm0;have hy0:ys=[]:=List.eq_nil_of_length_eq_zero hl;subst hy0;refine wpList_append_own_none hgd s x t ho base e i 1 ht hi v _ _ hs hown hx ?_;exact h v w (by rw[List.append_nil];exact hown) hb (fun _ _ _=>rfl) (Nat.le_refl _)
 | some ad =>
  have hbt:(xs.length+m)*bytes≤140737488355328:=by have:=Nat.mul_le_mul hb1 hb2;omega
  refine wpList_append_own (w:=w) hgd s x t ho base e i (.int k 0) 1 bytes ht hi hz0 hz1 hz2 rfl (by decide) v _ _ hs hown ad m c (ys.map (Value.int k)) hx (by simp[hl]) ?_ (ints_oneCell _ _) (by unfold maxLen;omega) hbt hbase ?_
  ·intro j u hj;simp only[List.getElem?_map]at hj;by_cases hjm:j<ys.length
   ·obtain⟨b,off,e',hlt,hc⟩:=hy.at (by omega);injection e' with e';subst e';have:=hc j (by omega);rw[List.getElem?_eq_getElem hjm]at hj;simp only[Option.map_some,Option.some.injEq]at hj;rw[add_none,this,←hj];simp[List.getD,List.getElem?_eq_getElem hjm]
   ·rw[List.getElem?_eq_none (by omega)]at hj;simp at hj
  ·intro v' w' hown' hgr _;refine h v' w' ?_ (hb.grown hgr hbase ?_) ?_ hgr.size
   ·unfold Own;rw[List.length_append,List.map_append,hl];exact hown'
   ·intro g hg;exact(hown.lt g hg).1
   ·intro g hg hlt;exact hgr.block g hlt (fun e=>hg e.symm)
theorem Shift_plus(ao:Option Addr)(la ca:Nat)(xs:List Int)(t:Nat)(arg:Int)(w:World)(h:NumIn .u64 B64 w ao la ca xs)(ha:arg=(t:Int))(ht:t<2147483648):
  Calls Tryz.prog 111 #[.slice ao la ca,.int .i64 arg] w fun e w'=>∃v,e=.returned v∧NumOut .u64 B64 w w' v (val B64 xs/2^t) la:=by
 subst ha;exact Shift_down ao la ca xs t w h ht
theorem wpList_append_one{P:Program}{w:World}{ops:Array Oper}{rest:List Oper}{o:Oper}{a:Act}{Q:Exit→Act→World→Prop}(hgd:o.guard=none)(s x:Operand)(t:TypeId)
  (ho:o.op=.call { callee:=.builtin .append,args:=#[s,x],argTypes:=#[t,t] }) (e:TypeId) (k:IntKind) (bytes:Nat) (ht:P.underlying t=some (.slice e))
  (h2:(P.info? e).map (fun i=>(i.zero,i.size,i.bytes))=some (some (.int k 0),1,bytes)) (base:Nat) (v:Value) (xs:List Int) (y:Int) (hs:a.eval s=v) (hown:Own e k w base v xs)
  (hx:a.eval x=.slice (some ⟨w.heap.size,0,none⟩) 1 1) (hb1:xs.length<1073741824) (hb2:bytes≤8) (w0:World) (hb:Below base w0 w) (hbase:base≤w.heap.size)
  (h:∀v' w',Own e k w' base v' (xs++[y])→Below base w0 w'→wpList P ops Q rest (a.put o.dst v') w'):wpList P ops Q (o::rest) a (w.alloc (.cells #[.int k y] e)):=by
 refine wpList_append_nums hgd s x t ho e k bytes ht h2 base v xs hs (hown.alloc _) (some ⟨w.heap.size,0,none⟩) 1 1 [y] hx ((row_alloc w e k y).lies 0 1 (by simp)) (fun h=>by cases h) (by omega) hb2 w0 (hb.alloc hbase _) (by simp;omega) ?_;intro v' w' h1 h2 _ _;exact h v' w' h1 h2
def D16:Int:=65536
theorem D16_pos:0<D16:=by decide
theorem D16_one:1<D16:=by decide
theorem D16_4:D16^4=B64:=by decide
theorem rtrim_any(ao:Option Addr)(len cap:Nat)(xs:List Int)(w:World)(h:NumIn .i64 D16 w ao len cap xs):
  Calls Tryz.prog 64 #[.slice ao len cap] w fun e w'=>e=.returned (.slice ao (top xs) cap)∧w'=w:=by
 have hl:=h.len;have ht:=top_le xs;have hs:=h.sm;have hm:=h.cm;have hlc:=h.lc;have hn:=h.nn;unfold maxLen at hm;go_enter Tryz.func64,Tryz.ntmps64;go_wp2;go_loop [3] (fun v=>∃k:Nat,k≤len∧v=.int .i64 k∧∀j,k≤j→j<len→xs.getD j 0=0) (fun v=>(intOf v).toNat)
 case atStart=>exact⟨len,Nat.le_refl _,rfl,fun j h1 h2=>by omega⟩
 case round =>
  obtain⟨k,hk,rfl,hz⟩:=hrel;have fin:top xs=k→∀(K:Prop),(top xs=k→K)→K:=fun h K f=>f h;by_cases h0:k=0
  ·subst h0;have htop:top xs=0:=top_eq xs 0 (fun j h1 h2=>hz j h1 (by omega)) (.inl rfl);have HT:Hid (top xs=0):=htop;clear htop hz fin h
   cases ao with
   | none=>
    obtain rfl:=hn rfl;obtain rfl:len=0:=by omega
    go_wp2;go_ret;exact⟨ret_slice HT.out.symm rfl,rfl⟩
   | some a=>
    go_wp2;go_ret;exact⟨ret_slice HT.out.symm rfl,rfl⟩
  ·obtain⟨b,off,rfl,hb,hc⟩:=h.lies.at (by omega);obtain⟨m,rfl⟩:∃m,k=m+1:=⟨k-1,by omega⟩
   have hcell:=hc m (by omega);by_cases hz0:xs.getD m 0=0
   ·have HZ:Hid (∀j,m≤j→j<len→xs.getD j 0=0):=fun j h1 h2=>by
     by_cases e:j=m
     ·rw[e];exact hz0
     ·exact hz j (by omega) h2
    rw[hz0]at hcell;clear hz hc hz0 fin h0 h;go_wp2;go_round
    case rel=>exact⟨m,by omega,by go_num,HZ.out⟩
    case measure=>simp only[intOf];omega
   ·have htop:top xs=m+1:=top_eq xs (m+1) (fun j h1 h2=>hz j h1 (by omega)) (.inr (by simpa using hz0));have HT:Hid (top xs=m+1):=htop;have hzb:(xs.getD m 0==0)=false:=by simpa using hz0
    generalize xs.getD m 0=x at *;clear htop hz hc hz0 fin h0 h ht;go_wp2;go_ret;exact⟨ret_slice HT.out.symm rfl,rfl⟩
theorem val_snoc(B:Int)(xs:List Int)(y:Int):val B (xs++[y])=val B xs+B^xs.length*y:=by rw[val_append];simp[val]
def Ofs (xs:List Int)(i k:Nat)(ds:List Int)(x:Int):Prop:=
 ds.length=4*i+k∧Dg D16 ds∧0≤x∧x<D16^(4-k)∧val D16 ds+D16^(4*i+k)*x=low B64 xs (i+1)
theorem pow_D(i:Nat):D16^(4*i)=B64^i:=by rw[Int.pow_mul,D16_4]
theorem Ofs.start{xs:List Int}{i:Nat}{ds:List Int}(h1:ds.length=4*i)(h2:Dg D16 ds)(h3:val D16 ds=low B64 xs i)(hx:0≤xs.getD i 0∧xs.getD i 0<B64):Ofs xs i 0 ds (xs.getD i 0):=
 ⟨by omega,h2,hx.1,by rw[Nat.sub_zero,D16_4];exact hx.2,by rw[Nat.add_zero,pow_D,low_succ,h3]⟩
theorem Ofs.step{xs:List Int}{i k:Nat}{ds:List Int}{x:Int}(h:Ofs xs i k ds x)(hk:k<4):Ofs xs i (k+1) (ds++[x%65536]) (x/65536):=by
 obtain⟨h1,h2,h3,h4,h5⟩:=h;refine⟨by simp[h1];omega,h2.append (Dg.cons ⟨by omega,by unfold D16;omega⟩ (Dg.nil _)),by omega,?_,?_⟩
 ·obtain⟨j,hj⟩:∃j,4-k=j+1:=⟨3-k,by omega⟩
  rw[show 4-(k+1)=j by omega];rw[hj,Int.pow_succ]at h4;unfold D16 at h4 ⊢;omega
 ·rw[val_snoc,h1,show 4*i+(k+1)=(4*i+k)+1 by omega,Int.pow_succ,←h5];have e:x=x%65536+65536*(x/65536):=by omega
  generalize x/65536=q at *;generalize x%65536=r at *;rw[e];have:D16=65536:=rfl;generalize D16^(4*i+k)=p at *;rw[this]
  grind
theorem Ofs.done{xs:List Int}{i:Nat}{ds:List Int}{x:Int}(h:Ofs xs i 4 ds x):ds.length=4*(i+1)∧Dg D16 ds∧val D16 ds=low B64 xs (i+1):=by
 obtain⟨h1,h2,h3,h4,h5⟩:=h;have:x=0:=by simp at h4;omega
 rw[this,Int.mul_zero,Int.add_zero]at h5;exact⟨by omega,h2,h5⟩
theorem rOf_any(ao:Option Addr)(la ca:Nat)(xs:List Int)(w:World)(h:NumIn .u64 B64 w ao la ca xs)(hla:la≤1000000):
  Calls Tryz.prog 56 #[.slice ao la ca] w fun e w'=>∃v,e=.returned v∧NumOut .i64 D16 w w' v (val B64 xs) (4*la):=by
 have hl:=h.len;go_enter Tryz.func56,Tryz.ntmps56;go_wp2;go_loopw [3,4] (fun vo vi wr=>∃(i:Nat) (ds:List Int),i≤la∧vi=.int .i64 i∧Own 3 .i64 wr w.heap.size vo ds∧(ds.length=4*i∧Dg D16 ds∧val D16 ds=low B64 xs i)∧Below w.heap.size w wr) (fun _ vi _=>la-(intOf vi).toNat)
 case atStart=>exact⟨0,[],Nat.zero_le _,rfl,Own.nil _ _ _ _,⟨rfl,Dg.nil _,by simp[val,low_zero]⟩,Below.refl _ _⟩
 case round =>
  obtain⟨i,ds,hi,rfl,hown,hds,hb⟩:=hrel;by_cases hlt:i<la
  ·have hx:=h.lies.old hb;obtain⟨b,off,rfl,hblk,hc⟩:=hx.at (by omega);have hcell:=hc i hlt;have gx:=h.dg.getD B64_pos i;have hst:=Ofs.start hds.1 hds.2.1 hds.2.2 gx;generalize xs.getD i 0=x at *;have HST:Hid (Ofs xs i 0 ds x):=hst;have HOWN:Hid (Own 3 .i64 wr w.heap.size u3 ds):=hown;have HB:Hid (Below w.heap.size w wr):=hb;have HX:Hid (0≤x∧x<B64):=gx;clear hst hown hb hc hx hds gx;go_wp2;go_loopw [3,5,6] (fun vo vx vk wr=>∃(k:Nat) (ds:List Int) (x:Int),k≤4∧vk=.int .i64 k∧vx=.int .u64 x∧Own 3 .i64 wr w.heap.size vo ds∧Ofs xs i k ds x∧Below w.heap.size w wr) (fun _ _ vk _=>4-(intOf vk).toNat)
   case atStart=>exact⟨0,ds,x,by omega,rfl,rfl,HOWN.out,HST.out,HB.out⟩
   case round=>
    obtain⟨k,ds2,x2,hk,rfl,rfl,hown2,hof,hb2⟩:=hrel;by_cases hk4:k<4
    ·have hx0:=hof.2.2.1;have hlen2:=hof.1;have HS:Hid (Ofs xs i (k+1) (ds2++[x2%65536]) (x2/65536)):=hof.step hk4;have hxb:x2<18446744073709551616:=by
      have:=hof.2.2.2.1;have hp:=pow_mono (B:=D16) (by decide) (show 4-k≤4 by omega);rw[D16_4]at hp;unfold B64 at hp;omega
     have hbs:=hb2.size;have HLB:Hid (ds2.length<1073741824):=by unfold Hid;omega
     clear hof HST HOWN HB HX hcell hlen2;go_wp2_with (at_builtin;refine wpList_append_one rfl _ _ 55 rfl 3 .i64 8 Tryz.underlying55 Tryz.infoI w.heap.size u3 ds2 (x2%65536) (by rfl) hown2 (by rfl) HLB.out (by decide) w hb2 hbs ?_)
     intro v' w' hown' hb';clear hown2 hb2 hbs;go_wp2;go_roundw
     case rel=>exact⟨k+1,_,_,by omega,by go_num,rfl,hown',HS.out,hb'⟩
     case measure=>simp[intOf];omega
    ·obtain rfl:k=4:=by omega
     have hdn:=hof.done;have HF:Hid _:=hdn;clear hof hdn HST HOWN HB HX hcell;go_wp2;go_roundw
     case rel=>exact⟨i+1,_,by omega,by go_num,hown2,HF.out,hb2⟩
     case measure=>simp[intOf];omega
  ·obtain rfl:i=la:=by omega
   obtain⟨a2,c2,hv,hnum⟩:=hown.num hds.2.1 (by omega);have HV:Hid (val D16 ds=val B64 xs):=by unfold Hid;rw[hds.2.2,←hl,low_len]
   have HL:Hid (ds.length=4*i):=hds.1;have HN:Hid (NumIn .i64 D16 wr a2 ds.length c2 ds):=hnum;have HB:Hid (Below w.heap.size w wr):=hb;subst hv;clear hown hds hnum hb;go_wp2_with fail
   refine(rtrim_any _ _ _ _ _ HN.out).mono ?_;rintro e w4 ⟨rfl,rfl⟩;go_wp2;go_ret;exact⟨_,rfl,HN.out.out HB.out _ HV.out _ (by have:=HL.out;omega)⟩
def hi (ds:List Int)(p:Nat):Nat→Int
 | 0=>0
 | n+1=>ds.getD p 0+65536*hi ds (p+1) n
theorem hi_range(ds:List Int)(hd:Dg D16 ds):∀(n p:Nat),0≤hi ds p n∧hi ds p n<D16^n
 | 0,p=>by simp[hi]
 | n+1,p=>by
  have h:=hi_range ds hd n (p+1);have g:=hd.getD D16_pos p;rw[hi,Int.pow_succ];unfold D16 at *;omega
theorem hi_low(ds:List Int):∀(n p:Nat),low D16 ds (p+n)=low D16 ds p+D16^p*hi ds p n
 | 0,p=>by simp[hi]
 | n+1,p=>by
  have h:=hi_low ds n (p+1);rw[show p+(n+1)=p+1+n by omega,h,hi,low_succ,Int.pow_succ];have:D16=65536:=rfl;generalize D16^p=q at *;rw[this]
  grind
theorem canon_of_ge{B:Int}(hB:1<B){xs:List Int}(hd:Dg B xs)(n:Nat)(hl:xs.length=n+1)(h:B^n≤val B xs):Canon xs:=by
 unfold Canon;have ht:=top_le xs;by_cases e:top xs=xs.length
 ·exact e
 ·exfalso;have a:=val_lt (by omega) (hd.take (top xs));rw[val_take_top]at a;have c:(xs.take (top xs)).length=top xs:=by simp;omega
  rw[c]at a;have d:=pow_mono (B:=B) (by omega) (show top xs≤n by omega);omega
def Nats (ds:List Int)(m:Nat)(outs:List Int):Prop:=outs.length=m∧Dg B64 outs∧val B64 outs=low D16 ds (4*m)
theorem Nats.step{ds:List Int}{m:Nat}{outs:List Int}(hd:Dg D16 ds)(h:Nats ds m outs):Nats ds (m+1) (outs++[hi ds (4*m) 4]):=by obtain⟨h1,h2,h3⟩:=h;have hr:=hi_range ds hd 4 (4*m);rw[D16_4]at hr;refine⟨by simp[h1],h2.append (Dg.cons hr (Dg.nil _)),?_⟩;rw[val_snoc,h3,h1,show 4*(m+1)=4*m+4 by omega,hi_low,pow_D]
theorem Nats.done{ds:List Int}{m:Nat}{outs:List Int}(h:Nats ds m outs)(hd:Dg D16 ds)(hc:Canon ds)(h1:ds.length≤4*m)(h2:4*m<ds.length+4):val B64 outs=val D16 ds∧Canon outs:=by
 obtain⟨e1,e2,e3⟩:=h;have hv:val B64 outs=val D16 ds:=by rw[e3];exact low_all _ _ _ (by unfold Canon at hc;omega)
 refine⟨hv,?_⟩
 cases m with
 | zero=>
  have:outs=[]:=List.eq_nil_of_length_eq_zero e1;rw[this];exact Canon.nil
 | succ m=>
  refine canon_of_ge B64_one e2 m e1 ?_;rw[hv,←pow_D];have a:=val_ge D16_pos hd (ds.length-1) (by unfold Canon at hc;omega);have b:=pow_mono (B:=D16) (by decide) (show 4*m≤ds.length-1 by omega);omega
theorem rNat_any(ao:Option Addr)(la ca:Nat)(ds:List Int)(w:World)(h:NumIn .i64 D16 w ao la ca ds)(hc:Canon ds)(hla:la≤1000000):
  Calls Tryz.prog 13 #[.slice ao la ca] w fun e w'=>∃v,e=.returned v∧NumOut .u64 B64 w w' v (val D16 ds) la:=by
 have hl:=h.len;go_enter Tryz.func13,Tryz.ntmps13;go_wp2;go_loopw [3,4] (fun vo vi wr=>∃(m:Nat) (outs:List Int),4*m<la+4∧vi=.int .i64 ((4*m:Nat):Int)∧Own 47 .u64 wr w.heap.size vo outs∧Nats ds m outs∧Below w.heap.size w wr) (fun _ vi _=>la+4-(intOf vi).toNat)
 case atStart=>exact⟨0,[],by omega,rfl,Own.nil _ _ _ _,⟨rfl,Dg.nil _,by simp[val,low_zero]⟩,Below.refl _ _⟩
 case round =>
  obtain⟨m,outs,hi0,rfl,hown,hns,hb⟩:=hrel;by_cases hlt:4*m<la
  ·have hx:=h.lies.old hb;obtain⟨b,off,rfl,hblk,hcs⟩:=hx.at (by omega);have HC:Hid (∀i,i<la→wr.cell? ⟨b,off+i,none⟩=some (.int .i64 (ds.getD i 0))):=hcs;have HN:Hid (Nats ds m outs):=hns;have HOWN:Hid (Own 47 .u64 wr w.heap.size u3 outs):=hown;have HB:Hid (Below w.heap.size w wr):=hb;have HD:Hid (Dg D16 ds):=h.dg;clear hns hown hb hcs hx h hc;go_wp2;go_loop [5,6] (fun vx vk=>∃(kk:Nat),kk≤4∧vk=.int .i64 ((kk:Int)-1)∧vx=.int .u64 (hi ds (4*m+kk) (4-kk))) (fun _ vk=>(intOf vk+1).toNat)
   case atStart=>exact⟨4,by omega,rfl,rfl⟩
   case round=>
    obtain⟨kk,hk,rfl,rfl⟩:=hrel;by_cases hk0:kk=0
    ·subst hk0;have HS:Hid (Nats ds (m+1) (outs++[hi ds (4*m) 4])):=HN.out.step HD.out;have hlen:=HN.out.1;have HLB:Hid (outs.length<1073741824):=by unfold Hid;omega
     have hbs:=HB.out.size;have hbw:=HB.out;have how:=HOWN.out;rw[show 4*m+0=4*m from rfl,show 4-0=4 from rfl];generalize hi ds (4*m) 4=x at *;clear HN HB HOWN HC HD hlen;go_wp2_with (at_builtin;refine wpList_append_one rfl _ _ 24 rfl 47 .u64 8 Tryz.underlying24 Tryz.infoU w.heap.size u3 outs x (by rfl) how (by rfl) HLB.out (by decide) w hbw hbs ?_)
     intro v' w' hown' hb';clear how hbw hbs;go_wp2;go_roundw
     case rel=>exact⟨m+1,_,by omega,by go_num,hown',HS.out,hb'⟩
     case measure=>simp[intOf];omega
    ·obtain⟨k,rfl⟩:∃k,kk=k+1:=⟨kk-1,by omega⟩
     have hr:=hi_range ds HD.out (4-(k+1)) (4*m+(k+1));have hp:=pow_mono (B:=D16) (by decide) (show 4-(k+1)≤3 by omega);have e3:D16^3=281474976710656:=by decide
     rw[e3]at hp;have hx2:hi ds (4*m+(k+1)) (4-(k+1))<281474976710656:=by omega
     have hx1:=hr.1;have hg:=HD.out.getD D16_pos (4*m+k);have HE:Hid (hi ds (4*m+k) (4-k)=ds.getD (4*m+k) 0+65536*hi ds (4*m+(k+1)) (4-(k+1))):=by unfold Hid;rw[show 4-k=(4-(k+1))+1 by omega,hi];rfl
     clear hr hp e3;unfold D16 at hg;by_cases hin:4*m+k<la
     ·have hcell:=HC.out (4*m+k) hin;generalize hi ds (4*m+(k+1)) (4-(k+1))=x at *;generalize ds.getD (4*m+k) 0=y at *;have ei:((4*m+k:Nat):Int)=4*(m:Int)+(k:Int):=by omega
      clear HN HB HOWN HC HD;go_wp2;go_round
      case rel=>exact⟨k,by omega,by go_num,by rw[HE.out];go_num⟩
      case measure=>simp[intOf]<;>omega
     ·have hz:ds.getD (4*m+k) 0=0:=by simp[List.getD,List.getElem?_eq_none (show ds.length≤4*m+k by omega)]
      rw[hz]at HE;generalize hi ds (4*m+(k+1)) (4-(k+1))=x at *;clear HN HB HOWN HC HD hz hg;go_wp2;go_round
      case rel=>exact⟨k,by omega,by go_num,by rw[HE.out];go_num⟩
      case measure=>simp[intOf]<;>omega
  ·have hdn:=hns.done h.dg hc (by omega) (by omega);have hlen:=hns.1;obtain⟨a2,c2,hv,hnum⟩:=hown.num hns.2.1 (by omega);have HF:Hid (NumOut .u64 B64 w wr (.slice a2 outs.length c2) (val D16 ds) la):=⟨_,_,_,_,rfl,hnum,hdn.2,hdn.1,by omega,hb⟩
   subst hv;clear hown hns hnum hb hdn hlen hc h;go_wp2;go_ret;exact⟨_,rfl,HF.out⟩
theorem blen_split(L e m:Nat)(hL:L<2^m)(he:e≠0):blen (L+2^m*e)=m+blen e:=by
 have b1:=blen_lt e;have b2:=blen_ge e he;have b3:=blen_pos e he;have hp:=Nat.two_pow_pos m;obtain⟨c,hc⟩:∃c,blen e=c+1:=⟨blen e-1,by omega⟩
 rw[hc]at b1 b2;simp only[Nat.add_sub_cancel]at b2;have:=blen_eq (L+2^m*e) (m+c) (by
  rw[Nat.pow_add];have:=Nat.mul_le_mul_left (2^m) b2;omega) (by
  rw[show m+c+1=m+(c+1) by omega,Nat.pow_add];have:=Nat.mul_le_mul_left (2^m) (show e+1≤2^(c+1) by omega);rw[Nat.mul_add]at this;omega)
 omega
theorem blen_half(n:Nat)(h:0<n):blen n=1+blen (n/2):=by
 by_cases h1:n=1
 ·subst h1;decide
 ·have:=blen_shift n 1 (by omega);simpa using this
theorem rlen_eq(ds:List Int)(hd:Dg D16 ds)(hc:Canon ds)(m:Nat)(hm:ds.length=m+1):16*m+blen (ds.getD m 0).toNat=blen (val D16 ds).toNat:=by
 have ht:top ds=m+1:=by unfold Canon at hc;omega
 have hh:=top_hit ds (by omega);have hg:=hd.getD D16_pos m;rw[ht]at hh;simp only[Nat.add_sub_cancel]at hh;have hv:val D16 ds=low D16 ds m+D16^m*ds.getD m 0:=by rw[←low_succ,←hm,low_len]
 have l0:0≤low D16 ds m:=val_nonneg D16_pos (hd.take m);have l1:low D16 ds m<D16^m:=by
  have a:=val_lt D16_pos (hd.take m);have b:(ds.take m).length≤m:=by simp;omega
  have c:=pow_mono (B:=D16) (by decide) b;unfold low;omega
 generalize ds.getD m 0=d at *;generalize low D16 ds m=L at *;obtain⟨e,rfl⟩:=Int.eq_ofNat_of_zero_le hg.1;obtain⟨L,rfl⟩:=Int.eq_ofNat_of_zero_le l0;have hB:D16^m=((2^(16*m):Nat):Int):=by rw[Int.natCast_pow,Int.pow_mul];rfl
 rw[hB]at hv l1;rw[hv,←Int.natCast_mul,←Int.natCast_add,Int.toNat_natCast,Int.toNat_natCast,blen_split L e (16*m) (by omega) (by intro h0;rw[h0]at hh;exact hh rfl)]
theorem rLen_any(ao:Option Addr)(la ca:Nat)(ds:List Int)(w:World)(h:NumIn .i64 D16 w ao la ca ds)(hc:Canon ds)(hla:la≤1000000):
  Calls Tryz.prog 30 #[.slice ao la ca] w fun e w'=>e=.returned (.int .i64 (blen (val D16 ds).toNat))∧w'=w:=by
 have hl:=h.len;by_cases h0:la=0
 ·subst h0;have hx:ds=[]:=List.eq_nil_of_length_eq_zero hl;subst hx;clear h hc;go_enter Tryz.func30,Tryz.ntmps30;go_wp2;go_ret;exact⟨ret_int (by simp[val,blen]),rfl⟩
 ·obtain⟨m,rfl⟩:∃m,la=m+1:=⟨la-1,by omega⟩
  obtain⟨b,off,rfl,hb,hcs⟩:=h.lies.at (by omega);have hcell:=hcs m (by omega);have HE:Hid (16*m+blen (ds.getD m 0).toNat=blen (val D16 ds).toNat):=rlen_eq ds h.dg hc m hl;have hg:=h.dg.getD D16_pos m;generalize ds.getD m 0=d at *;obtain⟨d,rfl⟩:=Int.eq_ofNat_of_zero_le hg.1;rw[Int.toNat_natCast]at HE;have hd2:d<65536:=by unfold D16 at hg;omega
  have hbl:=blen_le d 16 hd2;clear hcs h hc hg h0 hl;go_enter Tryz.func30,Tryz.ntmps30;go_wp2;go_loop [3,4] (fun vn vx=>∃(j x:Nat),j+blen x=blen d∧x≤d∧vn=.int .i64 ((16*m+j:Nat):Int)∧vx=.int .i64 (x:Int)) (fun _ vx=>(intOf vx).toNat)
  case atStart=>exact⟨0,d,by omega,Nat.le_refl _,by go_num,rfl⟩
  case round=>
   obtain⟨j,x,hj,hx,rfl,rfl⟩:=hrel;by_cases h0:x=0
   ·subst h0;have HF:Hid (16*m+j=blen (val D16 ds).toNat):=by unfold Hid;rw[←HE.out,←hj,blen_zero];omega
    clear HE hj;rw[show((0:Nat):Int)=0 from rfl];go_wp2;go_ret;exact⟨ret_int (by rw[←HF.out];omega),rfl⟩
   ·have HS:Hid ((j+1)+blen (x/2)=blen d):=by unfold Hid;rw[←hj,blen_half x (by omega)];omega
    have hj2:j≤16:=by omega
    clear HE hj;go_wp2;go_round
    case rel=>exact⟨j+1,x/2,HS.out,by omega,by go_num,by go_num⟩
    case measure=>simp[intOf]<;>omega
theorem rCmp_any(ao bo:Option Addr)(la ca lb cb:Nat)(xs ys:List Int)(w:World)(h:NumIn .i64 D16 w ao la ca xs)(h':NumIn .i64 D16 w bo lb cb ys)(hx:Canon xs)(hy:Canon ys)(hla:la≤1000000)(hlb:lb≤1000000):
  Calls Tryz.prog 57 #[.slice ao la ca,.slice bo lb cb] w fun e w'=>e=.returned (.int .i64 (cmpI (val D16 xs) (val D16 ys)))∧Drew w w':=by
 have hl:=h.len;have hl':=h'.len;unfold Canon at hx hy;rcases Nat.lt_trichotomy la lb with hlt|heq|hlt
 ·have HF:Hid (cmpI (val D16 xs) (val D16 ys) = -1):=cmpI_lt (top_lt_val D16_one h.dg h'.dg (by omega));have hne:((la:Int) != (lb:Int))=true:=by simp;omega
  clear h h' hx hy;go_enter Tryz.func57,Tryz.ntmps57;go_wp2;go_ret;exact⟨ret_int HF.out.symm,Drew.refl _⟩
 ·subst heq;clear hx hy;go_enter Tryz.func57,Tryz.ntmps57;go_wp2;go_loopw [5] (fun vi wr=>∃(k:Nat),k≤la∧vi=.int .i64 ((k:Int)-1)∧(∀j,k≤j→j<la→xs.getD j 0=ys.getD j 0)∧Drew w wr) (fun vi _=>(intOf vi+1).toNat)
  case atStart=>exact⟨la,Nat.le_refl _,by go_num,fun j h1 h2=>by omega,Drew.refl _⟩
  case round=>
   obtain⟨k,hk,rfl,heq,hdr⟩:=hrel;by_cases h0:k=0
   ·subst h0;have HF:Hid (cmpI (val D16 xs) (val D16 ys)=0):=by
     refine cmpI_eq ?_;congr 1
     apply List.ext_getElem
     ·omega
     ·intro i h1 h2;have:=heq i (by omega) (by omega);simp only[List.getD]at this;rw[List.getElem?_eq_getElem h1,List.getElem?_eq_getElem h2]at this;simpa using this
    clear heq h h';go_wp2;go_ret;exact⟨ret_int HF.out.symm,hdr⟩
   ·obtain⟨p,rfl⟩:∃p,k=p+1:=⟨k-1,by omega⟩
    obtain⟨b,off,rfl,hb,hc⟩:=h.lies.at (by omega);obtain⟨b2,off2,rfl,hb2,hc2⟩:=h'.lies.at (by omega);have hcell:=(hdr.cell _).trans (hc p (by omega));have hcell2:=(hdr.cell _).trans (hc2 p (by omega));have HL:Hid (xs.getD p 0<ys.getD p 0→val D16 xs<val D16 ys):=cmp_at D16 D16_one xs ys h.dg h'.dg la hl hl' p (by omega) (fun j h1 h2=>heq j (by omega) h2);have HG:Hid (ys.getD p 0<xs.getD p 0→val D16 ys<val D16 xs):=cmp_at D16 D16_one ys xs h'.dg h.dg la hl' hl p (by omega) (fun j h1 h2=>(heq j (by omega) h2).symm);have HE:Hid (xs.getD p 0=ys.getD p 0→∀j,p≤j→j<la→xs.getD j 0=ys.getD j 0):=fun h0 j h1 h2=>by
     by_cases hj:j=p
     ·rw[hj];exact h0
     ·exact heq j (by omega) h2
    have HDR:Hid (Drew w wr):=hdr;generalize xs.getD p 0=x at *;generalize ys.getD p 0=y at *;clear hc hc2 heq h h' hdr;rcases Int.lt_trichotomy x y with hxy|hxy|hxy
    ·have HF:Hid (cmpI (val D16 xs) (val D16 ys) = -1):=cmpI_lt (HL.out hxy);clear HL HG HE;go_wp2;go_quiet (fail)
     go_wp2;go_ret;exact⟨ret_int HF.out.symm,HDR.out.more _⟩
    ·have HF:Hid (∀j,p≤j→j<la→xs.getD j 0=ys.getD j 0):=HE.out hxy;subst hxy;clear HL HG HE;go_wp2;go_quiet (fail)
     go_wp2;go_quiet (fail)
     go_wp2;go_roundw
     case rel=>exact⟨p,by omega,by go_num,HF.out,HDR.out.more _⟩
     case measure=>simp[intOf]<;>omega
    ·have HF:Hid (cmpI (val D16 xs) (val D16 ys)=1):=cmpI_gt (HG.out hxy);clear HL HG HE;go_wp2;go_quiet (fail)
     go_wp2;go_quiet (fail)
     go_wp2;go_ret;exact⟨ret_int HF.out.symm,(HDR.out.more _).more _⟩
 ·have HF:Hid (cmpI (val D16 xs) (val D16 ys)=1):=cmpI_gt (top_lt_val D16_one h'.dg h.dg (by omega));have hne:((la:Int) != (lb:Int))=true:=by simp;omega
  clear h h' hx hy;go_enter Tryz.func57,Tryz.ntmps57;go_wp2;go_ret;exact⟨ret_int HF.out.symm,Drew.refl _⟩
def bitAt(V:Int)(p:Nat):Int:=V/2^p%2
theorem bitAt_01(V:Int)(p:Nat):bitAt V p=0∨bitAt V p=1:=by unfold bitAt;omega
theorem bit_of_digit{B:Int}{m:Nat}(hB:B=2^m)(hm:0<m)(xs:List Int)(hd:Dg B xs)(p:Nat):xs.getD (p/m) 0/2^(p%m)%2=bitAt (val B xs) p:=by
 have hB0:0<B:=by rw[hB];exact Int.pow_pos (by decide)
 unfold bitAt;rw[digit_at hB0 xs hd (p/m)];have hp:(0:Int)<B^(p/m):=Int.pow_pos hB0;have hq:(0:Int)<2^(p%m):=Int.pow_pos (by decide);have e0:(2:Int)^p=B^(p/m)*2^(p%m):=by rw[hB,←Int.pow_mul,←Int.pow_add,Nat.div_add_mod]
 rw[e0,←Int.ediv_ediv_of_nonneg (by omega)];generalize val B xs/B^(p/m)=Y;have hlt:p%m<m:=Nat.mod_lt _ hm;have e:B=2^(p%m)*(2*2^(m-1-p%m)):=by rw[Int.mul_comm 2,←Int.pow_succ,←Int.pow_add,show p%m+(m-1-p%m+1)=m by omega];exact hB
 rw[e];generalize (2:Int)^(p%m)=q at *;generalize (2:Int)^(m-1-p%m)=s at *;rw[Int.emod_def Y,show Y-q*(2*s)*(Y/(q*(2*s)))=Y+q*(-(2*s*(Y/(q*(2*s))))) by grind];rw[Int.add_mul_ediv_left _ _ (by omega)];rw[show Y/q + -(2*s*(Y/(q*(2*s))))=Y/q+2*(-(s*(Y/(q*(2*s))))) by grind,Int.add_mul_emod_self_left]
theorem rBit_any(ao:Option Addr)(la ca:Nat)(ds:List Int)(i:Nat)(w:World)(h:NumIn .i64 D16 w ao la ca ds)(hi:i<1000000000):
  Calls Tryz.prog 41 #[.slice ao la ca,.int .i64 i] w fun e w'=>e=.returned (.int .i64 (bitAt (val D16 ds) i))∧w'=w:=by
 have hl:=h.len;have HE:Hid (ds.getD (i/16) 0/2^(i%16)%2=bitAt (val D16 ds) i):=bit_of_digit (m:=16) rfl (by decide) ds h.dg i;have gx:=h.dg.getD D16_pos (i/16);obtain⟨q,hq⟩:∃q,i/16=q:=⟨_,rfl⟩
 obtain⟨r,hr⟩:∃r,i%16=r:=⟨_,rfl⟩
 have hqI:(i:Int)/16=(q:Int):=by omega
 have hrI:(i:Int)%16=(r:Int):=by omega
 have hr16:r<16:=by omega
 rw[hq,hr]at HE;rw[hq]at gx;by_cases hin:q<la
 ·obtain⟨b,off,rfl,hblk,hcs⟩:=h.lies.at (by omega);have hc:=hcs q hin;have x0:=gx.1;have x1:ds.getD q 0<65536:=gx.2;generalize ds.getD q 0=x at *;clear hcs h hq hr gx;go_enter Tryz.func41,Tryz.ntmps41;go_wp2;go_ret;exact⟨ret_int (by rw[←HE.out];exact Int.tmod_eq_emod_of_nonneg (Int.ediv_nonneg x0 (Int.le_of_lt (Int.pow_pos (by decide))))),rfl⟩
 ·have hz:ds.getD q 0=0:=by simp[List.getD,List.getElem?_eq_none (show ds.length≤q by omega)]
  rw[hz]at HE;have HF:Hid (bitAt (val D16 ds) i=0):=by unfold Hid;rw[←HE.out];simp
  clear h hq hr gx hz HE;go_enter Tryz.func41,Tryz.ntmps41;go_wp2;go_ret;exact⟨ret_int HF.out.symm,rfl⟩
theorem low_bit(a:Nat)(ha:a<18446744073709551616):bits .and .u64 (a:Int) 1=((a%2:Nat):Int):=by have h:=bits_and_u64_nat a 1 ha (by omega);rw[show a&&&1=a%2 from Nat.and_two_pow_sub_one_eq_mod a 1]at h;exact h
theorem isSet_any(ao:Option Addr)(la ca:Nat)(xs:List Int)(i:Nat)(w:World)(h:NumIn .u64 B64 w ao la ca xs)(hi:i<1000000000):
  Calls Tryz.prog 100 #[.slice ao la ca,.int .i64 i] w fun e w'=>e=.returned (.bool (bitAt (val B64 xs) i==1))∧w'=w:=by
 have hl:=h.len;have hs:=h.sm;have HE:Hid (xs.getD (i/64) 0/2^(i%64)%2=bitAt (val B64 xs) i):=bit_of_digit (m:=64) rfl (by decide) xs h.dg i;have gx:=h.dg.getD B64_pos (i/64);have HL:=limb_any ao la ca xs ((i:Int)/64) w h.lies (by unfold maxLen;omega) (by omega);rw[show((i:Int)/64).toNat=i/64 by omega]at HL;obtain⟨q,hq⟩:∃q,i/64=q:=⟨_,rfl⟩
 obtain⟨r,hr⟩:∃r,i%64=r:=⟨_,rfl⟩
 have hqI:(i:Int)/64=(q:Int):=by omega
 have hrI:(i:Int)%64=(r:Int):=by omega
 have hr64:r<64:=by omega
 rw[hq,hr]at HE;rw[hq]at gx HL;rw[hqI]at HL;obtain⟨x,hx⟩:=Int.eq_ofNat_of_zero_le gx.1;rw[hx]at HE gx HL;have hx1:x<18446744073709551616:=by unfold B64 at gx;omega
 have ed:(x:Int)/2^r=((x/2^r:Nat):Int):=by rw[Int.natCast_ediv,Int.natCast_pow];rfl
 have hdl:x/2^r<18446744073709551616:=Nat.lt_of_le_of_lt (Nat.div_le_self _ _) hx1;have hb:=low_bit (x/2^r) hdl;rw[←ed]at hb;clear h hq hr gx hx ed;go_enter Tryz.func100,Tryz.ntmps100;go_wp2_with fail
 refine HL.mono ?_;rintro e w' ⟨rfl,rfl⟩;go_wp2;go_ret;exact⟨by rw[←HE.out];rfl,rfl⟩
theorem new_cell(W:World)(v:Value)(t:TypeId):(W.alloc (.cells #[v] t)).cell? ⟨W.heap.size,0,none⟩=some v∧(W.alloc (.cells #[v] t)).frozen? ⟨W.heap.size,0,none⟩=false:=⟨by simp,by simp⟩
theorem more_cell{W:World}{a:Addr}{v:Value}(o:Obj)(h:W.cell? a=some v):(W.alloc o).cell? a=some v:=cell_kept h (World.grownBy_alloc W o none) (fun r e=>by cases e)
def BitsAt(w:World)(g3 g4:Nat)(V:Int)(L:Nat):Prop:=
 ∃ao la ca xs,g3<w.heap.size∧g4<w.heap.size∧w.cell? ⟨g4,0,none⟩=some (.int .i64 L)∧w.cell? ⟨g3,0,none⟩=some (.slice ao la ca)∧NumIn .u64 B64 w ao la ca xs∧val B64 xs=V∧L≤4480
theorem BitsAt.old{w w':World}{g3 g4:Nat}{V:Int}{L:Nat}(h:BitsAt w g3 g4 V L)(hb:Below w.heap.size w w'):BitsAt w' g3 g4 V L:=by obtain⟨ao,la,ca,xs,h1,h2,h3,h4,h5,h6,h7⟩:=h;exact⟨ao,la,ca,xs,Nat.lt_of_lt_of_le h1 hb.size,Nat.lt_of_lt_of_le h2 hb.size,(hb.cell (p:=⟨g4,0,none⟩) h2).trans h3,(hb.cell (p:=⟨g3,0,none⟩) h1).trans h4,h5.old hb,h6,h7⟩
theorem Bits_new(ao:Option Addr)(la ca:Nat)(xs:List Int)(w:World)(h:NumIn .u64 B64 w ao la ca xs)(hla:la≤70):
  Calls Tryz.prog 78 #[.slice ao la ca] w fun e w'=>∃g3 g4,e=.returned (.func (.func 99) #[] #[.pointer (some ⟨g4,0,none⟩),.pointer (some ⟨g3,0,none⟩)])∧BitsAt w' g3 g4 (val B64 xs) (blen (val B64 xs).toNat)∧Below w.heap.size w w'∧w.heap.size≤g3:=by
 have HN:=Norm_any ao la ca xs w h;have hbl:blen (val B64 xs).toNat≤4480:=by
  have h0:=val_nonneg B64_pos h.dg;have h1:=val_lt B64_pos h.dg;have h2:=pow_mono (B:=B64) (by decide) (show xs.length≤70 by have:=h.len;omega);refine blen_le _ _ ?_;have e:((2^4480:Nat):Int)=B64^70:=by decide +kernel
  omega
 have HBL:Hid (blen (val B64 xs).toNat≤4480):=hbl;clear hbl h;go_enter Tryz.func78,Tryz.ntmps78;go_wp2_with fail
 refine HN.mono ?_;rintro e w1 ⟨v,rfl,a1,l1,c1,ys,rfl,hy,hcy,hvy,hby,hb⟩;have HB1:Hid (Below w.heap.size w w1):=hb;have HY:Hid (NumIn .u64 B64 w1 a1 l1 c1 ys∧val B64 ys=val B64 xs):=⟨hy,hvy⟩
 clear hy hcy hvy hb HN;go_wp2_with fail
 obtain⟨w2,hw2⟩:∃w2,w1.alloc (.cells #[.slice a1 l1 c1] 24)=w2:=⟨_,rfl⟩
 have c3:=new_cell w1 (.slice a1 l1 c1) 24;have hb2:Below w1.heap.size w1 (w1.alloc (.cells #[.slice a1 l1 c1] 24)):=(Below.refl _ _).alloc (Nat.le_refl _) _;have hs2:(w1.alloc (.cells #[.slice a1 l1 c1] 24)).heap.size=w1.heap.size+1:=World.size_alloc _ _;have HL:=Len_any a1 l1 c1 ys (w1.alloc (.cells #[.slice a1 l1 c1] 24)) (HY.out.1.old hb2);rw[show lenOf ys=blen (val B64 xs).toNat from by rw[lenOf_eq _ HY.out.1.dg,HY.out.2]]at HL;rw[hw2]at HL c3 hb2 hs2 ⊢;clear hw2;refine HL.mono ?_;rintro e w2' ⟨rfl,rfl⟩;clear HL;generalize hL:blen (val B64 xs).toNat=L at *;have c4:=new_cell w2' (.int .i64 L) 3;have hb3:Below w2'.heap.size w2' (w2'.alloc (.cells #[.int .i64 L] 3)):=(Below.refl _ _).alloc (Nat.le_refl _) _;have HF:Hid (BitsAt (w2'.alloc (.cells #[.int .i64 L] 3)) w1.heap.size w2'.heap.size (val B64 xs) L∧Below w.heap.size w (w2'.alloc (.cells #[.int .i64 L] 3))∧w.heap.size≤w1.heap.size):=by
  refine⟨⟨a1,l1,c1,ys,?_,?_,c4.1,?_,(HY.out.1.old hb2).old hb3,HY.out.2,HBL.out⟩,?_,HB1.out.size⟩
  ·rw[World.size_alloc];omega
  ·rw[World.size_alloc];omega
  ·exact(hb3.cell (p:=⟨w1.heap.size,0,none⟩) (by show w1.heap.size<_;omega)).trans c3.1
  ·exact(HB1.out.trans (hb2.mono HB1.out.size)).trans (hb3.mono (by have:=HB1.out.size;omega))
 have HS:Hid (w2'.heap.size=w1.heap.size+1):=hs2;have HLE:Hid (blen (val B64 xs).toNat=L):=hL;clear c3 c4 hb2 hb3 HB1 HY HBL hs2 hL;go_wp2;go_ret;exact⟨_,_,rfl,by rw[HLE.out];exact HF.out⟩
end
section
open Go.RowKit Go.Shelf
attribute [local go_sem] Oper.semAt_some
abbrev encB(p:Int × Bool):Array Value:=#[.int .i64 p.1,.bool p.2]
def bitOf(V:Int)(L i:Nat):Int × Bool:=(((L-1-i:Nat):Int),bitAt V (L-1-i)==1)
def bitsOf(V:Int)(L k:Nat):List (Int × Bool):=(List.range k).map (bitOf V L)
theorem bitsOf_succ(V:Int)(L k:Nat):bitsOf V L (k+1)=bitsOf V L k++[bitOf V L k]:=by simp[bitsOf,List.range_succ]
theorem bitsOf_len(V:Int)(L k:Nat):(bitsOf V L k).length=k:=by simp[bitsOf]
theorem bitsOf_pre(V:Int)(L k m:Nat)(h:k≤m):bitsOf V L k <+: bitsOf V L m:=by
 obtain⟨d,rfl⟩:=Nat.le.dest h;clear h;induction d with
 | zero=>exact List.prefix_refl _
 | succ d ih=>rw[←Nat.add_assoc,bitsOf_succ];exact ih.trans (List.prefix_append _ _)
end
section
def Cg (M a b:Int):Prop:=∃k,a-b=M*k
theorem Cg.refl(M a:Int):Cg M a a:=⟨0,by simp⟩
theorem Cg.of_eq{M a b:Int}(h:a=b):Cg M a b:=h ▸ Cg.refl M a
theorem Cg.symm{M a b:Int}(h:Cg M a b):Cg M b a:=by obtain⟨k,hk⟩:=h;exact⟨-k,by grind⟩
theorem Cg.trans{M a b c:Int}(h:Cg M a b)(h':Cg M b c):Cg M a c:=by obtain⟨k,hk⟩:=h;obtain⟨l,hl⟩:=h';exact⟨k+l,by grind⟩
theorem Cg.add{M a b c d:Int}(h:Cg M a b)(h':Cg M c d):Cg M (a+c) (b+d):=by obtain⟨k,hk⟩:=h;obtain⟨l,hl⟩:=h';exact⟨k+l,by grind⟩
theorem Cg.sub{M a b c d:Int}(h:Cg M a b)(h':Cg M c d):Cg M (a-c) (b-d):=by obtain⟨k,hk⟩:=h;obtain⟨l,hl⟩:=h';exact⟨k-l,by grind⟩
theorem Cg.mul{M a b c d:Int}(h:Cg M a b)(h':Cg M c d):Cg M (a*c) (b*d):=by
 obtain⟨k,hk⟩:=h;obtain⟨l,hl⟩:=h';exact⟨a*l+k*d,by
  have e:a*c-b*d=a*(c-d)+(a-b)*d:=by grind
  rw[e,hk,hl];grind⟩
theorem Cg.mod(M a:Int):Cg M (a%M) a:=⟨-(a/M),by have:=Int.emod_add_mul_ediv a M;grind⟩
theorem Cg.emod{M a b:Int}(h:Cg M a b):a%M=b%M:=by obtain⟨k,hk⟩:=h;rw[show a=b+M*k by omega,Int.add_mul_emod_self_left]
theorem Cg.eq{M a b:Int}(h:Cg M a b)(ha:0≤a)(ha':a<M)(hb:0≤b)(hb':b<M):a=b:=by
 have:=h.emod
 rwa [Int.emod_eq_of_lt ha ha',Int.emod_eq_of_lt hb hb']at this
theorem half_step(V:Int)(p:Nat):V/2^p=2*(V/2^(p+1))+V/2^p%2:=by have hp:(0:Int)<2^p:=Int.pow_pos (by decide);rw[Int.pow_succ,←Int.ediv_ediv_of_nonneg (by omega)];omega
def pws (X V:Int)(p:Nat):Int:=X^(V/2^p).toNat
theorem pws_zero(X V:Int):pws X V 0=X^V.toNat:=by simp[pws]
theorem pws_top(X V:Int)(h0:0≤V)(L:Nat)(h:V<2^L):pws X V L=1:=by unfold pws;rw[Int.ediv_eq_zero_of_lt h0 h];exact Int.pow_zero X
theorem pws_even(X V:Int)(h0:0≤V)(p:Nat)(h:V/2^p%2=0):pws X V p=pws X V (p+1)*pws X V (p+1):=by
 have hp:(0:Int)<2^(p+1):=Int.pow_pos (by decide);have hq:0≤V/2^(p+1):=Int.ediv_nonneg h0 (by omega);have hs:=half_step V p;unfold pws;rw[←Int.pow_add];congr 1
 omega
theorem pws_odd(X V:Int)(h0:0≤V)(p:Nat)(h:V/2^p%2=1):pws X V p=pws X V (p+1)*pws X V (p+1)*X:=by
 have hp:(0:Int)<2^(p+1):=Int.pow_pos (by decide);have hq:0≤V/2^(p+1):=Int.ediv_nonneg h0 (by omega);have hs:=half_step V p;unfold pws;rw[←Int.pow_add,←Int.pow_succ];congr 1
 omega
def gd (a b:Int):Int:=(Nat.gcd a.toNat b.toNat:Nat)
theorem gd_step(a b:Int)(ha:0≤a)(hb:0≤b):gd a b=gd b (a%b):=by unfold gd;rw[Int.toNat_emod ha hb,Nat.gcd_comm a.toNat b.toNat,Nat.gcd_rec b.toNat a.toNat,Nat.gcd_comm]
theorem gd_zero(a:Int)(ha:0≤a):gd a 0=a:=by unfold gd;simp;omega
def Euc (M A l n t m:Int)(b:Bool):Prop:=
 0<l∧l≤M∧0≤n∧n≤M∧0≤t∧t≤M∧0≤m∧m≤M∧t*n+m*l=M∧gd l n=gd M A ∧
  Cg M l (bif b then -(t*A) else t*A)∧Cg M n (bif b then m*A else -(m*A))
theorem Euc.start(M A:Int)(hM:0<M)(h0:0≤A)(h1:A<M):Euc M A M A 0 1 true:=
 ⟨hM,by omega,h0,by omega,by omega,by omega,by omega,by omega,by omega,rfl,⟨1,by simp⟩,Cg.of_eq (by simp)⟩
theorem Euc.step{M A l n t m:Int}{b:Bool}(h:Euc M A l n t m b)(hn:0<n):Euc M A n (l%n) m (t+l/n*m) (!b):=by
 obtain⟨h1,h2,h3,h4,h5,h6,h7,h8,h9,h10,h11,h12⟩:=h;have r0:=Int.emod_nonneg l (show n≠0 by omega);have r1:=Int.emod_lt_of_pos l hn;have q0:0≤l/n:=Int.ediv_nonneg (by omega) (by omega);have hd:=Int.emod_add_mul_ediv l n;generalize l%n=r at *;generalize l/n=q at *;have m0:0≤q*m:=Int.mul_nonneg q0 h7;have e:m*r+(t+q*m)*n=M:=by rw[←h9,←hd];grind
 have p0:0≤m*r:=Int.mul_nonneg h7 r0;have p1:(t+q*m)*1≤(t+q*m)*n:=Int.mul_le_mul_of_nonneg_left (by omega) (by omega);refine⟨hn,h4,r0,by omega,h7,h8,by omega,by omega,e,?_,?_,?_⟩
 ·rw[←h10,gd_step l n (by omega) h3];congr 1
  rw[←hd,Int.add_mul_emod_self_left,Int.emod_eq_of_lt r0 r1]
 ·cases b
  ·exact h12
  ·exact h12
 ·have e2:r=l-q*n:=by rw[←hd];grind
  rw[e2];have h13:=h11.sub ((Cg.refl M q).mul h12)
  cases b
  ·exact h13.trans (Cg.of_eq (by simp only[cond_false,cond_true,Bool.not_false];grind))
  ·exact h13.trans (Cg.of_eq (by simp only[cond_false,cond_true,Bool.not_true];grind))
theorem Euc.done{M A l t m:Int}{b:Bool}(h:Euc M A l 0 t m b):l=gd M A∧Cg M (gd M A) (bif b then -(t*A) else t*A):=by obtain⟨h1,h2,h3,h4,h5,h6,h7,h8,h9,h10,h11,h12⟩:=h;rw[gd_zero l (by omega)]at h10;exact⟨h10,h10 ▸ h11⟩
end
end Go.Proofs.YtkhnnhbmchnajaaGreat
