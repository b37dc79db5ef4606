import Derived.Test.YtkhnnhbmchnajaaGreatK17
import Derived.Test.YtkhnnhbmchnajaaGreatK12
import Derived.Test.YtkhnnhbmchnajaaGreatK14
set_option maxRecDepth 100000
set_option maxHeartbeats 40000000
set_option linter.unusedVariables false
set_option linter.unusedSimpArgs false
namespace Go.Proofs.YtkhnnhbmchnajaaGreat
section
open Go.Shelf Go.RowKit
theorem Verify_inf(c q:Value)(K:Cz)(G:Pz)(L:Nat)(ao:Option Addr)(nh ca:Nat)(r s:Value)(x y:Int)(w:World)(hL:1≤L∧L≤1000)(hc:Cu w c K L)(hq:Pv w q G L)(hr:Nv w r x L)(hs:Nv w s y L)(hi:G.inf=true):
  Calls Tryz.prog 51 #[c,q,.slice ao nh ca,r,s] w fun e w'=>e=.returned (.bool false)∧Below w.heap.size w w':=by
 have hn0:=hc.slices;obtain⟨g1,g2,oo,lo,co,a1,a2,a3,b1,b2,b3,d1,d2,d3,e1,e2,e3,f1,f2,f3,j1,j2,j3,rfl,-,-,-,-,-,hnn⟩:=hn0;have hq2:=hq;have hr2:=hr;have hs2:=hs;obtain⟨_,_,rfl,⟨q1,q2,q3,_,rfl,_⟩,⟨q4,q5,q6,_,rfl,_⟩⟩:=hq;obtain⟨r1,r2,r3,_,rfl,_⟩:=hr;obtain⟨s1,s2,s3,_,rfl,_⟩:=hs;rw[hi]at hq2 ⊢;obtain⟨hF1,hF2,hbw⟩:=pair_new w #[Value.int IntKind.i64 g1,Value.int IntKind.i64 g2,Value.slice oo lo co,Value.slice a1 a2 a3,Value.slice b1 b2 b3,Value.slice d1 d2 d3,Value.slice e1 e2 e3,Value.slice f1 f2 f3,Value.slice j1 j2 j3] #[Value.slice q1 q2 q3,Value.slice q4 q5 q6,Value.bool true] 52 26;obtain⟨W0,hW0⟩:∃W0,(w.alloc (.cells #[.int .i64 g1,.int .i64 g2,.slice oo lo co,.slice a1 a2 a3,.slice b1 b2 b3,.slice d1 d2 d3,.slice e1 e2 e3,.slice f1 f2 f3,.slice j1 j2 j3] 52)).alloc (.cells #[.slice q1 q2 q3,.slice q4 q5 q6,.bool true] 26)=W0:=⟨_,rfl⟩
 rw[hW0]at hF1 hF2 hbw;have HW:Hid (W0.heap[w.heap.size]?=some (.cells #[.int .i64 g1,.int .i64 g2,.slice oo lo co,.slice a1 a2 a3,.slice b1 b2 b3,.slice d1 d2 d3,.slice e1 e2 e3,.slice f1 f2 f3,.slice j1 j2 j3] 52 (0,0))):=hF1;have HQB:Hid (PSl W0 (w.heap.size+1) (Value.slice q1 q2 q3) (Value.slice q4 q5 q6) (Value.bool true)):=hF2;have HCU:Hid (Cu W0 (Value.agg #[Value.int IntKind.i64 g1,Value.int IntKind.i64 g2,Value.slice oo lo co,Value.slice a1 a2 a3,Value.slice b1 b2 b3,Value.slice d1 d2 d3,Value.slice e1 e2 e3,Value.slice f1 f2 f3,Value.slice j1 j2 j3]) K L):=hc.old hbw;have HQV:Hid (Pv W0 (Value.agg #[Value.slice q1 q2 q3,Value.slice q4 q5 q6,Value.bool true]) G L):=hq2.old hbw;have HBW:Hid (Below w.heap.size w W0):=hbw;have HRV:Hid (Nv W0 (Value.slice r1 r2 r3) x L∧Nv W0 (Value.slice s1 s2 s3) y L):=⟨hr2.old hbw,hs2.old hbw⟩
 have HNN:Hid (Nv W0 (Value.slice j1 j2 j3) K.n L):=hnn.old hbw;clear hc hq2 hr2 hs2 hnn hF1 hF2 hbw;go_enter Tryz.func51,Tryz.ntmps51;obtain⟨cC0,cC1,cC2,cC3,cC4,cC5,cC6,cC7,cC8⟩:=cells9 HW.out;obtain⟨yQ0,yQ1,yQ2,_,_,_⟩:=HQB.out.facts;go_wp2;go_ret;exact⟨rfl,HBW.out⟩
theorem Verify_no(c q:Value)(K:Cz)(G:Pz)(L:Nat)(ao:Option Addr)(nh ca:Nat)(r s:Value)(x y:Int)(w:World)(hL:1≤L∧L≤1000)(hc:Cu w c K L)(hq:Pv w q G L)(hr:Nv w r x L)(hs:Nv w s y L)(hi:G.inf=false)(hno:onB K G=false∨(decide (0<x)&&decide (x<K.n))=false∨(decide (0<y)&&decide (y<K.n))=false∨gd K.n (y%K.n)≠1):
  Calls Tryz.prog 51 #[c,q,.slice ao nh ca,r,s] w fun e w'=>e=.returned (.bool false)∧Below w.heap.size w w':=by
 have hn0:=hc.slices;obtain⟨g1,g2,oo,lo,co,a1,a2,a3,b1,b2,b3,d1,d2,d3,e1,e2,e3,f1,f2,f3,j1,j2,j3,rfl,-,-,-,-,-,hnn⟩:=hn0;have hq2:=hq;have hr2:=hr;have hs2:=hs;obtain⟨_,_,rfl,⟨q1,q2,q3,_,rfl,_⟩,⟨q4,q5,q6,_,rfl,_⟩⟩:=hq;obtain⟨r1,r2,r3,_,rfl,_⟩:=hr;obtain⟨s1,s2,s3,_,rfl,_⟩:=hs;rw[hi]at hq2 ⊢;obtain⟨hF1,hF2,hbw⟩:=pair_new w #[Value.int IntKind.i64 g1,Value.int IntKind.i64 g2,Value.slice oo lo co,Value.slice a1 a2 a3,Value.slice b1 b2 b3,Value.slice d1 d2 d3,Value.slice e1 e2 e3,Value.slice f1 f2 f3,Value.slice j1 j2 j3] #[Value.slice q1 q2 q3,Value.slice q4 q5 q6,Value.bool false] 52 26;obtain⟨W0,hW0⟩:∃W0,(w.alloc (.cells #[.int .i64 g1,.int .i64 g2,.slice oo lo co,.slice a1 a2 a3,.slice b1 b2 b3,.slice d1 d2 d3,.slice e1 e2 e3,.slice f1 f2 f3,.slice j1 j2 j3] 52)).alloc (.cells #[.slice q1 q2 q3,.slice q4 q5 q6,.bool false] 26)=W0:=⟨_,rfl⟩
 rw[hW0]at hF1 hF2 hbw;have HW:Hid (W0.heap[w.heap.size]?=some (.cells #[.int .i64 g1,.int .i64 g2,.slice oo lo co,.slice a1 a2 a3,.slice b1 b2 b3,.slice d1 d2 d3,.slice e1 e2 e3,.slice f1 f2 f3,.slice j1 j2 j3] 52 (0,0))):=hF1;have HQB:Hid (PSl W0 (w.heap.size+1) (Value.slice q1 q2 q3) (Value.slice q4 q5 q6) (Value.bool false)):=hF2;have HCU:Hid (Cu W0 (Value.agg #[Value.int IntKind.i64 g1,Value.int IntKind.i64 g2,Value.slice oo lo co,Value.slice a1 a2 a3,Value.slice b1 b2 b3,Value.slice d1 d2 d3,Value.slice e1 e2 e3,Value.slice f1 f2 f3,Value.slice j1 j2 j3]) K L):=hc.old hbw;have HQV:Hid (Pv W0 (Value.agg #[Value.slice q1 q2 q3,Value.slice q4 q5 q6,Value.bool false]) G L):=hq2.old hbw;have HBW:Hid (Below w.heap.size w W0):=hbw;have HRV:Hid (Nv W0 (Value.slice r1 r2 r3) x L∧Nv W0 (Value.slice s1 s2 s3) y L):=⟨hr2.old hbw,hs2.old hbw⟩
 have HNN:Hid (Nv W0 (Value.slice j1 j2 j3) K.n L):=hnn.old hbw;clear hc hq2 hr2 hs2 hnn hF1 hF2 hbw;go_enter Tryz.func51,Tryz.ntmps51;obtain⟨cC0,cC1,cC2,cC3,cC4,cC5,cC6,cC7,cC8⟩:=cells9 HW.out;obtain⟨yQ0,yQ1,yQ2,_,_,_⟩:=HQB.out.facts;go_wp2_with fail
 go_at_call 83;refine(On_any _ _ K G L W0 HCU.out HQV.out hL).mono ?_;rintro e w1 ⟨rfl,hbw⟩;clear hW0 HCU HQV;replace HW:Hid (w1.heap[w.heap.size]?=some (.cells #[.int .i64 g1,.int .i64 g2,.slice oo lo co,.slice a1 a2 a3,.slice b1 b2 b3,.slice d1 d2 d3,.slice e1 e2 e3,.slice f1 f2 f3,.slice j1 j2 j3] 52 (0,0))):=blk_old HW.out hbw;replace HQB:Hid (PSl w1 (w.heap.size+1) (Value.slice q1 q2 q3) (Value.slice q4 q5 q6) (Value.bool false)):=HQB.out.keep hbw;replace HBW:Hid (Below w.heap.size w w1):=HBW.out.trans (hbw.mono HBW.out.size);replace HRV:Hid (Nv w1 (Value.slice r1 r2 r3) x L∧Nv w1 (Value.slice s1 s2 s3) y L):=⟨HRV.out.1.old hbw,HRV.out.2.old hbw⟩
 replace HNN:Hid (Nv w1 (Value.slice j1 j2 j3) K.n L):=HNN.out.old hbw;clear hbw;clear cC0 cC1 cC2 cC3 cC4 cC5 cC6 cC7 cC8 yQ0 yQ1 yQ2
 cases h1:onB K G with
 | false=>
  go_wp2;go_ret;exact⟨rfl,HBW.out⟩
 | true =>
  obtain⟨cC0,cC1,cC2,cC3,cC4,cC5,cC6,cC7,cC8⟩:=cells9 HW.out;obtain⟨yQ0,yQ1,yQ2,_,_,_⟩:=HQB.out.facts;go_wp2_with fail
  go_at_call 84;refine(factor_any _ _ x K.n L w1 HRV.out.1 HNN.out hL.2).mono ?_;rintro e w2 ⟨rfl,hbw⟩;replace HW:Hid (w2.heap[w.heap.size]?=some (.cells #[.int .i64 g1,.int .i64 g2,.slice oo lo co,.slice a1 a2 a3,.slice b1 b2 b3,.slice d1 d2 d3,.slice e1 e2 e3,.slice f1 f2 f3,.slice j1 j2 j3] 52 (0,0))):=blk_old HW.out hbw;replace HQB:Hid (PSl w2 (w.heap.size+1) (Value.slice q1 q2 q3) (Value.slice q4 q5 q6) (Value.bool false)):=HQB.out.keep hbw;replace HBW:Hid (Below w.heap.size w w2):=HBW.out.trans (hbw.mono HBW.out.size);replace HRV:Hid (Nv w2 (Value.slice r1 r2 r3) x L∧Nv w2 (Value.slice s1 s2 s3) y L):=⟨HRV.out.1.old hbw,HRV.out.2.old hbw⟩
  replace HNN:Hid (Nv w2 (Value.slice j1 j2 j3) K.n L):=HNN.out.old hbw;clear hbw;clear cC0 cC1 cC2 cC3 cC4 cC5 cC6 cC7 cC8 yQ0 yQ1 yQ2
  cases h2:(decide (0<x)&&decide (x<K.n)) with
  | false=>
   go_wp2;go_ret;exact⟨rfl,HBW.out⟩
  | true =>
   obtain⟨cC0,cC1,cC2,cC3,cC4,cC5,cC6,cC7,cC8⟩:=cells9 HW.out;obtain⟨yQ0,yQ1,yQ2,_,_,_⟩:=HQB.out.facts;go_wp2_with fail
   go_at_call 84;refine(factor_any _ _ y K.n L w2 HRV.out.2 HNN.out hL.2).mono ?_;rintro e w3 ⟨rfl,hbw⟩;replace HW:Hid (w3.heap[w.heap.size]?=some (.cells #[.int .i64 g1,.int .i64 g2,.slice oo lo co,.slice a1 a2 a3,.slice b1 b2 b3,.slice d1 d2 d3,.slice e1 e2 e3,.slice f1 f2 f3,.slice j1 j2 j3] 52 (0,0))):=blk_old HW.out hbw;replace HQB:Hid (PSl w3 (w.heap.size+1) (Value.slice q1 q2 q3) (Value.slice q4 q5 q6) (Value.bool false)):=HQB.out.keep hbw;replace HBW:Hid (Below w.heap.size w w3):=HBW.out.trans (hbw.mono HBW.out.size);replace HRV:Hid (Nv w3 (Value.slice r1 r2 r3) x L∧Nv w3 (Value.slice s1 s2 s3) y L):=⟨HRV.out.1.old hbw,HRV.out.2.old hbw⟩
   replace HNN:Hid (Nv w3 (Value.slice j1 j2 j3) K.n L):=HNN.out.old hbw;clear hbw;clear cC0 cC1 cC2 cC3 cC4 cC5 cC6 cC7 cC8 yQ0 yQ1 yQ2
   cases h3:(decide (0<y)&&decide (y<K.n)) with
   | false=>
    go_wp2;go_ret;exact⟨rfl,HBW.out⟩
   | true =>
    have h4:gd K.n (y%K.n)≠1:=by rw[h1,h2,h3]at hno;simpa using hno
    have h0:K.n≠0:=by simp at h3;omega
    obtain⟨cC0,cC1,cC2,cC3,cC4,cC5,cC6,cC7,cC8⟩:=cells9 HW.out;obtain⟨yQ0,yQ1,yQ2,_,_,_⟩:=HQB.out.facts;go_wp2_with fail
    go_at_call 85;refine(inv_no _ _ y K.n L L w3 HRV.out.2 HNN.out h0 h4 (by omega)).mono ?_;rintro e w4 ⟨rfl,hbw⟩;replace HW:Hid (w4.heap[w.heap.size]?=some (.cells #[.int .i64 g1,.int .i64 g2,.slice oo lo co,.slice a1 a2 a3,.slice b1 b2 b3,.slice d1 d2 d3,.slice e1 e2 e3,.slice f1 f2 f3,.slice j1 j2 j3] 52 (0,0))):=blk_old HW.out hbw;replace HQB:Hid (PSl w4 (w.heap.size+1) (Value.slice q1 q2 q3) (Value.slice q4 q5 q6) (Value.bool false)):=HQB.out.keep hbw;replace HBW:Hid (Below w.heap.size w w4):=HBW.out.trans (hbw.mono HBW.out.size);replace HRV:Hid (Nv w4 (Value.slice r1 r2 r3) x L∧Nv w4 (Value.slice s1 s2 s3) y L):=⟨HRV.out.1.old hbw,HRV.out.2.old hbw⟩
    replace HNN:Hid (Nv w4 (Value.slice j1 j2 j3) K.n L):=HNN.out.old hbw;clear hbw;clear cC0 cC1 cC2 cC3 cC4 cC5 cC6 cC7 cC8 yQ0 yQ1 yQ2;go_wp2;go_ret;exact⟨rfl,HBW.out⟩
end
section
open Go.RowKit Go.Shelf
theorem rMul_is{P:Nat}[NeZero P]{K:Cz}(g:GoodK K P)(hP:S31 K.p)(hA:S31 K.a)(G:Pz)(hG:Gd K P G)(s:Pz)(kv:Value)(n L:Nat)(hs:Mt K P G n s)(w:World)(hk:Rv w kv (n:Int) L)(hL:L≤1000):
  Calls Tryz.prog 15 #[rcv K,kv,rpv G] w fun e w'=>e=.returned (.tuple #[rpv s,.bool true])∧Below w.heap.size w w':=by
 refine(rMul_good g hP hA G hG kv n L w hk hL).mono ?_;rintro e w' ⟨s',h1,rfl,h2⟩;rw[Mt.uniq g h1 hs];exact⟨rfl,h2⟩
theorem mt_ex{P:Nat}[NeZero P]{K:Cz}(g:GoodK K P){G:Pz}(hG:Gd K P G)(n:Nat):∃s,Mt K P G n s:=by
 obtain⟨q,hq⟩:=Tm.ex (dom_fin g.prime g.odd) (invs_fin g.prime) hG.2 n
 cases q with
 | none=>exact⟨noZ,RdP.no,by rw[ptR_no];exact hq⟩
 | some xy =>
  obtain⟨x,y⟩:=xy;have hx:=x.isLt;have hy:=y.isLt;refine⟨⟨(x.val:Int),(y.val:Int),false⟩,?_,?_⟩
  ·unfold RdP;rw[if_neg (by simp)];exact⟨by simp,by show((x.val:Int))<P;omega,by simp,by show((y.val:Int))<P;omega⟩
  ·rw[show ptR P ⟨(x.val:Int),(y.val:Int),false⟩=some (x,y) by unfold ptR;rw[if_neg (by simp),fp_self,fp_self]];exact hq
theorem add_ex{P:Nat}[NeZero P]{K:Cz}(g:GoodK K P){p q:Pz}(hp:Gd K P p)(hq:Gd K P q):∀s s',AddZ K p q (some s)→AddZ K p q (some s')→s=s':=fun s s' h h'=>by
 obtain⟨t,e,h1,h2⟩:=add_good g h hp hq;obtain⟨t',e',h1',h2'⟩:=add_good g h' hp hq
 cases e
 cases e'
 exact ptR_inj h1 h1' (sum_uniq (dom_fin g.prime g.odd) h2 h2')
theorem good_on{P:Nat}[NeZero P]{K:Cz}(g:GoodK K P){p:Pz}(hi:p.inf=false)(hx:0≤p.x)(hy:0≤p.y)(h:onB K p=true):Gd K P p:=by
 have hP:=ppos P;unfold onB at h;rw[hi,Bool.false_or,Bool.and_eq_true,Bool.and_eq_true,Bool.and_eq_true]at h;obtain⟨_,h1,h2,h3⟩:=h;have h1:=of_decide_eq_true h1;have h2:=of_decide_eq_true h2;have h3:=of_decide_eq_true h3;rw[g.p]at h1 h2 h3;refine⟨by unfold RdP;rw[hi,if_neg (by simp)];exact⟨hx,h1,hy,h2⟩,?_⟩;rw[show ptR P p=some (fp P p.x,fp P p.y) by unfold ptR;rw[hi,if_neg (by simp)]];show fp P p.y*fp P p.y=fp P p.x*fp P p.x*fp P p.x+fp P K.a*fp P p.x+fp P K.b;have e2:fp P (rightZ K p.x)=fp P p.x*fp P p.x*fp P p.x+fp P K.a*fp P p.x+fp P K.b:=by
  unfold rightZ;rw[g.p];simp only[fp_mod,fp_mul,fp_add]
  grind
 rw[←e2,←fp_mul,fp_eq,h3];unfold rightZ;rw[g.p,Int.emod_emod]
def VerNo(K:Cz)(q:Pz)(x y:Int):Prop:=q.inf=true∨onB K q=false∨¬(0<x∧x<K.n)∨¬(0<y∧y<K.n)∨gd K.n (y%K.n)≠1
def VerYes(K:Cz)(P:Nat)[NeZero P](q:Pz)(z x y:Int)(b:Bool):Prop:=∃(i:Int) (p1 p2 p3:Pz),(0≤i∧i<K.n∧Cg K.n (i*y) 1)∧Mt K P (baseZ K) ((z*i)%K.n).toNat p1∧Mt K P q ((x*i)%K.n).toNat p2∧AddZ K p1 p2 (some p3)∧b=(!p3.inf&&decide (p3.x%K.n=x))
def VerZ (K:Cz)(P:Nat)[NeZero P](q:Pz)(z x y:Int)(b:Bool):Prop:=(VerNo K q x y∧b=false)∨(¬VerNo K q x y∧VerYes K P q z x y b)
theorem inv_uniq{N i j y:Int}(hi:0≤i∧i<N∧Cg N (i*y) 1)(hj:0≤j∧j<N∧Cg N (j*y) 1):i=j:=by refine Cg.eq (M:=N) ?_ hi.1 hi.2.1 hj.1 hj.2.1;have h1:Cg N (i*(j*y)) (i*1):=(Cg.refl N i).mul hj.2.2;have h2:Cg N (j*(i*y)) (j*1):=(Cg.refl N j).mul hi.2.2;rw[show i*(j*y)=j*(i*y) by grind]at h1;rw[Int.mul_one]at h1 h2;exact h1.symm.trans h2
theorem verZ_uniq{P:Nat}[NeZero P]{K:Cz}(g:GoodK K P)(hb:Gd K P (baseZ K)){q:Pz}(hq:0≤q.x∧0≤q.y){z x y:Int}{b b':Bool}(h:VerZ K P q z x y b)(h':VerZ K P q z x y b'):b=b':=by
 rcases h with⟨h1,rfl⟩|⟨h1,i,p1,p2,p3,hi,a1,a2,a3,rfl⟩
 ·rcases h' with⟨_,rfl⟩|⟨h2,_⟩
  ·rfl
  ·exact absurd h1 h2
 ·rcases h' with⟨h2,_⟩|⟨_,j,q1,q2,q3,hj,b1,b2,b3,rfl⟩
  ·exact absurd h2 h1
  ·have e:=inv_uniq hi hj;subst e;have hqi:q.inf=false:=by
    cases hc:q.inf with
    | false=>rfl
    | true=>exact absurd (.inl hc) h1
   have hon:onB K q=true:=by
    cases hc:onB K q with
    | true=>rfl
    | false=>exact absurd (.inr (.inl hc)) h1
   have hG:=good_on g hqi hq.1 hq.2 hon;have e1:=Mt.uniq g a1 b1;have e2:=Mt.uniq g a2 b2;subst e1;subst e2;rw[add_ex g (a1.gd hb) (a2.gd hG) p3 q3 a3 b3]
theorem cVerify_any{P:Nat}[NeZero P]{K:Cz}(g:GoodK K P)(hbs:Gd K P (baseZ K))(q:Pz)(c qv:Value)(ao:Option Addr)(nh ca:Nat)(bs:List Int)(r s:Value)(x y:Int)(w:World)(hN:0≤K.n)(hc:Cu w c K 4)(hq:Pv w qv q 4)(hh:NumIn .u8 256 w ao nh ca bs)(hn:nh≤512)(hr:Nv w r x 4)(hs:Nv w s y 4):
  Calls Tryz.prog 51 #[c,qv,.slice ao nh ca,r,s] w fun e w'=>∃b,VerZ K P q (digZ K.n nh bs) x y b∧e=.returned (.bool b)∧Below w.heap.size w w':=by
 have hq0:0≤q.x∧0≤q.y:=by obtain⟨vx,vy,_,h1,h2⟩:=hq;exact⟨h1.nonneg,h2.nonneg⟩
 by_cases hno:VerNo K q x y
 ·have hfin:∀w',Below w.heap.size w w'→∃b,VerZ K P q (digZ K.n nh bs) x y b∧Ending.returned (.bool false)=.returned (.bool b)∧Below w.heap.size w w':=fun w' hb=>⟨false,.inl ⟨hno,rfl⟩,rfl,hb⟩
  cases hi:q.inf with
  | true=>
   refine(Verify_inf c qv K q 4 ao nh ca r s x y w (by decide) hc hq hr hs hi).mono ?_;rintro e w' ⟨rfl,hb⟩;exact hfin w' hb
  | false =>
   refine(Verify_no c qv K q 4 ao nh ca r s x y w (by decide) hc hq hr hs hi ?_).mono ?_
   ·rcases hno with h|h|h|h|h
    ·rw[hi]at h;cases h
    ·exact .inl h
    ·right;left;by_cases h1:0<x
     ·have:¬x<K.n:=fun h2=>h ⟨h1,h2⟩;simp[this]
     ·simp[h1]
    ·right;right;left;by_cases h1:0<y
     ·have:¬y<K.n:=fun h2=>h ⟨h1,h2⟩;simp[this]
     ·simp[h1]
    ·exact .inr (.inr (.inr h))
   ·rintro e w' ⟨rfl,hb⟩;exact hfin w' hb
 ·have hi:q.inf=false:=by
   cases hc:q.inf with
   | false=>rfl
   | true=>exact absurd (.inl hc) hno
  have hon:onB K q=true:=by
   cases hc:onB K q with
   | true=>rfl
   | false=>exact absurd (.inr (.inl hc)) hno
  have hx:0<x∧x<K.n:=Classical.byContradiction fun h=>hno (.inr (.inr (.inl h)));have hy:0<y∧y<K.n:=Classical.byContradiction fun h=>hno (.inr (.inr (.inr (.inl h))));have hg:gd K.n (y%K.n)=1:=Classical.byContradiction fun h=>hno (.inr (.inr (.inr (.inr h))));have hG:=good_on g hi hq0.1 hq0.2 hon;have eN:K.n=((K.n.toNat:Nat):Int):=by omega
  rw[eN]at hx hy hg;refine(Verify_good g hbs hG hi c qv ao nh ca bs r s x y K.n.toNat w hc hq hh hn hr hs eN hx hy hg).mono ?_;rintro e w' ⟨i,p1,p2,p3,h1,h2,h3,h4,rfl,h5⟩;rw[←eN]at h1 h2 h3 ⊢;exact⟨_,.inr ⟨hno,i,p1,p2,p3,h1,h2,h3,h4,rfl⟩,rfl,h5⟩
structure Fdp where
 sem:List Value→World→Prop
 keep:∀vs w w',Below w.heap.size w w'→sem vs w→sem vs w'
 box':Bool
 store:box'=true→∀vs w w' r a0 a1 a2 b0 b1 b2,PSd w r a0 a1 a2→PSd w' r b0 b1 b2→Bt r w w'→sem vs w→sem vs w'
def Fdp.eq(e:Value):Fdp:=⟨fun vs _=>vs.getD 0 undef=e,fun _ _ _ _ h=>h,true,fun _ _ _ _ _ _ _ _ _ _ _ _ _ _ h=>h⟩
def RvO (W:World)(v:Value)(n:Int):Prop:=∃B xs,Own 3 .i64 W B v xs∧Canon xs∧Dg D16 xs∧val D16 xs=n∧xs.length≤4
theorem RvO.rv{W:World}{v:Value}{n:Int}(h:RvO W v n):Rv W v n 4:=by obtain⟨B,xs,h1,h2,h3,h4,h5⟩:=h;obtain⟨ao,cap,rfl,hn⟩:=h1.num h3 (by omega);exact⟨_,_,_,_,rfl,hn,h2,h4,h5⟩
theorem own_store{w w':World}{B:Nat}{v:Value}{xs:List Int}{r:Nat}{a0 a1 a2:Value}(h:Own 3 .i64 w B v xs)(hs:PSd w r a0 a1 a2)(hb:Bt r w w'):Own 3 .i64 w' B v xs:=by
 refine⟨h.1,?_⟩;rcases h.2 with h0|⟨g,cap,cur,rfl,hg,hrow,q⟩
 ·exact .inl h0
 ·refine .inr ⟨g,cap,cur,rfl,hg,?_,q⟩;rw[hb.block g (Array.getElem?_eq_some_iff.1 hrow).1 (fun e=>by
   subst e;unfold PSd at hs;rw[hrow]at hs;injection hs with hs;injection hs with _ ht _;exact absurd ht (by decide))]
  exact hrow
def Fdp.num(n:Int):Fdp:=⟨fun vs W=>RvO W (vs.getD 0 undef) n,fun vs w w' hb h=>by
 obtain⟨B,xs,h1,h2⟩:=h;exact⟨B,xs,h1.below hb,h2⟩,true,fun _ vs w w' r a0 a1 a2 b0 b1 b2 hs _ hb h=>by
 obtain⟨B,xs,h1,h2⟩:=h;exact⟨B,xs,own_store h1 hs hb,h2⟩⟩
def Fdp.box(B:Nat):Fdp:=⟨fun vs W=>∃b c0 c1 c2,vs.getD 0 undef=.pointer (some ⟨b,0,none⟩)∧B≤b∧PSd W b c0 c1 c2,fun vs w w' hb h=>by
 obtain⟨b,c0,c1,c2,h1,h2,h3⟩:=h;exact⟨b,c0,c1,c2,h1,h2,h3.keep hb⟩,true,fun _ vs w w' r a0 a1 a2 b0 b1 b2 hs hs' hb h=>by
 obtain⟨b,c0,c1,c2,h1,h2,h3⟩:=h;by_cases hg:b=r
 ·subst hg;exact⟨b,b0,b1,b2,h1,h2,hs'⟩
 ·exact⟨b,c0,c1,c2,h1,h2,(hb.block b h3.lt hg).trans h3⟩⟩
def Fdp.sto(B:Nat)(d0 d1 d2:Value):Fdp:=⟨fun vs W=>∃b,vs.getD 0 undef=.pointer (some ⟨b,0,none⟩)∧B≤b∧PSd W b d0 d1 d2,fun vs w w' hb h=>by obtain⟨b,h1,h2,h3⟩:=h;exact⟨b,h1,h2,h3.keep hb⟩,false,fun h=>by cases h⟩
theorem fdp_keep(fs:List Fdp)(j:Nat)(vs:List Value){w w':World}(hb:Below w.heap.size w w')(h:(fs.map Fdp.sem).getD j (fun _ _=>True) vs w):(fs.map Fdp.sem).getD j (fun _ _=>True) vs w':=by
 rw[List.getD_eq_getElem?_getD,List.getElem?_map]at h ⊢
 cases hf:fs[j]? with
 | none=>trivial
 | some f=>rw[hf]at h;exact f.keep vs w w' hb h
theorem fdp_store(fs:List Fdp)(j:Nat)(vs:List Value){w w':World}{r:Nat}{a0 a1 a2 b0 b1 b2:Value}(hs:PSd w r a0 a1 a2)(hs':PSd w' r b0 b1 b2)(hb:Bt r w w')(hf:(fs.map Fdp.box').getD j true=true)(h:(fs.map Fdp.sem).getD j (fun _ _=>True) vs w):(fs.map Fdp.sem).getD j (fun _ _=>True) vs w':=by
 rw[List.getD_eq_getElem?_getD,List.getElem?_map]at h hf ⊢
 cases hq:fs[j]? with
 | none=>trivial
 | some f=>rw[hq]at h hf;exact f.store hf vs w w' r a0 a1 a2 b0 b1 b2 hs hs' hb h
theorem fdp_but(i:Nat)(fs:List Fdp)(h:(List.range fs.length).all (fun j=>decide (j=i)||(fs.map Fdp.box').getD j true)=true):∀j,j≠i→(fs.map Fdp.box').getD j true=true:=by
 intro j hj;rw[List.all_eq_true]at h;by_cases hl:j<fs.length
 ·have:=h j (List.mem_range.2 hl);rw[Bool.or_eq_true]at this;rcases this with this|this
  ·exact absurd (by simpa using this) hj
  ·exact this
 ·rw[List.getD_eq_getElem?_getD,List.getElem?_eq_none (by simpa using Nat.le_of_not_lt hl)];rfl
section
variable {ops : Array Oper}
theorem GInv.growD{rd:List (List Nat)}{fs:List Fdp}{a0:Act}{w0:World}{listed:Array Bool}{a:Act}{w:World}(h:GInv .any ops rd (fs.map Fdp.sem) a0 w0 listed a w){i:Nat}{dst:Option Tmp}{KK:Act→World→Prop}
  (hK:∀v w',Below w0.heap.size w0 w'→(∀j vs,listed.getD j false=true→(fs.map Fdp.sem).getD j (fun _ _=>True) vs w→(fs.map Fdp.sem).getD j (fun _ _=>True) vs w')→(fs.map Fdp.sem).getD i (fun _ _=>True) ((rd.getD i []).map fun s=>(a.put dst v).tmps.getD s undef) w'→KK (a.put dst v) w') (v:Value) (w':World) (hb:Below w.heap.size w w') (hf:(fs.map Fdp.sem).getD i (fun _ _=>True) ((rd.getD i []).map fun s=>(a.put dst v).tmps.getD s undef) w'):KK (a.put dst v) w':=
 hK v w' (h.below.trans (hb.mono h.below.size)) (fun j vs _ hj=>fdp_keep fs j vs hb hj) hf
theorem GInv.fillD{rd:List (List Nat)}{fs:List Fdp}{a0:Act}{w0:World}{listed:Array Bool}{a:Act}{w:World}(h:GInv .any ops rd (fs.map Fdp.sem) a0 w0 listed a w){i:Nat}{dst:Option Tmp}{KK:Act→World→Prop}
  (hK:∀v w',Below w0.heap.size w0 w'→(∀j vs,listed.getD j false=true→(fs.map Fdp.sem).getD j (fun _ _=>True) vs w→(fs.map Fdp.sem).getD j (fun _ _=>True) vs w')→(fs.map Fdp.sem).getD i (fun _ _=>True) ((rd.getD i []).map fun s=>(a.put dst v).tmps.getD s undef) w'→KK (a.put dst v) w') (hli:listed.getD i false=false) (v:Value) (r:Nat) {a0' a1' a2':Value} (hs:PSd w r a0' a1' a2') (d0 d1 d2:Value) (hr:w0.heap.size≤r) (hbx:∀j,j≠i→(fs.map Fdp.box').getD j true=true)
  (hf:(fs.map Fdp.sem).getD i (fun _ _=>True) ((rd.getD i []).map fun s=>(a.put dst v).tmps.getD s undef) (((w.setCell ⟨r,0,none⟩ d0).setCell ⟨r,1,none⟩ d1).setCell ⟨r,2,none⟩ d2)):KK (a.put dst v) (((w.setCell ⟨r,0,none⟩ d0).setCell ⟨r,1,none⟩ d1).setCell ⟨r,2,none⟩ d2):=
 hK v _ (h.below.trans ((Bt.set3 w r d0 d1 d2).below hr h.below.size)) (fun j vs hl hj=>fdp_store fs j vs hs (hs.set3 d0 d1 d2) (Bt.set3 w r d0 d1 d2) (hbx j (by rintro rfl;rw[hli]at hl;cases hl)) hj) hf
end
theorem rSmall_own(n:Int)(w:World)(h0:0≤n)(h1:n<9223372036854775808):
  Calls Tryz.prog 16 #[.int .i64 n] w fun e w'=>∃v,e=.returned v∧RvO w' v n∧Below w.heap.size w w':=by
 obtain⟨B,hB⟩:∃B,w.heap.size=B:=⟨_,rfl⟩
 have HB:Hid (w.heap.size=B):=hB;clear hB;go_enter Tryz.func16,Tryz.ntmps16;go_wp2;go_loopw [0,3] (fun vx vo wr=>∃(x:Int) (ds:List Int),vx=.int .i64 x∧x≤n∧Own 3 .i64 wr w.heap.size vo ds∧Smls n ds x∧Below w.heap.size w wr) (fun vx _ _=>(intOf vx).toNat)
 case atStart=>exact⟨n,[],rfl,Int.le_refl _,Own.nil _ _ _ _,⟨Dg.nil _,h0,by simp[val],fun j h=>by simp at h⟩,Below.refl _ _⟩
 case round=>
  obtain⟨x,ds,rfl,hxn,hown,hs,hb⟩:=hrel;have hx0:=hs.2.1;have hfew:=hs.few h1;by_cases hx:0<x
  ·have HS:Hid (Smls n (ds++[x%65536]) (x/65536)):=hs.step hx;have HLB:Hid (ds.length<1073741824):=by unfold Hid;omega
   have hbs:=hb.size;clear hs hfew;go_wp2_with (at_builtin;refine wpList_append_one rfl _ _ 55 rfl 3 .i64 8 Tryz.underlying55 Tryz.infoI w.heap.size u3 ds (x%65536) (by rfl) hown (by rfl) HLB.out (by decide) w hb hbs ?_)
   intro v' w' hown' hb';clear hown hb hbs;go_wp2;go_roundw
   case rel=>exact⟨x/65536,_,rfl,by omega,hown',HS.out,hb'⟩
   case measure=>simp[intOf]<;>omega
  ·obtain rfl:x=0:=by omega
   obtain⟨a2,c2,hv,hnum⟩:=hown.num hs.1 (by omega);have HF:Hid (RvO wr u3 n∧Below w.heap.size w wr):=⟨⟨_,ds,hown,hs.done.2,hs.1,hs.done.1,hfew⟩,hb⟩
   subst hv;clear hown hs hnum hb hfew;go_wp2;go_ret;exact⟨_,rfl,HF.out⟩
end
end Go.Proofs.YtkhnnhbmchnajaaGreat
