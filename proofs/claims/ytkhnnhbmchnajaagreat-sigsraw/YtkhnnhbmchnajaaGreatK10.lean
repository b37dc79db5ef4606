import Derived.Test.YtkhnnhbmchnajaaGreatK09
import Derived.WalkKit
import Derived.Test.YtkhnnhbmchnajaaGreatK00
set_option maxRecDepth 100000
set_option maxHeartbeats 40000000
set_option linter.unusedVariables false
set_option linter.unusedSimpArgs false
namespace Go.Proofs.YtkhnnhbmchnajaaGreat
section
structure Dom(P:Nat)[NeZero P]:Prop where
 dom:∀a b:Fin P,a*b=0→a=0∨b=0
 two:∀a:Fin P,a+a=0→a=0
variable {P : Nat} [NeZero P]
theorem Dom.cancel(D:Dom P){a b c:Fin P}(h:a*b=a*c)(ha:¬a=0):b=c:=by
 have h1:a*(b-c)=0:=by grind
 rcases D.dom _ _ h1 with h2|h2
 ·exact absurd h2 ha
 ·grind
def OnR (A B:Fin P):Option (Fin P × Fin P)→Prop
 | none=>True
 | some (x,y)=>y*y=x*x*x+A*x+B
def LineR(A x1 y1 x2 y2 l:Fin P):Prop:=y2-y1=l*(x2-x1)∧l*(y1+y2)=x1*x1+x1*x2+x2*x2+A
def SumR (A:Fin P):Option (Fin P × Fin P)→Option (Fin P × Fin P)→Option (Fin P × Fin P)→Prop
 | none,q,r=>r=q
 | some p,none,r=>r=some p
 | some (x1,y1),some (x2,y2),r=>(x1=x2∧y1+y2=0∧r=none)∨(¬(x1=x2∧y1+y2=0)∧∃l x3 y3,LineR A x1 y1 x2 y2 l∧x3=l*l-x1-x2∧y3=l*(x1-x3)-y1∧r=some (x3,y3))
def Smooth(A B:Fin P):Prop:=∀x:Fin P,x*x*x+A*x+B=0→x*x+x*x+x*x+A=0→False
theorem zero_of{a b:Fin P}(h:a-b=0):a=b:=by grind
theorem sub_of{a b:Fin P}(h:a=b):a-b=0:=by rw[h];grind
theorem eq_add{a b c:Fin P}(h:a-b=c):a=b+c:=by grind
theorem eq_sub{a b c:Fin P}(h:a=b+c):c=a-b:=by grind
theorem id_on(x1 y1 x2 l:Fin P):(l*(x1-(l*l-x1-x2))-y1)*(l*(x1-(l*l-x1-x2))-y1)=(l*l-x1-x2)*(l*l-x1-x2)*(l*l-x1-x2)+(l*(y1+(y1+l*(x2-x1)))-(x1*x1+x1*x2+x2*x2))*(l*l-x1-x2)+(y1*y1-x1*x1*x1-(l*(y1+(y1+l*(x2-x1)))-(x1*x1+x1*x2+x2*x2))*x1):=by grind
theorem line_on{A B x1 y1 x2 y2 l x3 y3:Fin P}(h1:y1*y1=x1*x1*x1+A*x1+B)(hl:LineR A x1 y1 x2 y2 l)(e3:x3=l*l-x1-x2)(e4:y3=l*(x1-x3)-y1):y3*y3=x3*x3*x3+A*x3+B:=by
 obtain⟨a,b⟩:=hl;obtain rfl:=eq_add a;obtain rfl:=eq_sub b;have hB:B=y1*y1-x1*x1*x1-(l*(y1+(y1+l*(x2-x1)))-(x1*x1+x1*x2+x2*x2))*x1:=by
  clear e3 e4 a b;generalize (l*(y1+(y1+l*(x2-x1)))-(x1*x1+x1*x2+x2*x2))=A at *
  grind
 subst hB;subst e3 e4;exact id_on x1 y1 x2 l
theorem mid_id(x1 x2 x3 y2 l m:Fin P):(y2+y2)*(l-m)-((x1-x2)*(x1+x2+x3-l*l)+(x2-x3)*(x1+x2+x3-m*m))=(l*((y2+l*(x1-x2))+y2)-(x1*x1+x1*x2+x2*x2))-(m*(y2+(y2+m*(x3-x2)))-(x2*x2+x2*x3+x3*x3)):=by grind
theorem mid_eq{A x1 y1 x2 y2 x3 y3 l m:Fin P}(h:LineR A x1 y1 x2 y2 l)(k:LineR A x2 y2 x3 y3 m):(y2+y2)*(l-m)=(x1-x2)*(x1+x2+x3-l*l)+(x2-x3)*(x1+x2+x3-m*m):=by
 obtain⟨a,b⟩:=h;obtain⟨c,d⟩:=k;have e1:y1=y2+l*(x1-x2):=by clear b c d;grind
 have e3:=eq_add c;have e:=mid_id x1 x2 x3 y2 l m;rw[←e1,←e3,b,d]at e;clear a b c d e1 e3
 grind
theorem far_id(x1 x2 x3 y2 l m:Fin P):(l-m)*((y2+m*(x3-x2))-(l*(x2-(l*l-x1-x2))-y2))-(x3-(l*l-x1-x2))*(x1-x3-(l-m)*l)=(y2+y2)*(l-m)-((x1-x2)*(x1+x2+x3-l*l)+(x2-x3)*(x1+x2+x3-m*m)):=by grind
theorem line_comm{A x1 y1 x2 y2 l:Fin P}(h:LineR A x1 y1 x2 y2 l):LineR A x2 y2 x1 y1 l:=by obtain⟨a,b⟩:=h;constructor<;>grind
theorem line_uniq(D:Dom P){A x1 y1 x2 y2 l m:Fin P}(h:LineR A x1 y1 x2 y2 l)(k:LineR A x1 y1 x2 y2 m)(hn:¬(x1=x2∧y1+y2=0)):l=m:=by
 obtain⟨a,b⟩:=h;obtain⟨c,d⟩:=k;by_cases hx:x1=x2
 ·have hy:¬y1+y2=0:=fun e=>hn ⟨hx,e⟩;exact D.cancel (a:=y1+y2) (by grind) hy
 ·exact D.cancel (a:=x2-x1) (by grind) (fun e=>hx (by grind))
theorem far_eq{A x1 y1 x2 y2 x3 y3 l m x12 y12 g:Fin P}(h:LineR A x1 y1 x2 y2 l)(k:LineR A x2 y2 x3 y3 m)(e12:x12=l*l-x1-x2)(f12:y12=l*(x1-x12)-y1)(hg:y3-y12=g*(x3-x12)):(x3-x12)*(g*(l-m))=(x3-x12)*(x1-x3-(l-m)*l):=by
 have e:=far_id x1 x2 x3 y2 l m;have e0:=mid_eq h k;have e1:y1=y2+l*(x1-x2):=by have a:=h.1;clear h k e12 f12 hg e e0;grind
 have e3:y3=y2+m*(x3-x2):=eq_add k.1;have f:y12=l*(x2-x12)-y2:=by clear h k e12 hg e e0 e3;grind
 rw[←e12,←f,←e3,e0,hg]at e;clear h k e12 f12 hg e0 e1 e3 f
 grind
theorem fin_x{x1 x2 x3 l m t:Fin P}(ht:t*(l-m)=x1-x3):(t-l)*(t-l)-(l*l-x1-x2)-x3=(t-m)*(t-m)-x1-(m*m-x2-x3):=by grind
theorem fin_y{x1 x2 x3 y2 l m t:Fin P}(ht:t*(l-m)=x1-x3):(t-l)*(x3-((t-l)*(t-l)-(l*l-x1-x2)-x3))-(y2+m*(x3-x2))=(t-m)*(x1-((t-m)*(t-m)-x1-(m*m-x2-x3)))-(y2+l*(x1-x2)):=by grind
theorem sum_comm{A:Fin P}:∀ {p q r:Option (Fin P × Fin P)},SumR A p q r→SumR A q p r
 | none,none,r,h=>h
 | none,some q,r,h=>h
 | some p,none,r,h=>h
 | some (x1, y1), some (x2, y2), r, h => by
  rcases h with⟨h1,h2,h3⟩|⟨h0,l,x3,y3,hl,e3,e4,e5⟩
  ·exact .inl ⟨h1.symm,by rw[←h2];grind,h3⟩
  ·refine .inr ⟨fun e=>h0 ⟨e.1.symm,by rw[←e.2];grind⟩,l,x3,y3,line_comm hl,by rw[e3];grind,?_,e5⟩;have a:=hl.1;rw[e4];clear hl e3 e4 e5 h0
   grind
theorem sum_uniq(D:Dom P){A:Fin P}:∀ {p q r r':Option (Fin P × Fin P)},SumR A p q r→SumR A p q r'→r=r'
 | none,q,r,r',h,k=>h.trans k.symm
 | some p,none,r,r',h,k=>h.trans k.symm
 | some (x1, y1), some (x2, y2), r, r', h, k => by
  rcases h with⟨h1,h2,h3⟩|⟨h0,l,x3,y3,hl,e3,e4,e5⟩
  ·rcases k with⟨k1,k2,k3⟩|⟨k0,_⟩
   ·rw[h3,k3]
   ·exact absurd ⟨h1,h2⟩ k0
  ·rcases k with⟨k1,k2,k3⟩|⟨k0,m,x4,y4,hm,f3,f4,f5⟩
   ·exact absurd ⟨k1,k2⟩ h0
   ·obtain rfl:=line_uniq D hl hm h0;rw[e5,f5,e4,f4,e3,f3]
theorem sum_on{A B:Fin P}:∀ {p q r:Option (Fin P × Fin P)},OnR A B p→OnR A B q→SumR A p q r→OnR A B r
 | none,q,r,hp,hq,h=>by rw[show r=q from h];exact hq
 | some p,none,r,hp,hq,h=>by rw[show r=some p from h];exact hp
 | some (x1, y1), some (x2, y2), r, hp, hq, h => by
  rcases h with⟨h1,h2,h3⟩|⟨h0,l,x3,y3,hl,e3,e4,e5⟩
  ·rw[h3];trivial
  ·rw[e5];exact line_on hp hl e3 e4
theorem claimG(D:Dom P){A B x1 y1 x2 y2 x3 y3 l m x12 y12:Fin P}{r:Option (Fin P × Fin P)}(o1:y1*y1=x1*x1*x1+A*x1+B)(o3:y3*y3=x3*x3*x3+A*x3+B)(h:LineR A x1 y1 x2 y2 l)(k:LineR A x2 y2 x3 y3 m)(hlm:¬l-m=0)(n23:¬(x2=x3∧y2+y3=0))(e12:x12=l*l-x1-x2)(f12:y12=l*(x1-x12)-y1)(hs:SumR A (some (x12,y12)) (some (x3,y3)) r):
  ∃g X Y,LineR A x12 y12 x3 y3 g∧X=g*g-x12-x3∧Y=g*(x12-X)-y12∧r=some (X,Y)∧g*(l-m)=x1-x3-(l-m)*l:=by
 have e0:=mid_eq h k;have e1:y1=y2+l*(x1-x2):=by have a:=h.1;clear h k e12 f12 hs e0 o1 o3;grind
 have e3:y3=y2+m*(x3-x2):=eq_add k.1;have f:y12=l*(x2-x12)-y2:=by clear h k e12 hs e0 e3 o1 o3;grind
 by_cases hu:x3-x12=0
 ·have hx:x12=x3:=by clear h k e12 f12 hs e0 e1 e3 f o1 o3;grind
  -- not each other's opposites
  have hn:¬(x12=x3∧y12+y3=0):=fun⟨_,hy⟩=>by
   have h1:(l-m)*(x3-x2)=0:=by
    rw[hx]at f;clear h k e12 f12 hs e0 e1 o1 o3 hu hx
    grind
   rcases D.dom _ _ h1 with h2|h2
   ·exact hlm h2
   have h3:x2=x3:=by clear h k e12 f12 hs e0 e1 e3 f o1 o3 hu hx hy h1;grind
   have h4:y2=y3:=by clear h k e12 f12 hs e0 e1 f o1 o3 hu hx hy h1 h2;grind
   have h5:(y2+y2)*(l-m)=0:=by
    have h6:x1+x2+x3-l*l=0:=by clear h k f12 hs e0 e1 e3 f o1 o3 hy h1 h2 h3 h4;grind
    rw[e0,h6,h3];clear h k f12 hs e0 e1 e3 f o1 o3 hy h1 h2 h3 h4 h6
    grind
   rcases D.dom _ _ h5 with h6|h6
   ·exact n23 ⟨h3,by rw[←h4];exact h6⟩
   ·exact hlm h6
  rcases hs with⟨a,b,_⟩|⟨_,g,X,Y,hl,eX,eY,eR⟩
  ·exact absurd ⟨a,b⟩ hn
  ·refine⟨g,X,Y,hl,eX,eY,eR,?_⟩;have o12:=line_on o1 h e12 f12;have hp:(y12-y3)*(y12+y3)=0:=by
    rw[hx]at o12;clear h k e12 f12 e0 e1 e3 f hl eX eY eR o1 hu hx
    grind
   have hy:y12=y3:=by
    rcases D.dom _ _ hp with h1|h1
    ·exact zero_of h1
    ·exact absurd ⟨hx,h1⟩ hn
   have hg:=hl.2;rw[hx,hy]at hg;have hA:A=m*(y2+y3)-(x2*x2+x2*x3+x3*x3):=by have a:=k.2;clear h k e12 f12 e0 e1 e3 f hl eX eY eR o1 o3 hu hx o12 hp hy hg;grind
   -- 2 y3=(l-m) (x2-x3)
   have h2y:y3+y3=(l-m)*(x2-x3):=by
    rw[hx,hy]at f;clear h k e12 f12 e0 e1 hl eX eY eR o1 o3 hu hx o12 hp hy hg hA
    grind
   have hll:l*l=x1+x2+x3:=by rw[hx]at e12;clear h k f12 e0 e1 e3 f hl eX eY eR o1 o3 hu hx o12 hp hy hg hA h2y;grind
   have hq:¬x2-x3=0:=fun e=>by
    rw[e]at h2y;have h3:y3+y3=0:=by rw[h2y];clear h k e12 f12 e0 e1 e3 f hl eX eY eR o1 o3 hu hx o12 hp hy hg hA h2y hll e;grind
    exact hn ⟨hx,by rw[hy];exact h3⟩
   refine D.cancel (a:=x2-x3) ?_ hq;have h4:(x2-x3)*(g*(l-m))=g*(y3+y3):=by rw[h2y];clear h k e12 f12 e0 e1 e3 f hl eX eY eR o1 o3 hu hx o12 hp hy hg hA h2y hll hq;grind
   rw[h4,hg,hA];have h5:y2+y3=l*(x2-x3):=by rw[hx,hy]at f;clear h k e12 f12 e0 e1 e3 hl eX eY eR o1 o3 hu hx o12 hp hy hg hA h2y hll hq h4;grind
   rw[h5];clear h k e12 f12 e0 e1 e3 f hl eX eY eR o1 o3 hu hx o12 hp hy hg hA h2y hq h4 h5
   grind
 ·rcases hs with⟨a,b,_⟩|⟨_,g,X,Y,hl,eX,eY,eR⟩
  ·exact absurd (by rw[a];clear h k e12 f12 e0 e1 e3 f o1 o3;grind) hu
  ·exact⟨g,X,Y,hl,eX,eY,eR,D.cancel (far_eq h k e12 f12 hl.1) hu⟩
theorem opp_line{A x2 y2 x3 y3 m x23 y23:Fin P}(k:LineR A x2 y2 x3 y3 m)(e:x23=m*m-x2-x3)(f:y23=m*(x2-x23)-y2):LineR A x2 (-y2) x23 y23 (-m):=by
 obtain⟨c,d⟩:=k;have e3:=eq_add c;subst e3;have hA:=eq_sub d;subst hA;subst f;subst e;constructor
 ·clear c d;grind
 ·clear c d;grind
theorem sum_back(D:Dom P){A B:Fin P}(S:Smooth A B){x2 y2:Fin P}(o2:y2*y2=x2*x2*x2+A*x2+B):∀ {p3 p23 r:Option (Fin P × Fin P)},SumR A (some (x2,y2)) p3 p23→SumR A (some (x2,-y2)) p23 r→r=p3
 | none, p23, r, h, k => by
  rw[show p23=some (x2,y2) from h]at k;rcases k with⟨_,_,k3⟩|⟨k0,_⟩
  ·exact k3
  ·exact absurd ⟨rfl,by clear o2;grind⟩ k0
 | some (x3, y3), p23, r, h, k => by
  rcases h with⟨h1,h2,h3⟩|⟨h0,m,x23,y23,hl,e3,e4,e5⟩
  ·rw[h3]at k;rw[show r=some (x2,-y2) from k,h1,show -y2=y3 by clear o2;grind]
  ·rw[e5]at k;have hop:=opp_line hl e3 e4;rcases k with⟨k1,k2,_⟩|⟨k0,g,X,Y,hg,eX,eY,eR⟩
   ·exfalso;have hy:y2=0:=D.two _ (by rw[←k1]at e4;clear o2 hl hop e3 e5 h0;grind);have hm:m*m=x2+x2+x3:=by rw[←k1]at e3;clear o2 hl hop e4 e5 h0 k2 hy;grind
    have h3:y3=m*(x3-x2):=by have c:=hl.1;rw[hy]at c;clear o2 hl hop e3 e4 e5 h0 k2 hm;grind
    have h4:m*(m*(x3-x2))=x2*x2+x2*x3+x3*x3+A:=by have d:=hl.2;rw[hy,h3]at d;clear o2 hl hop e3 e4 e5 h0 k2 hm h3;grind
    have h5:(x2+x2+x3)*(x3-x2)=x2*x2+x2*x3+x3*x3+A:=by rw[←hm,←h4];clear o2 hl hop e3 e4 e5 h0 k2 hm h3 h4;grind
    refine S x2 ?_ ?_
    ·rw[←o2,hy];clear o2 hl hop e3 e4 e5 h0 k2 hm h3 h4 h5;grind
    ·clear o2 hl hop e3 e4 e5 h0 k2 hm h3 h4;grind
   ·obtain rfl:=line_uniq D hg hop k0;rw[eR];have hX:X=x3:=by rw[eX,e3];clear o2 hl hop e3 e4 e5 h0 k0 hg eX eY eR;grind
    have hY:Y=y3:=by rw[eY,hX];have c:=hl.1;clear o2 hl hop e3 e4 e5 h0 k0 hg eX eY eR hX;grind
    rw[hX,hY]
theorem sum_assoc(D:Dom P){A B:Fin P}(S:Smooth A B){p1 p2 p3 p12 p23 r r':Option (Fin P × Fin P)}(o1:OnR A B p1)(o2:OnR A B p2)(o3:OnR A B p3)(h12:SumR A p1 p2 p12)(h123:SumR A p12 p3 r)(h23:SumR A p2 p3 p23)(h123':SumR A p1 p23 r'):r=r':=by
 match p1,p2,p3,o1,o2,o3,h12,h23 with
 | none,p2,p3,o1,o2,o3,h12,h23=>
  rw[show p12=p2 from h12]at h123;rw[show r'=p23 from h123'];exact sum_uniq D h123 h23
 | some p1,none,p3,o1,o2,o3,h12,h23=>
  rw[show p12=some p1 from h12]at h123;rw[show p23=p3 from h23]at h123';exact sum_uniq D h123 h123'
 | some p1,some p2,none,o1,o2,o3,h12,h23=>
  rw[show p23=some p2 from h23]at h123';have h4:=sum_comm h123;rw[show r=p12 from h4];exact sum_uniq D h12 h123'
 | some (x1, y1), some (x2, y2), some (x3, y3), o1, o2, o3, h12, h23 =>
  have h12c:=h12;have h23c:=h23;rcases h12 with⟨a1,a2,a3⟩|⟨n12,l,x12,y12,hl,e12,f12,rfl⟩
  ·subst a3;rw[show r=some (x3,y3) from h123];obtain rfl:=a1;obtain rfl:y1 = -y2:=by clear o1 o2 o3 h23 h23c h123 h123' h12c;grind
   exact(sum_back D S o2 h23c h123').symm
  rcases h23 with⟨a1,a2,a3⟩|⟨n23,m,x23,y23,hm,e23,f23,rfl⟩
  ·subst a3;rw[show r'=some (x1,y1) from h123'];obtain rfl:=a1;obtain rfl:y3 = -y2:=by clear o1 o2 o3 h12c h123 h123' h23c hl e12 f12;grind
   exact sum_back D S o2 (sum_comm h12c) (sum_comm h123)
  by_cases hlm:l-m=0
  ·have elm:l=m:=zero_of hlm;subst elm;have e0:=mid_eq hl hm;have e1:y1=y2+l*(x1-x2):=by have a:=hl.1;clear o1 o2 o3 hl hm e12 f12 e23 f23 e0 h123 h123' h12c h23c;grind
   have e3:y3=y2+l*(x3-x2):=eq_add hm.1;have hz:(x1-x3)*(x1+x2+x3-l*l)=0:=by clear o1 o2 o3 hl hm e12 f12 e23 f23 e1 e3 h123 h123' h12c h23c;grind
   rcases D.dom _ _ hz with hx|hu
   ·obtain rfl:x1=x3:=zero_of hx;obtain rfl:y1=y3:=by rw[e1,e3]
    have h5:=sum_uniq D (sum_comm h23c) h12c;rw[h5]at h123';exact sum_uniq D h123 (sum_comm h123')
   ·have hx3:x12=x3:=by rw[e12];clear o1 o2 o3 hl hm e12 f12 e23 f23 e0 e1 e3 h123 h123' hz hlm h12c h23c;grind
    have hx1:x1=x23:=by rw[e23];clear o1 o2 o3 hl hm e12 f12 e23 f23 e0 e1 e3 h123 h123' hz hlm hx3 h12c h23c;grind
    have hy3:y12+y3=0:=by rw[f12,hx3,e1,e3];clear o1 o2 o3 hl hm e12 f12 e23 f23 e0 e1 e3 h123 h123' hz hlm hx1 hu h12c h23c hx3;grind
    have hy1:y1+y23=0:=by rw[f23,←hx1,e1];clear o1 o2 o3 hl hm e12 f12 e23 f23 e0 e1 e3 h123 h123' hz hlm hx1 hu hx3 hy3 h12c h23c;grind
    rcases h123 with⟨_,_,b3⟩|⟨b0,_⟩
    ·rcases h123' with⟨_,_,c3⟩|⟨c0,_⟩
     ·rw[b3,c3]
     ·exact absurd ⟨hx1,hy1⟩ c0
    ·exact absurd ⟨hx3,hy3⟩ b0
  ·obtain⟨g,X,Y,hg,eX,eY,eR,hgt⟩:=claimG D o1 o3 hl hm hlm n23 e12 f12 h123;have f23':y23=m*(x3-x23)-y3:=by rw[f23];have c:=hm.1;clear o1 o2 o3 hl hm e12 f12 e23 f23 h123 h123' hg eX eY eR hgt h12c h23c;grind
   obtain⟨d,X',Y',hd,eX',eY',eR',hdt⟩:=claimG D (x1:=x3) (y1:=y3) (x3:=x1) (y3:=y1) (l:=m) (m:=l) o3 o1 (line_comm hm) (line_comm hl) (fun e=>hlm (by clear o1 o2 o3 hl hm e12 f12 e23 f23 h123 h123' hg eX eY eR hgt f23' h12c h23c;grind)) (fun e=>n12 ⟨e.1.symm,by rw[←e.2];clear o1 o2 o3 hl hm e12 f12 e23 f23 h123 h123' hg eX eY eR hgt f23' h12c h23c;grind⟩) (by rw[e23];clear o1 o2 o3 hl hm e12 f12 e23 f23 h123 h123' hg eX eY eR hgt f23' h12c h23c;grind) f23' (sum_comm h123');have ht:(g+l)*(l-m)=x1-x3:=by clear o1 o2 o3 hl hm e12 f12 e23 f23 h123 h123' hg eX eY eR f23' hd eX' eY' eR' hdt h12c h23c;grind
   have hdg:d+m=g+l:=by
    refine D.cancel (a:=l-m) ?_ hlm;clear o1 o2 o3 hl hm e12 f12 e23 f23 h123 h123' hg eX eY eR f23' hd eX' eY' eR' h12c h23c hgt
    grind
   obtain⟨t,htt⟩:∃t,g+l=t:=⟨_,rfl⟩
   rw[htt]at ht hdg;have hg':g=t-l:=by clear o1 o2 o3 hl hm e12 f12 e23 f23 h123 h123' hg eX eY eR f23' hd eX' eY' eR' h12c h23c hgt hdt ht hdg;grind
   have hd':d=t-m:=by clear o1 o2 o3 hl hm e12 f12 e23 f23 h123 h123' hg eX eY eR f23' hd eX' eY' eR' h12c h23c hgt hdt ht htt hg';grind
   have e1:y1=y2+l*(x1-x2):=by have a:=hl.1;clear o1 o2 o3 hl hm e12 f12 e23 f23 h123 h123' h12c h23c hg eX eY eR f23' hd eX' eY' eR' hgt hdt ht htt hg' hdg hd';grind
   have e3:y3=y2+m*(x3-x2):=eq_add hm.1;have hX:X=X':=by
    have:=fin_x (x2:=x2) ht;rw[eX,eX',hg',hd',e12,e23,this];clear o1 o2 o3 hl hm e12 f12 e23 f23 h123 h123' h12c h23c hg eX eY eR f23' hd eX' eY' eR' hgt hdt ht htt hg' hdg hd' e1 e3 this
    grind
   have hY:Y=Y':=by
    have h1:Y=g*(x3-X)-y3:=by rw[eY];have c:=hg.1;clear o1 o2 o3 hl hm e12 f12 e23 f23 h123 h123' h12c h23c hg eX eY eR f23' hd eX' eY' eR' hgt hdt ht htt hg' hdg hd' e1 e3 hX;grind
    have h2:Y'=d*(x1-X')-y1:=by rw[eY'];have c:=hd.1;clear o1 o2 o3 hl hm e12 f12 e23 f23 h123 h123' h12c h23c hg eX eY eR f23' hd eX' eY' eR' hgt hdt ht htt hg' hdg hd' e1 e3 hX h1;grind
    have h3:=fin_y (x2:=x2) (y2:=y2) ht;have h4:X'=(t-m)*(t-m)-x1-(m*m-x2-x3):=by rw[eX',hd',e23];clear o1 o2 o3 hl hm e12 f12 e23 f23 h123 h123' h12c h23c hg eX eY eR f23' hd eX' eY' eR' hgt hdt ht htt hg' hdg hd' e1 e3 hX h1 h2 h3;grind
    have h5:X=(t-l)*(t-l)-(l*l-x1-x2)-x3:=by rw[eX,hg',e12]
    rw[h1,h2,h4,h5,hg',hd',e1,e3];exact h3
   rw[eR,eR',hX,hY]
end
section
def fp (P:Nat)[NeZero P](a:Int):Fin P:=⟨(a%(P:Int)).toNat,by
 have h0:(0:Int)<P:=by have:=Nat.pos_of_ne_zero (NeZero.ne P);omega
 have h1:=Int.emod_lt_of_pos a h0;have h2:=Int.emod_nonneg a (b:=(P:Int)) (by omega);omega⟩
theorem fp_val(P:Nat)[NeZero P](a:Int):((fp P a).val:Int)=a%P:=by
 have h0:(0:Int)<P:=by have:=Nat.pos_of_ne_zero (NeZero.ne P);omega
 have h2:=Int.emod_nonneg a (b:=(P:Int)) (by omega);show(((a%(P:Int)).toNat:Nat):Int)=_;omega
theorem fp_eq(P:Nat)[NeZero P]{a b:Int}:fp P a=fp P b↔a%P=b%P:=by
 constructor
 ·intro h;rw[←fp_val,←fp_val,h]
 ·intro h;apply Fin.ext;have:=fp_val P a;have:=fp_val P b;omega
theorem fp_mod(P:Nat)[NeZero P](a:Int):fp P (a%P)=fp P a:=by rw[fp_eq,Int.emod_emod]
theorem fp_add(P:Nat)[NeZero P](a b:Int):fp P (a+b)=fp P a+fp P b:=by
 apply Fin.ext;have h1:=fp_val P (a+b);have h2:((fp P a+fp P b).val:Int)=((fp P a).val+(fp P b).val:Nat)%P:=by rw[Fin.val_add];simp
 have h3:=fp_val P a;have h4:=fp_val P b;have:((fp P (a+b)).val:Int)=((fp P a+fp P b).val:Int):=by rw[h1,h2,Int.natCast_add,h3,h4,←Int.add_emod]
 omega
theorem fp_mul(P:Nat)[NeZero P](a b:Int):fp P (a*b)=fp P a*fp P b:=by
 apply Fin.ext;have h1:=fp_val P (a*b);have h2:((fp P a*fp P b).val:Int)=((fp P a).val*(fp P b).val:Nat)%P:=by rw[Fin.val_mul];simp
 have h3:=fp_val P a;have h4:=fp_val P b;have:((fp P (a*b)).val:Int)=((fp P a*fp P b).val:Int):=by rw[h1,h2,Int.natCast_mul,h3,h4,←Int.mul_emod]
 omega
theorem fp_zero(P:Nat)[NeZero P]:fp P 0=0:=by
 apply Fin.ext;have h1:=fp_val P 0;rw[Int.zero_emod]at h1;have:((0:Fin P).val:Int)=0:=by simp
 omega
theorem fp_sub(P:Nat)[NeZero P](a b:Int):fp P (a-b)=fp P a-fp P b:=by
 have h:=fp_add P (a-b) b;rw[show a-b+b=a by omega]at h;rw[h]
 grind
theorem fp_self(P:Nat)[NeZero P](x:Fin P):fp P (x.val:Int)=x:=by apply Fin.ext;have h1:=fp_val P (x.val:Int);rw[Int.emod_eq_of_lt (by omega) (by have:=x.isLt;omega)]at h1;omega
def PrimeN(P:Nat):Prop:=∀a b:Nat,P∣a*b→P∣a∨P∣b
theorem fin_zero{P:Nat}[NeZero P]{x:Fin P}:x=0↔P∣x.val:=by
 constructor
 ·intro h;rw[h];exact⟨0,by simp⟩
 ·intro h;apply Fin.ext;have h1:=x.isLt;have:x.val=0:=Nat.eq_zero_of_dvd_of_lt h h1;simpa using this
theorem dom_fin{P:Nat}[NeZero P](hp:PrimeN P)(h2:P%2=1):Dom P:=by
 refine⟨fun a b h => ?_,fun a h => ?_⟩
 ·have h1:P∣a.val*b.val:=by
   have h3:=congrArg Fin.val h;rw[Fin.val_mul]at h3;exact Nat.dvd_of_mod_eq_zero (by simpa using h3)
  rcases hp _ _ h1 with h3|h3
  ·exact .inl (fin_zero.2 h3)
  ·exact .inr (fin_zero.2 h3)
 ·have h1:P∣a.val+a.val:=by
   have h3:=congrArg Fin.val h;rw[Fin.val_add]at h3;exact Nat.dvd_of_mod_eq_zero (by simpa using h3)
  refine fin_zero.2 ?_;obtain⟨k,hk⟩:=h1;have h5:=a.isLt;have:a.val=0:=by
   rcases k with _|_|k
   ·omega
   ·omega
   ·have h6:P*(k+1+1)=P*k+P+P:=by rw[Nat.mul_add,Nat.mul_add];omega
    omega
  rw[this];exact⟨0,by simp⟩
theorem prime_of{P:Nat}(h:∀a,a<P→a≠0→Nat.gcd P a=1):PrimeN P:=by
 intro a b hab;by_cases h0:a%P=0
 ·exact .inl (Nat.dvd_of_mod_eq_zero h0)
 ·right;rcases Nat.eq_zero_or_pos P with rfl|hP
  ·simp at h0;obtain⟨k,hk⟩:=hab;rw[Nat.zero_mul]at hk;rcases Nat.mul_eq_zero.1 hk with h1|h1
   ·exact absurd h1 h0
   ·rw[h1];exact⟨0,rfl⟩
  ·have hg:=h (a%P) (Nat.mod_lt _ hP) h0;have hc:Nat.gcd P a=1:=by rw[Nat.gcd_rec,Nat.gcd_comm];exact hg
   exact Nat.Coprime.dvd_of_dvd_mul_left hc hab
theorem smooth_of{P:Nat}[NeZero P]{A B:Fin P}(h:¬4*(A*A*A)+27*(B*B)=0):Smooth A B:=by
 intro x h1 h2;apply h;have hA:A = -(x*x+x*x+x*x):=by clear h h1;grind
 have hB:B=x*x*x+x*x*x:=by rw[hA]at h1;clear h h2 hA;grind
 rw[hA,hB];clear h h1 h2 hA hB
 grind
def Invs (P:Nat)[NeZero P]:Prop:=∀a:Fin P,¬a=0→∃b:Fin P,b*a=1
variable {P : Nat} [NeZero P]
theorem line_apart{A B x1 y1 x2 y2 l n:Fin P}(o1:y1*y1=x1*x1*x1+A*x1+B)(o2:y2*y2=x2*x2*x2+A*x2+B)(hn:n*(x2-x1)=1)(hl:l=(y2-y1)*n):LineR A x1 y1 x2 y2 l:=by
 subst hl;refine⟨?_,?_⟩
 ·have e:(y2-y1)*n*(x2-x1)=(y2-y1)*(n*(x2-x1)):=by clear o1 o2 hn;grind
  rw[e,hn];clear o1 o2 hn e
  grind
 ·have e:(y2-y1)*n*(y1+y2)=n*(y2*y2-y1*y1):=by clear o1 o2 hn;grind
  rw[e,o1,o2];have e2:n*(x2*x2*x2+A*x2+B-(x1*x1*x1+A*x1+B))=(n*(x2-x1))*(x1*x1+x1*x2+x2*x2+A):=by clear o1 o2 hn e;grind
  rw[e2,hn];clear o1 o2 hn e e2
  grind
theorem line_same(D:Dom P){A B x1 y1 x2 y2 l n:Fin P}(o1:y1*y1=x1*x1*x1+A*x1+B)(o2:y2*y2=x2*x2*x2+A*x2+B)(hx:x1=x2)(hy:¬y1+y2=0)(hn:n*(y1+y2)=1)(hl:l=(x1*x1+x1*x1+x1*x1+A)*n):LineR A x1 y1 x2 y2 l:=by
 subst hx;have hd:(y1+y2)*(y2-y1)=(y1+y2)*0:=by
  have:(y1+y2)*(y2-y1)=y2*y2-y1*y1:=by clear o1 o2 hy hn hl;grind
  rw[this,o1,o2];clear o1 o2 hy hn hl this
  grind
 have h0:=D.cancel hd hy;subst hl;refine⟨?_,?_⟩
 ·rw[h0];clear o1 o2 hy hn hd h0
  grind
 ·have e:(x1*x1+x1*x1+x1*x1+A)*n*(y1+y2)=(x1*x1+x1*x1+x1*x1+A)*(n*(y1+y2)):=by clear o1 o2 hy hn hd h0;grind
  rw[e,hn];clear o1 o2 hy hn hd h0 e
  grind
theorem sum_ex(D:Dom P)(I:Invs P){A B:Fin P}:∀ {p q:Option (Fin P × Fin P)},OnR A B p→OnR A B q→∃r,SumR A p q r
 | none,q,_,_=>⟨q,rfl⟩
 | some p,none,_,_=>⟨some p,rfl⟩
 | some (x1, y1), some (x2, y2), o1, o2 => by
  by_cases h:x1=x2∧y1+y2=0
  ·exact⟨none,.inl ⟨h.1,h.2,rfl⟩⟩
  ·by_cases hx:x1=x2
   ·have hy:¬y1+y2=0:=fun e=>h ⟨hx,e⟩;obtain⟨n,hn⟩:=I _ hy;exact⟨_,.inr ⟨h,_,_,_,line_same D o1 o2 hx hy hn rfl,rfl,rfl,rfl⟩⟩
   ·have hy:¬x2-x1=0:=fun e=>hx (zero_of e).symm;obtain⟨n,hn⟩:=I _ hy;exact⟨_,.inr ⟨h,_,_,_,line_apart o1 o2 hn rfl,rfl,rfl,rfl⟩⟩
def Tm (A:Fin P)(G:Option (Fin P × Fin P)):Nat→Option (Fin P × Fin P)→Prop
 | 0,q=>q=none
 | k+1,r=>∃q,Tm A G k q∧SumR A q G r
theorem Tm.on{A B:Fin P}{G:Option (Fin P × Fin P)}(hG:OnR A B G):∀(k:Nat) (q:Option (Fin P × Fin P)),Tm A G k q→OnR A B q
 | 0,q,h=>by rw[show q=none from h];trivial
 | k+1,r,⟨q,h,hs⟩=>sum_on (Tm.on hG k q h) hG hs
theorem Tm.ex(D:Dom P)(I:Invs P){A B:Fin P}{G:Option (Fin P × Fin P)}(hG:OnR A B G):∀k,∃q,Tm A G k q
 | 0=>⟨none,rfl⟩
 | k+1=>by
  obtain⟨q,h⟩:=Tm.ex D I hG k;obtain⟨r,hr⟩:=sum_ex D I (Tm.on hG k q h) hG;exact⟨r,q,h,hr⟩
theorem Tm.uniq(D:Dom P){A:Fin P}{G:Option (Fin P × Fin P)}:∀(k:Nat) (q r:Option (Fin P × Fin P)),Tm A G k q→Tm A G k r→q=r
 | 0,q,r,h,h'=>by rw[show q=none from h,show r=none from h']
 | k+1,q,r,⟨q',h,hs⟩,⟨r',h',hs'⟩=>by
  rw[Tm.uniq D k q' r' h h']at hs;exact sum_uniq D hs hs'
theorem sum_none{A:Fin P}:∀p:Option (Fin P × Fin P),SumR A p none p
 | none=>rfl
 | some _=>rfl
theorem Tm.add(D:Dom P)(I:Invs P){A B:Fin P}(S:Smooth A B){G:Option (Fin P × Fin P)}(hG:OnR A B G)(a:Nat)(p:Option (Fin P × Fin P))(ha:Tm A G a p):∀(b:Nat) (q r:Option (Fin P × Fin P)),Tm A G b q→SumR A p q r→Tm A G (a+b) r
 | 0,q,r,h,hs=>by
  rw[show q=none from h]at hs;rw[←sum_uniq D (sum_none p) hs];exact ha
 | b+1,q,r,⟨q',h,hq⟩,hs=>by
  have o1:=Tm.on hG a p ha;have o2:=Tm.on hG b q' h;obtain⟨s,hs'⟩:=sum_ex D I o1 o2;have h1:=Tm.add D I S hG a p ha b q' s h hs';obtain⟨r',hr'⟩:=sum_ex D I (sum_on o1 o2 hs') hG;have:=sum_assoc D S o1 o2 hG hs' hr' hq hs;subst this;exact⟨s,h1,hr'⟩
theorem Tm.round(D:Dom P)(I:Invs P){A B:Fin P}(S:Smooth A B){G:Option (Fin P × Fin P)}(hG:OnR A B G){N:Nat}(hN:Tm A G N none){a:Nat}{p:Option (Fin P × Fin P)}(ha:Tm A G a p):Tm A G (a+N) p:=Tm.add D I S hG a p ha N none p hN (sum_none p)
theorem Tm.times(D:Dom P)(I:Invs P){A B:Fin P}(S:Smooth A B){G:Option (Fin P × Fin P)}(hG:OnR A B G){N:Nat}(hN:Tm A G N none):∀k,Tm A G (k*N) none
 | 0=>by rw[Nat.zero_mul];rfl
 | k+1=>by rw[Nat.succ_mul];exact Tm.round D I S hG hN (Tm.times D I S hG hN k)
theorem bez(a b:Nat):∃x y:Int,(Nat.gcd a b:Int)=a*x+b*y:=by
 induction a,b using Nat.gcd.induction with
 | H0 n=>exact⟨0,1,by simp⟩
 | H1 m n hm ih =>
  obtain⟨x,y,h⟩:=ih;refine⟨y-(n/m:Nat)*x,x,?_⟩;rw[Nat.gcd_rec,h];have h1:((n%m:Nat):Int)=n-m*(n/m:Nat):=by
   have:=Nat.div_add_mod n m;have h2:((m*(n/m)+n%m:Nat):Int)=n:=by rw[this]
   rw[Int.natCast_add,Int.natCast_mul]at h2;omega
  rw[h1]
  grind
theorem prime_gcd{P a:Nat}(hp:PrimeN P)(h0:0<a)(ha:a<P):Nat.gcd P a=1:=by
 obtain⟨k,hk⟩:=Nat.gcd_dvd_left P a;have hg:Nat.gcd P a≤a:=Nat.le_of_dvd h0 (Nat.gcd_dvd_right P a);have hd:P∣Nat.gcd P a*k:=⟨1,by omega⟩
 rcases hp _ _ hd with h|h
 ·have h3:0<Nat.gcd P a:=Nat.gcd_pos_of_pos_right _ h0;have:=Nat.le_of_dvd h3 h;omega
 ·have hk0:0<k:=by
   rcases Nat.eq_zero_or_pos k with e|e
   ·rw[e,Nat.mul_zero]at hk;omega
   ·exact e
  have h4:=Nat.le_of_dvd hk0 h;have h5:0<Nat.gcd P a:=Nat.gcd_pos_of_pos_right _ h0;generalize Nat.gcd P a=g at *;rcases g with _|_|g
  ·omega
  ·rfl
  ·have h6:(g+1+1)*k=g*k+k+k:=by rw[Nat.add_mul,Nat.add_mul];omega
   have h7:0≤g*k:=Nat.zero_le _;omega
theorem fp_one(P:Nat)[NeZero P]:fp P 1=1:=by
 apply Fin.ext;have h1:=fp_val P 1;have h2:((1:Fin P).val:Int)=((1%P:Nat):Int):=rfl;rw[Int.natCast_emod]at h2;have:((fp P 1).val:Int)=((1:Fin P).val:Int):=by rw[h1,h2];rfl
 omega
theorem invs_fin{P:Nat}[NeZero P](hp:PrimeN P):Invs P:=by
 intro a ha;have h0:0<a.val:=by
  rcases Nat.eq_zero_or_pos a.val with e|e
  ·exact absurd (Fin.ext (by simpa using e)) ha
  ·exact e
 have hg:=prime_gcd hp h0 a.isLt;obtain⟨x,y,h⟩:=bez P a.val;rw[hg]at h;refine⟨fp P y,?_⟩;have h1:fp P y*a=fp P (y*a.val):=by rw[fp_mul,fp_self]
 rw[h1,←fp_one P,fp_eq];have h2:y*(a.val:Int)=1+P*(-x):=by grind
 rw[h2,Int.add_mul_emod_self_left]
end
section
structure GoodK(K:Cz)(P:Nat)[NeZero P]:Prop where
 p:K.p=(P:Int)
 prime:PrimeN P
 odd:P%2=1
 smooth:Smooth (fp P K.a) (fp P K.b)
def ptR (P:Nat)[NeZero P](p:Pz):Option (Fin P × Fin P):=if p.inf then none else some (fp P p.x,fp P p.y)
def RdP (P:Nat)(p:Pz):Prop:=if p.inf then p=noZ else 0≤p.x∧p.x<P∧0≤p.y∧p.y<P
def Gd (K:Cz)(P:Nat)[NeZero P](p:Pz):Prop:=RdP P p∧OnR (fp P K.a) (fp P K.b) (ptR P p)
theorem RdP.own{P:Nat}{p:Pz}(h:RdP P p):ownZ p=p:=by
 unfold RdP at h;unfold ownZ
 cases hi:p.inf with
 | true=>rw[hi,if_pos rfl]at h;rw[if_pos rfl,h]
 | false=>rw[if_neg (by simp)]
theorem RdP.no{P:Nat}:RdP P noZ:=by unfold RdP noZ;rw[if_pos rfl]
theorem gd_prime{P:Nat}(hp:PrimeN P)(a:Int)(h0:0<a)(h1:a<P):gd P (a%P)=1:=by rw[Int.emod_eq_of_lt (by omega) h1];unfold gd;rw[show((P:Int)).toNat=P by omega,prime_gcd hp (by omega) (by omega)];rfl
section
variable {P : Nat} [NeZero P] {K : Cz}
theorem ppos(P:Nat)[NeZero P]:(0:Int)<P:=by have:=Nat.pos_of_ne_zero (NeZero.ne P);omega
theorem ptR_no:ptR P noZ=none:=by unfold ptR noZ;rw[if_pos rfl]
theorem ptR_inj{p q:Pz}(hp:RdP P p)(hq:RdP P q)(h:ptR P p=ptR P q):p=q:=by
 unfold RdP at hp hq;unfold ptR at h
 cases hpi:p.inf with
 | true=>
  rw[hpi,if_pos rfl]at hp
  cases hqi:q.inf with
  | true=>rw[hqi,if_pos rfl]at hq;rw[hp,hq]
  | false=>rw[hpi,hqi,if_pos rfl,if_neg (by simp)]at h;cases h
 | false =>
  cases hqi:q.inf with
  | true=>rw[hpi,hqi,if_pos rfl,if_neg (by simp)]at h;cases h
  | false=>
   rw[hpi,hqi,if_neg (by simp),if_neg (by simp)]at h;rw[hpi,if_neg (by simp)]at hp;rw[hqi,if_neg (by simp)]at hq;have h1:=congrArg (fun o=>o.map Prod.fst) h;have h2:=congrArg (fun o=>o.map Prod.snd) h;simp only[Option.map_some,Option.some.injEq]at h1 h2;rw[fp_eq,Int.emod_eq_of_lt hp.1 hp.2.1,Int.emod_eq_of_lt hq.1 hq.2.1]at h1;rw[fp_eq,Int.emod_eq_of_lt hp.2.2.1 hp.2.2.2,Int.emod_eq_of_lt hq.2.2.1 hq.2.2.2]at h2;obtain⟨px,py,pi⟩:=p;obtain⟨qx,qy,qi⟩:=q;simp only at h1 h2 hpi hqi;rw[h1,h2,hpi,hqi]
theorem sum_fp(g:GoodK K P)(p q:Pz)(s:Int):fp P (sumX K p q s)=fp P s*fp P s-fp P p.x-fp P q.x∧fp P (sumY K p q s)=fp P s*(fp P p.x-fp P (sumX K p q s))-fp P p.y:=by
 refine⟨?_,?_⟩
 ·unfold sumX;rw[g.p];simp only[fp_mod,fp_sub,fp_mul]
 ·unfold sumY;rw[g.p];simp only[fp_mod,fp_sub,fp_mul]
theorem sum_rd(g:GoodK K P)(p q:Pz)(s:Int):RdP P ⟨sumX K p q s,sumY K p q s,false⟩:=by have h:=ppos P;unfold RdP sumY;rw[if_neg (by simp)];simp only;unfold sumX;rw[g.p];exact⟨Int.emod_nonneg _ (by omega),Int.emod_lt_of_pos _ h,Int.emod_nonneg _ (by omega),Int.emod_lt_of_pos _ h⟩
theorem inv_fp{n a:Int}(h:Cg P (n*a) 1):fp P n*fp P a=1:=by rw[←fp_mul,←fp_one P,fp_eq];exact h.emod
theorem add_good(g:GoodK K P){p q:Pz}{r:Option Pz}(h:AddZ K p q r)(hp:Gd K P p)(hq:Gd K P q):∃s,r=some s∧RdP P s∧SumR (fp P K.a) (ptR P p) (ptR P q) (ptR P s):=by
 have hP:=ppos P;have D:=dom_fin g.prime g.odd;obtain⟨rp,op⟩:=hp;obtain⟨rq,oq⟩:=hq;unfold AddZ at h;rw[if_neg (by rw[g.p];omega)]at h
 cases hpi:p.inf with
 | true=>
  rw[hpi,if_pos rfl,rq.own]at h;exact⟨q,h,rq,by rw[show ptR P p=none by unfold ptR;rw[if_pos hpi]];rfl⟩
 | false =>
  rw[hpi,if_neg (by simp)]at h
  cases hqi:q.inf with
  | true=>
   rw[hqi,if_pos rfl,rp.own]at h;exact⟨p,h,rp,by rw[show ptR P q=none by unfold ptR;rw[if_pos hqi]];exact sum_none _⟩
  | false =>
   rw[hqi,if_neg (by simp)]at h;have ep:ptR P p=some (fp P p.x,fp P p.y):=by unfold ptR;rw[hpi,if_neg (by simp)]
   have eq:ptR P q=some (fp P q.x,fp P q.y):=by unfold ptR;rw[hqi,if_neg (by simp)]
   have es:∀x y,ptR P ⟨x,y,false⟩=some (fp P x,fp P y):=fun x y=>by unfold ptR;rw[if_neg (by simp)]
   rw[ep]at op ⊢;rw[eq]at oq ⊢;unfold AddN at h;have ex:fp P q.x-fp P p.x=fp P ((q.x-p.x)%K.p):=by rw[g.p,fp_mod,fp_sub]
   have ey:fp P p.y+fp P q.y=fp P ((p.y+q.y)%K.p):=by rw[g.p,fp_mod,fp_add]
   by_cases hx:(q.x-p.x)%K.p=0
   ·have hru:runZ K p q=(p.y+q.y)%K.p:=by unfold runZ;rw[if_neg (by simp[hx])]
    have hri:riseZ K p q=((3*((p.x*p.x)%K.p))%K.p+K.a)%K.p:=by unfold riseZ;rw[if_neg (by simp[hx])]
    have hxx:fp P p.x=fp P q.x:=(zero_of (by rw[ex,hx,fp_zero])).symm;by_cases hy:runZ K p q=0
    ·rw[if_pos hy]at h;exact⟨noZ,h,RdP.no,by rw[ptR_no];exact .inl ⟨hxx,by rw[ey,←hru,hy,fp_zero],rfl⟩⟩
    ·rw[if_neg hy]at h;have h1:0≤runZ K p q:=by rw[hru,g.p];exact Int.emod_nonneg _ (by omega)
     have h2:runZ K p q<P:=by rw[hru,g.p];exact Int.emod_lt_of_pos _ hP
     rw[g.p,if_neg (by rw[gd_prime g.prime _ (by omega) h2];simp),←g.p]at h;obtain⟨n,hn0,hn1,hn,rfl⟩:=h;rw[g.p]at hn;have hnn:=inv_fp hn;have hy':¬fp P p.y+fp P q.y=0:=fun e=>by rw[ey,←hru,←fp_zero P,fp_eq,Int.zero_emod,Int.emod_eq_of_lt h1 h2]at e;exact hy e
     rw[hru,←ey]at hnn;have hl:=line_same D op oq hxx hy' hnn rfl;have el:fp P ((riseZ K p q*n)%K.p)=(fp P p.x*fp P p.x+fp P p.x*fp P p.x+fp P p.x*fp P p.x+fp P K.a)*fp P n:=by
      rw[hri,g.p];simp only[fp_mod,fp_mul,fp_add];have:fp P 3=1+1+1:=by rw[show(3:Int)=1+1+1 by rfl,fp_add,fp_add,fp_one]
      rw[this]
      grind
     rw[←el]at hl;obtain⟨e1,e2⟩:=sum_fp g p q ((riseZ K p q*n)%K.p);exact⟨_,rfl,sum_rd g p q _,by rw[es];exact .inr ⟨fun e=>hy' e.2,_,_,_,hl,e1,e2,rfl⟩⟩
   ·have hru:runZ K p q=(q.x-p.x)%K.p:=by unfold runZ;rw[if_pos hx]
    have hri:riseZ K p q=(q.y-p.y)%K.p:=by unfold riseZ;rw[if_pos hx]
    have hy:runZ K p q≠0:=by rw[hru];exact hx
    rw[if_neg hy]at h;have h1:0≤runZ K p q:=by rw[hru,g.p];exact Int.emod_nonneg _ (by omega)
    have h2:runZ K p q<P:=by rw[hru,g.p];exact Int.emod_lt_of_pos _ hP
    rw[g.p,if_neg (by rw[gd_prime g.prime _ (by omega) h2];simp),←g.p]at h;obtain⟨n,hn0,hn1,hn,rfl⟩:=h;rw[g.p]at hn;have hnn:=inv_fp hn;rw[hru,←ex]at hnn;have hx':¬fp P p.x=fp P q.x:=fun e=>by rw[fp_eq]at e;apply hx;rw[g.p,Int.sub_emod,e,Int.sub_self,Int.zero_emod]
    have hl:=line_apart op oq hnn rfl;have el:fp P ((riseZ K p q*n)%K.p)=(fp P q.y-fp P p.y)*fp P n:=by rw[hri,g.p];simp only[fp_mod,fp_mul,fp_sub]
    rw[←el]at hl;obtain⟨e1,e2⟩:=sum_fp g p q ((riseZ K p q*n)%K.p);exact⟨_,rfl,sum_rd g p q _,by rw[es];exact .inr ⟨fun e=>hx' e.1,_,_,_,hl,e1,e2,rfl⟩⟩
def Mt (K:Cz)(P:Nat)[NeZero P](G:Pz)(m:Nat)(q:Pz):Prop:=RdP P q∧Tm (fp P K.a) (ptR P G) m (ptR P q)
theorem Mt.gd{G:Pz}(hG:Gd K P G){m:Nat}{q:Pz}(h:Mt K P G m q):Gd K P q:=⟨h.1,Tm.on hG.2 m _ h.2⟩
theorem Mt.uniq(g:GoodK K P){G:Pz}{m:Nat}{q q':Pz}(h:Mt K P G m q)(h':Mt K P G m q'):q=q':=ptR_inj h.1 h'.1 (Tm.uniq (dom_fin g.prime g.odd) m _ _ h.2 h'.2)
theorem Mt.zero{G:Pz}:Mt K P G 0 noZ:=⟨RdP.no,ptR_no⟩
theorem Mt.add(g:GoodK K P){G:Pz}(hG:Gd K P G){a b:Nat}{p q:Pz}{r:Option Pz}(ha:Mt K P G a p)(hb:Mt K P G b q)(h:AddZ K p q r):∃s,r=some s∧Mt K P G (a+b) s:=by obtain⟨s,hs,h1,h2⟩:=add_good g h (ha.gd hG) (hb.gd hG);exact⟨s,hs,h1,Tm.add (dom_fin g.prime g.odd) (invs_fin g.prime) g.smooth hG.2 a _ ha.2 b _ _ hb.2 h2⟩
theorem Mt.one(g:GoodK K P){G:Pz}(hG:Gd K P G):Mt K P G 1 G:=⟨hG.1,none,rfl,rfl⟩
def nb (m:Nat)(x:Int × Bool):Nat:=2*m+if x.2 then 1 else 0
theorem step_good(g:GoodK K P){G:Pz}(hG:Gd K P G){m:Nat}{q:Pz}(hq:Mt K P G m q)(x:Int × Bool){r:Option Pz}(h:stepR K G x.2 q r):∃s,r=some s∧Mt K P G (nb m x) s:=by
 obtain⟨d,hd,h⟩:=h;obtain⟨e,he,he2⟩:=Mt.add g hG hq hq hd;rcases h with⟨h1,_⟩|⟨e',h1,h2⟩
 ·rw[h1]at he;cases he
 ·rw[h1]at he
  cases he
  unfold nb
  cases hx:x.2 with
  | true=>
   rw[hx,if_pos rfl]at h2;rw[if_pos rfl,Nat.two_mul];exact Mt.add g hG he2 (Mt.one g hG) h2
  | false=>
   rw[hx,if_neg (by simp)]at h2;rw[if_neg (by simp),Nat.two_mul];exact⟨_,h2,he2⟩
theorem fold_good(g:GoodK K P){G:Pz}(hG:Gd K P G):∀(l:List (Int × Bool)) (m:Nat) (S:Pz→Prop),(∀q,S q→Mt K P G m q)→∀q,l.foldl (fun S x=>fun q'=>∃q,S q∧stepR K G x.2 q (some q')) S q→Mt K P G (l.foldl nb m) q
 | [],m,S,hS,q,h=>hS q h
 | x::l,m,S,hS,q,h=>by
  refine fold_good g hG l (nb m x) _ ?_ q h;rintro q' ⟨q0,h0,h1⟩;obtain⟨s,e,hs⟩:=step_good g hG (hS q0 h0) x h1
  cases e
  exact hs
theorem mf_good(g:GoodK K P){G:Pz}(hG:Gd K P G)(l:List (Int × Bool))(q:Pz)(h:MF K G l q):Mt K P G (l.foldl nb 0) q:=fold_good g hG l 0 _ (by rintro q rfl;exact Mt.zero) q h
theorem nb_bits(V:Int)(h0:0≤V)(L:Nat)(hL:V<2^L):∀k,k≤L→(((bitsOf V L k).foldl nb 0:Nat):Int)=V/2^(L-k)
 | 0,_=>by
  rw[Nat.sub_zero,Int.ediv_eq_zero_of_lt h0 hL];rfl
 | k + 1, hk => by
  have ih:=nb_bits V h0 L hL k (by omega);rw[bitsOf_succ,List.foldl_append];have e:L-k=(L-(k+1))+1:=by omega
  have e2:L-1-k=L-(k+1):=by omega
  rw[e,Int.pow_succ,←Int.ediv_ediv_of_nonneg (by exact Int.le_of_lt (Int.pow_pos (by decide)))]at ih;show((nb _ (bitOf V L k):Nat):Int)=_;unfold nb bitOf;rw[e2];simp only;obtain⟨Y,hY⟩:∃Y,V/2^(L-(k+1))=Y:=⟨_,rfl⟩
  have hb:bitAt V (L-(k+1))=Y%2:=by unfold bitAt;rw[hY]
  rw[hY]at ih ⊢;rw[hb];obtain⟨m,hm⟩:∃m,List.foldl nb 0 (bitsOf V L k)=m:=⟨_,rfl⟩
  rw[hm]at ih;have hq:Y%2=0∨Y%2=1:=by omega
  rw[show List.foldl (fun m x=>2*m+if x.2=true then 1 else 0) 0 (bitsOf V L k)=m from hm];rcases hq with h|h
  ·rw[h,if_neg (by decide)];omega
  ·rw[h,if_pos (by decide)];omega
theorem mul_good(g:GoodK K P){G:Pz}(hG:Gd K P G){n:Nat}{r:Option Pz}(h:MulZ K G (bitsOf (n:Int) (blen n) (blen n)) r):∃s,r=some s∧Mt K P G n s:=by
 rcases h with⟨q,rfl,hq⟩|⟨rfl,pre,x,q,_,hq,hs⟩
 ·have h1:=mf_good g hG _ q hq;have h2:=nb_bits (n:Int) (by omega) (blen n) (by exact_mod_cast blen_lt n) (blen n) (Nat.le_refl _);rw[Nat.sub_self,Int.pow_zero,Int.ediv_one]at h2;rw[show(bitsOf (n:Int) (blen n) (blen n)).foldl nb 0=n by omega]at h1;exact⟨q,rfl,h1⟩
 ·obtain⟨s,e,_⟩:=step_good g hG (mf_good g hG pre q hq) x hs
  cases e
theorem Mt.round(g:GoodK K P){G:Pz}(hG:Gd K P G){N:Nat}(hN:Mt K P G N noZ){a:Nat}{p:Pz}(h:Mt K P G a p):Mt K P G (a+N) p:=⟨h.1,Tm.round (dom_fin g.prime g.odd) (invs_fin g.prime) g.smooth hG.2 (by have:=hN.2;rw[ptR_no]at this;exact this) h.2⟩
theorem Mt.times(g:GoodK K P){G:Pz}(hG:Gd K P G){N:Nat}(hN:Mt K P G N noZ)(k:Nat):Mt K P G (k*N) noZ:=⟨RdP.no,by rw[ptR_no];exact Tm.times (dom_fin g.prime g.odd) (invs_fin g.prime) g.smooth hG.2 (by have:=hN.2;rw[ptR_no]at this;exact this) k⟩
end
end
section
open Go.Shelf Go.RowKit
theorem pair_new(w:World)(cv pv:Array Value)(t t':TypeId):((w.alloc (.cells cv t)).alloc (.cells pv t')).heap[w.heap.size]?=some (.cells cv t (0,0))∧((w.alloc (.cells cv t)).alloc (.cells pv t')).heap[w.heap.size+1]?=some (.cells pv t' (0,0))∧Below w.heap.size w ((w.alloc (.cells cv t)).alloc (.cells pv t')):=by have z1:=alloc_sz7 w (.cells cv t);have n1:=heap_alloc_new w (.cells cv t);have n2:=heap_alloc_new (w.alloc (.cells cv t)) (.cells pv t');rw[z1]at n2;exact⟨heap_new n1 (by omega),n2,((Below.refl w.heap.size w).alloc (Nat.le_refl _) _).alloc (by omega) _⟩
theorem blk_old{W W':World}{k:Nat}{o:Obj}(h:W.heap[k]?=some o)(hb:Below W.heap.size W W'):W'.heap[k]?=some o:=(hb.block _ (Array.getElem?_eq_some_iff.1 h).1).trans h
def baseZ(K:Cz):Pz:=⟨K.gx,K.gy,false⟩
theorem Base_any(c:Value)(K:Cz)(L:Nat)(w:World)(hc:Cu w c K L):
  Calls Tryz.prog 113 #[c] w fun e w'=>∃v,e=.returned v∧Pv w' v (baseZ K) L∧Below w.heap.size w w':=by
 obtain⟨g1,g2,oo,lo,co,vp,va,vb,vx,vy,vn,rfl,c1,c2,c3,c4,c5,c6⟩:=hc;have HO:=fun W (hW:Below w.heap.size w W)=>own_any (.agg #[vx,vy,.bool false]) (baseZ K) L W ⟨vx,vy,rfl,c4.old hW,c5.old hW⟩;obtain⟨a1,a2,a3,a4,rfl,a5⟩:=c1;obtain⟨b1,b2,b3,b4,rfl,b5⟩:=c2;obtain⟨d1,d2,d3,d4,rfl,d5⟩:=c3;obtain⟨e1,e2,e3,e4,rfl,e5⟩:=c4;obtain⟨f1,f2,f3,f4,rfl,f5⟩:=c5;obtain⟨j1,j2,j3,j4,rfl,j5⟩:=c6;go_enter Tryz.func113,Tryz.ntmps113;go_wp2_with fail
 obtain⟨_,n2,hb⟩:=pair_new w #[.int .i64 g1,.int .i64 g2,.slice oo lo co,.slice a1 a2 a3,.slice b1 b2 b3,.slice d1 d2 d3,.slice e1 e2 e3,.slice f1 f2 f3,.slice j1 j2 j3] #[.slice none 0 0,.slice none 0 0,.bool false] 52 26;go_at_call 140;refine(HO _ hb).mono ?_;rintro e w2 ⟨v,rfl,hv,hb2⟩;have s2:PSl w2 (w.heap.size+1) (.slice none 0 0) (.slice none 0 0) (.bool false):=blk_old n2 hb2;obtain⟨y0,y1,y2,y3,y4,y5⟩:=s2.facts;obtain⟨ux,uy,rfl,⟨o1,o2,o3,o4,rfl,o5⟩,⟨r1,r2,r3,r4,rfl,r5⟩⟩:=hv;go_wp2;refine bodyPost_ret (ret_pt1 rfl _ _ (w.heap.size+1) _ _ _ rfl (s2.set3 (.slice o1 o2 o3) (.slice r1 r2 r3) (.bool (ownZ (baseZ K)).inf))) rfl ?_;have bt:=Bt.set3 w2 (w.heap.size+1) (.slice o1 o2 o3) (.slice r1 r2 r3) (.bool (ownZ (baseZ K)).inf);have B2:=hb.trans (hb2.mono hb.size);exact⟨_,rfl,⟨_,_,rfl,Nv.apart ⟨o1,o2,o3,o4,rfl,o5⟩ s2 bt,Nv.apart ⟨r1,r2,r3,r4,rfl,r5⟩ s2 bt⟩,B2.trans (bt.below (by omega) B2.size)⟩
def rightZ(K:Cz)(x:Int):Int:=((x*(((x*x)%K.p+K.a)%K.p))%K.p+K.b)%K.p
theorem right_any(c v:Value)(K:Cz)(x:Int)(L:Nat)(w:World)(hc:Cu w c K L)(hv:Nv w v x L)(h0:K.p≠0)(hL:1≤L∧L≤1000):
  Calls Tryz.prog 108 #[c,v] w fun e w'=>∃v,e=.returned v∧Na w w' v (rightZ K x) L:=by
 obtain⟨g1,g2,oo,lo,co,vp,va,vb,vx,vy,vn,rfl,c1,c2,c3,c4,c5,c6⟩:=hc;obtain⟨a1,a2,a3,a4,rfl,a5⟩:=c1;obtain⟨b1,b2,b3,b4,rfl,b5⟩:=c2;obtain⟨d1,d2,d3,d4,rfl,d5⟩:=c3;obtain⟨e1,e2,e3,e4,rfl,e5⟩:=c4;obtain⟨f1,f2,f3,f4,rfl,f5⟩:=c5;obtain⟨j1,j2,j3,j4,rfl,j5⟩:=c6;obtain⟨k1,k2,k3,k4,rfl,k5⟩:=hv;obtain⟨n1,n2,hb⟩:=pair_new w #[.int .i64 g1,.int .i64 g2,.slice oo lo co,.slice a1 a2 a3,.slice b1 b2 b3,.slice d1 d2 d3,.slice e1 e2 e3,.slice f1 f2 f3,.slice j1 j2 j3] #[.slice a1 a2 a3] 52 176;obtain⟨W,hW⟩:∃W,(w.alloc (.cells #[.int .i64 g1,.int .i64 g2,.slice oo lo co,.slice a1 a2 a3,.slice b1 b2 b3,.slice d1 d2 d3,.slice e1 e2 e3,.slice f1 f2 f3,.slice j1 j2 j3] 52)).alloc (.cells #[.slice a1 a2 a3] 176)=W:=⟨_,rfl⟩
 rw[hW]at n1 n2 hb;have HK:=fun(W':World) (hW':Below W.heap.size W W')=>(show W'.cell? ⟨w.heap.size+1,0,none⟩=some (.slice a1 a2 a3)∧W'.cell? ⟨w.heap.size,4,none⟩=some (.slice b1 b2 b3)∧W'.cell? ⟨w.heap.size,5,none⟩=some (.slice d1 d2 d3) from by
  refine⟨?_,?_,?_⟩
  ·rw[cell_of_row _ _ _ _ _ _ (blk_old n2 hW')];rfl
  ·rw[cell_of_row _ _ _ _ _ _ (blk_old n1 hW')];rfl
  ·rw[cell_of_row _ _ _ _ _ _ (blk_old n1 hW')];rfl)
 have VP:=fun(W':World) (hW':Below W.heap.size W W')=>(show Nv W' (.slice a1 a2 a3) K.p L∧Nv W' (.slice b1 b2 b3) K.a L∧Nv W' (.slice d1 d2 d3) K.b L∧Nv W' (.slice k1 k2 k3) x L from by have B:=hb.trans (hW'.mono hb.size);exact⟨Nv.old ⟨a1,a2,a3,a4,rfl,a5⟩ B,Nv.old ⟨b1,b2,b3,b4,rfl,b5⟩ B,Nv.old ⟨d1,d2,d3,d4,rfl,d5⟩ B,Nv.old ⟨k1,k2,k3,k4,rfl,k5⟩ B⟩)
 have K3:=HK W (Below.refl _ _);have K4:=HK W.drew (Below.refl _ _).drew;have V4:=VP W.drew (Below.refl _ _).drew;have H1:=product_any (.slice k1 k2 k3) (.slice k1 k2 k3) (.slice a1 a2 a3) x x K.p L L W.drew V4.2.2.2 V4.2.2.2 V4.1 h0 (by omega);have H2:=fun(W':World) (hW':Below W.heap.size W W') v n (hv:Nv W' v n L)=>plus_any v (.slice b1 b2 b3) (.slice a1 a2 a3) n K.a K.p L L W' hv (VP W' hW').2.1 (VP W' hW').1 h0 (by omega);have H3:=fun(W':World) (hW':Below W.heap.size W W') v n (hv:Nv W' v n L)=>product_any (.slice k1 k2 k3) v (.slice a1 a2 a3) x n K.p L L W' (VP W' hW').2.2.2 hv (VP W' hW').1 h0 (by omega);have H4:=fun(W':World) (hW':Below W.heap.size W W') v n (hv:Nv W' v n L)=>plus_any v (.slice d1 d2 d3) (.slice a1 a2 a3) n K.b K.p L L W' hv (VP W' hW').2.2.1 (VP W' hW').1 h0 (by omega);obtain⟨RZ,hRZ⟩:∃r,rightZ K x=r:=⟨_,rfl⟩
 have HRZ:Hid (rightZ K x=RZ):=hRZ;rw[hRZ];have HW:Hid (_=W):=hW;have T1:True:=trivial;have T2:True:=trivial;clear hW hRZ V4;go_enter Tryz.func108,Tryz.ntmps108;go_wp2_with fail
 rw[HW.out];go_region_held3 (fun W=>W.cell? ⟨w.heap.size+1,0,none⟩=some (.slice a1 a2 a3)∧W.cell? ⟨w.heap.size,4,none⟩=some (.slice b1 b2 b3)∧W.cell? ⟨w.heap.size,5,none⟩=some (.slice d1 d2 d3))
  (first|exact K3|exact K4|exact K5|exact K6|exact K7|exact K8) (first
  | (go_at_call 107;clear T1;refine H1.mono ?_;rintro e w5 ⟨v5,rfl,hv5,hb5⟩;have C5:=((Below.refl W.heap.size W).drew).trans (hb5.mono (Nat.le_refl _));have K5:=HK w5 C5;have H22:=H2 w5 C5 v5 _ hv5;obtain⟨o1,o2,o3,o4,rfl,o5⟩:=hv5)
  | (go_at_call 134;clear T2;refine H22.mono ?_;rintro e w6 ⟨v6,rfl,hv6,hb6⟩;have C6:=C5.trans (hb6.mono C5.size);have K6:=HK w6 C6;have H32:=H3 w6 C6 v6 _ hv6;obtain⟨u1,u2,u3,u4,rfl,u5⟩:=hv6)
  | (go_at_call 107;refine H32.mono ?_;rintro e w7 ⟨v7,rfl,hv7,hb7⟩;have C7:=C6.trans (hb7.mono C6.size);have K7:=HK w7 C7;have H42:=H4 w7 C7 v7 _ hv7;obtain⟨y1,y2,y3,y4,rfl,y5⟩:=hv7)
  | (go_at_call 134;refine H42.mono ?_;rintro e w8 ⟨v8,rfl,hv8,hb8⟩;have C8:=C7.trans (hb8.mono C7.size);have K8:=HK w8 C8;have hv8':=hv8;obtain⟨z1,z2,z3,z4,rfl,z5⟩:=hv8))
 go_wp2;go_ret;refine⟨_,rfl,?_,hb.trans (C8.mono hb.size)⟩;rw[←HRZ.out];exact hv8'
def onB (K:Cz)(P:Pz):Bool:=decide (K.p≠0)&&(P.inf||(decide (P.x<K.p)&&(decide (P.y<K.p)&&decide ((P.y*P.y)%K.p=rightZ K P.x))))
theorem cmp_nv(a b:Value)(x y:Int)(L:Nat)(w:World)(ha:Nv w a x L)(hb:Nv w b y L):Calls Tryz.prog 45 #[a,b] w fun e w'=>e=.returned (.int .i64 (cmpI x y))∧Below w.heap.size w w':=by obtain⟨ao,la,ca,xs,rfl,h1,rfl,h2⟩:=ha;obtain⟨bo,lb,cb,ys,rfl,k1,rfl,k2⟩:=hb;refine(Cmp_any ao bo la ca lb cb xs ys w h1 k1).mono ?_;rintro e w' ⟨rfl,k,rfl⟩;exact⟨rfl,drew7 _ _⟩
theorem On_any(c p:Value)(K:Cz)(P:Pz)(L:Nat)(w:World)(hc:Cu w c K L)(hp:Pv w p P L)(hL:1≤L∧L≤1000):
  Calls Tryz.prog 83 #[c,p] w fun e w'=>e=.returned (.bool (onB K P))∧Below w.heap.size w w':=by
 have HCU:=hc;obtain⟨g1,g2,oo,lo,co,vp,va,vb,vx,vy,vn,rfl,c1,c2,c3,c4,c5,c6⟩:=hc;obtain⟨px,py,rfl,p1,p2⟩:=hp;have HR:=fun(h0:K.p≠0) W (hW:Below w.heap.size w W)=>right_any _ px K P.x L W (HCU.old hW) (p1.old hW) h0 hL;have HM:=fun(h0:K.p≠0) W (hW:Below w.heap.size w W)=>product_any py py vp P.y P.y K.p L L W (p2.old hW) (p2.old hW) (c1.old hW) h0 (by omega);have HBX:=fun W (hW:Below w.heap.size w W)=>isBelow_any px vp P.x K.p L W (p1.old hW) (c1.old hW);have HBY:=fun W (hW:Below w.heap.size w W)=>isBelow_any py vp P.y K.p L W (p2.old hW) (c1.old hW);have HZ:=fun W (hW:Below w.heap.size w W)=>isZero_any vp K.p L W (c1.old hW);clear HCU;obtain⟨a1,a2,a3,a4,rfl,a5⟩:=c1;obtain⟨b1,b2,b3,b4,rfl,b5⟩:=c2;obtain⟨d1,d2,d3,d4,rfl,d5⟩:=c3;obtain⟨e1,e2,e3,e4,rfl,e5⟩:=c4;obtain⟨f1,f2,f3,f4,rfl,f5⟩:=c5;obtain⟨j1,j2,j3,j4,rfl,j5⟩:=c6;obtain⟨k1,k2,k3,k4,rfl,k5⟩:=p1;obtain⟨l1,l2,l3,l4,rfl,l5⟩:=p2;obtain⟨n1,n2,hb⟩:=pair_new w #[.int .i64 g1,.int .i64 g2,.slice oo lo co,.slice a1 a2 a3,.slice b1 b2 b3,.slice d1 d2 d3,.slice e1 e2 e3,.slice f1 f2 f3,.slice j1 j2 j3] #[.slice k1 k2 k3,.slice l1 l2 l3,.bool P.inf] 52 26;obtain⟨W,hW⟩:∃W,(w.alloc (.cells #[.int .i64 g1,.int .i64 g2,.slice oo lo co,.slice a1 a2 a3,.slice b1 b2 b3,.slice d1 d2 d3,.slice e1 e2 e3,.slice f1 f2 f3,.slice j1 j2 j3] 52)).alloc (.cells #[.slice k1 k2 k3,.slice l1 l2 l3,.bool P.inf] 26)=W:=⟨_,rfl⟩
 rw[hW]at n1 n2 hb;have HK:=fun(W':World) (hW':Below W.heap.size W W')=>(show(W'.cell? ⟨w.heap.size,0,none⟩=some (.int .i64 g1)∧W'.cell? ⟨w.heap.size,1,none⟩=some (.int .i64 g2)∧W'.cell? ⟨w.heap.size,2,none⟩=some (.slice oo lo co)∧W'.cell? ⟨w.heap.size,3,none⟩=some (.slice a1 a2 a3)∧W'.cell? ⟨w.heap.size,4,none⟩=some (.slice b1 b2 b3)∧W'.cell? ⟨w.heap.size,5,none⟩=some (.slice d1 d2 d3)∧W'.cell? ⟨w.heap.size,6,none⟩=some (.slice e1 e2 e3)∧W'.cell? ⟨w.heap.size,7,none⟩=some (.slice f1 f2 f3)∧W'.cell? ⟨w.heap.size,8,none⟩=some (.slice j1 j2 j3))∧W'.cell? ⟨w.heap.size+1,0,none⟩=some (.slice k1 k2 k3)∧W'.cell? ⟨w.heap.size+1,1,none⟩=some (.slice l1 l2 l3)∧W'.cell? ⟨w.heap.size+1,2,none⟩=some (.bool P.inf) from by
  refine⟨⟨?_,?_,?_,?_,?_,?_,?_,?_,?_⟩,?_,?_,?_⟩;all_goals first
   | (rw[cell_of_row _ _ _ _ _ _ (blk_old n1 hW')];rfl)
   | (rw[cell_of_row _ _ _ _ _ _ (blk_old n2 hW')];rfl))
 have HZW:=HZ W hb;have HW:Hid (_=W):=hW;have HBB:Hid (Below w.heap.size w W):=hb;clear hW HZ;unfold onB;by_cases h0:K.p=0
 ·have hd:decide (K.p=0)=true:=by simp[h0]
  have hd2:decide (K.p≠0)=false:=by simp[h0]
  rw[hd]at HZW;rw[hd2];go_enter Tryz.func83,Tryz.ntmps83;go_wp2_with (go_at_call 105;rw[HW.out];refine HZW.mono ?_;rintro e w2 ⟨rfl,rfl⟩)
  go_ret;exact⟨rfl,HBB.out⟩
 have hd:decide (K.p=0)=false:=by simp[h0]
 have hd2:decide (K.p≠0)=true:=by simp[h0]
 rw[hd]at HZW;rw[hd2];obtain⟨⟨x0,x1,x2,x3,x4,x5,x6,x7,x8⟩,x9,x10,x11⟩:=HK W (Below.refl _ _)
 cases hpi:P.inf with
 | true=>
  rw[hpi]at HW x11;go_enter Tryz.func83,Tryz.ntmps83;go_wp2_with (go_at_call 105;rw[HW.out];refine HZW.mono ?_;rintro e w2 ⟨rfl,rfl⟩)
  go_ret;exact⟨rfl,HBB.out⟩
 | false =>
  rw[hpi]at HW x11 HK;have HXW:=HBX W hb;obtain⟨BX,hBX⟩:∃b,decide (P.x<K.p)=b:=⟨_,rfl⟩
  obtain⟨BY,hBY⟩:∃b,decide (P.y<K.p)=b:=⟨_,rfl⟩
  rw[hBX]at HXW ⊢;rw[hBY]at HBY ⊢;have HKB:Hid (∀w3,Below W.heap.size W w3→Below w.heap.size w w3):=fun w3 h=>HBB.out.trans (h.mono HBB.out.size)
  cases BX with
  | false =>
   clear HR HM HBY HBX;go_enter Tryz.func83,Tryz.ntmps83;go_wp2_with (first
    | (go_at_call 105;rw[HW.out];refine HZW.mono ?_;rintro e w2 ⟨rfl,rfl⟩)
    | (go_at_call 106;refine HXW.mono ?_;rintro e w3 ⟨rfl,hb3⟩))
   go_ret;exact⟨rfl,HKB.out _ hb3⟩
  | true =>
   cases BY with
   | false =>
    clear HR HM HBX;have T1:True:=trivial;go_enter Tryz.func83,Tryz.ntmps83;go_wp2_with (first
     | (go_at_call 105;rw[HW.out];refine HZW.mono ?_;rintro e w2 ⟨rfl,rfl⟩)
     | (go_at_call 106;clear T1;refine HXW.mono ?_;rintro e w3 ⟨rfl,hb3⟩;obtain⟨⟨z0,z1,z2,z3,z4,z5,z6,z7,z8⟩,z9,z10,z11⟩:=HK w3 hb3)
     | (go_at_call 106;refine(HBY w3 (HKB.out _ hb3)).mono ?_;rintro e w4 ⟨rfl,hb4⟩))
    go_ret;have B3:=HKB.out _ hb3;exact⟨rfl,B3.trans (hb4.mono B3.size)⟩
   | true =>
    clear HBX;have T1:True:=trivial;go_enter Tryz.func83,Tryz.ntmps83;go_wp2_with (first
     | (go_at_call 105;rw[HW.out];refine HZW.mono ?_;rintro e w2 ⟨rfl,rfl⟩)
     | (go_at_call 106;clear T1;refine HXW.mono ?_;rintro e w3 ⟨rfl,hb3⟩;obtain⟨⟨z0,z1,z2,z3,z4,z5,z6,z7,z8⟩,z9,z10,z11⟩:=HK w3 hb3)
     | (go_at_call 106;refine(HBY w3 (HKB.out _ hb3)).mono ?_;rintro e w4 ⟨rfl,hb4⟩;have C4:=hb3.trans (hb4.mono hb3.size);clear x0 x1 x2 x3 x4 x5 x6 x7 x8 x9 x10 x11 z0 z1 z2 z3 z4 z5 z6 z7 z8 z9 z10 z11;obtain⟨⟨x0,x1,x2,x3,x4,x5,x6,x7,x8⟩,x9,x10,x11⟩:=HK w4 C4))
    have L3:=HK w4 C4;have D4:=C4.drew;have L4:=HK w4.drew D4;have H1:=HM h0 w4.drew (HKB.out _ D4);have H2:=fun W' hW'=>HR h0 W' (HKB.out W' hW');have B4:Hid (Below w2.heap.size w2 w4):=C4;obtain⟨YY,hYY⟩:∃y,(P.y*P.y)%K.p=y:=⟨_,rfl⟩
    obtain⟨RR,hRR⟩:∃y,rightZ K P.x=y:=⟨_,rfl⟩
    rw[hYY]at H1;simp only[hRR]at H2;have hcm:∀z,cmpI YY RR=z→decide (z=0)=decide (YY=RR):=by
     rintro z rfl;unfold cmpI;by_cases q:YY<RR
     ·have:YY≠RR:=by omega
      simp[q,this]
     ·rw[if_neg q];by_cases q2:RR<YY
      ·have:YY≠RR:=by omega
       simp[q2,this]
      ·have:YY=RR:=by omega
       simp[this]
    obtain⟨CZ,hCZ⟩:∃z,cmpI YY RR=z:=⟨_,rfl⟩
    have HF:Hid (decide (CZ=0)=decide ((P.y*P.y)%K.p=rightZ K P.x)):=by rw[hYY,hRR];exact hcm CZ hCZ
    clear hcm x0 x1 x2 x3 x4 x5 x6 x7 x8 x9 x10 x11 hYY hRR;go_region_held3 (fun W'=>(W'.cell? ⟨w.heap.size,0,none⟩=some (.int .i64 g1)∧W'.cell? ⟨w.heap.size,1,none⟩=some (.int .i64 g2)∧W'.cell? ⟨w.heap.size,2,none⟩=some (.slice oo lo co)∧W'.cell? ⟨w.heap.size,3,none⟩=some (.slice a1 a2 a3)∧W'.cell? ⟨w.heap.size,4,none⟩=some (.slice b1 b2 b3)∧W'.cell? ⟨w.heap.size,5,none⟩=some (.slice d1 d2 d3)∧W'.cell? ⟨w.heap.size,6,none⟩=some (.slice e1 e2 e3)∧W'.cell? ⟨w.heap.size,7,none⟩=some (.slice f1 f2 f3)∧W'.cell? ⟨w.heap.size,8,none⟩=some (.slice j1 j2 j3))∧W'.cell? ⟨w.heap.size+1,0,none⟩=some (.slice k1 k2 k3)∧W'.cell? ⟨w.heap.size+1,1,none⟩=some (.slice l1 l2 l3)∧W'.cell? ⟨w.heap.size+1,2,none⟩=some (.bool false))
     (first|exact L3|exact L4|exact L5|exact L6|exact L7) (first
     | (go_at_call 107;refine H1.mono ?_;rintro e w5 ⟨v5,rfl,hv5,hb5⟩;have C5:=D4.trans (hb5.mono D4.size);have L5:=HK w5 C5;have H22:=H2 w5 C5;have hv5':=hv5;obtain⟨o1,o2,o3,o4,rfl,o5⟩:=hv5)
     | (go_at_call 108;refine H22.mono ?_;rintro e w6 ⟨v6,rfl,hv6,hb6⟩;have C6:=C5.trans (hb6.mono C5.size);have L6:=HK w6 C6;have H33:=cmp_nv _ v6 YY RR L w6 (hv5'.old hb6) hv6;rw[hCZ]at H33;obtain⟨u1,u2,u3,u4,rfl,u5⟩:=hv6)
     | (go_at_call 45;refine H33.mono ?_;rintro e w7 ⟨rfl,hb7⟩;have C7:=C6.trans (hb7.mono C6.size);have L7:=HK w7 C7))
    go_wp2;go_ret;refine⟨?_,HKB.out _ C7⟩;rw[←HF.out];simp;rfl
theorem em_sub(a b m:Int):(a%m-b)%m=(a-b)%m:=((Cg.mod m a).sub (Cg.refl m b)).emod
def dX (m:Int)(p q:Pz)(s:Int):Int:=(s*s-p.x-q.x)%m
def dY (m:Int)(p q:Pz)(s:Int):Int:=(s*((p.x-dX m p q s)%m)-p.y)%m
theorem dX_sum(K:Cz)(p q:Pz)(s:Int):sumX K p q s=dX K.p p q s:=by unfold sumX dX;rw[em_sub,((((Cg.mod K.p (s*s)).sub (Cg.refl K.p p.x))).sub (Cg.refl K.p q.x)).emod]
theorem dY_sum(K:Cz)(p q:Pz)(s:Int):sumY K p q s=dY K.p p q s:=by unfold sumY dY;rw[dX_sum,em_sub]
section
variable {P : Nat} [NeZero P] {K : Cz}
theorem good_p0(g:GoodK K P):K.p≠0:=by rw[g.p];have:=ppos P;omega
theorem gd_rng{p:Pz}(h:Gd K P p)(hi:p.inf=false):0≤p.x∧p.x<P∧0≤p.y∧p.y<P:=by
 have:=h.1;unfold RdP at this
 rwa [hi,if_neg (by simp)]at this
theorem gd_on{p:Pz}(h:Gd K P p)(hi:p.inf=false):fp P p.y*fp P p.y=fp P p.x*fp P p.x*fp P p.x+fp P K.a*fp P p.x+fp P K.b:=by have:=h.2;rw[show ptR P p=some (fp P p.x,fp P p.y) by unfold ptR;rw[hi,if_neg (by simp)]]at this;exact this
theorem same_x(g:GoodK K P){p q:Pz}(hp:Gd K P p)(hq:Gd K P q)(hpi:p.inf=false)(hqi:q.inf=false)(hx:(p.x-q.x)%K.p=0):p.x=q.x∧(p.y=q.y∨(p.y+q.y)%K.p=0):=by
 have hP:=ppos P;have rp:=gd_rng hp hpi;have rq:=gd_rng hq hqi;rw[g.p]at hx ⊢;have hxx:p.x=q.x:=by
  have h1:=Int.emod_add_mul_ediv (p.x-q.x) P;rw[hx]at h1;obtain⟨k,hk⟩:∃k,(p.x-q.x)/(P:Int)=k:=⟨_,rfl⟩
  rw[hk]at h1;by_cases k0:k=0
  ·subst k0;omega
  ·exfalso;by_cases k1:1≤k
   ·have:(P:Int)*1≤P*k:=Int.mul_le_mul_of_nonneg_left k1 (by omega);omega
   ·have:(P:Int)*k≤P*(-1):=Int.mul_le_mul_of_nonneg_left (by omega) (by omega);omega
 refine⟨hxx,?_⟩;have o1:=gd_on hp hpi;have o2:=gd_on hq hqi;rw[hxx,←o2]at o1;by_cases h:fp P p.y+fp P q.y=0
 ·right;rw[←fp_add,←fp_zero P,fp_eq,Int.zero_emod]at h;exact h
 ·left;have D:=dom_fin g.prime g.odd;have e:fp P p.y=fp P q.y:=by
   have h2:(fp P p.y+fp P q.y)*fp P p.y=(fp P p.y+fp P q.y)*fp P q.y:=by
    clear hx hxx rp rq hP D o2 h hp hq;generalize fp P p.y=a at *;generalize fp P q.y=b at *
    grind
   exact D.cancel h2 h
  rw[fp_eq,Int.emod_eq_of_lt rp.2.2.1 rp.2.2.2,Int.emod_eq_of_lt rq.2.2.1 rq.2.2.2]at e;exact e
theorem gdP(g:GoodK K P)(a:Int)(h:a%K.p≠0):gd K.p (a%K.p)=1∧gd K.p (a%K.p%K.p)=1:=by have hP:=ppos P;rw[g.p]at h ⊢;have h1:=Int.emod_nonneg a (b:=(P:Int)) (by omega);have h2:=Int.emod_lt_of_pos a hP;rw[Int.emod_emod];have:=gd_prime g.prime (a%P) (by omega) h2;rw[Int.emod_emod]at this;exact⟨this,this⟩
theorem neg_zero_em{a b m:Int}:(a-b)%m=0↔(b-a)%m=0:=by rw[←Int.dvd_iff_emod_eq_zero,←Int.dvd_iff_emod_eq_zero];exact⟨fun⟨k,h⟩=>⟨-k,by rw[Int.mul_neg];omega⟩,fun⟨k,h⟩=>⟨-k,by rw[Int.mul_neg];omega⟩⟩
theorem add_apart(g:GoodK K P){p q:Pz}(hpi:p.inf=false)(hqi:q.inf=false)(hx:(p.x-q.x)%K.p≠0){i:Int}(h0:0≤i)(h1:i<K.p)(hc:Cg K.p (i*((q.x-p.x)%K.p)) 1):
  AddZ K p q (some ⟨dX K.p p q (((q.y-p.y)%K.p*i)%K.p),dY K.p p q (((q.y-p.y)%K.p*i)%K.p),false⟩):=by
 have hx':(q.x-p.x)%K.p≠0:=fun e=>hx (neg_zero_em.1 e);have er:runZ K p q=(q.x-p.x)%K.p:=by unfold runZ;rw[if_pos hx']
 have ei:riseZ K p q=(q.y-p.y)%K.p:=by unfold riseZ;rw[if_pos hx']
 unfold AddZ;rw[if_neg (good_p0 g),hpi,hqi,if_neg (by simp),if_neg (by simp)];unfold AddN;rw[er,if_neg hx',if_neg (by rw[(gdP g _ hx').2];simp),ei];exact⟨i,h0,h1,hc,by rw[dX_sum,dY_sum]⟩
theorem add_void(g:GoodK K P){p q:Pz}(hpi:p.inf=false)(hqi:q.inf=false)(hx:(p.x-q.x)%K.p=0)(hy:(p.y+q.y)%K.p=0):AddZ K p q (some noZ):=by
 have hx':¬(q.x-p.x)%K.p≠0:=fun e=>e (neg_zero_em.1 hx);unfold AddZ;rw[if_neg (good_p0 g),hpi,hqi,if_neg (by simp),if_neg (by simp)];unfold AddN;have er:runZ K p q=(p.y+q.y)%K.p:=by unfold runZ;rw[if_neg hx']
 rw[er,if_pos hy]
theorem add_twice(g:GoodK K P){p q:Pz}(hp:Gd K P p)(hq:Gd K P q)(hpi:p.inf=false)(hqi:q.inf=false)(hx:(p.x-q.x)%K.p=0)(hy:(p.y+q.y)%K.p≠0){i u:Int}(h0:0≤i)(h1:i<K.p)(hc:Cg K.p (i*((p.y+p.y)%K.p)) 1)(hu:Cg K.p u (3*(p.x*p.x)+K.a)):
  (p.y+p.y)%K.p≠0∧AddZ K p q (some ⟨dX K.p p q ((u%K.p*i)%K.p),dY K.p p q ((u%K.p*i)%K.p),false⟩):=by
 have hx':¬(q.x-p.x)%K.p≠0:=fun e=>e (neg_zero_em.1 hx);obtain⟨hxx,hyy⟩:=same_x g hp hq hpi hqi hx;have hyy:p.y=q.y:=by rcases hyy with h|h;exact h;exact absurd h hy
 have ey:p.y+p.y=p.y+q.y:=by rw[←hyy]
 rw[ey]at hc ⊢;refine⟨hy,?_⟩;have er:runZ K p q=(p.y+q.y)%K.p:=by unfold runZ;rw[if_neg hx']
 have ei:riseZ K p q%K.p=u%K.p:=by unfold riseZ;rw[if_neg hx'];refine((?_:Cg K.p _ _).trans hu.symm).emod;exact(Cg.mod K.p _).trans (((Cg.mod K.p _).trans ((Cg.refl K.p 3).mul (Cg.mod K.p _))).add (Cg.refl K.p _))
 have ei2:riseZ K p q%K.p=riseZ K p q:=by unfold riseZ;rw[if_neg hx',Int.emod_emod]
 unfold AddZ;rw[if_neg (good_p0 g),hpi,hqi,if_neg (by simp),if_neg (by simp)];unfold AddN;rw[er,if_neg hy,if_neg (by rw[(gdP g _ hy).2];simp),←ei2,ei];exact⟨i,h0,h1,hc,by rw[dX_sum,dY_sum]⟩
theorem add_twice_ne(g:GoodK K P){p q:Pz}(hp:Gd K P p)(hq:Gd K P q)(hpi:p.inf=false)(hqi:q.inf=false)(hx:(p.x-q.x)%K.p=0)(hy:(p.y+q.y)%K.p≠0):(p.y+p.y)%K.p≠0:=by
 obtain⟨hxx,hyy⟩:=same_x g hp hq hpi hqi hx;have hyy:p.y=q.y:=by rcases hyy with h|h;exact h;exact absurd h hy
 rw[show p.y+p.y=p.y+q.y by rw[←hyy]];exact hy
theorem on_eq(hp:0<K.p)(x y:Int):((y*y)%K.p=rightZ K x)↔(y*y)%K.p=(((x*x)%K.p*x)%K.p+(K.a%K.p*x)%K.p+K.b)%K.p:=by
 have e:rightZ K x=(((x*x)%K.p*x)%K.p+(K.a%K.p*x)%K.p+K.b)%K.p:=by
  unfold rightZ;refine Cg.emod (Cg.trans (b:=x*(x*x+K.a)+K.b) ?_ ?_)
  ·exact((Cg.mod K.p _).trans ((Cg.refl K.p x).mul ((Cg.mod K.p _).trans ((Cg.mod K.p _).add (Cg.refl K.p _))))).add (Cg.refl K.p _)
  ·rw[show x*(x*x+K.a)+K.b=x*x*x+K.a*x+K.b by grind];exact((((Cg.mod K.p _).trans ((Cg.mod K.p _).mul (Cg.refl K.p x))).add ((Cg.mod K.p _).trans ((Cg.mod K.p _).mul (Cg.refl K.p x)))).add (Cg.refl K.p _)).symm
 rw[e]
end
end
section
open Go.RowKit
def InvPost(w:World)(m A:Int)(e:Ending)(w':World):Prop:=w'=w∧((gd m A≠1∧e=.returned (.tuple #[.int .i64 0,.bool false]))∨(gd m A=1∧∃n,0≤n∧n<m∧Cg m (n*A) 1∧e=.returned (.tuple #[.int .i64 n,.bool true])))
theorem rInv_any(a m:Int)(w:World)(hm:0<m)(hm2:m<2147483648)(ha : -8589934592<a)(ha2:a<8589934592):
  Calls Tryz.prog 62 #[.int .i64 a,.int .i64 m] w (InvPost w m (a%m)):=by
 obtain⟨A,hA⟩:∃A,a%m=A:=⟨_,rfl⟩
 have hA0:0≤A:=by rw[←hA];exact Int.emod_nonneg _ (by omega)
 have hA1:A<m:=by rw[←hA];exact Int.emod_lt_of_pos _ hm
 have hg:=gm_eq (a:=a) hm;have ht1:=Int.lt_tmod_of_pos a hm;have ht2:=Int.tmod_lt_of_pos a hm;rw[hA]at hg ⊢;obtain⟨T,hT⟩:∃T,a.tmod m=T:=⟨_,rfl⟩
 rw[hT]at hg ht1 ht2;have hwT:IntKind.i64.wrap T=T:=IntWalk.i64_in _ (by omega);have hwS:IntKind.i64.wrap (T+m)=T+m:=IntWalk.i64_in _ (by omega);have hwA:IntKind.i64.wrap A=A:=IntWalk.i64_in _ (by omega);have hm0:m≠0:=by omega
 have hm1:(m==0)=false:=by simp;omega
 have HI:Hid (Iv m A m A 0 1∧0<m∧m<2147483648∧0≤A):=⟨Iv.start hm hA0 hA1,hm,hm2,hA0⟩
 have HA2:Hid (a%m=A):=hA;clear hA;go_enter Tryz.func62,Tryz.ntmps62;go_wp2_with fail
 clear hT hg ht1 ht2 hwT hwS hwA hA0 hA1 ha ha2;go_loopw [6,7,8,9] (fun vr vs vx vy wr=>∃(r s x y:Int),vr=.int .i64 r∧vs=.int .i64 s∧vx=.int .i64 x∧vy=.int .i64 y∧Iv m A r s x y∧wr=w) (fun _ vs _ _ _=>(intOf vs).toNat)
 case atStart=>exact⟨m,A,0,1,rfl,rfl,rfl,rfl,HI.out.1,rfl⟩
 case round=>
  obtain⟨r,s,x,y,rfl,rfl,rfl,rfl,hI,rfl⟩:=hrel;have HII:Hid (Iv m A r s x y):=hI;by_cases hs:s=0
  ·subst hs;obtain⟨hd,hn⟩:=iv_done hI hm HI.out.2.2.2;obtain⟨G,hG⟩:∃G,gd m A=G:=⟨_,rfl⟩
   have HG:Hid (gd m A=G):=hG;rw[hG]at hd hn;subst hd;have bx:=hI.bx;by_cases h1:r=1
   ·subst h1;obtain⟨n1,n2,n3⟩:=hn rfl;have hgx:=gm_eq (a:=x) hm;have ht1:=Int.lt_tmod_of_pos x hm;have ht2:=Int.tmod_lt_of_pos x hm;obtain⟨N,hN⟩:∃N,x%m=N:=⟨_,rfl⟩
    rw[hN]at hgx n1 n2 n3;obtain⟨T,hT⟩:∃T,x.tmod m=T:=⟨_,rfl⟩
    rw[hT]at hgx ht1 ht2;have hwT:IntKind.i64.wrap T=T:=IntWalk.i64_in _ (by omega);have hwS:IntKind.i64.wrap (T+m)=T+m:=IntWalk.i64_in _ (by omega);have hwA:IntKind.i64.wrap N=N:=IntWalk.i64_in _ (by omega);have HN:Hid (0≤N∧N<m∧Cg m (N*A) 1):=⟨n2,n3,n1⟩
    clear hn hI hN n1 n2 n3 hG ht1 ht2;go_wp2;go_ret2
    exact⟨rfl,.inr ⟨HG.out,N,HN.out.1,HN.out.2.1,HN.out.2.2,rfl⟩⟩
   ·have e1:(r != 1)=true:=by simp[h1]
    have e2:(r==1)=false:=by simp[h1]
    clear hn hI hG bx;go_wp2;go_ret2
    exact⟨rfl,.inl ⟨by rw[HG.out];exact h1,rfl⟩⟩
  ·obtain⟨hS,q0,qm,qy0,qy1,qs0,qs1,hlt⟩:=hI.step hm hs;have s0:=hI.s0;have r0:=hI.r0;have rm:=hI.rm;have sm:=hI.sm;have bx:=hI.bx;have hqt:r.tdiv s=r/s:=Int.tdiv_eq_ediv_of_nonneg r0;obtain⟨q,hq⟩:∃q,r/s=q:=⟨_,rfl⟩
   rw[hq]at hS q0 qm qy0 qy1 qs0 qs1 hlt hqt;obtain⟨V,hV⟩:∃V,q*s=V:=⟨_,rfl⟩
   obtain⟨U,hU⟩:∃U,q*y=U:=⟨_,rfl⟩
   rw[hV]at hS qs0 qs1 hlt;rw[hU]at hS qy0 qy1;have hwq:IntKind.i64.wrap q=q:=IntWalk.i64_in _ (by omega);have hwV:IntKind.i64.wrap V=V:=IntWalk.i64_in _ (by omega);have hwU:IntKind.i64.wrap U=U:=IntWalk.i64_in _ (by omega);have hwa:IntKind.i64.wrap (r-V)=r-V:=IntWalk.i64_in _ (by omega);have hwb:IntKind.i64.wrap (x-U)=x-U:=IntWalk.i64_in _ (by omega);have HS:Hid (Iv m A s (r-V) y (x-U)):=hS;have HM:Hid ((r-V).toNat<s.toNat):=by show _<_;omega
   have e1:(s != 0)=true:=by simp[hs]
   have e2:(s==0)=false:=by simp[hs]
   clear hI hS hq qy0 qy1 qs0 qs1 hlt q0 qm rm sm bx hm2;go_wp2;go_roundw
   case rel=>exact⟨s,r-V,y,x-U,rfl,rfl,rfl,rfl,HS.out,trivial⟩
   case measure=>simp only[intOf];exact HM.out
end
section
open Go.RowKit Go.Shelf
def rcv (K:Cz):Value:=.agg #[.int .i64 K.p,.int .i64 K.a,.int .i64 K.b,.int .i64 K.gx,.int .i64 K.gy,.int .i64 K.n]
def rpv (p:Pz):Value:=.agg #[.int .i64 p.x,.int .i64 p.y,.bool p.inf]
def S31 (a:Int):Prop:=0≤a∧a<2147483648
theorem mul62{a b:Int}(ha:S31 a)(hb:S31 b):0≤a*b∧a*b≤4611686014132420609:=by have h1:a*b≤2147483647*b:=Int.mul_le_mul_of_nonneg_right (by have:=ha.2;omega) hb.1;have h2:2147483647*b≤2147483647*2147483647:=Int.mul_le_mul_of_nonneg_left (by have:=hb.2;omega) (by decide);exact⟨Int.mul_nonneg ha.1 hb.1,by omega⟩
theorem em31{a m:Int}(hm:0<m)(h:S31 m):S31 (a%m):=⟨Int.emod_nonneg _ (by omega),by have:=Int.emod_lt_of_pos a hm;have:=h.2;omega⟩
theorem mr31{a b m:Int}(hm:0<m)(h:S31 m)(ha:S31 a)(hb:S31 b):∃v r,a*b=v∧v.tmod m=r∧IntKind.i64.wrap v=v∧IntKind.i64.wrap r=r∧S31 r∧r=(a*b)%m:=by
 obtain⟨h1,h2⟩:=mul62 ha hb;have h3:=em31 (a:=a*b) hm h;refine⟨_,_,rfl,rfl,IntWalk.i64_in _ (by omega),?_,?_,?_⟩
 ·rw[Int.tmod_eq_emod_of_nonneg h1];exact IntWalk.i64_in _ (by have:=h3.1;have:=h3.2;omega)
 ·rw[Int.tmod_eq_emod_of_nonneg h1];exact h3
 ·rw[Int.tmod_eq_emod_of_nonneg h1]
theorem tr31{a m:Int}(hm:0<m)(h:S31 m)(ha:0≤a):∃r,a.tmod m=r∧IntKind.i64.wrap r=r∧S31 r∧r=a%m:=by have h3:=em31 (a:=a) hm h;rw[Int.tmod_eq_emod_of_nonneg ha];exact⟨_,rfl,IntWalk.i64_in _ (by have:=h3.1;have:=h3.2;omega),h3,rfl⟩
theorem rOn_any(K:Cz)(p:Pz)(w:World)(h0:0<K.p)(hP:S31 K.p)(hA:S31 K.a)(hB:S31 K.b)(hx:S31 p.x)(hy:S31 p.y):
  Calls Tryz.prog 60 #[rcv K,rpv p] w fun e w'=>e=.returned (.bool (onB K p))∧Below w.heap.size w w':=by
 have hon:=on_eq h0 p.x p.y;have hob:onB K p=(decide (K.p≠0)&&(p.inf||(decide (p.x<K.p)&&(decide (p.y<K.p)&&decide ((p.y*p.y)%K.p=rightZ K p.x))))):=rfl;obtain⟨BB,hBB⟩:∃b,onB K p=b:=⟨_,rfl⟩
 rw[hBB]at hob ⊢;obtain⟨kp,ka,kb,kx,ky,kn⟩:=K;obtain⟨x,y,inf⟩:=p;simp only at h0 hP hA hB hx hy hon hob;unfold rcv rpv;simp only;have b2:Below w.heap.size w ((w.alloc (.cells #[.int .i64 kp,.int .i64 ka,.int .i64 kb,.int .i64 kx,.int .i64 ky,.int .i64 kn] 60)).alloc (.cells #[.int .i64 x,.int .i64 y,.bool inf] 64)):=((Below.refl _ _).alloc (Nat.le_refl _) _).alloc (by rw[alloc_sz7];omega) _;have HBW:Hid _:=b2;have hk0:(kp==0)=false:=by simp;omega
 have hk1:(kp != 0)=true:=by simp;omega
 have hk2:kp≠0:=by omega
 cases inf with
 | true=>
  have HE:Hid (BB=true):=by unfold Hid;rw[hob];simp[hk2]
  clear hob hon b2;go_enter Tryz.func60,Tryz.ntmps60;go_wp2;go_ret;exact⟨by rw[HE.out];rfl,HBW.out⟩
 | false =>
  rw[Bool.false_or]at hob;by_cases q1:x<kp
  rotate_left
  ·have HE:Hid (BB=false):=by unfold Hid;rw[hob];simp[q1]
   have d1:decide (x<kp)=false:=by simp[q1]
   clear hob hon b2;go_enter Tryz.func60,Tryz.ntmps60;go_wp2_with fail
   go_quiet (fail)
   go_wp2;go_ret;exact⟨by rw[HE.out];rfl,HBW.out.trans ((drew7 _ _).mono HBW.out.size)⟩
  have d1:decide (x<kp)=true:=by simp[q1]
  by_cases q2:y<kp
  rotate_left
  ·have HE:Hid (BB=false):=by unfold Hid;rw[hob];simp[q2]
   have d2:decide (y<kp)=false:=by simp[q2]
   clear hob hon b2;go_enter Tryz.func60,Tryz.ntmps60;go_wp2_with fail
   go_quiet (fail)
   go_wp2;go_ret;exact⟨by rw[HE.out];rfl,HBW.out.trans ((drew7 _ _).mono HBW.out.size)⟩
  have d2:decide (y<kp)=true:=by simp[q2]
  obtain⟨v1,r1,e1,t1,w1,w1',s1,m1⟩:=mr31 h0 hP hy hy;obtain⟨v2,r2,e2,t2,w2,w2',s2,m2⟩:=mr31 h0 hP hx hx;obtain⟨v3,r3,e3,t3,w3,w3',s3,m3⟩:=mr31 h0 hP s2 hx;obtain⟨r4,t4,w4,s4,m4⟩:=tr31 h0 hP hA.1;obtain⟨v5,r5,e5,t5,w5,w5',s5,m5⟩:=mr31 h0 hP s4 hx;have w6:IntKind.i64.wrap (r3+r5)=r3+r5:=IntWalk.i64_in _ (by have:=s3.1;have:=s3.2;have:=s5.1;have:=s5.2;omega);have w7:IntKind.i64.wrap (r3+r5+kb)=r3+r5+kb:=IntWalk.i64_in _ (by have:=s3.1;have:=s3.2;have:=s5.1;have:=s5.2;have:=hB.1;have:=hB.2;omega);obtain⟨r8,t8,w8,s8,m8⟩:=tr31 h0 hP (show 0≤r3+r5+kb by have:=s3.1;have:=s5.1;have:=hB.1;omega);have HE:Hid (BB=decide (r1=r8)):=by
   unfold Hid;rw[hob,d1,d2,Bool.true_and,Bool.true_and,decide_eq_true (show kp≠0 by omega),Bool.true_and];congr 1
   rw[hon,m8,m3,m5,m2,m4,m1]
  clear hob hon b2 s1 s2 s3 s4 s5 s8 m1 m2 m3 m4 m5 m8 q1 q2 hP hA hB hx hy hBB;go_enter Tryz.func60,Tryz.ntmps60;go_wp2_with fail
  go_quiet (fail)
  go_wp2;go_ret;refine⟨?_,HBW.out.trans ((drew7 _ _).mono HBW.out.size)⟩;rw[HE.out];rfl
end
end Go.Proofs.YtkhnnhbmchnajaaGreat
