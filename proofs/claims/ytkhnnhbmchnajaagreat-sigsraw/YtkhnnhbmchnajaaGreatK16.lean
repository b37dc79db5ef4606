import Derived.Test.YtkhnnhbmchnajaaGreatK15
import Derived.Test.YtkhnnhbmchnajaaGreatK10
import Derived.Test.YtkhnnhbmchnajaaGreatK12
import Derived.Test.YtkhnnhbmchnajaaGreatK02
set_option maxRecDepth 100000
set_option maxHeartbeats 40000000
set_option linter.unusedVariables false
set_option linter.unusedSimpArgs false
namespace Go.Proofs.YtkhnnhbmchnajaaGreat
section
theorem prime_root{P:Nat}(h:∀d,2≤d→d*d≤P→P%d≠0):PrimeN P:=by
 refine prime_of fun a ha h0 => ?_;obtain⟨k,hk⟩:=Nat.gcd_dvd_left P a;have hg:Nat.gcd P a≤a:=Nat.le_of_dvd (by omega) (Nat.gcd_dvd_right P a);have hp:0<Nat.gcd P a:=Nat.gcd_pos_of_pos_right _ (by omega);generalize Nat.gcd P a=g at *;rcases Nat.lt_or_ge g 2 with h2|h2
 ·omega
 ·exfalso;have hk2:2≤k:=by
   rcases k with _|_|k
   ·rw[Nat.mul_zero]at hk;omega
   ·rw[Nat.mul_one]at hk;omega
   ·omega
  rcases Nat.le_total g k with hgk|hgk
  ·refine h g h2 ?_ ?_
   ·rw[hk];exact Nat.mul_le_mul (Nat.le_refl _) hgk
   ·rw[hk];exact Nat.mul_mod_right g k
  ·refine h k hk2 ?_ ?_
   ·rw[hk];exact Nat.mul_le_mul hgk (Nat.le_refl _)
   ·rw[hk];exact Nat.mul_mod_left g k
theorem prime_below{P:Nat}(hP:P<65536)(h:∀d,d<256→2≤d→P%d≠0∨P<d*d):PrimeN P:=by
 refine prime_root fun d h2 hd => ?_;have hl:d<256:=by
  rcases Nat.lt_or_ge d 256 with h3|h3
  ·exact h3
  ·have:=Nat.mul_le_mul h3 h3;omega
 rcases h d hl h2 with h4|h4
 ·exact h4
 ·omega
section
variable {P : Nat} [NeZero P] {K : Cz}
def addL (A:Fin P)(p q:Fin P × Fin P)(l:Fin P):Option (Fin P × Fin P):=if q.2-p.2=l*(q.1-p.1)∧l*(p.2+q.2)=p.1*p.1+p.1*q.1+q.1*q.1+A∧¬(p.1=q.1∧p.2+q.2=0) then some (l*l-p.1-q.1,l*(p.1-(l*l-p.1-q.1))-p.2) else none
theorem addL_sum{A:Fin P}{p q r:Fin P × Fin P}{l:Fin P}(h:addL A p q l=some r):SumR A (some p) (some q) (some r):=by
 unfold addL at h;split at h
 ·rename_i hc;injection h with h;obtain⟨px,py⟩:=p;obtain⟨qx,qy⟩:=q;exact .inr ⟨hc.2.2,l,_,_,⟨hc.1,hc.2.1⟩,rfl,rfl,by rw[←h]⟩
 ·cases h
def runL (A:Fin P)(G:Fin P × Fin P):List (Bool × Fin P)→Nat→Fin P × Fin P→Option (Nat × (Fin P × Fin P))
 | [],m,p=>some (m,p)
 | (true,l)::r,m,p=>match addL A p p l with
  | some q=>runL A G r (m+m) q
  | none=>none
 | (false,l)::r,m,p=>match addL A p G l with
  | some q=>runL A G r (m+1) q
  | none=>none
theorem runL_tm(D:Dom P)(I:Invs P){A B:Fin P}(S:Smooth A B){G:Fin P × Fin P}(hG:OnR A B (some G)):∀(l:List (Bool × Fin P)) (m:Nat) (p:Fin P × Fin P) (m':Nat) (p':Fin P × Fin P),Tm A (some G) m (some p)→runL A G l m p=some (m',p')→Tm A (some G) m' (some p')
 | [],m,p,m',p',h,hr=>by
  unfold runL at hr;injection hr with hr;injection hr with h1 h2;rw[←h1,←h2];exact h
 | (true, l) :: r, m, p, m', p', h, hr => by
  unfold runL at hr
  cases ha:addL A p p l with
  | none=>rw[ha]at hr;cases hr
  | some q=>
   rw[ha]at hr;exact runL_tm D I S hG r (m+m) q m' p' (Tm.add D I S hG m _ h m _ _ h (addL_sum ha)) hr
 | (false, l) :: r, m, p, m', p', h, hr => by
  unfold runL at hr
  cases ha:addL A p G l with
  | none=>rw[ha]at hr;cases hr
  | some q=>
   rw[ha]at hr;exact runL_tm D I S hG r (m+1) q m' p' ⟨_,h,addL_sum ha⟩ hr
theorem tm_end{A:Fin P}{G p:Fin P × Fin P}{m:Nat}(h:Tm A (some G) m (some p))(h1:p.1=G.1)(h2:p.2+G.2=0):Tm A (some G) (m+1) none:=by obtain⟨px,py⟩:=p;obtain⟨gx,gy⟩:=G;exact⟨_,h,.inl ⟨h1,h2,rfl⟩⟩
structure RightK(K:Cz)(P N:Nat)[NeZero P]:Prop where
 good:GoodK K P
 base:Gd K P (baseZ K)
 ord:Mt K P (baseZ K) N noZ
 n:K.n=(N:Int)
theorem right_of(hp:PrimeN P)(ho:P%2=1)(hK:K.p=(P:Int))(hs:¬(4:Fin P)*(fp P K.a*fp P K.a*fp P K.a)+27*(fp P K.b*fp P K.b)=0)(hx:0≤K.gx∧K.gx<P∧0≤K.gy∧K.gy<P)(hon:fp P K.gy*fp P K.gy=fp P K.gx*fp P K.gx*fp P K.gx+fp P K.a*fp P K.gx+fp P K.b)(l:List (Bool × Fin P))(m:Nat)(q:Fin P × Fin P)(hr:runL (fp P K.a) (fp P K.gx,fp P K.gy) l 1 (fp P K.gx,fp P K.gy)=some (m,q))(h1:q.1=fp P K.gx)(h2:q.2+fp P K.gy=0)(hn:K.n=((m+1:Nat):Int)):RightK K P (m+1):=by
 have hS:=smooth_of hs;have hb:ptR P (baseZ K)=some (fp P K.gx,fp P K.gy):=by unfold ptR baseZ;rw[if_neg (by simp)]
 have hon2:OnR (fp P K.a) (fp P K.b) (some (fp P K.gx,fp P K.gy)):=hon;have hG:Gd K P (baseZ K):=⟨by unfold RdP baseZ;rw[if_neg (by simp)];exact hx,by rw[hb];exact hon2⟩
 refine⟨⟨hK,hp,ho,hS⟩,hG,⟨RdP.no,?_⟩,hn⟩;rw[ptR_no,hb];exact tm_end (runL_tm (dom_fin hp ho) (invs_fin hp) hS hon2 l 1 _ m q ⟨none,rfl,rfl⟩ hr) h1 h2
theorem on_good(g:GoodK K P){p:Pz}(h:Gd K P p):onB K p=true:=by
 have hP:=ppos P;obtain⟨hr,ho⟩:=h;unfold onB;have h0:K.p≠0:=by rw[g.p];omega
 unfold RdP at hr
 cases hi:p.inf with
 | true=>simp[h0]
 | false =>
  rw[hi,if_neg (by simp)]at hr;have e:ptR P p=some (fp P p.x,fp P p.y):=by unfold ptR;rw[hi,if_neg (by simp)]
  rw[e]at ho;have ho2:fp P p.y*fp P p.y=fp P p.x*fp P p.x*fp P p.x+fp P K.a*fp P p.x+fp P K.b:=ho;have e2:fp P (rightZ K p.x)=fp P p.x*fp P p.x*fp P p.x+fp P K.a*fp P p.x+fp P K.b:=by
   unfold rightZ;rw[g.p];simp only[fp_mod,fp_mul,fp_add]
   grind
  rw[←fp_mul,←e2,fp_eq]at ho2;have e3:rightZ K p.x%P=rightZ K p.x:=by unfold rightZ;rw[g.p,Int.emod_emod]
  rw[e3]at ho2;have h1:p.x<K.p:=by rw[g.p];exact hr.2.1
  have h2:p.y<K.p:=by rw[g.p];exact hr.2.2.2
  have h3:(p.y*p.y)%K.p=rightZ K p.x:=by rw[g.p];exact ho2
  simp[h0,h1,h2,h3]
end
theorem prime0:PrimeN 251:=prime_below (by decide) (by decide +kernel)
theorem right0:RightK (curZ 0) 251 271:=
 right_of (K:=curZ 0) (P:=251) prime0 (by decide) rfl (by decide +kernel) (by decide) (by decide +kernel) [(true,88),(true,71),(true,218),(true,25),(true,184),(false,212),(true,110),(false,24),(true,226),(false,19),(true,179)] 270 (7,176) (by decide +kernel) (by decide +kernel) (by decide +kernel) rfl
theorem prime1:PrimeN 10007:=prime_below (by decide) (by decide +kernel)
theorem right1:RightK (curZ 1) 10007 9851:=
 right_of (K:=curZ 1) (P:=10007) prime1 (by decide) rfl (by decide +kernel) (by decide) (by decide +kernel) [(true,7894),(true,7106),(true,6381),(false,3253),(true,5988),(false,6168),(true,41),(true,2020),(true,8353),(false,6217),(true,7711),(false,7511),(true,9968),(false,9252),(true,2663),(false,1707),(true,6207),(true,7954),(false,9950),(true,2455)] 9850 (2,5425) (by decide +kernel) (by decide +kernel) (by decide +kernel) rfl
theorem prime2:PrimeN 65521:=prime_below (by decide) (by decide +kernel)
theorem right2:RightK (curZ 2) 65521 65761:=
 right_of (K:=curZ 2) (P:=65521) prime2 (by decide) rfl (by decide +kernel) (by decide) (by decide +kernel) [(true,18817),(true,30502),(true,48961),(true,1840),(true,29070),(true,50334),(true,21585),(true,14561),(true,20990),(false,35079),(true,21204),(false,43150),(true,4380),(false,35337),(true,22097),(true,15959),(true,26250),(true,12344),(true,55072)] 65760 (2,36051) (by decide +kernel) (by decide +kernel) (by decide +kernel) rfl
end
section
open Go.Shelf Go.RowKit
theorem Cu.up{w:World}{c:Value}{K:Cz}{L L':Nat}(h:Cu w c K L)(hl:L≤L'):Cu w c K L':=by obtain⟨g1,g2,oo,lo,co,vp,va,vb,vx,vy,vn,e,h1,h2,h3,h4,h5,h6⟩:=h;exact⟨g1,g2,oo,lo,co,vp,va,vb,vx,vy,vn,e,h1.up hl,h2.up hl,h3.up hl,h4.up hl,h5.up hl,h6.up hl⟩
theorem GoodK.p0{K:Cz}{P:Nat}[NeZero P](g:GoodK K P):K.p≠0:=by rw[g.p];have:=ppos P;omega
end
section
def prodL(l:List Nat):Nat:=l.foldr (fun a b=>a*b) 1
theorem perm_prod{l1 l2:List Nat}(h:l1.Perm l2):prodL l1=prodL l2:=by
 induction h with
 | nil=>rfl
 | cons x _ ih=>show x*prodL _=x*prodL _;rw[ih]
 | swap x y l=>show y*(x*prodL l)=x*(y*prodL l);rw[←Nat.mul_assoc,Nat.mul_comm y x,Nat.mul_assoc]
 | trans _ _ ih1 ih2=>exact ih1.trans ih2
theorem prod_mul(a p:Nat):∀l:List Nat,prodL (l.map fun i=>a*i%p)%p=a^l.length*prodL l%p
 | []=>rfl
 | x::l=>by
  show(a*x%p*prodL (l.map fun i=>a*i%p))%p=a^(l.length+1)*(x*prodL l)%p;rw[Nat.mul_mod,Nat.mod_mod,prod_mul a p l,←Nat.mul_mod,Nat.pow_succ];congr 1
  rw[Nat.mul_mul_mul_comm,Nat.mul_comm a]
theorem prime_prod{p:Nat}(hp:PrimeN p)(h1:1<p):∀l:List Nat,(∀x∈l,¬p∣x)→¬p∣prodL l
 | [],_,h=>by
  have:=Nat.le_of_dvd (by decide:0<prodL []) h;have e:prodL []=1:=rfl;omega
 | x :: l, hl, h => by
  rcases hp x (prodL l) h with h2|h2
  ·exact hl x List.mem_cons_self h2
  ·exact prime_prod hp h1 l (fun y hy=>hl y (List.mem_cons_of_mem _ hy)) h2
theorem prime_inv{p a:Nat}(hp:PrimeN p)(ha:¬p∣a)(h1:1<p):∃b,b*a%p=1:=by
 have h0:0<a%p:=Nat.pos_of_ne_zero fun e=>ha (Nat.dvd_of_mod_eq_zero e);have hg:=prime_gcd hp h0 (Nat.mod_lt _ (by omega));obtain⟨x,y,h⟩:=bez p (a%p);rw[hg]at h;refine⟨(y%p).toNat,?_⟩;have hy:0≤y%(p:Int):=Int.emod_nonneg _ (by omega);have e1:(y%(p:Int)*(a:Int))%p=(y*a)%p:=by rw[Int.mul_emod,Int.emod_emod,←Int.mul_emod]
 have e2:(y*((a%p:Nat):Int))%p=(y*a)%p:=by rw[Int.natCast_emod,Int.mul_emod,Int.emod_emod,←Int.mul_emod]
 have e:(((y%p).toNat*a%p:Nat):Int)=1:=by
  rw[Int.natCast_emod,Int.natCast_mul,Int.toNat_of_nonneg hy,e1,←e2];have:y*((a%p:Nat):Int)=1+(p:Int)*(-x):=by have h':(1:Int)=p*x+((a%p:Nat):Int)*y:=h;rw[Int.mul_comm y,Int.mul_neg];omega
  rw[this,Int.add_mul_emod_self_left];exact Int.emod_eq_of_lt (by omega) (by omega)
 omega
theorem fermat{p a:Nat}(hp:PrimeN p)(h1:1<p)(ha:¬p∣a):a^(p-1)%p=1:=by
 obtain⟨b,hb⟩:=prime_inv hp ha h1;have hinj:∀x y,x<p→y<p→a*x%p=a*y%p→x=y:=by
  intro x y hx hy e;have h2:b*(a*x)%p=b*(a*y)%p:=by rw[Nat.mul_mod,e,←Nat.mul_mod]
  rw[←Nat.mul_assoc,←Nat.mul_assoc,Nat.mul_mod,hb,Nat.mul_mod (b*a) y,hb,Nat.one_mul,Nat.one_mul,Nat.mod_mod,Nat.mod_mod,Nat.mod_eq_of_lt hx,Nat.mod_eq_of_lt hy]at h2;exact h2
 obtain⟨L,hL⟩:∃L,(List.range (p-1)).map (fun i=>i+1)=L:=⟨_,rfl⟩
 have hmem:∀x,x∈L↔0<x∧x<p:=by
  intro x;rw[←hL,List.mem_map];constructor
  ·rintro⟨i,hi,rfl⟩;rw[List.mem_range]at hi;omega
  ·intro h;exact⟨x-1,List.mem_range.2 (by omega),by omega⟩
 have hnd:L.Nodup:=by rw[←hL];refine List.Pairwise.map (R:=fun x y=>x≠y) _ (fun x y h e=>h (by omega)) List.nodup_range
 have hnot:∀x,0<x→x<p→¬p∣x:=fun x h0 hx h=>by have:=Nat.le_of_dvd h0 h;omega
 have hnd2:(L.map fun i=>a*i%p).Nodup:=by
  refine List.Pairwise.map (R:=fun x y=>x≠y∧x∈L∧y∈L) _ (fun x y h e=>h.1 (hinj x y ((hmem x).1 h.2.1).2 ((hmem y).1 h.2.2).2 e)) ?_;have:∀l:List Nat,(∀x∈l,x∈L)→l.Nodup→l.Pairwise (fun x y=>x≠y∧x∈L∧y∈L):=by
   intro l;induction l with
   | nil=>intro _ _;exact List.Pairwise.nil
   | cons x l ih=>
    intro hl hn;rw[List.nodup_cons]at hn;refine List.Pairwise.cons (fun y hy=>⟨fun e=>hn.1 (e ▸ hy),hl x List.mem_cons_self,hl y (List.mem_cons_of_mem _ hy)⟩) (ih (fun y hy=>hl y (List.mem_cons_of_mem _ hy)) hn.2)
  exact this L (fun x h=>h) hnd
 have hperm:(L.map fun i=>a*i%p).Perm L:=by
  rw[List.perm_ext_iff_of_nodup hnd2 hnd];intro x;rw[List.mem_map,hmem];constructor
  ·rintro⟨i,hi,rfl⟩;rw[hmem]at hi;refine⟨Nat.pos_of_ne_zero fun e => ?_,Nat.mod_lt _ (by omega)⟩;rcases hp a i (Nat.dvd_of_mod_eq_zero e) with h|h
   ·exact ha h
   ·exact hnot i hi.1 hi.2 h
  ·intro hx;refine⟨b*x%p,?_,?_⟩
   ·rw[hmem];refine⟨Nat.pos_of_ne_zero fun e => ?_,Nat.mod_lt _ (by omega)⟩;rcases hp b x (Nat.dvd_of_mod_eq_zero e) with h|h
    ·obtain⟨k,hk⟩:=h;rw[hk,Nat.mul_assoc,Nat.mul_mod_right]at hb;omega
    ·exact hnot x hx.1 hx.2 h
   ·rw[Nat.mul_mod,Nat.mod_mod,←Nat.mul_mod,←Nat.mul_assoc,Nat.mul_comm a b,Nat.mul_mod,hb,Nat.one_mul,Nat.mod_mod,Nat.mod_eq_of_lt hx.2]
 have hlen:L.length=p-1:=by rw[←hL];simp
 have hprod:=prod_mul a p L;rw[perm_prod hperm,hlen]at hprod;have hn:=prime_prod hp h1 L (fun x hx=>hnot x ((hmem x).1 hx).1 ((hmem x).1 hx).2);obtain⟨c,hc⟩:=prime_inv hp hn h1;have h3:c*prodL L%p=c*(a^(p-1)*prodL L)%p:=by rw[Nat.mul_mod,hprod,←Nat.mul_mod]
 rw[hc,Nat.mul_left_comm,Nat.mul_mod,hc,Nat.mul_one,Nat.mod_mod]at h3;exact h3.symm
theorem pow_gcd{p a:Nat}(h1:1<p)(x y:Nat):a^x%p=1→a^y%p=1→a^Nat.gcd x y%p=1:=by
 induction x,y using Nat.gcd.induction with
 | H0 n=>intro _ h;rw[Nat.gcd_zero_left];exact h
 | H1 m n hm ih=>
  intro hx hy;rw[Nat.gcd_rec];refine ih ?_ hx;have e:a^n=(a^m)^(n/m)*a^(n%m):=by rw[←Nat.pow_mul,←Nat.pow_add,Nat.div_add_mod]
  rw[e,Nat.mul_mod,Nat.pow_mod,hx,Nat.one_pow,Nat.mod_eq_of_lt h1,Nat.one_mul,Nat.mod_mod]at hy;exact hy
theorem prime_div(d:Nat)(h2:2≤d):∃p,2≤p∧PrimeN p∧p∣d:=by
 induction d using Nat.strongRecOn with
 | ind d ih =>
  by_cases h:∃e,2≤e∧e<d∧e∣d
  ·obtain⟨e,he,hed,hdv⟩:=h;obtain⟨p,hp,hpp,hpd⟩:=ih e hed he;exact⟨p,hp,hpp,Nat.dvd_trans hpd hdv⟩
  ·refine⟨d,h2,prime_of fun a ha h0 => ?_,Nat.dvd_refl d⟩;have hg:=Nat.gcd_dvd_left d a;have hl:=Nat.le_of_dvd (by omega) (Nat.gcd_dvd_right d a);have hp:0<Nat.gcd d a:=Nat.gcd_pos_of_pos_right _ (by omega);rcases Nat.lt_or_ge (Nat.gcd d a) 2 with h3|h3
   ·omega
   ·exact absurd ⟨_,h3,by omega,hg⟩ h
def powm (N:Nat):Nat→Nat→Nat→Nat
 | 0,_,_=>1%N
 | f+1,a,e=>if e=0 then 1%N else if e%2=0 then powm N f (a*a%N) (e/2) else a*powm N f (a*a%N) (e/2)%N
theorem powm_eq(N:Nat):∀f a e,e<2^f→powm N f a e=a^e%N
 | 0,a,e,h=>by
  have:e=0:=by simpa using h
  subst this;rfl
 | f + 1, a, e, h => by
  unfold powm;by_cases h0:e=0
  ·rw[if_pos h0,h0];rfl
  ·rw[if_neg h0];have hlt:e/2<2^f:=by rw[Nat.pow_succ]at h;omega
   rw[powm_eq N f (a*a%N) (e/2) hlt,←Nat.pow_mod];have hsq:(a*a)^(e/2)=a^(2*(e/2)):=by rw[←Nat.pow_two,←Nat.pow_mul]
   rw[hsq];by_cases h2:e%2=0
   ·rw[if_pos h2,show 2*(e/2)=e by omega]
   ·rw[if_neg h2,Nat.mul_mod,Nat.mod_mod,←Nat.mul_mod,←Nat.pow_succ',show(2*(e/2)).succ=e by omega]
theorem pock_div{N q R:Nat}(hN:1<N)(hq:PrimeN q)(hR:N-1=q*R)(h1:powm N 256 2 (N-1)=1)(h2:Nat.gcd (powm N 256 2 R+(N-1)) N=1)(hl:N<2^256){p:Nat}(hp:PrimeN p)(hp2:2≤p)(hd:p∣N):q∣p-1:=by
 have hR0:0<R:=Nat.pos_of_ne_zero fun e=>by rw[e]at hR;omega
 have hq0:0<q:=Nat.pos_of_ne_zero fun e=>by rw[e]at hR;omega
 have hRl:R≤N-1:=by rw[hR];exact Nat.le_mul_of_pos_left _ hq0
 rw[powm_eq N 256 2 (N-1) (by omega)]at h1;rw[powm_eq N 256 2 R (by omega)]at h2;have m1:2^(N-1)%p=1:=by rw[←Nat.mod_mod_of_dvd _ hd,h1];exact Nat.mod_eq_of_lt (by omega)
 have hna:¬p∣2:=fun h=>by
  have:2^(N-1)%p=0:=by rw[Nat.pow_mod,Nat.mod_eq_zero_of_dvd h,Nat.zero_pow (by omega),Nat.zero_mod]
  omega
 have m2:=fermat hp (by omega) hna;apply Classical.byContradiction;intro hnq;have hg:Nat.gcd (N-1) (p-1)∣R:=by
  have hc:Nat.Coprime q (p-1):=by
   have hgd:=Nat.gcd_dvd_left q (p-1);obtain⟨k,hk⟩:=hgd;have hdq:q∣Nat.gcd q (p-1)*k:=⟨1,by omega⟩
   rcases hq _ _ hdq with h|h
   ·exact absurd (Nat.dvd_trans h (Nat.gcd_dvd_right q (p-1))) hnq
   ·have hk0:0<k:=Nat.pos_of_ne_zero fun e=>by rw[e]at hk;omega
    have hle:=Nat.le_of_dvd hk0 h;have hgp:0<Nat.gcd q (p-1):=Nat.gcd_pos_of_pos_left _ hq0;show Nat.gcd q (p-1)=1;generalize Nat.gcd q (p-1)=g at *;rcases g with _|_|g
    ·omega
    ·rfl
    ·have h6:(g+1+1)*k=g*k+k+k:=by rw[Nat.add_mul,Nat.add_mul];omega
     have h7:0≤g*k:=Nat.zero_le _;omega
  have hcg:Nat.Coprime (Nat.gcd (N-1) (p-1)) q:=Nat.Coprime.coprime_dvd_left (Nat.gcd_dvd_right _ _) hc.symm;have hdv:Nat.gcd (N-1) (p-1)∣q*R:=by rw[←hR];exact Nat.gcd_dvd_left _ _
  exact hcg.dvd_of_dvd_mul_left hdv
 have m3:=pow_gcd (by omega) _ _ m1 m2;obtain⟨k,hk⟩:=hg;have m4:2^R%p=1:=by rw[hk,Nat.pow_mul,Nat.pow_mod,m3,Nat.one_pow];exact Nat.mod_eq_of_lt (by omega)
 have hdd:p∣2^R%N+(N-1):=by
  have e1:(2^R%N)%p=1:=by rw[Nat.mod_mod_of_dvd _ hd];exact m4
  obtain⟨c,hc⟩:=hd;refine Nat.dvd_of_mod_eq_zero ?_;have e2:2^R%N=p*(2^R%N/p)+1:=by have:=Nat.div_add_mod (2^R%N) p;omega
  have hc0:0<c:=Nat.pos_of_ne_zero fun e=>by rw[e]at hc;omega
  have e3:2^R%N+(N-1)=p*(2^R%N/p)+p*c:=by have:0<p*c:=Nat.mul_pos (by omega) hc0;omega
  rw[e3,←Nat.mul_add,Nat.mul_mod_right]
 have:=Nat.dvd_gcd hdd hd;rw[h2]at this;have:=Nat.le_of_dvd (by decide) this;omega
theorem pock2{N q R q' R':Nat}(hN:1<N)(hq:PrimeN q)(hR:N-1=q*R)(h1:powm N 256 2 (N-1)=1)(h2:Nat.gcd (powm N 256 2 R+(N-1)) N=1)(hq':PrimeN q')(hR':N-1=q'*R')(h2':Nat.gcd (powm N 256 2 R'+(N-1)) N=1)(hc:Nat.Coprime q q')(hl:N<2^256)(hF:N≤(q*q')*(q*q')):PrimeN N:=by refine prime_root fun d hd2 hdd hm => ?_;obtain⟨p,hp2,hp,hpd⟩:=prime_div d hd2;have hpN:=Nat.dvd_trans hpd (Nat.dvd_of_mod_eq_zero hm);have h3:=pock_div hN hq hR h1 h2 hl hp hp2 hpN;have h3':=pock_div hN hq' hR' h1 h2' hl hp hp2 hpN;have h4:=Nat.le_of_dvd (by omega) (Nat.Coprime.mul_dvd_of_dvd_of_dvd hc h3 h3');have h5:=Nat.le_of_dvd (by omega) hpd;have h6:(q*q')*(q*q')<d*d:=Nat.mul_lt_mul'' (by omega) (by omega);omega
theorem gp2:PrimeN 66417393611:=pock2 (q:=3677) (R:=18062930) (q':=197) (R':=337144130) (by decide) (prime_below (P:=3677) (by decide) (by decide +kernel)) (by decide +kernel) (by decide +kernel) (by decide +kernel) (prime_below (P:=197) (by decide) (by decide +kernel)) (by decide +kernel) (by decide +kernel) (by decide +kernel) (by decide) (by decide)
open Go.Shelf Go.RowKit
theorem Mul_g{P:Nat}[NeZero P]{K:Cz}(g:GoodK K P)(hb:Gd K P (baseZ K))(c k p:Value)(n:Int)(m L:Nat)(w:World)(hc:Cu w c K L)(hk:Nv w k n L)(hp:Pv w p (baseZ K) L)(hL:1≤L∧L≤70)(hn:n=(m:Int)):
  Calls Tryz.prog 112 #[c,k,p] w fun e w'=>∃s,Mt K P (baseZ K) m s∧Below w.heap.size w w'∧∃v,e=.returned v∧Pr w' v (some s) L:=by
 subst hn;refine(Mul_pt c k p K m (baseZ K) L w hc hk hp hL g.p0).mono ?_;rintro e w' ⟨r,hr,hpa⟩;obtain⟨s,rfl,hs⟩:=mul_good g hb hr;exact⟨s,hs,hpa.pr⟩
end
section
open Go.Shelf Go.RowKit
theorem factor_any(a n:Value)(x y:Int)(L:Nat)(w:World)(ha:Nv w a x L)(hn:Nv w n y L)(hL:L≤1000):
  Calls Tryz.prog 84 #[a,n] w fun e w'=>e=.returned (.bool (decide (0<x)&&decide (x<y)))∧Below w.heap.size w w':=by
 have HL:=len_nv a x L w ha hL;have HC:=fun W (hW:Below w.heap.size w W)=>cmp_nv a n x y L W (ha.old hW) (hn.old hW);have hx0:=ha.nonneg;have hbl:(blen x.toNat:Int)=0↔x=0:=by
  unfold blen;constructor
  ·intro h;by_cases h0:x.toNat=0
   ·omega
   ·rw[if_neg h0]at h;omega
  ·intro h;rw[h];rfl
 obtain⟨B,hB⟩:∃B,blen x.toNat=B:=⟨_,rfl⟩
 rw[hB]at HL hbl;obtain⟨a1,a2,a3,a4,rfl,a5⟩:=ha;obtain⟨b1,b2,b3,b4,rfl,b5⟩:=hn;by_cases h0:x=0
 ·have hB0:B=0:=by have:=hbl.2 h0;omega
  rw[hB0]at HL;have hd:decide (0<x)=false:=by simp[h0]
  rw[hd];go_enter Tryz.func84,Tryz.ntmps84;go_wp2_with (go_at_call 69;refine HL.mono ?_;rintro e w1 ⟨⟨rfl,_⟩,rfl⟩)
  go_ret;exact⟨rfl,Below.refl _ _⟩
 ·have hB1:(0:Int)<B:=by
   have:(B:Int)≠0:=fun e=>h0 (hbl.1 e);omega
  have hd:decide (0<x)=true:=by simp;omega
  rw[hd];have HCW:=HC w (Below.refl _ _);have hcm:decide (cmpI x y<0)=decide (x<y):=by
   unfold cmpI;by_cases q:x<y
   ·simp[q]
   ·rw[if_neg q];split<;>simp[q]
  obtain⟨z,hz⟩:∃z,cmpI x y=z:=⟨_,rfl⟩
  rw[hz]at HCW hcm;have HCM:Hid (decide (z<0)=decide (x<y)):=hcm;clear hcm hz HC;go_enter Tryz.func84,Tryz.ntmps84;go_wp2_with (first
   | (go_at_call 69;refine HL.mono ?_;rintro e w1 ⟨⟨rfl,_⟩,rfl⟩)
   | (go_at_call 45;refine HCW.mono ?_;rintro e w2 ⟨rfl,hb2⟩))
  go_ret;refine⟨?_,hb2⟩;rw[←HCM.out];rfl
theorem Mul_q{P:Nat}[NeZero P]{K:Cz}(g:GoodK K P){G:Pz}(hG:Gd K P G)(c k p:Value)(n:Int)(m L:Nat)(w:World)(hc:Cu w c K L)(hk:Nv w k n L)(hp:Pv w p G L)(hL:1≤L∧L≤70)(hn:n=(m:Int)):
  Calls Tryz.prog 112 #[c,k,p] w fun e w'=>∃s,Mt K P G m s∧Below w.heap.size w w'∧∃v,e=.returned v∧Pr w' v (some s) L:=by
 subst hn;refine(Mul_pt c k p K m G L w hc hk hp hL g.p0).mono ?_;rintro e w' ⟨r,hr,hpa⟩;obtain⟨s,rfl,hs⟩:=mul_good g hG hr;exact⟨s,hs,hpa.pr⟩
theorem sumof_any{P:Nat}[NeZero P]{K:Cz}(g:GoodK K P)(hbs:Gd K P (baseZ K)){G:Pz}(hG:Gd K P G)(c u v q:Value)(mu mv:Nat)(w:World)(hc:Cu w c K 4)(hu:Nv w u (mu:Int) 4)(hv:Nv w v (mv:Int) 4)(hq:Pv w q G 4):
  Calls Tryz.prog 87 #[c,u,v,q] w fun e w'=>∃s1 s2 s,Mt K P (baseZ K) mu s1∧Mt K P G mv s2∧AddZ K s1 s2 (some s)∧Below w.heap.size w w'∧∃val,e=.returned val∧Pr w' val (some s) 4:=by
 obtain⟨g1,g2,oo,lo,co,a1,a2,a3,b1,b2,b3,d1,d2,d3,e1,e2,e3,f1,f2,f3,j1,j2,j3,rfl,-,-,-,-,-,-⟩:=hc.slices;have HCU:Hid (Cu w (.agg #[.int .i64 g1,.int .i64 g2,.slice oo lo co,.slice a1 a2 a3,.slice b1 b2 b3,.slice d1 d2 d3,.slice e1 e2 e3,.slice f1 f2 f3,.slice j1 j2 j3]) K 4):=hc;have HUV:Hid (Nv w u (mu:Int) 4∧Nv w v (mv:Int) 4∧Pv w q G 4):=⟨hu,hv,hq⟩
 have HR:Hid (GoodK K P∧Gd K P (baseZ K)∧Gd K P G):=⟨g,hbs,hG⟩
 obtain⟨u1,u2,u3,u4,rfl,_⟩:=hu;obtain⟨v1,v2,v3,v4,rfl,_⟩:=hv;obtain⟨_,_,rfl,⟨q1,q2,q3,_,rfl,_⟩,⟨q4,q5,q6,_,rfl,_⟩⟩:=hq;clear hc g hbs hG;obtain⟨hF1,hF2,hb2⟩:=pair_new w #[.int .i64 g1,.int .i64 g2,.slice oo lo co,.slice a1 a2 a3,.slice b1 b2 b3,.slice d1 d2 d3,.slice e1 e2 e3,.slice f1 f2 f3,.slice j1 j2 j3] #[.slice q1 q2 q3,.slice q4 q5 q6,.bool G.inf] 52 26;obtain⟨W0,hW0⟩:∃W0,((w.alloc (.cells #[.int .i64 g1,.int .i64 g2,.slice oo lo co,.slice a1 a2 a3,.slice b1 b2 b3,.slice d1 d2 d3,.slice e1 e2 e3,.slice f1 f2 f3,.slice j1 j2 j3] 52)).alloc (.cells #[.slice q1 q2 q3,.slice q4 q5 q6,.bool G.inf] 26)).alloc (.cells #[.slice none 0 0,.slice none 0 0,.bool false] 26)=W0:=⟨_,rfl⟩
 have hZ2:((w.alloc (.cells #[.int .i64 g1,.int .i64 g2,.slice oo lo co,.slice a1 a2 a3,.slice b1 b2 b3,.slice d1 d2 d3,.slice e1 e2 e3,.slice f1 f2 f3,.slice j1 j2 j3] 52)).alloc (.cells #[.slice q1 q2 q3,.slice q4 q5 q6,.bool G.inf] 26)).heap.size=w.heap.size+1+1:=by rw[alloc_sz7,alloc_sz7]
 have hF3:=heap_alloc_new ((w.alloc (.cells #[.int .i64 g1,.int .i64 g2,.slice oo lo co,.slice a1 a2 a3,.slice b1 b2 b3,.slice d1 d2 d3,.slice e1 e2 e3,.slice f1 f2 f3,.slice j1 j2 j3] 52)).alloc (.cells #[.slice q1 q2 q3,.slice q4 q5 q6,.bool G.inf] 26)) (.cells #[.slice none 0 0,.slice none 0 0,.bool false] 26);rw[hZ2]at hF3;have hb3:=hb2.alloc (show w.heap.size≤_ by rw[hZ2];omega) (.cells #[.slice none 0 0,.slice none 0 0,.bool false] 26);have HW:Hid (W0.heap[w.heap.size]?=some (.cells #[.int .i64 g1,.int .i64 g2,.slice oo lo co,.slice a1 a2 a3,.slice b1 b2 b3,.slice d1 d2 d3,.slice e1 e2 e3,.slice f1 f2 f3,.slice j1 j2 j3] 52 (0,0))):=by rw[←hW0];exact heap_new hF1 (by omega)
 have HQB:Hid (PSl W0 (w.heap.size+1) (.slice q1 q2 q3) (.slice q4 q5 q6) (.bool G.inf)):=by rw[←hW0];exact heap_new hF2 (by omega)
 have HRS:Hid (PSl W0 (w.heap.size+1+1) (.slice none 0 0) (.slice none 0 0) (.bool false)):=by rw[←hW0];exact hF3
 rw[hW0]at hb3;have HBW:Hid (Below w.heap.size w W0):=hb3;replace HCU:Hid (Cu W0 (.agg #[.int .i64 g1,.int .i64 g2,.slice oo lo co,.slice a1 a2 a3,.slice b1 b2 b3,.slice d1 d2 d3,.slice e1 e2 e3,.slice f1 f2 f3,.slice j1 j2 j3]) K 4):=HCU.out.old hb3;have HU:Hid (Nv W0 (.slice u1 u2 u3) (mu:Int) 4):=HUV.out.1.old hb3;have HV:Hid (Nv W0 (.slice v1 v2 v3) (mv:Int) 4):=HUV.out.2.1.old hb3;have HQV:Hid (Pv W0 (.agg #[.slice q1 q2 q3,.slice q4 q5 q6,.bool G.inf]) G 4):=HUV.out.2.2.old hb3;clear hF1 hF2 hF3 hZ2 hb2 hb3 HUV;go_enter Tryz.func87,Tryz.ntmps87;go_wp2_with fail
 clear hW0;refine wp_region_frames 1 [[14],[15],[16],[17],[18],[13,18],[19,13],[20,13],[10],[10,19],[11,20]] (([.eq (.agg #[.int .i64 g1,.int .i64 g2,.slice oo lo co,.slice a1 a2 a3,.slice b1 b2 b3,.slice d1 d2 d3,.slice e1 e2 e3,.slice f1 f2 f3,.slice j1 j2 j3]),.eq (.slice u1 u2 u3),.eq (.agg #[.int .i64 g1,.int .i64 g2,.slice oo lo co,.slice a1 a2 a3,.slice b1 b2 b3,.slice d1 d2 d3,.slice e1 e2 e3,.slice f1 f2 f3,.slice j1 j2 j3]),.pv (fun p=>p=baseZ K) 4,.pr (fun r=>∃s,r=some s∧Mt K P (baseZ K) (mu) s) 4,.same,.ext 0,.ext 1,.box W0.heap.size,.sto W0.heap.size,.same]:List Fk).map Fk.sem) [0,1,2,3,4,5,6,7,8,9,10] (by kernel_rfl) (by kernel_rfl) (by kernel_rfl) ?step ?done
 case step=>
  intro i o ho listed a wx hI hli hne KK hK;have hlt:i<11:=(Array.getElem?_eq_some_iff.1 ho).1;have hsz:Hid (a.tmps.size=40):=hI.slots;have hbw:Below W0.heap.size W0 wx:=(Below.refl _ _).drew.trans hI.below;obtain rfl|rfl|rfl|rfl|rfl|rfl|rfl|rfl|rfl|rfl|rfl:i=0∨i=1∨i=2∨i=3∨i=4∨i=5∨i=6∨i=7∨i=8∨i=9∨i=10:=by omega
  ·obtain rfl:=op_is ho rfl;rw[if_pos (by rfl)];have eH4:a.tmps.getD 4 undef=.pointer (some ⟨w.heap.size,0,none⟩):=hI.stays hli 1 4 (by decide +kernel);obtain⟨cC0,cC1,cC2,cC3,cC4,cC5,cC6,cC7,cC8⟩:=cells9 (blk_old HW.out hbw);go_simp;exact hI.grow hK _ _ (Below.refl _ _) (pz hsz (by rfl))
  ·obtain rfl:=op_is ho rfl;rw[if_pos (by rfl)];have eH1:a.tmps.getD 1 undef=.slice u1 u2 u3:=hI.stays hli 1 1 (by decide +kernel);go_simp;exact hI.grow hK _ _ (Below.refl _ _) (pz hsz (by rfl))
  ·obtain rfl:=op_is ho rfl;rw[if_pos (by rfl)];have eH4:a.tmps.getD 4 undef=.pointer (some ⟨w.heap.size,0,none⟩):=hI.stays hli 1 4 (by decide +kernel);obtain⟨cC0,cC1,cC2,cC3,cC4,cC5,cC6,cC7,cC8⟩:=cells9 (blk_old HW.out hbw);go_simp;exact hI.grow hK _ _ (Below.refl _ _) (pz hsz (by rfl))
  ·obtain rfl:=op_is ho rfl;rw[if_pos (by rfl)];have eH16:a.tmps.getD 16 undef=(.agg #[.int .i64 g1,.int .i64 g2,.slice oo lo co,.slice a1 a2 a3,.slice b1 b2 b3,.slice d1 d2 d3,.slice e1 e2 e3,.slice f1 f2 f3,.slice j1 j2 j3]):=hI.deep hne 0 2 (by decide +kernel);go_simp;go_at_call 113;refine(Base_any _ K 4 wx (HCU.out.old hbw)).mono ?_;rintro e w5 ⟨v5,rfl,hv5,hb5⟩;exact hI.grow hK _ _ hb5 ⟨_,rfl,by have hp:=put_self a 17 v5 (by rw[hsz.out];decide);show Pv w5 ((a.put (some 17) v5).tmps.getD 17 undef) _ _;rw[hp];exact hv5⟩
  ·obtain rfl:=op_is ho rfl;rw[if_pos (by rfl)];have eH14:a.tmps.getD 14 undef=(.agg #[.int .i64 g1,.int .i64 g2,.slice oo lo co,.slice a1 a2 a3,.slice b1 b2 b3,.slice d1 d2 d3,.slice e1 e2 e3,.slice f1 f2 f3,.slice j1 j2 j3]):=hI.deep hne 0 0 (by decide +kernel);have eH15:a.tmps.getD 15 undef=(.slice u1 u2 u3):=hI.deep hne 0 1 (by decide +kernel);have fA3:Fk.sem (.pv (fun p=>p=baseZ K) 4) [a.tmps.getD 17 undef] wx:=hI.deep hne 0 3 (by decide +kernel);obtain⟨zX17,eH17⟩:∃x,a.tmps.getD 17 undef=x:=⟨_,rfl⟩
   simp only[eH17]at fA3;have hnv:Nv wx (.slice u1 u2 u3) (mu:Int) 4:=HU.out.old hbw;obtain⟨pz,rfl,hpv⟩:=fA3;have hpv':Pv wx zX17 (baseZ K) 4:=hpv;clear hpv;go_simp;go_at_call 112;refine(Mul_g HR.out.1 HR.out.2.1 _ _ _ ((mu:Int)) (mu) 4 wx (HCU.out.old hbw) hnv hpv' (by decide) (rfl)).mono ?_;rintro e w5 ⟨s,hs,hb5,v5,rfl,hpr⟩;exact hI.grow hK _ _ hb5 ⟨_,⟨s,rfl,hs⟩,by have hp:=put_self a 18 v5 (by rw[hsz.out];decide);show Pr w5 ((a.put (some 18) v5).tmps.getD 18 undef) _ _;rw[hp];exact hpr⟩
  ·obtain rfl:=op_is ho rfl;rw[if_pos (by rfl)];have fA4:Fk.sem (.pr (fun r=>∃s,r=some s∧Mt K P (baseZ K) (mu) s) 4) [a.tmps.getD 18 undef] wx:=hI.deep hne 0 4 (by decide +kernel);obtain⟨zX18,eH18⟩:∃x,a.tmps.getD 18 undef=x:=⟨_,rfl⟩
   simp only[eH18]at fA4;have eK18:=eH18;rw[Array.getD_eq_getD_getElem?]at eK18;go_simp;exact hI.grow hK _ _ (Below.refl _ _) ((pz hsz (by rfl)).trans ((put_get _ _ _ _ (by decide)).trans eH18).symm)
  ·obtain rfl:=op_is ho rfl;rw[if_pos (by rfl)];have fA4:Fk.sem (.pr (fun r=>∃s,r=some s∧Mt K P (baseZ K) (mu) s) 4) [a.tmps.getD 18 undef] wx:=hI.deep hne 1 4 (by decide +kernel);have fA5:Fk.sem (.same) [a.tmps.getD 13 undef,a.tmps.getD 18 undef] wx:=hI.deep hne 0 5 (by decide +kernel);obtain⟨zX13,eH13⟩:∃x,a.tmps.getD 13 undef=x:=⟨_,rfl⟩
   obtain⟨zX18,eH18⟩:∃x,a.tmps.getD 18 undef=x:=⟨_,rfl⟩
   simp only[eH13,eH18]at fA4 fA5;have eG13:zX13=zX18:=fA5;obtain⟨rr,hrr,hpr⟩:=fA4;obtain⟨pP1,pP2,pP3,pP4,pP5,pP6,pP7,pP8,hpp⟩:=hpr.parts;have hT:zX13=.tuple #[.agg #[.slice pP1 pP2 pP3,.slice pP4 pP5 pP6,.bool pP7],.bool pP8]:=eG13.trans (hpp);clear hpp hpr eG13;subst hT;have eK13:=eH13;rw[Array.getD_eq_getD_getElem?]at eK13;go_simp;exact hI.grow hK (.agg #[.slice pP1 pP2 pP3,.slice pP4 pP5 pP6,.bool pP7]) _ (Below.refl _ _) ⟨_,(put_get _ _ _ _ (by decide)).trans eH13,pz hsz (by rfl)⟩
  ·obtain rfl:=op_is ho rfl;rw[if_pos (by rfl)];have fA4:Fk.sem (.pr (fun r=>∃s,r=some s∧Mt K P (baseZ K) (mu) s) 4) [a.tmps.getD 18 undef] wx:=hI.deep hne 1 4 (by decide +kernel);have fA5:Fk.sem (.same) [a.tmps.getD 13 undef,a.tmps.getD 18 undef] wx:=hI.deep hne 0 5 (by decide +kernel);obtain⟨zX13,eH13⟩:∃x,a.tmps.getD 13 undef=x:=⟨_,rfl⟩
   obtain⟨zX18,eH18⟩:∃x,a.tmps.getD 18 undef=x:=⟨_,rfl⟩
   simp only[eH13,eH18]at fA4 fA5;have eG13:zX13=zX18:=fA5;obtain⟨rr,hrr,hpr⟩:=fA4;obtain⟨pP1,pP2,pP3,pP4,pP5,pP6,pP7,pP8,hpp⟩:=hpr.parts;have hT:zX13=.tuple #[.agg #[.slice pP1 pP2 pP3,.slice pP4 pP5 pP6,.bool pP7],.bool pP8]:=eG13.trans (hpp);clear hpp hpr eG13;subst hT;have eK13:=eH13;rw[Array.getD_eq_getD_getElem?]at eK13;go_simp;exact hI.grow hK (.bool pP8) _ (Below.refl _ _) ⟨_,(put_get _ _ _ _ (by decide)).trans eH13,pz hsz (by rfl)⟩
  ·obtain rfl:=op_is ho rfl;rw[if_pos (by rfl)];go_simp;exact hI.grow hK _ _ ((Below.refl _ _).alloc (Nat.le_refl _) _) ⟨_,_,_,wx.heap.size,_,_,_,_,_,_,_,pz hsz (by rfl),hbw.size,rfl,rfl,rfl,heap_alloc_new _ _⟩
  ·obtain rfl:=op_is ho rfl;rw[if_pos (by rfl)];have fA4:Fk.sem (.pr (fun r=>∃s,r=some s∧Mt K P (baseZ K) (mu) s) 4) [a.tmps.getD 18 undef] wx:=hI.deep hne 0 4 (by decide +kernel);have fA5:Fk.sem (.same) [a.tmps.getD 13 undef,a.tmps.getD 18 undef] wx:=hI.deep hne 0 5 (by decide +kernel);have fA6:Fk.sem (.ext 0) [a.tmps.getD 19 undef,a.tmps.getD 13 undef] wx:=hI.deep hne 0 6 (by decide +kernel);have fA8:Fk.sem (.box W0.heap.size) [a.tmps.getD 10 undef] wx:=hI.deep hne 0 8 (by decide +kernel);obtain⟨zX10,eH10⟩:∃x,a.tmps.getD 10 undef=x:=⟨_,rfl⟩
   obtain⟨zX19,eH19⟩:∃x,a.tmps.getD 19 undef=x:=⟨_,rfl⟩
   obtain⟨zX13,eH13⟩:∃x,a.tmps.getD 13 undef=x:=⟨_,rfl⟩
   obtain⟨zX18,eH18⟩:∃x,a.tmps.getD 18 undef=x:=⟨_,rfl⟩
   simp only[eH10,eH19,eH13,eH18]at fA4 fA5 fA6 fA8;have eG13:zX13=zX18:=fA5;obtain⟨rr,hrr,hpr⟩:=fA4;obtain⟨pP1,pP2,pP3,pP4,pP5,pP6,pP7,pP8,hpp⟩:=hpr.parts;have hT:zX13=.tuple #[.agg #[.slice pP1 pP2 pP3,.slice pP4 pP5 pP6,.bool pP7],.bool pP8]:=eG13.trans (hpp);clear hpp hpr eG13;obtain⟨tt,ht1,ht2⟩:=fA6;have ht1':zX13=.tuple tt:=ht1;rw[hT]at ht1';injection ht1' with ht1';subst ht1';have hP:zX19=.agg #[.slice pP1 pP2 pP3,.slice pP4 pP5 pP6,.bool pP7]:=ht2;subst hP;obtain⟨q0,q1,q2,bx,r1,r2,r3,r4,r5,r6,r7,hx,hbx,rfl,rfl,rfl,hs⟩:=fA8;have hx':zX10=.pointer (some ⟨bx,0,none⟩):=hx;subst hx';obtain⟨y0,y1,y2,y3,y4,y5⟩:=hs.facts;clear hx;have eK10:=eH10;have eK19:=eH19;rw[Array.getD_eq_getD_getElem?]at eK10 eK19;go_simp;exact hI.fill hK hli undef bx hs _ _ _ _ _ _ _ hbx (by intro j hj;revert hj;revert j;exact box_but 9 _ (by kernel_rfl)) ⟨_,_,_,eH19,bx,_,_,_,_,_,_,_,eH10,hbx,rfl,rfl,rfl,hs.set3 _ _ _⟩
  ·obtain rfl:=op_is ho rfl;rw[if_pos (by rfl)];have fA4:Fk.sem (.pr (fun r=>∃s,r=some s∧Mt K P (baseZ K) (mu) s) 4) [a.tmps.getD 18 undef] wx:=hI.deep hne 0 4 (by decide +kernel);have fA5:Fk.sem (.same) [a.tmps.getD 13 undef,a.tmps.getD 18 undef] wx:=hI.deep hne 0 5 (by decide +kernel);have fA7:Fk.sem (.ext 1) [a.tmps.getD 20 undef,a.tmps.getD 13 undef] wx:=hI.deep hne 0 7 (by decide +kernel);obtain⟨zX20,eH20⟩:∃x,a.tmps.getD 20 undef=x:=⟨_,rfl⟩
   obtain⟨zX13,eH13⟩:∃x,a.tmps.getD 13 undef=x:=⟨_,rfl⟩
   obtain⟨zX18,eH18⟩:∃x,a.tmps.getD 18 undef=x:=⟨_,rfl⟩
   simp only[eH20,eH13,eH18]at fA4 fA5 fA7;have eK20:=eH20;have eK13:=eH13;have eK18:=eH18;rw[Array.getD_eq_getD_getElem?]at eK20 eK13 eK18;go_simp;exact hI.grow hK _ _ (Below.refl _ _) ((pz hsz (by rfl)).trans ((put_get _ _ _ _ (by decide)).trans eH20).symm)
 case done=>
  intro listed a W1 hI hall;obtain⟨tm,df⟩:=a;have hdf:df=[]:=hI.defers;subst hdf;have hTM:=hI.frame _ rfl [false,false,false,false,false,false,false,false,false,false,true,true,false,true,true,true,true,true,true,true,true,false,false,false,false,false,false,false,false,false,false,false,false,false,false,false,false,false,false,false] 40 rfl rfl (by decide +kernel);have fA4:Fk.sem (.pr (fun r=>∃s,r=some s∧Mt K P (baseZ K) (mu) s) 4) [tm.getD 18 undef] W1:=hI.facts 4 (hall 4 (by decide));have fA5:Fk.sem (.same) [tm.getD 13 undef,tm.getD 18 undef] W1:=hI.facts 5 (hall 5 (by decide));have fA6:Fk.sem (.ext 0) [tm.getD 19 undef,tm.getD 13 undef] W1:=hI.facts 6 (hall 6 (by decide));have fA7:Fk.sem (.ext 1) [tm.getD 20 undef,tm.getD 13 undef] W1:=hI.facts 7 (hall 7 (by decide));have fA9:Fk.sem (.sto W0.heap.size) [tm.getD 10 undef,tm.getD 19 undef] W1:=hI.facts 9 (hall 9 (by decide));have fA10:Fk.sem (.same) [tm.getD 11 undef,tm.getD 20 undef] W1:=hI.facts 10 (hall 10 (by decide));have fA0:tm.getD 14 undef=(.agg #[.int .i64 g1,.int .i64 g2,.slice oo lo co,.slice a1 a2 a3,.slice b1 b2 b3,.slice d1 d2 d3,.slice e1 e2 e3,.slice f1 f2 f3,.slice j1 j2 j3]):=hI.facts 0 (hall 0 (by decide));have fA1:tm.getD 15 undef=(.slice u1 u2 u3):=hI.facts 1 (hall 1 (by decide));have fA2:tm.getD 16 undef=(.agg #[.int .i64 g1,.int .i64 g2,.slice oo lo co,.slice a1 a2 a3,.slice b1 b2 b3,.slice d1 d2 d3,.slice e1 e2 e3,.slice f1 f2 f3,.slice j1 j2 j3]):=hI.facts 2 (hall 2 (by decide));have hbw:Below W0.heap.size W0 W1:=(Below.refl _ _).drew.trans hI.below;clear hI hall listed;simp only[frameV,cond_true,cond_false,Nat.reduceAdd,Nat.zero_add,fA0,fA1,fA2]at hTM;clear fA0 fA1 fA2;generalize tm.getD 10 undef=zX10 at hTM fA9;generalize tm.getD 11 undef=zX11 at hTM fA10;generalize tm.getD 13 undef=zX13 at hTM fA5 fA6 fA7;generalize tm.getD 17 undef=zX17 at hTM;generalize tm.getD 18 undef=zX18 at hTM fA4 fA5;generalize tm.getD 19 undef=zX19 at hTM fA6 fA9;generalize tm.getD 20 undef=zX20 at hTM fA7 fA10;subst hTM;replace HW:Hid (W1.heap[w.heap.size]?=some (.cells #[.int .i64 g1,.int .i64 g2,.slice oo lo co,.slice a1 a2 a3,.slice b1 b2 b3,.slice d1 d2 d3,.slice e1 e2 e3,.slice f1 f2 f3,.slice j1 j2 j3] 52 (0,0))):=blk_old HW.out hbw;replace HCU:Hid (Cu W1 (.agg #[.int .i64 g1,.int .i64 g2,.slice oo lo co,.slice a1 a2 a3,.slice b1 b2 b3,.slice d1 d2 d3,.slice e1 e2 e3,.slice f1 f2 f3,.slice j1 j2 j3]) K 4):=HCU.out.old hbw;replace HBW:Hid (Below w.heap.size w W1):=HBW.out.trans (hbw.mono HBW.out.size);replace HQB:Hid (PSl W1 (w.heap.size+1) (.slice q1 q2 q3) (.slice q4 q5 q6) (.bool G.inf)):=HQB.out.keep hbw;replace HQV:Hid (Pv W1 (.agg #[.slice q1 q2 q3,.slice q4 q5 q6,.bool G.inf]) G 4):=HQV.out.old hbw;replace HV:Hid (Nv W1 (.slice v1 v2 v3) (mv:Int) 4):=HV.out.old hbw;replace HRS:Hid (PSl W1 (w.heap.size+1+1) (.slice none 0 0) (.slice none 0 0) (.bool false)):=HRS.out.keep hbw;obtain⟨rr,bA,⟨sA,hrs,hmtA⟩,hb3,hr2⟩:=pair_end fA4 fA5 fA6 fA7 fA9 fA10 rfl rfl rfl rfl rfl;have hb3':zX10=.pointer (some ⟨bA,0,none⟩):=hb3;subst hb3';clear fA4 fA5 fA6 fA7 fA9 fA10 hb3;have HMA:Hid (Mt K P (baseZ K) (mu) sA):=hmtA;clear hmtA;rcases hr2 with⟨pp,hpp,h4,hpt⟩|⟨hpp,_⟩
  rotate_left
  ·rw[hpp]at hrs;cases hrs
  rw[hpp]at hrs;injection hrs with hrs;have hrs2:=hrs.symm;subst hrs2;have h4':zX11=.bool true:=h4;subst h4';obtain⟨_,Ao1,Ao2,Ao3,Ar1,Ar2,Ar3,hs5,hx5,hy5⟩:=hpt;have HA:Hid (PSl W1 bA (.slice Ao1 Ao2 Ao3) (.slice Ar1 Ar2 Ar3) (.bool sA.inf)):=hs5;have HAV:Hid (Nv W1 (.slice Ao1 Ao2 Ao3) sA.x 4∧Nv W1 (.slice Ar1 Ar2 Ar3) sA.y 4):=⟨hx5,hy5⟩
  clear hs5 hx5 hy5 hbw h4 hpp;obtain⟨cC0,cC1,cC2,cC3,cC4,cC5,cC6,cC7,cC8⟩:=cells9 HW.out;obtain⟨yQ0,yQ1,yQ2,_,_,_⟩:=HQB.out.facts;obtain⟨yA0,yA1,yA2,_,_,_⟩:=HA.out.facts;go_wp2_with fail
  go_at_call 112;refine(Mul_q HR.out.1 HR.out.2.2 _ _ _ (mv:Int) mv 4 W1 HCU.out HV.out HQV.out (by decide) rfl).mono ?_;rintro e w5 ⟨sB,hmtB,hb5,v,rfl,hpr⟩;rcases hpr with⟨v5,p5,h5,rfl,hv5⟩|⟨h5,_⟩
  rotate_left
  ·cases h5
  injection h5 with h5;subst h5;obtain⟨_,_,rfl,⟨Bo1,Bo2,Bo3,qo4,rfl,qo5⟩,⟨Br1,Br2,Br3,qr4,rfl,qr5⟩⟩:=hv5;obtain⟨W3,hW3⟩:∃W3,w5.alloc (.cells #[.slice Bo1 Bo2 Bo3,.slice Br1 Br2 Br3,.bool sB.inf] 26)=W3:=⟨_,rfl⟩
  have hg3:PSl W3 w5.heap.size (.slice Bo1 Bo2 Bo3) (.slice Br1 Br2 Br3) (.bool sB.inf)∧Below w5.heap.size w5 W3:=by rw[←hW3];exact⟨heap_alloc_new w5 _,(Below.refl _ _).alloc (Nat.le_refl _) _⟩
  have hbw:Below W1.heap.size W1 W3:=hb5.trans (hg3.2.mono hb5.size);replace HW:Hid (W3.heap[w.heap.size]?=some (.cells #[.int .i64 g1,.int .i64 g2,.slice oo lo co,.slice a1 a2 a3,.slice b1 b2 b3,.slice d1 d2 d3,.slice e1 e2 e3,.slice f1 f2 f3,.slice j1 j2 j3] 52 (0,0))):=blk_old HW.out hbw;replace HCU:Hid (Cu W3 (.agg #[.int .i64 g1,.int .i64 g2,.slice oo lo co,.slice a1 a2 a3,.slice b1 b2 b3,.slice d1 d2 d3,.slice e1 e2 e3,.slice f1 f2 f3,.slice j1 j2 j3]) K 4):=HCU.out.old hbw;replace HBW:Hid (Below w.heap.size w W3):=HBW.out.trans (hbw.mono HBW.out.size);replace HQB:Hid (PSl W3 (w.heap.size+1) (.slice q1 q2 q3) (.slice q4 q5 q6) (.bool G.inf)):=HQB.out.keep hbw;replace HQV:Hid (Pv W3 (.agg #[.slice q1 q2 q3,.slice q4 q5 q6,.bool G.inf]) G 4):=HQV.out.old hbw;replace HV:Hid (Nv W3 (.slice v1 v2 v3) (mv:Int) 4):=HV.out.old hbw;replace HRS:Hid (PSl W3 (w.heap.size+1+1) (.slice none 0 0) (.slice none 0 0) (.bool false)):=HRS.out.keep hbw;replace HA:Hid (PSl W3 bA (.slice Ao1 Ao2 Ao3) (.slice Ar1 Ar2 Ar3) (.bool sA.inf)):=HA.out.keep hbw;replace HAV:Hid (Nv W3 (.slice Ao1 Ao2 Ao3) sA.x 4∧Nv W3 (.slice Ar1 Ar2 Ar3) sA.y 4):=⟨HAV.out.1.old hbw,HAV.out.2.old hbw⟩
  have HB:Hid (PSl W3 w5.heap.size (.slice Bo1 Bo2 Bo3) (.slice Br1 Br2 Br3) (.bool sB.inf)):=hg3.1;have HBV:Hid (Nv W3 (.slice Bo1 Bo2 Bo3) sB.x 4∧Nv W3 (.slice Br1 Br2 Br3) sB.y 4):=⟨Nv.old ⟨Bo1,Bo2,Bo3,qo4,rfl,qo5⟩ hg3.2,Nv.old ⟨Br1,Br2,Br3,qr4,rfl,qr5⟩ hg3.2⟩
  have HMB:Hid (Mt K P G mv sB):=hmtB;clear hbw hg3 hb5 hmtB cC0 cC1 cC2 cC3 cC4 cC5 cC6 cC7 cC8 yQ0 yQ1 yQ2 yA0 yA1 yA2;obtain⟨cC0,cC1,cC2,cC3,cC4,cC5,cC6,cC7,cC8⟩:=cells9 HW.out;obtain⟨yA0,yA1,yA2,_,_,_⟩:=HA.out.facts;obtain⟨yB0,yB1,yB2,_,_,_⟩:=HB.out.facts;go_wp2_with fail
  clear hW3;go_at_call 114;refine(Add_pt _ _ _ K sA sB 4 W3 HCU.out ⟨_,_,rfl,HAV.out.1,HAV.out.2⟩ ⟨_,_,rfl,HBV.out.1,HBV.out.2⟩ (by decide)).mono ?_;rintro e w6 ⟨r,hr,hb6,hpa⟩;obtain⟨s,hrs,_,_⟩:=add_good HR.out.1 hr (HMA.out.gd HR.out.2.1) (HMB.out.gd HR.out.2.2);rw[hrs]at hr hpa;rcases hpa with⟨v6,p6,h6,rfl,hv6⟩|⟨h6,_⟩
  rotate_left
  ·cases h6
  injection h6 with h6;subst h6;obtain⟨_,_,rfl,⟨z1,z2,z3,z4,rfl,z5⟩,⟨y1,y2,y3,y4,rfl,y5⟩⟩:=hv6;have hrs6:=HRS.out.keep hb6;have HX:Hid (PSl w6 (w.heap.size+1+1) (.slice none 0 0) (.slice none 0 0) (.bool false)∧Below w.heap.size w w6∧AddZ K sA sB (some s)∧Nv w6 (.slice z1 z2 z3) s.x 4∧Nv w6 (.slice y1 y2 y3) s.y 4):=⟨hrs6,HBW.out.trans (hb6.mono HBW.out.size),hr,⟨z1,z2,z3,z4,rfl,z5⟩,⟨y1,y2,y3,y4,rfl,y5⟩⟩
  obtain⟨yR0,yR1,yR2,yR3,yR4,yR5⟩:=hrs6.facts;clear z5 y5 hr hrs hb6 hrs6 cC0 cC1 cC2 cC3 cC4 cC5 cC6 cC7 cC8 yA0 yA1 yA2 yB0 yB1 yB2;go_wp2_with fail
  have bt:=Bt.set3 w6 (w.heap.size+1+1) (.slice z1 z2 z3) (.slice y1 y2 y3) (.bool s.inf);refine bodyPost_ret (ret_pt rfl _ _ (w.heap.size+1+1) _ _ _ rfl (HX.out.1.set3 (.slice z1 z2 z3) (.slice y1 y2 y3) (.bool s.inf))) rfl ?_;exact⟨sA,sB,s,HMA.out,HMB.out,HX.out.2.2.1,HX.out.2.1.trans (bt.below (by omega) HX.out.2.1.size),_,rfl,.inl ⟨_,s,rfl,rfl,_,_,rfl,HX.out.2.2.2.1.apart HX.out.1 bt,HX.out.2.2.2.2.apart HX.out.1 bt⟩⟩
end
end Go.Proofs.YtkhnnhbmchnajaaGreat
