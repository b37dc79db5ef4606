import Derived.Test.YtcgikjkpbpjgdabGreatK34
import Derived.Test.YtcgikjkpbpjgdabGreatK30
import Derived.Test.YtcgikjkpbpjgdabGreatK03
set_option maxRecDepth 100000
set_option maxHeartbeats 40000000
set_option linter.unusedVariables false
set_option linter.unusedSimpArgs false
namespace Go.Proofs.YtcgikjkpbpjgdabGreat
open Go.Shelf Go.RowKit
theorem sizeKey:(Tryz.prog.info? 39).map (·.size)=some 7:=by kernel_rfl
theorem ret_key {fn:Func} {p:Tmp} (h:fn.results=#[.cell p 39]) (tmps:Array Value) (w:World) (g:Nat) (c0 c1 c2 c3 c4 c5 c6:Value) (hp:tmps.getD p undef=.pointer (some ⟨g,0,none⟩)) (hg:w.heap[g]?=some (.cells #[c0,c1,c2,c3,c4,c5,c6] 39 (0,0))):
  (results fn tmps).run Tryz.prog w=.ok (.agg #[c0,c1,c2,c3,c4,c5,c6]) w:=
 results_cell_row h tmps w g 39 _ (0,0) _ hp hg Tryz.underlying39 rfl sizeKey
theorem num_kept {w w':World} {ao:Option Addr} {l c:Nat} {xs:List Int} {g:Nat} (h:NumIn .u64 B64 w ao l c xs) (hne:∀off x,w.cell? ⟨g,off,none⟩≠some (.int .u64 x)) (hk:∀j,j≠g→w'.heap[j]?=w.heap[j]?) (hs:w.heap.size≤w'.heap.size):NumIn .u64 B64 w' ao l c xs:=by
 refine⟨⟨h.lies.1,?_⟩,h.lc,h.cm,h.nn,h.dg,h.sm⟩;rcases h.lies.2 with h0|⟨b,off,e,hb,hc⟩
 ·exact .inl h0
 ·rcases Nat.eq_zero_or_pos l with h0|h0
  ·exact .inl h0
  ·have hbg:b≠g:=by
    rintro rfl;have:=hc 0 h0;exact hne _ _ this
   refine .inr ⟨b,off,e,Nat.lt_of_lt_of_le hb hs,fun i hi => ?_⟩;rw[←hc i hi];unfold World.cell?;simp only[hk b hbg]
theorem key_ne {w:World} {g:Nat} {n1 n2:Int} {v1 v2:Option Addr} {b:Bool} {l1 c1 l2 c2 l3 c3 l4 c4:Nat} {v3 v4:Option Addr} (h:w.heap[g]?=some (.cells #[.int .u8 n1,.int .i64 n2,.slice v1 l1 c1,.slice v2 l2 c2,.bool b,.slice v3 l3 c3,.slice v4 l4 c4] 39 (0,0))) (off:Nat) (x:Int):w.cell? ⟨g,off,none⟩≠some (.int .u64 x):=by
 rw[cell_of_row _ _ _ _ _ _ h];match off with
 | 0=>simp
 | 1=>simp
 | 2=>simp
 | 3=>simp
 | 4=>simp
 | 5=>simp
 | 6=>simp
 | n+7=>simp
theorem rsa_small (i:Int):0<rsaN i∧rsaN i<B64^8∧0<rsaE i∧rsaE i<B64^8:=by unfold rsaN rsaE;split<;>decide +kernel
set_option maxRecDepth 100000
theorem prime_rootR {P:Nat} (h:∀d,2≤d→d*d≤P→P%d≠0):PrimeN P:=by
 refine prime_of fun a ha h0 => ?_;obtain⟨k,hk⟩:=Nat.gcd_dvd_left P a;have hg:Nat.gcd P a≤a:=Nat.le_of_dvd (by omega) (Nat.gcd_dvd_right P a);have hp:0<Nat.gcd P a:=Nat.gcd_pos_of_pos_right _ (by omega);generalize Nat.gcd P a=g at *;rcases Nat.lt_or_ge g 2 with h2|h2
 ·omega
 ·exfalso;have hk2:2≤k:=by
   rcases k with _|_|k
   ·rw[Nat.mul_zero]at hk;omega
   ·rw[Nat.mul_one]at hk;omega
   ·omega
  rcases Nat.le_total g k with hgk|hgk
  ·refine h g h2 ?_ ?_
   ·rw[hk];exact Nat.mul_le_mul (Nat.le_refl _) hgk
   ·rw[hk];exact Nat.mul_mod_right g k
  ·refine h k hk2 ?_ ?_
   ·rw[hk];exact Nat.mul_le_mul hgk (Nat.le_refl _)
   ·rw[hk];exact Nat.mul_mod_left g k
theorem prime_belowR {P:Nat} (hP:P<65536) (h:∀d,d<256→2≤d→P%d≠0∨P<d*d):PrimeN P:=by
 refine prime_rootR fun d h2 hd => ?_;have hl:d<256:=by
  rcases Nat.lt_or_ge d 256 with h3|h3
  ·exact h3
  ·have:=Nat.mul_le_mul h3 h3;omega
 rcases h d hl h2 with h4|h4
 ·exact h4
 ·omega
def prodLR (l:List Nat):Nat:=l.foldr (fun a b=>a*b) 1
theorem perm_prodR {l1 l2:List Nat} (h:l1.Perm l2):prodLR l1=prodLR l2:=by
 induction h with
 | nil=>rfl
 | cons x _ ih=>show x*prodLR _=x*prodLR _;rw[ih]
 | swap x y l=>show y*(x*prodLR l)=x*(y*prodLR l);rw[←Nat.mul_assoc,Nat.mul_comm y x,Nat.mul_assoc]
 | trans _ _ ih1 ih2=>exact ih1.trans ih2
theorem prod_mulR (a p:Nat):∀l:List Nat,prodLR (l.map fun i=>a*i%p)%p=a^l.length*prodLR l%p
 | []=>rfl
 | x::l=>by
  show(a*x%p*prodLR (l.map fun i=>a*i%p))%p=a^(l.length+1)*(x*prodLR l)%p;rw[Nat.mul_mod,Nat.mod_mod,prod_mulR a p l,←Nat.mul_mod,Nat.pow_succ];congr 1
  rw[Nat.mul_mul_mul_comm,Nat.mul_comm a]
theorem prime_prodR {p:Nat} (hp:PrimeN p) (h1:1<p):∀l:List Nat,(∀x∈l,¬p∣x)→¬p∣prodLR l
 | [],_,h=>by
  have:=Nat.le_of_dvd (by decide:0<prodLR []) h;have e:prodLR []=1:=rfl;omega
 | x :: l, hl, h => by
  rcases hp x (prodLR l) h with h2|h2
  ·exact hl x List.mem_cons_self h2
  ·exact prime_prodR hp h1 l (fun y hy=>hl y (List.mem_cons_of_mem _ hy)) h2
theorem prime_invR {p a:Nat} (hp:PrimeN p) (ha:¬p∣a) (h1:1<p):∃b,b*a%p=1:=by
 have h0:0<a%p:=Nat.pos_of_ne_zero fun e=>ha (Nat.dvd_of_mod_eq_zero e);have hg:=prime_gcd hp h0 (Nat.mod_lt _ (by omega));obtain⟨x,y,h⟩:=bez p (a%p);rw[hg]at h;refine⟨(y%p).toNat,?_⟩;have hy:0≤y%(p:Int):=Int.emod_nonneg _ (by omega);have e1:(y%(p:Int)*(a:Int))%p=(y*a)%p:=by rw[Int.mul_emod,Int.emod_emod,←Int.mul_emod]
 have e2:(y*((a%p:Nat):Int))%p=(y*a)%p:=by rw[Int.natCast_emod,Int.mul_emod,Int.emod_emod,←Int.mul_emod]
 have e:(((y%p).toNat*a%p:Nat):Int)=1:=by
  rw[Int.natCast_emod,Int.natCast_mul,Int.toNat_of_nonneg hy,e1,←e2];have:y*((a%p:Nat):Int)=1+(p:Int)*(-x):=by have h':(1:Int)=p*x+((a%p:Nat):Int)*y:=h;rw[Int.mul_comm y,Int.mul_neg];omega
  rw[this,Int.add_mul_emod_self_left];exact Int.emod_eq_of_lt (by omega) (by omega)
 omega
theorem fermatR {p a:Nat} (hp:PrimeN p) (h1:1<p) (ha:¬p∣a):a^(p-1)%p=1:=by
 obtain⟨b,hb⟩:=prime_invR hp ha h1;have hinj:∀x y,x<p→y<p→a*x%p=a*y%p→x=y:=by
  intro x y hx hy e;have h2:b*(a*x)%p=b*(a*y)%p:=by rw[Nat.mul_mod,e,←Nat.mul_mod]
  rw[←Nat.mul_assoc,←Nat.mul_assoc,Nat.mul_mod,hb,Nat.mul_mod (b*a) y,hb,Nat.one_mul,Nat.one_mul,Nat.mod_mod,Nat.mod_mod,Nat.mod_eq_of_lt hx,Nat.mod_eq_of_lt hy]at h2;exact h2
 obtain⟨L,hL⟩:∃L,(List.range (p-1)).map (fun i=>i+1)=L:=⟨_,rfl⟩
 have hmem:∀x,x∈L↔0<x∧x<p:=by
  intro x;rw[←hL,List.mem_map];constructor
  ·rintro⟨i,hi,rfl⟩;rw[List.mem_range]at hi;omega
  ·intro h;exact⟨x-1,List.mem_range.2 (by omega),by omega⟩
 have hnd:L.Nodup:=by rw[←hL];refine List.Pairwise.map (R:=fun x y=>x≠y) _ (fun x y h e=>h (by omega)) List.nodup_range
 have hnot:∀x,0<x→x<p→¬p∣x:=fun x h0 hx h=>by have:=Nat.le_of_dvd h0 h;omega
 have hnd2:(L.map fun i=>a*i%p).Nodup:=by
  refine List.Pairwise.map (R:=fun x y=>x≠y∧x∈L∧y∈L) _ (fun x y h e=>h.1 (hinj x y ((hmem x).1 h.2.1).2 ((hmem y).1 h.2.2).2 e)) ?_;have:∀l:List Nat,(∀x∈l,x∈L)→l.Nodup→l.Pairwise (fun x y=>x≠y∧x∈L∧y∈L):=by
   intro l;induction l with
   | nil=>intro _ _;exact List.Pairwise.nil
   | cons x l ih=>
    intro hl hn;rw[List.nodup_cons]at hn;refine List.Pairwise.cons (fun y hy=>⟨fun e=>hn.1 (e ▸ hy),hl x List.mem_cons_self,hl y (List.mem_cons_of_mem _ hy)⟩) (ih (fun y hy=>hl y (List.mem_cons_of_mem _ hy)) hn.2)
  exact this L (fun x h=>h) hnd
 have hperm:(L.map fun i=>a*i%p).Perm L:=by
  rw[List.perm_ext_iff_of_nodup hnd2 hnd];intro x;rw[List.mem_map,hmem];constructor
  ·rintro⟨i,hi,rfl⟩;rw[hmem]at hi;refine⟨Nat.pos_of_ne_zero fun e => ?_,Nat.mod_lt _ (by omega)⟩;rcases hp a i (Nat.dvd_of_mod_eq_zero e) with h|h
   ·exact ha h
   ·exact hnot i hi.1 hi.2 h
  ·intro hx;refine⟨b*x%p,?_,?_⟩
   ·rw[hmem];refine⟨Nat.pos_of_ne_zero fun e => ?_,Nat.mod_lt _ (by omega)⟩;rcases hp b x (Nat.dvd_of_mod_eq_zero e) with h|h
    ·obtain⟨k,hk⟩:=h;rw[hk,Nat.mul_assoc,Nat.mul_mod_right]at hb;omega
    ·exact hnot x hx.1 hx.2 h
   ·rw[Nat.mul_mod,Nat.mod_mod,←Nat.mul_mod,←Nat.mul_assoc,Nat.mul_comm a b,Nat.mul_mod,hb,Nat.one_mul,Nat.mod_mod,Nat.mod_eq_of_lt hx.2]
 have hlen:L.length=p-1:=by rw[←hL];simp
 have hprod:=prod_mulR a p L;rw[perm_prodR hperm,hlen]at hprod;have hn:=prime_prodR hp h1 L (fun x hx=>hnot x ((hmem x).1 hx).1 ((hmem x).1 hx).2);obtain⟨c,hc⟩:=prime_invR hp hn h1;have h3:c*prodLR L%p=c*(a^(p-1)*prodLR L)%p:=by rw[Nat.mul_mod,hprod,←Nat.mul_mod]
 rw[hc,Nat.mul_left_comm,Nat.mul_mod,hc,Nat.mul_one,Nat.mod_mod]at h3;exact h3.symm
theorem pow_gcdR {p a:Nat} (h1:1<p) (x y:Nat):a^x%p=1→a^y%p=1→a^Nat.gcd x y%p=1:=by
 induction x,y using Nat.gcd.induction with
 | H0 n=>intro _ h;rw[Nat.gcd_zero_left];exact h
 | H1 m n hm ih=>
  intro hx hy;rw[Nat.gcd_rec];refine ih ?_ hx;have e:a^n=(a^m)^(n/m)*a^(n%m):=by rw[←Nat.pow_mul,←Nat.pow_add,Nat.div_add_mod]
  rw[e,Nat.mul_mod,Nat.pow_mod,hx,Nat.one_pow,Nat.mod_eq_of_lt h1,Nat.one_mul,Nat.mod_mod]at hy;exact hy
theorem prime_divR (d:Nat) (h2:2≤d):∃p,2≤p∧PrimeN p∧p∣d:=by
 induction d using Nat.strongRecOn with
 | ind d ih =>
  by_cases h:∃e,2≤e∧e<d∧e∣d
  ·obtain⟨e,he,hed,hdv⟩:=h;obtain⟨p,hp,hpp,hpd⟩:=ih e hed he;exact⟨p,hp,hpp,Nat.dvd_trans hpd hdv⟩
  ·refine⟨d,h2,prime_of fun a ha h0 => ?_,Nat.dvd_refl d⟩;have hg:=Nat.gcd_dvd_left d a;have hl:=Nat.le_of_dvd (by omega) (Nat.gcd_dvd_right d a);have hp:0<Nat.gcd d a:=Nat.gcd_pos_of_pos_right _ (by omega);rcases Nat.lt_or_ge (Nat.gcd d a) 2 with h3|h3
   ·omega
   ·exact absurd ⟨_,h3,by omega,hg⟩ h
def powmR (N:Nat):Nat→Nat→Nat→Nat
 | 0,_,_=>1%N
 | f+1,a,e=>if e=0 then 1%N else if e%2=0 then powmR N f (a*a%N) (e/2) else a*powmR N f (a*a%N) (e/2)%N
theorem powm_eqR (N:Nat):∀f a e,e<2^f→powmR N f a e=a^e%N
 | 0,a,e,h=>by
  have:e=0:=by simpa using h
  subst this;rfl
 | f + 1, a, e, h => by
  unfold powmR;by_cases h0:e=0
  ·rw[if_pos h0,h0];rfl
  ·rw[if_neg h0];have hlt:e/2<2^f:=by rw[Nat.pow_succ]at h;omega
   rw[powm_eqR N f (a*a%N) (e/2) hlt,←Nat.pow_mod];have hsq:(a*a)^(e/2)=a^(2*(e/2)):=by rw[←Nat.pow_two,←Nat.pow_mul]
   rw[hsq];by_cases h2:e%2=0
   ·rw[if_pos h2,show 2*(e/2)=e by omega]
   ·rw[if_neg h2,Nat.mul_mod,Nat.mod_mod,←Nat.mul_mod,←Nat.pow_succ',show(2*(e/2)).succ=e by omega]
theorem pock_divR {N q R:Nat} (hN:1<N) (hq:PrimeN q) (hR:N-1=q*R) (h1:powmR N 256 2 (N-1)=1) (h2:Nat.gcd (powmR N 256 2 R+(N-1)) N=1) (hl:N<2^256) {p:Nat} (hp:PrimeN p) (hp2:2≤p) (hd:p∣N):q∣p-1:=by
 have hR0:0<R:=Nat.pos_of_ne_zero fun e=>by rw[e]at hR;omega
 have hq0:0<q:=Nat.pos_of_ne_zero fun e=>by rw[e]at hR;omega
 have hRl:R≤N-1:=by rw[hR];exact Nat.le_mul_of_pos_left _ hq0
 rw[powm_eqR N 256 2 (N-1) (by omega)]at h1;rw[powm_eqR N 256 2 R (by omega)]at h2;have m1:2^(N-1)%p=1:=by rw[←Nat.mod_mod_of_dvd _ hd,h1];exact Nat.mod_eq_of_lt (by omega)
 have hna:¬p∣2:=fun h=>by
  have:2^(N-1)%p=0:=by rw[Nat.pow_mod,Nat.mod_eq_zero_of_dvd h,Nat.zero_pow (by omega),Nat.zero_mod]
  omega
 have m2:=fermatR hp (by omega) hna;apply Classical.byContradiction;intro hnq;have hg:Nat.gcd (N-1) (p-1)∣R:=by
  have hc:Nat.Coprime q (p-1):=by
   have hgd:=Nat.gcd_dvd_left q (p-1);obtain⟨k,hk⟩:=hgd;have hdq:q∣Nat.gcd q (p-1)*k:=⟨1,by omega⟩
   rcases hq _ _ hdq with h|h
   ·exact absurd (Nat.dvd_trans h (Nat.gcd_dvd_right q (p-1))) hnq
   ·have hk0:0<k:=Nat.pos_of_ne_zero fun e=>by rw[e]at hk;omega
    have hle:=Nat.le_of_dvd hk0 h;have hgp:0<Nat.gcd q (p-1):=Nat.gcd_pos_of_pos_left _ hq0;show Nat.gcd q (p-1)=1;generalize Nat.gcd q (p-1)=g at *;rcases g with _|_|g
    ·omega
    ·rfl
    ·have h6:(g+1+1)*k=g*k+k+k:=by rw[Nat.add_mul,Nat.add_mul];omega
     have h7:0≤g*k:=Nat.zero_le _;omega
  have hcg:Nat.Coprime (Nat.gcd (N-1) (p-1)) q:=Nat.Coprime.coprime_dvd_left (Nat.gcd_dvd_right _ _) hc.symm;have hdv:Nat.gcd (N-1) (p-1)∣q*R:=by rw[←hR];exact Nat.gcd_dvd_left _ _
  exact hcg.dvd_of_dvd_mul_left hdv
 have m3:=pow_gcdR (by omega) _ _ m1 m2;obtain⟨k,hk⟩:=hg;have m4:2^R%p=1:=by rw[hk,Nat.pow_mul,Nat.pow_mod,m3,Nat.one_pow];exact Nat.mod_eq_of_lt (by omega)
 have hdd:p∣2^R%N+(N-1):=by
  have e1:(2^R%N)%p=1:=by rw[Nat.mod_mod_of_dvd _ hd];exact m4
  obtain⟨c,hc⟩:=hd;refine Nat.dvd_of_mod_eq_zero ?_;have e2:2^R%N=p*(2^R%N/p)+1:=by have:=Nat.div_add_mod (2^R%N) p;omega
  have hc0:0<c:=Nat.pos_of_ne_zero fun e=>by rw[e]at hc;omega
  have e3:2^R%N+(N-1)=p*(2^R%N/p)+p*c:=by have:0<p*c:=Nat.mul_pos (by omega) hc0;omega
  rw[e3,←Nat.mul_add,Nat.mul_mod_right]
 have:=Nat.dvd_gcd hdd hd;rw[h2]at this;have:=Nat.le_of_dvd (by decide) this;omega
theorem pock1R {N q R:Nat} (hN:1<N) (hq:PrimeN q) (hR:N-1=q*R) (h1:powmR N 256 2 (N-1)=1) (h2:Nat.gcd (powmR N 256 2 R+(N-1)) N=1) (hl:N<2^256) (hF:N≤q*q):PrimeN N:=by refine prime_rootR fun d hd2 hdd hm => ?_;obtain⟨p,hp2,hp,hpd⟩:=prime_divR d hd2;have h3:=pock_divR hN hq hR h1 h2 hl hp hp2 (Nat.dvd_trans hpd (Nat.dvd_of_mod_eq_zero hm));have h4:=Nat.le_of_dvd (by omega) h3;have h5:=Nat.le_of_dvd (by omega) hpd;have h6:q*q<d*d:=Nat.mul_lt_mul'' (by omega) (by omega);omega
theorem pock2R {N q R q' R':Nat} (hN:1<N) (hq:PrimeN q) (hR:N-1=q*R) (h1:powmR N 256 2 (N-1)=1) (h2:Nat.gcd (powmR N 256 2 R+(N-1)) N=1) (hq':PrimeN q') (hR':N-1=q'*R') (h2':Nat.gcd (powmR N 256 2 R'+(N-1)) N=1) (hc:Nat.Coprime q q') (hl:N<2^256) (hF:N≤(q*q')*(q*q')):PrimeN N:=by refine prime_rootR fun d hd2 hdd hm => ?_;obtain⟨p,hp2,hp,hpd⟩:=prime_divR d hd2;have hpN:=Nat.dvd_trans hpd (Nat.dvd_of_mod_eq_zero hm);have h3:=pock_divR hN hq hR h1 h2 hl hp hp2 hpN;have h3':=pock_divR hN hq' hR' h1 h2' hl hp hp2 hpN;have h4:=Nat.le_of_dvd (by omega) (Nat.Coprime.mul_dvd_of_dvd_of_dvd hc h3 h3');have h5:=Nat.le_of_dvd (by omega) hpd;have h6:(q*q')*(q*q')<d*d:=Nat.mul_lt_mul'' (by omega) (by omega);omega
theorem rp0:PrimeN 2550374201:=pock2R (q:=13967) (R:=182600) (q':=83) (R':=30727400) (by decide) (prime_belowR (P:=13967) (by decide) (by decide +kernel)) (by decide +kernel) (by decide +kernel) (by decide +kernel) (prime_belowR (P:=83) (by decide) (by decide +kernel)) (by decide +kernel) (by decide +kernel) (by decide +kernel) (by decide) (by decide)
theorem rp1:PrimeN 8479949:=pock2R (q:=1783) (R:=4756) (q':=41) (R':=206828) (by decide) (prime_belowR (P:=1783) (by decide) (by decide +kernel)) (by decide +kernel) (by decide +kernel) (by decide +kernel) (prime_belowR (P:=41) (by decide) (by decide +kernel)) (by decide +kernel) (by decide +kernel) (by decide +kernel) (by decide) (by decide)
theorem rp2:PrimeN 864954799:=pock1R (q:=8479949) (R:=102) (by decide) rp1 (by decide +kernel) (by decide +kernel) (by decide +kernel) (by decide) (by decide)
theorem rp3:PrimeN 39707251279213330783:=pock2R (q:=2550374201) (R:=15569186382) (q':=864954799) (R':=45906735618) (by decide) rp0 (by decide +kernel) (by decide +kernel) (by decide +kernel) rp2 (by decide +kernel) (by decide +kernel) (by decide +kernel) (by decide) (by decide)
theorem rp4:PrimeN 6430192272155806786999021:=pock1R (q:=39707251279213330783) (R:=161940) (by decide) rp3 (by decide +kernel) (by decide +kernel) (by decide +kernel) (by decide) (by decide)
theorem rp5:PrimeN 105733:=pock2R (q:=89) (R:=1188) (q':=11) (R':=9612) (by decide) (prime_belowR (P:=89) (by decide) (by decide +kernel)) (by decide +kernel) (by decide +kernel) (by decide +kernel) (prime_belowR (P:=11) (by decide) (by decide +kernel)) (by decide +kernel) (by decide +kernel) (by decide +kernel) (by decide) (by decide)
theorem rp6:PrimeN 6762048283:=pock1R (q:=105733) (R:=63954) (by decide) rp5 (by decide +kernel) (by decide +kernel) (by decide +kernel) (by decide) (by decide)
theorem rp7:PrimeN 539604015177056389358126375674927684722322433781881:=pock2R (q:=6430192272155806786999021) (R:=83917244203359882543336280) (q':=6762048283) (R':=79798900066069875673812365719088090800360) (by decide) rp4 (by decide +kernel) (by decide +kernel) (by decide +kernel) rp6 (by decide +kernel) (by decide +kernel) (by decide +kernel) (by decide) (by decide)
theorem rp8:PrimeN 79301737793625025535672609497874567925330072459704701413905959859:=pock1R (q:=539604015177056389358126375674927684722322433781881) (R:=146962838606018) (by decide) rp7 (by decide +kernel) (by decide +kernel) (by decide +kernel) (by decide) (by decide)
theorem rp9:PrimeN 214599225660706617852339005288293347008414962383931489543185057034038491:=pock1R (q:=79301737793625025535672609497874567925330072459704701413905959859) (R:=2706110) (by decide) rp8 (by decide +kernel) (by decide +kernel) (by decide +kernel) (by decide) (by decide)
theorem rp10:PrimeN 88719611872649329952513991566286235520218913748764956406943566279012192949221:=pock1R (q:=214599225660706617852339005288293347008414962383931489543185057034038491) (R:=413420) (by decide) rp9 (by decide +kernel) (by decide +kernel) (by decide +kernel) (by decide) (by decide)
theorem rp11:PrimeN 508799:=pock1R (q:=3797) (R:=134) (by decide) (prime_belowR (P:=3797) (by decide) (by decide +kernel)) (by decide +kernel) (by decide +kernel) (by decide +kernel) (by decide) (by decide)
theorem rp12:PrimeN 334861:=pock1R (q:=5581) (R:=60) (by decide) (prime_belowR (P:=5581) (by decide) (by decide +kernel)) (by decide +kernel) (by decide +kernel) (by decide +kernel) (by decide) (by decide)
theorem rp13:PrimeN 699792621164893481:=pock2R (q:=508799) (R:=1375381282520) (q':=334861) (R':=2089800308680) (by decide) rp11 (by decide +kernel) (by decide +kernel) (by decide +kernel) rp12 (by decide +kernel) (by decide +kernel) (by decide +kernel) (by decide) (by decide)
theorem rp14:PrimeN 3855857342618563080311:=pock1R (q:=699792621164893481) (R:=5510) (by decide) rp13 (by decide +kernel) (by decide +kernel) (by decide +kernel) (by decide) (by decide)
theorem rp15:PrimeN 249080672618473937861929979:=pock1R (q:=3855857342618563080311) (R:=64598) (by decide) rp14 (by decide +kernel) (by decide +kernel) (by decide +kernel) (by decide) (by decide)
theorem rp16:PrimeN 212250109881070670566037840725187:=pock1R (q:=249080672618473937861929979) (R:=852134) (by decide) rp15 (by decide +kernel) (by decide +kernel) (by decide +kernel) (by decide) (by decide)
theorem rp17:PrimeN 93893237748670324768453037337527428378007:=pock1R (q:=212250109881070670566037840725187) (R:=442370738) (by decide) rp16 (by decide +kernel) (by decide +kernel) (by decide +kernel) (by decide) (by decide)
theorem rp18:PrimeN 95568212191024491931941514659376198119986059423125729445699730223722487564971:=pock1R (q:=93893237748670324768453037337527428378007) (R:=1017839138179872675907146441802740710) (by decide) rp17 (by decide +kernel) (by decide +kernel) (by decide +kernel) (by decide) (by decide)
theorem rp19:PrimeN 2644153:=pock1R (q:=15739) (R:=168) (by decide) (prime_belowR (P:=15739) (by decide) (by decide +kernel)) (by decide +kernel) (by decide +kernel) (by decide +kernel) (by decide) (by decide)
theorem rp20:PrimeN 10576613:=pock1R (q:=2644153) (R:=4) (by decide) rp19 (by decide +kernel) (by decide +kernel) (by decide +kernel) (by decide) (by decide)
theorem rp21:PrimeN 63459679:=pock1R (q:=10576613) (R:=6) (by decide) rp20 (by decide +kernel) (by decide +kernel) (by decide +kernel) (by decide) (by decide)
theorem rp22:PrimeN 630300144551850701:=pock2R (q:=63459679) (R:=9932293300) (q':=1009) (R':=624678042172300) (by decide) rp21 (by decide +kernel) (by decide +kernel) (by decide +kernel) (prime_belowR (P:=1009) (by decide) (by decide +kernel)) (by decide +kernel) (by decide +kernel) (by decide +kernel) (by decide) (by decide)
theorem rp23:PrimeN 4154899007854730637879019261:=pock1R (q:=630300144551850701) (R:=6591937260) (by decide) rp22 (by decide +kernel) (by decide +kernel) (by decide +kernel) (by decide) (by decide)
theorem rp24:PrimeN 12440690017096807280011392809709943:=pock1R (q:=4154899007854730637879019261) (R:=2994222) (by decide) rp23 (by decide +kernel) (by decide +kernel) (by decide +kernel) (by decide) (by decide)
theorem rp25:PrimeN 15779369611259487572920733370352366292888860329974774576333:=pock1R (q:=12440690017096807280011392809709943) (R:=1268367718315820837323924) (by decide) rp24 (by decide +kernel) (by decide +kernel) (by decide +kernel) (by decide) (by decide)
theorem rp26:PrimeN 2768364163338587018768359303961359847157007434011434401221014187:=pock1R (q:=15779369611259487572920733370352366292888860329974774576333) (R:=175442) (by decide) rp25 (by decide +kernel) (by decide +kernel) (by decide +kernel) (by decide) (by decide)
theorem rp27:PrimeN 97598692930283064568214715830273728601041630315902629291465192316678958387271:=pock1R (q:=2768364163338587018768359303961359847157007434011434401221014187) (R:=35255005184210) (by decide) rp26 (by decide +kernel) (by decide +kernel) (by decide +kernel) (by decide) (by decide)
theorem rp28:PrimeN 75996521:=pock1R (q:=51349) (R:=1480) (by decide) (prime_belowR (P:=51349) (by decide) (by decide +kernel)) (by decide +kernel) (by decide +kernel) (by decide +kernel) (by decide) (by decide)
theorem rp29:PrimeN 1128037:=pock2R (q:=1033) (R:=1092) (q':=13) (R':=86772) (by decide) (prime_belowR (P:=1033) (by decide) (by decide +kernel)) (by decide +kernel) (by decide +kernel) (by decide +kernel) (prime_belowR (P:=13) (by decide) (by decide +kernel)) (by decide +kernel) (by decide +kernel) (by decide +kernel) (by decide) (by decide)
theorem rp30:PrimeN 367950874015232564929457191:=pock2R (q:=75996521) (R:=4841680502917134390) (q':=1128037) (R':=326186883954367245870) (by decide) rp28 (by decide +kernel) (by decide +kernel) (by decide +kernel) rp29 (by decide +kernel) (by decide +kernel) (by decide +kernel) (by decide) (by decide)
theorem rp31:PrimeN 3707481773017619028184643797543168835790725747081:=pock1R (q:=367950874015232564929457191) (R:=10076023825028705709880) (by decide) rp30 (by decide +kernel) (by decide +kernel) (by decide +kernel) (by decide) (by decide)
theorem rp32:PrimeN 141103429527995797319012600628136320024453316229364198242053:=pock1R (q:=3707481773017619028184643797543168835790725747081) (R:=38059102692) (by decide) rp31 (by decide +kernel) (by decide +kernel) (by decide +kernel) (by decide) (by decide)
theorem rp33:PrimeN 112161942773458590813326868146150591322910531441900228557395536266102007207601:=pock1R (q:=141103429527995797319012600628136320024453316229364198242053) (R:=794891684409449200) (by decide) rp32 (by decide +kernel) (by decide +kernel) (by decide +kernel) (by decide) (by decide)
theorem pow_id {p:Nat} (hp:PrimeN p) (h1:1<p) (x k:Nat):x^(1+(p-1)*k)%p=x%p:=by
 by_cases hd:p∣x
 ·have h0:x%p=0:=Nat.mod_eq_zero_of_dvd hd;rw[Nat.pow_mod,h0,Nat.zero_pow (by omega),Nat.zero_mod]
 ·have hf:=fermatR hp h1 hd;rw[Nat.pow_add,Nat.pow_one,Nat.pow_mul,Nat.mul_mod,Nat.pow_mod (x^(p-1)),hf,Nat.one_pow,Nat.mod_eq_of_lt h1,Nat.mul_one,Nat.mod_mod]
theorem crt2 {p q a b:Nat} (hc:Nat.Coprime p q) (hp:a%p=b%p) (hq:a%q=b%q):a%(p*q)=b%(p*q):=by
 have e1:(p:Int)∣(a:Int)-b:=Int.dvd_of_emod_eq_zero (Int.emod_eq_emod_iff_emod_sub_eq_zero.1 (by exact_mod_cast congrArg (Nat.cast (R:=Int)) hp));have e2:(q:Int)∣(a:Int)-b:=Int.dvd_of_emod_eq_zero (Int.emod_eq_emod_iff_emod_sub_eq_zero.1 (by exact_mod_cast congrArg (Nat.cast (R:=Int)) hq));have e3:p*q∣((a:Int)-b).natAbs:=Nat.Coprime.mul_dvd_of_dvd_of_dvd hc (Int.ofNat_dvd_left.1 e1) (Int.ofNat_dvd_left.1 e2);have e4:((p*q:Nat):Int)∣(a:Int)-b:=Int.ofNat_dvd_left.2 e3;have e5:=Int.emod_eq_emod_iff_emod_sub_eq_zero.2 (Int.emod_eq_zero_of_dvd e4)
 exact_mod_cast e5
theorem rsa_backN {p q e d k l:Nat} (hp:PrimeN p) (hq:PrimeN q) (p1:1<p) (q1:1<q) (hc:Nat.Coprime p q) (h1:d*e=1+(p-1)*k) (h2:d*e=1+(q-1)*l) (x:Nat) (hx:x<p*q):(x^d%(p*q))^e%(p*q)=x:=by
 rw[←Nat.pow_mod,←Nat.pow_mul];have e1:x^(d*e)%p=x%p:=by rw[h1];exact pow_id hp p1 x k
 have e2:x^(d*e)%q=x%q:=by rw[h2];exact pow_id hq q1 x l
 rw[crt2 hc e1 e2,Nat.mod_eq_of_lt hx]
theorem back0 (x:Nat) (hx:x<8478774692950686948931691623231886540506061736060197768102464703086314338576516908251073744980808318024178470791773212721119574061960704473384495341337591):(x^2383713378970908144011267194989815058803793086148422171861512003209871396131481888572373782155166885376097174023812513049970796133554954105071126847058473%8478774692950686948931691623231886540506061736060197768102464703086314338576516908251073744980808318024178470791773212721119574061960704473384495341337591)^65537%8478774692950686948931691623231886540506061736060197768102464703086314338576516908251073744980808318024178470791773212721119574061960704473384495341337591=x:=by have h:=rsa_backN (p:=88719611872649329952513991566286235520218913748764956406943566279012192949221) (q:=95568212191024491931941514659376198119986059423125729445699730223722487564971) (e:=65537) (d:=2383713378970908144011267194989815058803793086148422171861512003209871396131481888572373782155166885376097174023812513049970796133554954105071126847058473) (k:=1760844309619626263846022407599006450360743144871091565037017529372086833384572250) (l:=1634658848753563904375070294608823889460033485820994321797935208690799655089378500) rp10 rp18 (by decide) (by decide) (by decide +kernel) (by decide +kernel) (by decide +kernel) x;rw[show 88719611872649329952513991566286235520218913748764956406943566279012192949221*95568212191024491931941514659376198119986059423125729445699730223722487564971=8478774692950686948931691623231886540506061736060197768102464703086314338576516908251073744980808318024178470791773212721119574061960704473384495341337591 by decide +kernel]at h;exact h hx
theorem back1 (x:Nat) (hx:x<10946859011210766630761700678456930657619854580716871171759543806720678760030654918172574107507588800923464901969980427984494337629330413913164793052846871):(x^7297906007473844420507800452304620438413236387144580781173029204480452506686963438357913577234804839559658985100037650548491023180987702123054674724834667%10946859011210766630761700678456930657619854580716871171759543806720678760030654918172574107507588800923464901969980427984494337629330413913164793052846871)^3%10946859011210766630761700678456930657619854580716871171759543806720678760030654918172574107507588800923464901969980427984494337629330413913164793052846871=x:=by have h:=rsa_backN (p:=97598692930283064568214715830273728601041630315902629291465192316678958387271) (q:=112161942773458590813326868146150591322910531441900228557395536266102007207601) (e:=3) (d:=7297906007473844420507800452304620438413236387144580781173029204480452506686963438357913577234804839559658985100037650548491023180987702123054674724834667) (k:=224323885546917181626653736292301182645821062883800457114791072532204014415200) (l:=195197385860566129136429431660547457202083260631805258582930384633357916774540) rp27 rp33 (by decide) (by decide) (by decide +kernel) (by decide +kernel) (by decide +kernel) x;rw[show 97598692930283064568214715830273728601041630315902629291465192316678958387271*112161942773458590813326868146150591322910531441900228557395536266102007207601=10946859011210766630761700678456930657619854580716871171759543806720678760030654918172574107507588800923464901969980427984494337629330413913164793052846871 by decide +kernel]at h;exact h hx
end Go.Proofs.YtcgikjkpbpjgdabGreat
