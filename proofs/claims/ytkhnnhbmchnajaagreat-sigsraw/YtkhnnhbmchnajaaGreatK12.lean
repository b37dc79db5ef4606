import Derived.Test.YtkhnnhbmchnajaaGreatK11
import Derived.Test.YtkhnnhbmchnajaaGreatK08
import Derived.Test.YtkhnnhbmchnajaaGreatK02
import Derived.LoopN
import Derived.Deep.CutRange
import Derived.Deep.AppendLies
import Derived.Test.YtkhnnhbmchnajaaGreatK10
set_option maxRecDepth 100000
set_option maxHeartbeats 40000000
set_option linter.unusedVariables false
set_option linter.unusedSimpArgs false
namespace Go.Proofs.YtkhnnhbmchnajaaGreat
section
open Go.RowKit Go.Shelf
structure FrM(W:World)(b:Nat)(cv:Array Value)(g0 g1 g2 s0 s1 s2:Value):Prop where
 c:W.heap[b]?=some (.cells cv 60 (0,0))
 p:PSd W (b+1) g0 g1 g2
 r:PSd W (b+1+1) (.int .i64 0) (.int .i64 0) (.bool false)
 s:PSd W (b+1+1+1) s0 s1 s2
theorem FrM.keep{W W':World}{b:Nat}{cv:Array Value}{g0 g1 g2 s0 s1 s2:Value}(h:FrM W b cv g0 g1 g2 s0 s1 s2)(hb:Below W.heap.size W W'):FrM W' b cv g0 g1 g2 s0 s1 s2:=⟨blk_old h.c hb,h.p.keep hb,h.r.keep hb,h.s.keep hb⟩
theorem FrM.of{W:World}{b:Nat}{cv:Array Value}{g0 g1 g2 s0 s1 s2:Value}(h:FrD W b cv g0 g1 g2 (.int .i64 0) (.int .i64 0) (.bool false) s0 s1 s2):FrM W b cv g0 g1 g2 s0 s1 s2:=⟨h.c,h.p,h.q,h.r⟩
theorem bt_blk{r k:Nat}{w w':World}{o:Obj}(hb:Bt r w w')(h:w.heap[k]?=some o)(hne:k≠r):w'.heap[k]?=some o:=(hb.block k (Array.getElem?_eq_some_iff.1 h).1 hne).trans h
theorem FrM.next{w W:World}{cv:Array Value}{g0 g1 g2 s0 s1 s2:Value}(h:FrM W w.heap.size cv g0 g1 g2 s0 s1 s2)(hb:Below w.heap.size w W)(d0 d1 d2:Value):FrM (((W.setCell ⟨w.heap.size+1+1+1,0,none⟩ d0).setCell ⟨w.heap.size+1+1+1,1,none⟩ d1).setCell ⟨w.heap.size+1+1+1,2,none⟩ d2) w.heap.size cv g0 g1 g2 d0 d1 d2∧Below w.heap.size w (((W.setCell ⟨w.heap.size+1+1+1,0,none⟩ d0).setCell ⟨w.heap.size+1+1+1,1,none⟩ d1).setCell ⟨w.heap.size+1+1+1,2,none⟩ d2):=by have bt:=Bt.set3 W (w.heap.size+1+1+1) d0 d1 d2;exact⟨⟨bt_blk bt h.c (by omega),bt_blk bt h.p (by omega),bt_blk bt h.r (by omega),h.s.set3 d0 d1 d2⟩,hb.trans (bt.below (by omega) hb.size)⟩
theorem FrM.ans{w W:World}{cv:Array Value}{g0 g1 g2 s0 s1 s2:Value}(h:FrM W w.heap.size cv g0 g1 g2 s0 s1 s2)(hb:Below w.heap.size w W)(d0 d1 d2:Value):PSd (((W.setCell ⟨w.heap.size+1+1,0,none⟩ d0).setCell ⟨w.heap.size+1+1,1,none⟩ d1).setCell ⟨w.heap.size+1+1,2,none⟩ d2) (w.heap.size+1+1) d0 d1 d2∧Below w.heap.size w (((W.setCell ⟨w.heap.size+1+1,0,none⟩ d0).setCell ⟨w.heap.size+1+1,1,none⟩ d1).setCell ⟨w.heap.size+1+1,2,none⟩ d2):=by have bt:=Bt.set3 W (w.heap.size+1+1) d0 d1 d2;exact⟨h.r.set3 d0 d1 d2,hb.trans (bt.below (by omega) hb.size)⟩
theorem cells6{W:World}{b:Nat}{c0 c1 c2 c3 c4 c5:Value}(h:W.heap[b]?=some (.cells #[c0,c1,c2,c3,c4,c5] 60 (0,0))):W.cell? ⟨b,0,none⟩=some c0∧W.cell? ⟨b,1,none⟩=some c1∧W.cell? ⟨b,2,none⟩=some c2∧W.cell? ⟨b,3,none⟩=some c3∧W.cell? ⟨b,4,none⟩=some c4∧W.cell? ⟨b,5,none⟩=some c5:=by refine⟨?_,?_,?_,?_,?_,?_⟩<;>(rw[cell_of_row _ _ _ _ _ _ h];rfl)
theorem half_nat(n j:Nat)(hj:0<j):n/2^(j-1)=2*(n/2^j)+n/2^(j-1)%2:=by
 obtain⟨i,rfl⟩:∃i,j=i+1:=⟨j-1,by omega⟩
 rw[Nat.add_sub_cancel,Nat.pow_succ,←Nat.div_div_eq_div_mul];omega
theorem rMul_good{P:Nat}[NeZero P]{K:Cz}(g:GoodK K P)(hP:S31 K.p)(hA:S31 K.a)(G:Pz)(hG:Gd K P G)(kv:Value)(n L:Nat)(w:World)(hk:Rv w kv (n:Int) L)(hL:L≤1000):
  Calls Tryz.prog 15 #[rcv K,kv,rpv G] w fun e w'=>∃s,Mt K P G n s∧e=.returned (.tuple #[rpv s,.bool true])∧Below w.heap.size w w':=by
 have h0:0<K.p:=by rw[g.p];exact ppos P
 have hadd:=fun p q W (hp:Gd K P p) (hq:Gd K P q)=>rAdd_good g hP hA p q W hp hq;have hmt:∀a b p q s,Mt K P G a p→Mt K P G b q→AddZ K p q (some s)→Mt K P G (a+b) s:=fun a b p q s ha hb h=>by
  obtain⟨s',e,hs⟩:=Mt.add g hG ha hb h
  cases e
  exact hs
 have HG:Hid (Gd K P G∧Mt K P G 1 G):=⟨hG,Mt.one g hG⟩
 have HADD:Hid (∀p q W,Gd K P p→Gd K P q→Calls Tryz.prog 40 #[rcv K,rpv p,rpv q] W (AddPost (P:=P) K W p q)):=hadd;have HMT:Hid (∀a b p q s,Mt K P G a p→Mt K P G b q→AddZ K p q (some s)→Mt K P G (a+b) s):=hmt;have HGD:Hid (∀a p,Mt K P G a p→Gd K P p):=fun a p h=>h.gd hG;have HK:Hid (Rv w kv (n:Int) L):=hk;clear hadd hmt hA hP;obtain⟨kp,ka,kb,kx,ky,kn⟩:=K;obtain⟨gx,gy,gi⟩:=G;simp only at h0;unfold rcv rpv at *;simp only at HADD;obtain⟨ka0,kl,kc,kxs,rfl,hk1,hk2,hk3,hk4⟩:=hk;obtain⟨N,hN⟩:∃N,blen n=N:=⟨_,rfl⟩
 have HN:Hid (n<2^N):=by unfold Hid;rw[←hN];exact blen_lt n
 have hNb:N≤16*L:=by
  rw[←hN];refine blen_le _ _ ?_;have h1:=val_lt D16_pos hk1.dg;rw[hk3]at h1;have h2:=pow_mono (B:=D16) (by decide) (show kxs.length≤L by rw[hk1.len];exact hk4);have e:D16^L=((2^(16*L):Nat):Int):=by rw[Nat.pow_mul,Int.natCast_pow];rfl
  omega
 clear hk1 hk2 hk3 hk4;have hNi:(N:Int)≤16000:=by omega
 obtain⟨F0,b0⟩:=frD_new w #[.int .i64 kp,.int .i64 ka,.int .i64 kb,.int .i64 kx,.int .i64 ky,.int .i64 kn] (.int .i64 gx) (.int .i64 gy) (.bool gi) (.int .i64 0) (.int .i64 0) (.bool false) (.int .i64 0) (.int .i64 0) (.bool true);obtain⟨W,hW⟩:∃W,(((w.alloc (.cells #[.int .i64 kp,.int .i64 ka,.int .i64 kb,.int .i64 kx,.int .i64 ky,.int .i64 kn] 60)).alloc (.cells #[.int .i64 gx,.int .i64 gy,.bool gi] 64)).alloc (.cells #[.int .i64 0,.int .i64 0,.bool false] 64)).alloc (.cells #[.int .i64 0,.int .i64 0,.bool true] 64)=W:=⟨_,rfl⟩
 rw[hW]at F0 b0;have HF:Hid (FrM W w.heap.size #[.int .i64 kp,.int .i64 ka,.int .i64 kb,.int .i64 kx,.int .i64 ky,.int .i64 kn] (.int .i64 gx) (.int .i64 gy) (.bool gi) (.int .i64 0) (.int .i64 0) (.bool true)∧Below w.heap.size w W):=⟨FrM.of F0,b0⟩
 have HLEN:=rlen_rv (.slice ka0 kl kc) (n:Int) L W (HK.out.old b0) (by omega);rw[show((n:Int)).toNat=n by omega,hN]at HLEN;have hk0:(kp==0)=false:=by simp;omega
 have HW:Hid (_=W):=hW;clear F0 b0 hN hNb hW;go_enter Tryz.func15,Tryz.ntmps15;go_wp2_with fail
 rw[HW.out];refine HLEN.mono ?_;rintro e w1 ⟨rfl,rfl⟩;clear HLEN;have HMN:Hid (Mt ⟨kp,ka,kb,kx,ky,kn⟩ P ⟨gx,gy,gi⟩ (n/2^N) noZ):=by unfold Hid;rw[Nat.div_eq_of_lt HN.out];exact Mt.zero
 clear hG g;go_wp2;go_loopw [9] (fun vi wr=>∃(j:Nat) (z:Int) (s:Pz),j≤N∧z+1=(j:Int)∧vi=.int .i64 z∧Mt ⟨kp,ka,kb,kx,ky,kn⟩ P ⟨gx,gy,gi⟩ (n/2^j) s∧FrM wr w.heap.size #[.int .i64 kp,.int .i64 ka,.int .i64 kb,.int .i64 kx,.int .i64 ky,.int .i64 kn] (.int .i64 gx) (.int .i64 gy) (.bool gi) (.int .i64 s.x) (.int .i64 s.y) (.bool s.inf)∧Below w.heap.size w wr) (fun vi _=>(intOf vi+1).toNat)
 case atStart=>exact⟨N,(N:Int)-1,noZ,Nat.le_refl _,by omega,rfl,HMN.out,HF.out.1,HF.out.2⟩
 case round=>
  obtain⟨j,z,s,hj,hz,rfl,hm,hfr,hb⟩:=hrel;have HM:Hid (Mt ⟨kp,ka,kb,kx,ky,kn⟩ P ⟨gx,gy,gi⟩ (n/2^j) s∧FrM wr w.heap.size #[.int .i64 kp,.int .i64 ka,.int .i64 kb,.int .i64 kx,.int .i64 ky,.int .i64 kn] (.int .i64 gx) (.int .i64 gy) (.bool gi) (.int .i64 s.x) (.int .i64 s.y) (.bool s.inf)∧Below w.heap.size w wr):=⟨hm,hfr,hb⟩
  obtain⟨x0,x1,x2,x3,x4,x5⟩:=hfr.s.facts;obtain⟨r0,r1,r2,r3,r4,r5⟩:=hfr.r.facts;obtain⟨c0,c1,c2,c3,c4,c5⟩:=cells6 hfr.c;obtain⟨g0,g1,g2,-,-,-⟩:=hfr.p.facts;clear hm hfr hb;by_cases hj0:j=0
  ·subst hj0;have hz1:z = -1:=by omega
   subst hz1;clear hz hj;go_wp2;obtain⟨a1,a2⟩:=HM.out.2.1.ans HM.out.2.2 (.int .i64 s.x) (.int .i64 s.y) (.bool s.inf);refine bodyPost_ret (ret_pd rfl _ _ _ _ _ _ rfl a1) rfl ?_;have:=HM.out.1;rw[Nat.pow_zero,Nat.div_one]at this;exact⟨s,this,rfl,a2⟩
  ·obtain⟨i,rfl⟩:∃i,j=i+1:=⟨j-1,by omega⟩
   obtain rfl:z=(i:Int):=by omega
   have HA1:=HADD.out s s wr (HGD.out _ _ HM.out.1) (HGD.out _ _ HM.out.1);have hi2:(i:Int)<16000:=by omega
   have HJ:Hid (i+1≤N):=hj;clear hz hj hj0;go_wp2_with fail
   refine HA1.mono ?_;rintro e w2 ⟨s1,hz1,hg1,he,hb1⟩;unfold rpv at he;subst he;have F1:=HM.out.2.1.keep hb1;have B1:=HM.out.2.2.trans (hb1.mono HM.out.2.2.size);have HM1:Hid (Mt ⟨kp,ka,kb,kx,ky,kn⟩ P ⟨gx,gy,gi⟩ (n/2^(i+1)+n/2^(i+1)) s1):=HMT.out _ _ _ _ _ HM.out.1 HM.out.1 hz1;have F2:=F1.keep ((Below.refl _ _).alloc (Nat.le_refl _) (.cells #[.int .i64 s1.x,.int .i64 s1.y,.bool s1.inf] 64));have B2:=B1.trans (((Below.refl _ _).alloc (Nat.le_refl _) (.cells #[.int .i64 s1.x,.int .i64 s1.y,.bool s1.inf] 64)).mono B1.size);obtain⟨F3,B3⟩:=F2.next B2 (.int .i64 s1.x) (.int .i64 s1.y) (.bool s1.inf);clear x0 x1 x2 x3 x4 x5 r0 r1 r2 r3 r4 r5 c0 c1 c2 c3 c4 c5 g0 g1 g2 HM hz1 HA1;have HBIT:=rbit_rv (.slice ka0 kl kc) (n:Int) L i _ (HK.out.old B3) (by omega);obtain⟨x0,x1,x2,x3,x4,x5⟩:=F2.s.facts;clear F1 B1 F2 B2;have HF3:Hid (_∧_):=⟨F3,B3⟩
   clear F3 B3;go_wp2_with fail
   refine HBIT.mono ?_;rintro e w3 ⟨rfl,hw3⟩;rw[←hw3]at HF3;clear hw3 x0 x1 x2 x3 x4 x5 hb1 HBIT;have hbe:bitAt (n:Int) i=((n/2^i%2:Nat):Int):=by unfold bitAt;rw[Int.natCast_emod,Int.natCast_ediv,Int.natCast_pow];rfl
   have hhalf:=half_nat n (i+1) (by omega);rw[Nat.add_sub_cancel]at hhalf;rcases bitAt_01 (n:Int) i with hb0|hb0
   ·rw[hb0];have HE:Hid (n/2^i=n/2^(i+1)+n/2^(i+1)):=by unfold Hid;omega
    clear hbe hhalf hb0;go_wp2;go_roundw
    case rel=>exact⟨i,(i:Int)-1,s1,by have:=HJ.out;omega,by omega,by go_num,by rw[HE.out];exact HM1.out,HF3.out.1,HF3.out.2⟩
    case measure=>simp[intOf]
   ·rw[hb0];have HE:Hid (n/2^i=n/2^(i+1)+n/2^(i+1)+1):=by unfold Hid;omega
    clear hbe hhalf hb0;obtain⟨x0,x1,x2,x3,x4,x5⟩:=HF3.out.1.s.facts;obtain⟨c0,c1,c2,c3,c4,c5⟩:=cells6 HF3.out.1.c;obtain⟨g0,g1,g2,-,-,-⟩:=HF3.out.1.p.facts;have HA2:=HADD.out s1 ⟨gx,gy,gi⟩ w3 hg1 HG.out.1;go_wp2_with fail
    refine HA2.mono ?_;rintro e w4 ⟨s2,hz2,hg2,he,hb2⟩;unfold rpv at he;subst he;have F1:=HF3.out.1.keep hb2;have B1:=HF3.out.2.trans (hb2.mono HF3.out.2.size);have HM2:Hid (Mt ⟨kp,ka,kb,kx,ky,kn⟩ P ⟨gx,gy,gi⟩ (n/2^i) s2):=by unfold Hid;rw[HE.out];exact HMT.out _ _ _ _ _ HM1.out HG.out.2 hz2
    have F2:=F1.keep ((Below.refl _ _).alloc (Nat.le_refl _) (.cells #[.int .i64 s2.x,.int .i64 s2.y,.bool s2.inf] 64));have B2:=B1.trans (((Below.refl _ _).alloc (Nat.le_refl _) (.cells #[.int .i64 s2.x,.int .i64 s2.y,.bool s2.inf] 64)).mono B1.size);obtain⟨F3,B3⟩:=F2.next B2 (.int .i64 s2.x) (.int .i64 s2.y) (.bool s2.inf);clear x0 x1 x2 x3 x4 x5 c0 c1 c2 c3 c4 c5 g0 g1 g2 hz2 HA2;obtain⟨x0,x1,x2,x3,x4,x5⟩:=F2.s.facts;clear F1 B1 F2 B2;have HF4:Hid (_∧_):=⟨F3,B3⟩
    clear F3 B3 hb2;go_wp2;go_roundw
    case rel=>exact⟨i,(i:Int)-1,s2,by have:=HJ.out;omega,by omega,by go_num,HM2.out,HF4.out.1,HF4.out.2⟩
    case measure=>simp[intOf]
end
section
open Go.Shelf Go.RowKit
def curZ (k:Nat):Cz:=match k with
 | 0=>⟨251,1,4,7,75,271⟩
 | 1=>⟨10007,1,28,2,4582,9851⟩
 | _=>⟨65521,1,35,2,29470,65761⟩
theorem idx0(w:World):(Instr.index 49 (.agg #[.int .u64 251,.int .u64 1,.int .u64 4,.int .u64 7,.int .u64 75,.int .u64 271,.int .u64 10007,.int .u64 1,.int .u64 28,.int .u64 2,.int .u64 4582,.int .u64 9851,.int .u64 65521,.int .u64 1,.int .u64 35,.int .u64 2,.int .u64 29470,.int .u64 65761]) (.int .i64 0)).run Tryz.prog w=.ok (.agg #[.int .u64 251,.int .u64 1,.int .u64 4,.int .u64 7,.int .u64 75,.int .u64 271]) w:=by kernel_rfl
theorem idx1(w:World):(Instr.index 49 (.agg #[.int .u64 251,.int .u64 1,.int .u64 4,.int .u64 7,.int .u64 75,.int .u64 271,.int .u64 10007,.int .u64 1,.int .u64 28,.int .u64 2,.int .u64 4582,.int .u64 9851,.int .u64 65521,.int .u64 1,.int .u64 35,.int .u64 2,.int .u64 29470,.int .u64 65761]) (.int .i64 1)).run Tryz.prog w=.ok (.agg #[.int .u64 10007,.int .u64 1,.int .u64 28,.int .u64 2,.int .u64 4582,.int .u64 9851]) w:=by kernel_rfl
theorem idx2(w:World):(Instr.index 49 (.agg #[.int .u64 251,.int .u64 1,.int .u64 4,.int .u64 7,.int .u64 75,.int .u64 271,.int .u64 10007,.int .u64 1,.int .u64 28,.int .u64 2,.int .u64 4582,.int .u64 9851,.int .u64 65521,.int .u64 1,.int .u64 35,.int .u64 2,.int .u64 29470,.int .u64 65761]) (.int .i64 2)).run Tryz.prog w=.ok (.agg #[.int .u64 65521,.int .u64 1,.int .u64 35,.int .u64 2,.int .u64 29470,.int .u64 65761]) w:=by kernel_rfl
theorem idxk(k:Nat)(hk:k<3)(w:World):(Instr.index 49 (.agg #[.int .u64 251,.int .u64 1,.int .u64 4,.int .u64 7,.int .u64 75,.int .u64 271,.int .u64 10007,.int .u64 1,.int .u64 28,.int .u64 2,.int .u64 4582,.int .u64 9851,.int .u64 65521,.int .u64 1,.int .u64 35,.int .u64 2,.int .u64 29470,.int .u64 65761]) (.int .i64 (k:Int))).run Tryz.prog w=.ok (.agg #[.int .u64 (curZ k).p,.int .u64 (curZ k).a,.int .u64 (curZ k).b,.int .u64 (curZ k).gx,.int .u64 (curZ k).gy,.int .u64 (curZ k).n]) w:=by
 match k,hk with
 | 0,_=>exact idx0 w
 | 1,_=>exact idx1 w
 | 2,_=>exact idx2 w
def Nb (W:World)(v:Value)(n:Int):Prop:=∃b,v=.slice (some ⟨b,0,none⟩) 1 1∧W.heap[b]?=some (.cells #[.int .u64 n] 47 (0,0))
theorem Nb.keep{W W':World}{v:Value}{n:Int}(h:Nb W v n)(hb:Below W.heap.size W W'):Nb W' v n:=by obtain⟨b,e,h1⟩:=h;exact⟨b,e,(hb.block _ (Array.getElem?_eq_some_iff.1 h1).1).trans h1⟩
theorem Nb.grown{W W':World}{v:Value}{n:Int}(h:Nb W v n){base k:Nat}{vo:Value}{xs:List Value}(ho:W.ownsRow base 52 9 vo k xs)(hg:W.grownBy W' vo.ownBlock):Nb W' v n:=by
 obtain⟨b,e,h1⟩:=h;refine⟨b,e,(hg.block _ (Array.getElem?_eq_some_iff.1 h1).1 ?_).trans h1⟩;intro e2;rcases ho.2 with⟨rfl,_⟩|⟨g,cap,cur,rfl,_,h2,_⟩
 ·cases e2
 ·cases e2
  rw[h1]at h2;injection h2 with h2;injection h2 with _ h2;exact absurd h2 (by decide)
theorem Nb.nv{W:World}{v:Value}{n:Int}(h:Nb W v n)(h0:0≤n∧n<18446744073709551616):Nv W v n 1:=by
 obtain⟨b,rfl,h1⟩:=h;refine⟨_,1,1,[n],rfl,⟨⟨rfl,.inr ⟨b,0,rfl,(Array.getElem?_eq_some_iff.1 h1).1,fun i hi => ?_⟩⟩,Nat.le_refl _,by unfold maxLen;omega,fun h=>(by cases h),?_,by omega⟩,by simp[val],Nat.le_refl _⟩
 ·obtain rfl:i=0:=by omega
  rw[cell_of_row _ _ _ _ _ _ h1];rfl
 ·intro x hx;rw[List.mem_singleton]at hx;subst hx;exact h0
def CuN (W:World)(v:Value)(c:Cz):Prop:=∃(g1 g2:Int) (oo:Option Addr) (lo co:Nat) (vp va vb vx vy vn:Value),v=.agg #[.int .i64 g1,.int .i64 g2,.slice oo lo co,vp,va,vb,vx,vy,vn]∧Nb W vp c.p∧Nb W va c.a∧Nb W vb c.b∧Nb W vx c.gx∧Nb W vy c.gy∧Nb W vn c.n
theorem CuN.keep{W W':World}{v:Value}{c:Cz}(h:CuN W v c)(hb:Below W.heap.size W W'):CuN W' v c:=by obtain⟨g1,g2,oo,lo,co,vp,va,vb,vx,vy,vn,e,h1,h2,h3,h4,h5,h6⟩:=h;exact⟨g1,g2,oo,lo,co,vp,va,vb,vx,vy,vn,e,h1.keep hb,h2.keep hb,h3.keep hb,h4.keep hb,h5.keep hb,h6.keep hb⟩
theorem CuN.grown{W W':World}{v:Value}{c:Cz}(h:CuN W v c){base k:Nat}{vo:Value}{xs:List Value}(ho:W.ownsRow base 52 9 vo k xs)(hg:W.grownBy W' vo.ownBlock):CuN W' v c:=by obtain⟨g1,g2,oo,lo,co,vp,va,vb,vx,vy,vn,e,h1,h2,h3,h4,h5,h6⟩:=h;exact⟨g1,g2,oo,lo,co,vp,va,vb,vx,vy,vn,e,h1.grown ho hg,h2.grown ho hg,h3.grown ho hg,h4.grown ho hg,h5.grown ho hg,h6.grown ho hg⟩
def CuL (W:World)(k:Nat)(xs:List Value):Prop:=∀j,j<k→CuN W (.agg ((xs.drop (9*j)).take 9).toArray) (curZ j)
theorem CuL.push{W:World}{k:Nat}{xs:List Value}{cs:Array Value}(h:CuL W k xs)(hl:xs.length=k*9)(hc:CuN W (.agg cs) (curZ k)):CuL W (k+1) (xs++cs.toList):=by
 have hs:cs.toList.length=9:=by obtain⟨g1,g2,oo,lo,co,vp,va,vb,vx,vy,vn,e,_⟩:=hc;injection e with e;rw[e];rfl
 intro j hj;by_cases hjk:j<k
 ·rw[List.drop_append_of_le_length (by omega),List.take_append_of_le_length (by rw[List.length_drop];omega)];exact h j hjk
 ·obtain rfl:j=k:=by omega
  rw[List.drop_append,List.drop_eq_nil_of_le (by omega),List.nil_append,show 9*j-xs.length=0 by omega,List.drop_zero,List.take_of_length_le (by omega)];exact hc
theorem curInfo:∃i z,Tryz.prog.info? 52=some i∧i.zero=some z∧i.size=9∧i.bytes=184∧z.cells.size=9:=by
 have h:(Tryz.prog.info? 52).map (fun i=>(i.size,i.bytes,i.zero.map (fun z=>z.cells.size)))=some (9,184,some 9):=by kernel_rfl
 cases hi:Tryz.prog.info? 52 with
 | none=>rw[hi]at h;cases h
 | some i =>
  rw[hi]at h;simp only[Option.map_some,Option.some.injEq,Prod.mk.injEq]at h
  cases hz:i.zero with
  | none=>rw[hz]at h;simp at h
  | some z=>
   rw[hz]at h;simp at h;exact⟨i,z,rfl,hz,h.1,h.2.1,h.2.2⟩
def curF (b3 k:Nat)(vo:Value)(c:Cz):Nat→Value→World→Prop
 | 0,v,_=>v=vo
 | 1,v,W=>∃g t,v=.slice (some ⟨g,0,none⟩) 3 3∧W.heap[g]?=some (.cells #[.int .i64 (-7),.int .i64 (-35),.int .i64 (-36)] t (0,0))
 | 2,v,_=>v=.int .i64 k
 | 3,v,W=>∃g t,v=.pointer (some ⟨g,k,none⟩)∧W.heap[g]?=some (.cells #[.int .i64 (-7),.int .i64 (-35),.int .i64 (-36)] t (0,0))
 | 4,v,_=>∃z,v=.int .i64 z
 | 5,v,_=>v=.int .i64 k
 | 6,v,_=>∃z,v=.int .i64 z
 | 7,v,_=>v=.int .i64 k
 | 8,v,_=>∃z,v=.int .u64 z
 | 9,v,_=>∃oo l c,v=.slice oo l c
 | 10,v,_=>v=.pointer (some ⟨b3,0,none⟩)
 | 11,v,_=>v=.int .u64 c.p
 | 12,v,W=>Nb W v c.p
 | 13,v,_=>v=.pointer (some ⟨b3,1,none⟩)
 | 14,v,_=>v=.int .u64 c.a
 | 15,v,W=>Nb W v c.a
 | 16,v,_=>v=.pointer (some ⟨b3,2,none⟩)
 | 17,v,_=>v=.int .u64 c.b
 | 18,v,W=>Nb W v c.b
 | 19,v,_=>v=.pointer (some ⟨b3,3,none⟩)
 | 20,v,_=>v=.int .u64 c.gx
 | 21,v,W=>Nb W v c.gx
 | 22,v,_=>v=.pointer (some ⟨b3,4,none⟩)
 | 23,v,_=>v=.int .u64 c.gy
 | 24,v,W=>Nb W v c.gy
 | 25,v,_=>v=.pointer (some ⟨b3,5,none⟩)
 | 26,v,_=>v=.int .u64 c.n
 | 27,v,W=>Nb W v c.n
 | 28,v,W=>CuN W v c
 | 29,v,W=>∃g t cs,v=.slice (some ⟨g,0,none⟩) 1 1∧W.heap[g]?=some (.cells cs t (0,0))∧CuN W (.agg cs) c
 | _,_,_=>True
theorem blk_up{W W':World}{g:Nat}{o:Obj}(h:W.heap[g]?=some o)(hb:Below W.heap.size W W'):W'.heap[g]?=some o:=(hb.block _ (Array.getElem?_eq_some_iff.1 h).1).trans h
theorem curF_keep(b3 k:Nat)(vo:Value)(c:Cz)(i:Nat)(v:Value)(w w':World)(hi:i<30)(h:curF b3 k vo c i v w)(hb:Below w.heap.size w w'):curF b3 k vo c i v w':=by
 obtain rfl|rfl|rfl|rfl|rfl|rfl|rfl|rfl|rfl|rfl|rfl|rfl|rfl|rfl|rfl|rfl|rfl|rfl|rfl|rfl|rfl|rfl|rfl|rfl|rfl|rfl|rfl|rfl|rfl|rfl:i=0∨i=1∨i=2∨i=3∨i=4∨i=5∨i=6∨i=7∨i=8∨i=9∨i=10∨i=11∨i=12∨i=13∨i=14∨i=15∨i=16∨i=17∨i=18∨i=19∨i=20∨i=21∨i=22∨i=23∨i=24∨i=25∨i=26∨i=27∨i=28∨i=29:=by omega
 ·exact h
 ·obtain⟨g,t,e,h1⟩:=h;exact⟨g,t,e,blk_up h1 hb⟩
 ·exact h
 ·obtain⟨g,t,e,h1⟩:=h;exact⟨g,t,e,blk_up h1 hb⟩
 ·exact h
 ·exact h
 ·exact h
 ·exact h
 ·exact h
 ·exact h
 ·exact h
 ·exact h
 ·exact Nb.keep h hb
 ·exact h
 ·exact h
 ·exact Nb.keep h hb
 ·exact h
 ·exact h
 ·exact Nb.keep h hb
 ·exact h
 ·exact h
 ·exact Nb.keep h hb
 ·exact h
 ·exact h
 ·exact Nb.keep h hb
 ·exact h
 ·exact h
 ·exact Nb.keep h hb
 ·exact CuN.keep h hb
 ·obtain⟨g,t,cs,e,h1,h2⟩:=h;exact⟨g,t,cs,e,blk_up h1 hb,h2.keep hb⟩
def CurQ (tm:List Value)(base k:Nat)(xs:List Value)(c:Cz)(w:World)(e:Exit)(a:Act)(W:World):Prop:=e=.normal∧a.defers=[]∧a.tmps.size=45∧(∀s,s<12→s≠1→a.tmps.getD s undef=tm.getD s undef)∧a.tmps.getD 44 undef=undef∧∃g cap cs,a.tmps.getD 1 undef=.slice (some ⟨g,0,none⟩) (k+1) cap∧W.ownsRow base 52 9 (.slice (some ⟨g,0,none⟩) (k+1) cap) (k+1) (xs++cs.toList)∧(CuL W k xs∧CuN W (.agg cs) c)∧Below base w W
theorem Curves_any(w:World):
  Calls Tryz.prog 5 #[] w fun e w'=>∃v xs,e=.returned v∧w'.ownsRow w.heap.size 52 9 v 3 xs∧CuL w' 3 xs∧Below w.heap.size w w':=by
 obtain⟨ci,cz,ci1,ci2,ci3,ci4,ci5⟩:=curInfo;have HCI:Hid (_∧_∧_∧_∧_):=⟨ci1,ci2,ci3,ci4,ci5⟩
 clear ci1 ci2 ci3 ci4 ci5;go_enter Tryz.func5,Tryz.ntmps5;go_wp2_with fail
 go_loopw [1,8] (fun vo vi wr=>∃(k:Nat) (xs:List Value),k≤3∧vi=.int .i64 k∧wr.ownsRow w.heap.size 52 9 vo k xs∧CuL wr k xs∧Below w.heap.size w wr) (fun _ vi _=>3-(intOf vi).toNat)
 case atStart=>exact⟨0,[],by omega,rfl,World.ownsRow_nil _ _ _ _,fun j hj=>by omega,Below.refl _ _⟩
 case round =>
  obtain⟨k,xs,hk,rfl,hown,hcl,hb⟩:=hrel;by_cases hk3:k<3
  ·have HIk:=idxk k hk3;obtain⟨c,hc⟩:∃c,curZ k=c:=⟨_,rfl⟩
   rw[hc]at HIk;have HC:Hid (curZ k=c):=hc;have HO:Hid (wr.ownsRow w.heap.size 52 9 u1 k xs∧CuL wr k xs∧Below w.heap.size w wr):=⟨hown,hcl,hb⟩
   clear hc hown hcl hb;go_wp2_with fail
   obtain⟨W,hW⟩:∃W,(wr.alloc (.cells #[.int .u64 c.p,.int .u64 c.a,.int .u64 c.b,.int .u64 c.gx,.int .u64 c.gy,.int .u64 c.n] 48))=W:=⟨_,rfl⟩
   have HW6:Hid (W.heap[wr.heap.size]?=some (.cells #[.int .u64 c.p,.int .u64 c.a,.int .u64 c.b,.int .u64 c.gx,.int .u64 c.gy,.int .u64 c.n] 48 (0,0))∧Below wr.heap.size wr W):=by rw[←hW];exact⟨heap_alloc_new wr _,(Below.refl _ _).alloc (Nat.le_refl _) _⟩
   rw[hW];clear hW;refine wp_mono (Q:=CurQ [.slice none 0 0,u1,.int .i64 k,.pointer (some ⟨wr.heap.size,0,none⟩),.agg #[.int .u64 251,.int .u64 1,.int .u64 4,.int .u64 7,.int .u64 75,.int .u64 271],.agg #[.int .u64 10007,.int .u64 1,.int .u64 28,.int .u64 2,.int .u64 4582,.int .u64 9851],.agg #[.int .u64 65521,.int .u64 1,.int .u64 35,.int .u64 2,.int .u64 29470,.int .u64 65761],.agg #[.int .u64 251,.int .u64 1,.int .u64 4,.int .u64 7,.int .u64 75,.int .u64 271,.int .u64 10007,.int .u64 1,.int .u64 28,.int .u64 2,.int .u64 4582,.int .u64 9851,.int .u64 65521,.int .u64 1,.int .u64 35,.int .u64 2,.int .u64 29470,.int .u64 65761],.int .i64 k,.bool (decide ((k:Int)<3)),.int .i64 k,.agg #[.int .u64 c.p,.int .u64 c.a,.int .u64 c.b,.int .u64 c.gx,.int .u64 c.gy,.int .u64 c.n]] w.heap.size k xs c w) (wp_region_facts 30 6 (curF wr.heap.size k u1 c) (by kernel_rfl) (by kernel_rfl) (by kernel_rfl) (curF_keep _ _ _ _) ?step ?rest) ?_
   case step=>
    intro i o hi ho a wx hda hsz hbw hold hdeps KK hK;obtain rfl|rfl|rfl|rfl|rfl|rfl|rfl|rfl|rfl|rfl|rfl|rfl|rfl|rfl|rfl|rfl|rfl|rfl|rfl|rfl|rfl|rfl|rfl|rfl|rfl|rfl|rfl|rfl|rfl|rfl:i=0∨i=1∨i=2∨i=3∨i=4∨i=5∨i=6∨i=7∨i=8∨i=9∨i=10∨i=11∨i=12∨i=13∨i=14∨i=15∨i=16∨i=17∨i=18∨i=19∨i=20∨i=21∨i=22∨i=23∨i=24∨i=25∨i=26∨i=27∨i=28∨i=29:=by omega
    ·obtain rfl:=op_is ho rfl;have d0:a.tmps.getD 1 undef=u1:=hold 1 (by decide +kernel);clear hdeps hold hda hsz;go_simp;exact hK _ _ (Below.refl _ _) rfl
    ·obtain rfl:=op_is ho rfl;clear hdeps hold hda hsz;go_simp;exact hK _ _ ((Below.refl _ _).alloc (Nat.le_refl _) _) ⟨_,_,rfl,heap_alloc_new _ _⟩
    ·obtain rfl:=op_is ho rfl;have d0:a.tmps.getD 2 undef=.int .i64 k:=hold 2 (by decide +kernel);clear hdeps hold hda hsz;go_simp;exact hK _ _ (Below.refl _ _) rfl
    ·obtain rfl:=op_is ho rfl;have d1:curF wr.heap.size k u1 c 1 (a.tmps.getD 13 undef) wx:=hdeps 1 (by decide +kernel);have d2:curF wr.heap.size k u1 c 2 (a.tmps.getD 14 undef) wx:=hdeps 2 (by decide +kernel);clear hdeps hold hda hsz;obtain⟨g,t,e1,h1⟩:=d1;have e2:a.tmps.getD 14 undef=.int .i64 k:=d2;have hk0:(0:Int)≤k∧(k:Int)<3:=by omega
     go_simp;exact hK _ _ (Below.refl _ _) ⟨g,t,rfl,h1⟩
    ·obtain rfl:=op_is ho rfl;have d3:curF wr.heap.size k u1 c 3 (a.tmps.getD 15 undef) wx:=hdeps 3 (by decide +kernel);clear hdeps hold hda hsz;obtain⟨g,t,e1,h1⟩:=d3;obtain⟨z,hz⟩:∃z,wx.cell? ⟨g,k,none⟩=some (.int .i64 z):=by
      rw[cell_of_row _ _ _ _ _ _ h1];match k,hk3 with
      | 0,_=>exact⟨_,rfl⟩
      | 1,_=>exact⟨_,rfl⟩
      | 2,_=>exact⟨_,rfl⟩
     go_simp;exact hK _ _ (Below.refl _ _) ⟨_,rfl⟩
    ·obtain rfl:=op_is ho rfl;have d0:a.tmps.getD 2 undef=.int .i64 k:=hold 2 (by decide +kernel);clear hdeps hold hda hsz;go_simp;exact hK _ _ (Below.refl _ _) rfl
    ·obtain rfl:=op_is ho rfl;have d5:curF wr.heap.size k u1 c 5 (a.tmps.getD 17 undef) wx:=hdeps 5 (by decide +kernel);clear hdeps hold hda hsz;have e1:a.tmps.getD 17 undef=.int .i64 k:=d5;go_simp;exact hK _ _ (Below.refl _ _) ⟨_,rfl⟩
    ·obtain rfl:=op_is ho rfl;have d0:a.tmps.getD 2 undef=.int .i64 k:=hold 2 (by decide +kernel);clear hdeps hold hda hsz;go_simp;exact hK _ _ (Below.refl _ _) rfl
    ·obtain rfl:=op_is ho rfl;have d7:curF wr.heap.size k u1 c 7 (a.tmps.getD 19 undef) wx:=hdeps 7 (by decide +kernel);clear hdeps hold hda hsz;have e1:a.tmps.getD 19 undef=.int .i64 k:=d7;go_simp;exact hK _ _ (Below.refl _ _) ⟨_,rfl⟩
    ·obtain rfl:=op_is ho rfl;have d8:curF wr.heap.size k u1 c 8 (a.tmps.getD 20 undef) wx:=hdeps 8 (by decide +kernel);clear hdeps hold hda hsz;obtain⟨z,e1⟩:=d8;rw[Array.getD_eq_getD_getElem?]at e1;go_simp;exact hK _ _ ((Below.refl _ _).alloc (Nat.le_refl _) _) ⟨_,_,_,rfl⟩
    ·obtain rfl:=op_is ho rfl;have d0:a.tmps.getD 3 undef=.pointer (some ⟨wr.heap.size,0,none⟩):=hold 3 (by decide +kernel);clear hdeps hold hda hsz;go_simp;exact hK _ _ (Below.refl _ _) rfl
    ·obtain rfl:=op_is ho rfl;have d10:curF wr.heap.size k u1 c 10 (a.tmps.getD 22 undef) wx:=hdeps 10 (by decide +kernel);clear hdeps hold hda hsz;have e1:a.tmps.getD 22 undef=.pointer (some ⟨wr.heap.size,0,none⟩):=d10;have hc:wx.cell? ⟨wr.heap.size,0,none⟩=some (.int .u64 c.p):=by
      rw[cell_of_row _ _ _ _ _ _ (blk_up HW6.out.1 hbw)];rfl
     go_simp;exact hK _ _ (Below.refl _ _) rfl
    ·obtain rfl:=op_is ho rfl;have d11:curF wr.heap.size k u1 c 11 (a.tmps.getD 23 undef) wx:=hdeps 11 (by decide +kernel);clear hdeps hold hda hsz;have e1:a.tmps.getD 23 undef=.int .u64 c.p:=d11;rw[Array.getD_eq_getD_getElem?]at e1;go_simp;exact hK _ _ ((Below.refl _ _).alloc (Nat.le_refl _) _) ⟨_,rfl,heap_alloc_new _ _⟩
    ·obtain rfl:=op_is ho rfl;have d0:a.tmps.getD 3 undef=.pointer (some ⟨wr.heap.size,0,none⟩):=hold 3 (by decide +kernel);clear hdeps hold hda hsz;go_simp;exact hK _ _ (Below.refl _ _) rfl
    ·obtain rfl:=op_is ho rfl;have d13:curF wr.heap.size k u1 c 13 (a.tmps.getD 25 undef) wx:=hdeps 13 (by decide +kernel);clear hdeps hold hda hsz;have e1:a.tmps.getD 25 undef=.pointer (some ⟨wr.heap.size,1,none⟩):=d13;have hc:wx.cell? ⟨wr.heap.size,1,none⟩=some (.int .u64 c.a):=by
      rw[cell_of_row _ _ _ _ _ _ (blk_up HW6.out.1 hbw)];rfl
     go_simp;exact hK _ _ (Below.refl _ _) rfl
    ·obtain rfl:=op_is ho rfl;have d14:curF wr.heap.size k u1 c 14 (a.tmps.getD 26 undef) wx:=hdeps 14 (by decide +kernel);clear hdeps hold hda hsz;have e1:a.tmps.getD 26 undef=.int .u64 c.a:=d14;rw[Array.getD_eq_getD_getElem?]at e1;go_simp;exact hK _ _ ((Below.refl _ _).alloc (Nat.le_refl _) _) ⟨_,rfl,heap_alloc_new _ _⟩
    ·obtain rfl:=op_is ho rfl;have d0:a.tmps.getD 3 undef=.pointer (some ⟨wr.heap.size,0,none⟩):=hold 3 (by decide +kernel);clear hdeps hold hda hsz;go_simp;exact hK _ _ (Below.refl _ _) rfl
    ·obtain rfl:=op_is ho rfl;have d16:curF wr.heap.size k u1 c 16 (a.tmps.getD 28 undef) wx:=hdeps 16 (by decide +kernel);clear hdeps hold hda hsz;have e1:a.tmps.getD 28 undef=.pointer (some ⟨wr.heap.size,2,none⟩):=d16;have hc:wx.cell? ⟨wr.heap.size,2,none⟩=some (.int .u64 c.b):=by
      rw[cell_of_row _ _ _ _ _ _ (blk_up HW6.out.1 hbw)];rfl
     go_simp;exact hK _ _ (Below.refl _ _) rfl
    ·obtain rfl:=op_is ho rfl;have d17:curF wr.heap.size k u1 c 17 (a.tmps.getD 29 undef) wx:=hdeps 17 (by decide +kernel);clear hdeps hold hda hsz;have e1:a.tmps.getD 29 undef=.int .u64 c.b:=d17;rw[Array.getD_eq_getD_getElem?]at e1;go_simp;exact hK _ _ ((Below.refl _ _).alloc (Nat.le_refl _) _) ⟨_,rfl,heap_alloc_new _ _⟩
    ·obtain rfl:=op_is ho rfl;have d0:a.tmps.getD 3 undef=.pointer (some ⟨wr.heap.size,0,none⟩):=hold 3 (by decide +kernel);clear hdeps hold hda hsz;go_simp;exact hK _ _ (Below.refl _ _) rfl
    ·obtain rfl:=op_is ho rfl;have d19:curF wr.heap.size k u1 c 19 (a.tmps.getD 31 undef) wx:=hdeps 19 (by decide +kernel);clear hdeps hold hda hsz;have e1:a.tmps.getD 31 undef=.pointer (some ⟨wr.heap.size,3,none⟩):=d19;have hc:wx.cell? ⟨wr.heap.size,3,none⟩=some (.int .u64 c.gx):=by
      rw[cell_of_row _ _ _ _ _ _ (blk_up HW6.out.1 hbw)];rfl
     go_simp;exact hK _ _ (Below.refl _ _) rfl
    ·obtain rfl:=op_is ho rfl;have d20:curF wr.heap.size k u1 c 20 (a.tmps.getD 32 undef) wx:=hdeps 20 (by decide +kernel);clear hdeps hold hda hsz;have e1:a.tmps.getD 32 undef=.int .u64 c.gx:=d20;rw[Array.getD_eq_getD_getElem?]at e1;go_simp;exact hK _ _ ((Below.refl _ _).alloc (Nat.le_refl _) _) ⟨_,rfl,heap_alloc_new _ _⟩
    ·obtain rfl:=op_is ho rfl;have d0:a.tmps.getD 3 undef=.pointer (some ⟨wr.heap.size,0,none⟩):=hold 3 (by decide +kernel);clear hdeps hold hda hsz;go_simp;exact hK _ _ (Below.refl _ _) rfl
    ·obtain rfl:=op_is ho rfl;have d22:curF wr.heap.size k u1 c 22 (a.tmps.getD 34 undef) wx:=hdeps 22 (by decide +kernel);clear hdeps hold hda hsz;have e1:a.tmps.getD 34 undef=.pointer (some ⟨wr.heap.size,4,none⟩):=d22;have hc:wx.cell? ⟨wr.heap.size,4,none⟩=some (.int .u64 c.gy):=by
      rw[cell_of_row _ _ _ _ _ _ (blk_up HW6.out.1 hbw)];rfl
     go_simp;exact hK _ _ (Below.refl _ _) rfl
    ·obtain rfl:=op_is ho rfl;have d23:curF wr.heap.size k u1 c 23 (a.tmps.getD 35 undef) wx:=hdeps 23 (by decide +kernel);clear hdeps hold hda hsz;have e1:a.tmps.getD 35 undef=.int .u64 c.gy:=d23;rw[Array.getD_eq_getD_getElem?]at e1;go_simp;exact hK _ _ ((Below.refl _ _).alloc (Nat.le_refl _) _) ⟨_,rfl,heap_alloc_new _ _⟩
    ·obtain rfl:=op_is ho rfl;have d0:a.tmps.getD 3 undef=.pointer (some ⟨wr.heap.size,0,none⟩):=hold 3 (by decide +kernel);clear hdeps hold hda hsz;go_simp;exact hK _ _ (Below.refl _ _) rfl
    ·obtain rfl:=op_is ho rfl;have d25:curF wr.heap.size k u1 c 25 (a.tmps.getD 37 undef) wx:=hdeps 25 (by decide +kernel);clear hdeps hold hda hsz;have e1:a.tmps.getD 37 undef=.pointer (some ⟨wr.heap.size,5,none⟩):=d25;have hc:wx.cell? ⟨wr.heap.size,5,none⟩=some (.int .u64 c.n):=by
      rw[cell_of_row _ _ _ _ _ _ (blk_up HW6.out.1 hbw)];rfl
     go_simp;exact hK _ _ (Below.refl _ _) rfl
    ·obtain rfl:=op_is ho rfl;have d26:curF wr.heap.size k u1 c 26 (a.tmps.getD 38 undef) wx:=hdeps 26 (by decide +kernel);clear hdeps hold hda hsz;have e1:a.tmps.getD 38 undef=.int .u64 c.n:=d26;rw[Array.getD_eq_getD_getElem?]at e1;go_simp;exact hK _ _ ((Below.refl _ _).alloc (Nat.le_refl _) _) ⟨_,rfl,heap_alloc_new _ _⟩
    ·obtain rfl:=op_is ho rfl;have d4:curF wr.heap.size k u1 c 4 (a.tmps.getD 16 undef) wx:=hdeps 4 (by decide +kernel);have d6:curF wr.heap.size k u1 c 6 (a.tmps.getD 18 undef) wx:=hdeps 6 (by decide +kernel);have d9:curF wr.heap.size k u1 c 9 (a.tmps.getD 21 undef) wx:=hdeps 9 (by decide +kernel);have d12:curF wr.heap.size k u1 c 12 (a.tmps.getD 24 undef) wx:=hdeps 12 (by decide +kernel);have d15:curF wr.heap.size k u1 c 15 (a.tmps.getD 27 undef) wx:=hdeps 15 (by decide +kernel);have d18:curF wr.heap.size k u1 c 18 (a.tmps.getD 30 undef) wx:=hdeps 18 (by decide +kernel);have d21:curF wr.heap.size k u1 c 21 (a.tmps.getD 33 undef) wx:=hdeps 21 (by decide +kernel);have d24:curF wr.heap.size k u1 c 24 (a.tmps.getD 36 undef) wx:=hdeps 24 (by decide +kernel);have d27:curF wr.heap.size k u1 c 27 (a.tmps.getD 39 undef) wx:=hdeps 27 (by decide +kernel);clear hdeps hold hda hsz;obtain⟨z4,e4⟩:=d4;obtain⟨z6,e6⟩:=d6;obtain⟨oo,lo,co,e9⟩:=d9;rw[Array.getD_eq_getD_getElem?]at e4 e6 e9;obtain⟨b0,f0,x0⟩:=d12;rw[Array.getD_eq_getD_getElem?]at f0;obtain⟨b1,f1,x1⟩:=d15;rw[Array.getD_eq_getD_getElem?]at f1;obtain⟨b2,f2,x2⟩:=d18;rw[Array.getD_eq_getD_getElem?]at f2;obtain⟨b3,f3,x3⟩:=d21;rw[Array.getD_eq_getD_getElem?]at f3;obtain⟨b4,f4,x4⟩:=d24;rw[Array.getD_eq_getD_getElem?]at f4;obtain⟨b5,f5,x5⟩:=d27;rw[Array.getD_eq_getD_getElem?]at f5;go_simp;exact hK _ _ (Below.refl _ _) ⟨z4,z6,oo,lo,co,_,_,_,_,_,_,rfl,⟨b0,rfl,x0⟩,⟨b1,rfl,x1⟩,⟨b2,rfl,x2⟩,⟨b3,rfl,x3⟩,⟨b4,rfl,x4⟩,⟨b5,rfl,x5⟩⟩
    ·obtain rfl:=op_is ho rfl;have d28:curF wr.heap.size k u1 c 28 (a.tmps.getD 40 undef) wx:=hdeps 28 (by decide +kernel);clear hdeps hold hda hsz;obtain⟨g1,g2,oo,lo,co,vp,va,vb,vx,vy,vn,e1,h1,h2,h3,h4,h5,h6⟩:=d28;rw[Array.getD_eq_getD_getElem?]at e1;go_simp;exact hK _ _ ((Below.refl _ _).alloc (Nat.le_refl _) _) ⟨_,_,_,rfl,heap_alloc_new _ _,CuN.keep ⟨g1,g2,oo,lo,co,vp,va,vb,vx,vy,vn,rfl,h1,h2,h3,h4,h5,h6⟩ ((Below.refl _ _).alloc (Nat.le_refl _) _)⟩
   case rest=>
    intro listed a wx hI hall;rw[hI.list (by decide) hall];have f0:a.tmps.getD 12 undef=u1:=hI.facts 0 (by omega) (hall 0 (by omega));obtain⟨g,t,cs,e29,h29,hcu⟩:=hI.facts 29 (by omega) (hall 29 (by omega));have e29':a.tmps.getD 41 undef=.slice (some ⟨g,0,none⟩) 1 1:=e29;obtain⟨hown,hcl,hb⟩:=HO.out;obtain⟨ci1,ci2,ci3,ci4,ci5⟩:=HCI.out;have hbx:Below wr.heap.size wr wx:=HW6.out.2.trans ((Below.refl _ _).drew.trans hI.below |>.mono HW6.out.2.size);have hownx:wx.ownsRow w.heap.size 52 9 u1 k xs:=by
     refine hown.kept (row:=none) ⟨hbx.os,hbx.tape,hbx.output,hbx.size,fun j hj _=>hbx.block j hj⟩ ?_
     cases h:u1.ownBlock with
     | none=>exact .inl rfl
     | some g=>exact .inr (by simp)
    refine wpAny_ready (rs:=[30]) (by kernel_rfl) (by simp) (AllReady.cons rfl (fun K hK => ?_) AllReady.nil);have hcu2:=hcu;obtain⟨g1,g2,oo,lo,co,vp,va,vb,vx,vy,vn,e,⟨q1,rfl,_⟩,⟨q2,rfl,_⟩,⟨q3,rfl,_⟩,⟨q4,rfl,_⟩,⟨q5,rfl,_⟩,⟨q6,rfl,_⟩⟩:=hcu2;injection e with e;have hlen:cs.toList.length=1*9:=by rw[e];rfl
    have hone:∀u∈cs.toList,u.oneCell'=true:=by rw[e];simp[Value.oneCell']
    have hbase:w.heap.size≤wx.heap.size:=Nat.le_trans hb.size hbx.size;refine step_append_lies wx rfl (.tmp 12) (.tmp 41) 35 rfl w.heap.size 52 ci cz 9 184 Tryz.underlying35 ci1 ci2 ci3 ci4 ci5 (by decide) u1 k xs f0 hownx ⟨g,0,none⟩ 1 1 cs.toList e29' hlen (World.news_of_block h29) hone (by decide) (by unfold maxLen;omega) (by omega) hbase _ rfl ?_;intro g' cap w' ho hg hat hlt;refine hK _ _ ?_;clear hK K;refine wpAny_ready (rs:=[31]) (by kernel_rfl) (by simp) (AllReady.cons rfl (fun K hK => ?_) AllReady.nil);rw[if_pos (by rfl)];obtain⟨a2,ha2⟩:∃a2,a.put (some 42) (.slice (some ⟨g',0,none⟩) (k+1) cap)=a2:=⟨_,rfl⟩
    have hsz:a.tmps.size=45:=hI.slots;have e42:a2.tmps.getD 42 undef=.slice (some ⟨g',0,none⟩) (k+1) cap:=by rw[←ha2];exact put_self _ _ _ (by rw[hsz];decide)
    show Oper.wp _ _ (a.put (some 42) (.slice (some ⟨g',0,none⟩) (k+1) cap)) _ _ _;rw[ha2];have HD:Hid (a2.defers=[]∧a2.tmps.size=45∧(∀s,s<12→s≠1→a2.tmps.getD s undef=[.slice none 0 0,u1,.int .i64 k,.pointer (some ⟨wr.heap.size,0,none⟩),.agg #[.int .u64 251,.int .u64 1,.int .u64 4,.int .u64 7,.int .u64 75,.int .u64 271],.agg #[.int .u64 10007,.int .u64 1,.int .u64 28,.int .u64 2,.int .u64 4582,.int .u64 9851],.agg #[.int .u64 65521,.int .u64 1,.int .u64 35,.int .u64 2,.int .u64 29470,.int .u64 65761],.agg #[.int .u64 251,.int .u64 1,.int .u64 4,.int .u64 7,.int .u64 75,.int .u64 271,.int .u64 10007,.int .u64 1,.int .u64 28,.int .u64 2,.int .u64 4582,.int .u64 9851,.int .u64 65521,.int .u64 1,.int .u64 35,.int .u64 2,.int .u64 29470,.int .u64 65761],.int .i64 k,.bool (decide ((k:Int)<3)),.int .i64 k,.agg #[.int .u64 c.p,.int .u64 c.a,.int .u64 c.b,.int .u64 c.gx,.int .u64 c.gy,.int .u64 c.n]].getD s undef)∧a2.tmps.getD 44 undef=undef):=by
     rw[←ha2];refine⟨hI.defers,by simp[Act.put,hsz],fun s hs hs1 => ?_,(put_get _ _ _ _ (by decide)).trans (hI.old 44 (by decide +kernel))⟩;rw[put_get _ _ _ _ (by omega)];match s,hs with
     | 0,_=>exact hI.old 0 (by decide +kernel)
     | 1,_=>exact absurd rfl hs1
     | 2,_=>exact hI.old 2 (by decide +kernel)
     | 3,_=>exact hI.old 3 (by decide +kernel)
     | 4,_=>exact hI.old 4 (by decide +kernel)
     | 5,_=>exact hI.old 5 (by decide +kernel)
     | 6,_=>exact hI.old 6 (by decide +kernel)
     | 7,_=>exact hI.old 7 (by decide +kernel)
     | 8,_=>exact hI.old 8 (by decide +kernel)
     | 9,_=>exact hI.old 9 (by decide +kernel)
     | 10,_=>exact hI.old 10 (by decide +kernel)
     | 11,_=>exact hI.old 11 (by decide +kernel)
    clear ha2;go_simp;refine hK _ _ (wpAny_done (by kernel_rfl) ?_ _);obtain⟨d1,d2,d3,d4⟩:=HD.out;refine⟨rfl,d1,by simp[d2],fun s hs hs1 => ?_,(put_get a2 1 44 _ (by decide)).trans d4,g',cap,cs,?_,ho,⟨fun j hj => ?_,?_⟩,?_⟩
    ·rw[←d3 s hs hs1];exact put_get a2 1 s _ (fun h=>hs1 h.symm)
    ·exact put_self a2 1 _ (by rw[d2];decide)
    ·exact((hcl j hj).keep hbx).grown hownx hg
    ·exact hcu.grown hownx hg
    ·have h1:=hb.trans (hbx.mono hb.size);refine⟨hg.os.trans h1.os,hg.tape.trans h1.tape,hg.output.trans h1.output,Nat.le_trans h1.size hg.size,fun j hj=>(hg.block j (by have:=h1.size;omega) ?_).trans (h1.block j hj)⟩;intro e;have:=(hownx.lt j e.symm).1;omega
   rintro e ⟨tm,df⟩ W' ⟨rfl,hd,hsz,hsl,h44,g,cap,cs,h1,ho,⟨hcl,hcu⟩,hb'⟩;have hd':df=[]:=hd;subst hd';have e2:tm=#[tm.getD 0 undef,tm.getD 1 undef,tm.getD 2 undef,tm.getD 3 undef,tm.getD 4 undef,tm.getD 5 undef,tm.getD 6 undef,tm.getD 7 undef,tm.getD 8 undef,tm.getD 9 undef,tm.getD 10 undef,tm.getD 11 undef,tm.getD 12 undef,tm.getD 13 undef,tm.getD 14 undef,tm.getD 15 undef,tm.getD 16 undef,tm.getD 17 undef,tm.getD 18 undef,tm.getD 19 undef,tm.getD 20 undef,tm.getD 21 undef,tm.getD 22 undef,tm.getD 23 undef,tm.getD 24 undef,tm.getD 25 undef,tm.getD 26 undef,tm.getD 27 undef,tm.getD 28 undef,tm.getD 29 undef,tm.getD 30 undef,tm.getD 31 undef,tm.getD 32 undef,tm.getD 33 undef,tm.getD 34 undef,tm.getD 35 undef,tm.getD 36 undef,tm.getD 37 undef,tm.getD 38 undef,tm.getD 39 undef,tm.getD 40 undef,tm.getD 41 undef,tm.getD 42 undef,tm.getD 43 undef,tm.getD 44 undef]:=arr_of tm 45 hsz;have s0:tm.getD 0 undef=.slice none 0 0:=hsl 0 (by decide) (by decide);have h1':tm.getD 1 undef=.slice (some ⟨g,0,none⟩) (k+1) cap:=h1;have s2:tm.getD 2 undef=.int .i64 k:=hsl 2 (by decide) (by decide);have s3:tm.getD 3 undef=.pointer (some ⟨wr.heap.size,0,none⟩):=hsl 3 (by decide) (by decide);have s4:tm.getD 4 undef=.agg #[.int .u64 251,.int .u64 1,.int .u64 4,.int .u64 7,.int .u64 75,.int .u64 271]:=hsl 4 (by decide) (by decide);have s5:tm.getD 5 undef=.agg #[.int .u64 10007,.int .u64 1,.int .u64 28,.int .u64 2,.int .u64 4582,.int .u64 9851]:=hsl 5 (by decide) (by decide);have s6:tm.getD 6 undef=.agg #[.int .u64 65521,.int .u64 1,.int .u64 35,.int .u64 2,.int .u64 29470,.int .u64 65761]:=hsl 6 (by decide) (by decide);have s7:tm.getD 7 undef=.agg #[.int .u64 251,.int .u64 1,.int .u64 4,.int .u64 7,.int .u64 75,.int .u64 271,.int .u64 10007,.int .u64 1,.int .u64 28,.int .u64 2,.int .u64 4582,.int .u64 9851,.int .u64 65521,.int .u64 1,.int .u64 35,.int .u64 2,.int .u64 29470,.int .u64 65761]:=hsl 7 (by decide) (by decide);have s8:tm.getD 8 undef=.int .i64 k:=hsl 8 (by decide) (by decide);have s9:tm.getD 9 undef=.bool (decide ((k:Int)<3)):=hsl 9 (by decide) (by decide);have s10:tm.getD 10 undef=.int .i64 k:=hsl 10 (by decide) (by decide);have s11:tm.getD 11 undef=.agg #[.int .u64 c.p,.int .u64 c.a,.int .u64 c.b,.int .u64 c.gx,.int .u64 c.gy,.int .u64 c.n]:=hsl 11 (by decide) (by decide);have s44:tm.getD 44 undef=undef:=h44;simp only[s0,s2,s3,s4,s5,s6,s7,s8,s9,s10,s11,h1',s44]at e2;generalize tm.getD 12 undef=x12 at e2;generalize tm.getD 13 undef=x13 at e2;generalize tm.getD 14 undef=x14 at e2;generalize tm.getD 15 undef=x15 at e2;generalize tm.getD 16 undef=x16 at e2;generalize tm.getD 17 undef=x17 at e2;generalize tm.getD 18 undef=x18 at e2;generalize tm.getD 19 undef=x19 at e2;generalize tm.getD 20 undef=x20 at e2;generalize tm.getD 21 undef=x21 at e2;generalize tm.getD 22 undef=x22 at e2;generalize tm.getD 23 undef=x23 at e2;generalize tm.getD 24 undef=x24 at e2;generalize tm.getD 25 undef=x25 at e2;generalize tm.getD 26 undef=x26 at e2;generalize tm.getD 27 undef=x27 at e2;generalize tm.getD 28 undef=x28 at e2;generalize tm.getD 29 undef=x29 at e2;generalize tm.getD 30 undef=x30 at e2;generalize tm.getD 31 undef=x31 at e2;generalize tm.getD 32 undef=x32 at e2;generalize tm.getD 33 undef=x33 at e2;generalize tm.getD 34 undef=x34 at e2;generalize tm.getD 35 undef=x35 at e2;generalize tm.getD 36 undef=x36 at e2;generalize tm.getD 37 undef=x37 at e2;generalize tm.getD 38 undef=x38 at e2;generalize tm.getD 39 undef=x39 at e2;generalize tm.getD 40 undef=x40 at e2;generalize tm.getD 41 undef=x41 at e2;generalize tm.getD 42 undef=x42 at e2;generalize tm.getD 43 undef=x43 at e2;rw[e2];have HX:Hid (W'.ownsRow w.heap.size 52 9 (.slice (some ⟨g,0,none⟩) (k+1) cap) (k+1) (xs++cs.toList)∧CuL W' (k+1) (xs++cs.toList)∧Below w.heap.size w W'):=⟨ho,CuL.push hcl HO.out.1.1 (by rw[HC.out];exact hcu),hb'⟩
   clear e2 hd hsz hsl h44 s44 h1 h1' ho hcl hcu hb' HO HW6 HIk s0 s2 s3 s4 s5 s6 s7 s8 s9 s10 s11;go_wp2;go_roundw
   case rel=>exact⟨k+1,_,by omega,by go_num,HX.out⟩
   case measure=>simp[intOf];omega
  ·obtain rfl:k=3:=by omega
   have HX:Hid (_∧_∧_):=⟨hown,hcl,hb⟩
   obtain⟨g,cap,rfl,_,_⟩:=hown.form (by decide);clear hown hcl hb;go_wp2;go_ret;exact⟨_,xs,rfl,HX.out⟩
theorem curZ_lim(j:Nat):(0≤(curZ j).p∧(curZ j).p<18446744073709551616)∧(0≤(curZ j).a∧(curZ j).a<18446744073709551616)∧(0≤(curZ j).b∧(curZ j).b<18446744073709551616)∧(0≤(curZ j).gx∧(curZ j).gx<18446744073709551616)∧(0≤(curZ j).gy∧(curZ j).gy<18446744073709551616)∧(0≤(curZ j).n∧(curZ j).n<18446744073709551616):=by unfold curZ;split<;>decide
theorem CuN.cu{W:World}{v:Value}{j:Nat}(h:CuN W v (curZ j)):Cu W v (curZ j) 1:=by obtain⟨g1,g2,oo,lo,co,vp,va,vb,vx,vy,vn,e,h1,h2,h3,h4,h5,h6⟩:=h;obtain⟨l1,l2,l3,l4,l5,l6⟩:=curZ_lim j;exact⟨g1,g2,oo,lo,co,vp,va,vb,vx,vy,vn,e,h1.nv l1,h2.nv l2,h3.nv l3,h4.nv l4,h5.nv l5,h6.nv l6⟩
structure CuAt(W:World)(g o:Nat)(g1 g2:Int)(oo:Option Addr)(lo co:Nat)(b0 b1 b2 b3 b4 b5:Nat):Prop where
 c0:W.cell? ⟨g,o,none⟩=some (.int .i64 g1)
 c1:W.cell? ⟨g,o+1,none⟩=some (.int .i64 g2)
 c2:W.cell? ⟨g,o+2,none⟩=some (.slice oo lo co)
 c3:W.cell? ⟨g,o+3,none⟩=some (.slice (some ⟨b0,0,none⟩) 1 1)
 c4:W.cell? ⟨g,o+4,none⟩=some (.slice (some ⟨b1,0,none⟩) 1 1)
 c5:W.cell? ⟨g,o+5,none⟩=some (.slice (some ⟨b2,0,none⟩) 1 1)
 c6:W.cell? ⟨g,o+6,none⟩=some (.slice (some ⟨b3,0,none⟩) 1 1)
 c7:W.cell? ⟨g,o+7,none⟩=some (.slice (some ⟨b4,0,none⟩) 1 1)
 c8:W.cell? ⟨g,o+8,none⟩=some (.slice (some ⟨b5,0,none⟩) 1 1)
abbrev curV(g1 g2:Int)(oo:Option Addr)(lo co:Nat)(b0 b1 b2 b3 b4 b5:Nat):Value:=.agg #[.int .i64 g1,.int .i64 g2,.slice oo lo co,.slice (some ⟨b0,0,none⟩) 1 1,.slice (some ⟨b1,0,none⟩) 1 1,.slice (some ⟨b2,0,none⟩) 1 1,.slice (some ⟨b3,0,none⟩) 1 1,.slice (some ⟨b4,0,none⟩) 1 1,.slice (some ⟨b5,0,none⟩) 1 1]
theorem cur_at{W:World}{base:Nat}{v:Value}{xs:List Value}(ho:W.ownsRow base 52 9 v 3 xs)(hl:CuL W 3 xs):∃g cap,v=.slice (some ⟨g,0,none⟩) 3 cap∧3≤cap∧cap≤maxLen∧∀j,j<3→∃g1 g2 oo lo co b0 b1 b2 b3 b4 b5,CuAt W g (9*j) g1 g2 oo lo co b0 b1 b2 b3 b4 b5∧Cu W (curV g1 g2 oo lo co b0 b1 b2 b3 b4 b5) (curZ j) 1:=by
 obtain⟨g,cap,rfl,hb,hlt⟩:=ho.form (by decide);have hcap:3≤cap∧cap≤maxLen:=by
  rcases ho.2 with⟨h,_⟩|⟨g',cap',cur,h,_,_,h1,h2,_⟩
  ·cases h
  ·cases h;exact⟨h1,h2⟩
 refine⟨g,cap,rfl,hcap.1,hcap.2,fun j hj => ?_⟩;have h:=hl j hj;have hcu:=h.cu;obtain⟨g1,g2,oo,lo,co,vp,va,vb,vx,vy,vn,e,⟨b0,rfl,_⟩,⟨b1,rfl,_⟩,⟨b2,rfl,_⟩,⟨b3,rfl,_⟩,⟨b4,rfl,_⟩,⟨b5,rfl,_⟩⟩:=h;rw[e]at hcu;refine⟨g1,g2,oo,lo,co,b0,b1,b2,b3,b4,b5,?_,hcu⟩;injection e with e;have e2:(xs.drop (9*j)).take 9=[.int .i64 g1,.int .i64 g2,.slice oo lo co,.slice (some ⟨b0,0,none⟩) 1 1,.slice (some ⟨b1,0,none⟩) 1 1,.slice (some ⟨b2,0,none⟩) 1 1,.slice (some ⟨b3,0,none⟩) 1 1,.slice (some ⟨b4,0,none⟩) 1 1,.slice (some ⟨b5,0,none⟩) 1 1]:=congrArg Array.toList e;have hc:∀i,i<9→W.cell? ⟨g,9*j+i,none⟩=((xs.drop (9*j)).take 9)[i]?:=fun i hi=>by rw[ho.cellAt (9*j+i) (by omega),List.getElem?_take,if_pos hi,List.getElem?_drop]
 rw[e2]at hc;exact⟨hc 0 (by decide),hc 1 (by decide),hc 2 (by decide),hc 3 (by decide),hc 4 (by decide),hc 5 (by decide),hc 6 (by decide),hc 7 (by decide),hc 8 (by decide)⟩
theorem CuAt.keep{W W':World}{g o:Nat}{g1 g2:Int}{oo:Option Addr}{lo co b0 b1 b2 b3 b4 b5:Nat}(h:CuAt W g o g1 g2 oo lo co b0 b1 b2 b3 b4 b5)(hb:Below W.heap.size W W'):CuAt W' g o g1 g2 oo lo co b0 b1 b2 b3 b4 b5:=by have hk:∀(i:Nat) (x:Value),W.cell? ⟨g,i,none⟩=some x→W'.cell? ⟨g,i,none⟩=some x:=fun i x hx=>(hb.cell (p:=⟨g,i,none⟩) (World.block_lt_of_cell? W _ hx)).trans hx;exact⟨hk _ _ h.c0,hk _ _ h.c1,hk _ _ h.c2,hk _ _ h.c3,hk _ _ h.c4,hk _ _ h.c5,hk _ _ h.c6,hk _ _ h.c7,hk _ _ h.c8⟩
def digZ (N:Int)(n:Nat)(bs:List Int):Int:=val 256 (bs.take (min n ((blen N.toNat+7)/8))).reverse/2^(8*min n ((blen N.toNat+7)/8)-blen N.toNat)
theorem digZ_eq(N:Int)(n:Nat)(bs:List Int)(hn:bs.length=n)(hd:Dg 256 bs):digZ N n bs=val 256 bs.reverse/2^(8*n-blen N.toNat):=by
 unfold digZ;generalize blen N.toNat=L;by_cases h:n≤(L+7)/8
 ·rw[Nat.min_eq_left h,List.take_of_length_le (by omega)]
 ·rw[Nat.min_eq_right (by omega)];obtain⟨m,hm⟩:∃m,(L+7)/8=m:=⟨_,rfl⟩
  rw[hm];have e:bs.reverse=(bs.drop m).reverse++(bs.take m).reverse:=by rw[←List.reverse_append,List.take_append_drop]
  rw[e,val_append];have hdd:Dg 256 (bs.drop m).reverse:=fun x hx=>hd x (List.mem_of_mem_drop (List.mem_reverse.1 hx));have h0:=val_nonneg (by decide:(0:Int)<256) hdd;have h1:=val_lt (by decide:(0:Int)<256) hdd;have hl:(bs.drop m).reverse.length=n-m:=by simp[hn]
  rw[hl]at h1 ⊢;have e2:(2:Int)^(8*n-L)=256^(n-m)*2^(8*m-L):=by
   rw[show(256:Int)=2^8 by decide,←Int.pow_mul,←Int.pow_add];congr 1
   omega
  rw[e2,←Int.ediv_ediv_of_nonneg (Int.le_of_lt (Int.pow_pos (by decide)))];congr 1
  rw[Int.add_mul_ediv_left _ _ (Int.ne_of_gt (Int.pow_pos (by decide))),Int.ediv_eq_zero_of_lt h0 h1,Int.zero_add]
theorem Digest_any(c:Value)(K:Cz)(L:Nat)(ao:Option Addr)(n ca:Nat)(bs:List Int)(w:World)(hc:Cu w c K L)(hL:L≤100)(h:NumIn .u8 256 w ao n ca bs)(hn:n≤512):
  Calls Tryz.prog 86 #[c,.slice ao n ca] w fun e w'=>∃v,e=.returned v∧NumOut .u64 B64 w w' v (digZ K.n n bs) 64:=by
 obtain⟨g1,g2,oo,lo,co,vp,va,vb,vx,vy,vn,rfl,c1,c2,c3,c4,c5,c6⟩:=hc;obtain⟨a1,a2,a3,a4,rfl,a5⟩:=c1;obtain⟨b1,b2,b3,b4,rfl,b5⟩:=c2;obtain⟨d1,d2,d3,d4,rfl,d5⟩:=c3;obtain⟨e1,e2,e3,e4,rfl,e5⟩:=c4;obtain⟨f1,f2,f3,f4,rfl,f5⟩:=c5;obtain⟨j1,j2,j3,j4,rfl,j5⟩:=c6;have b0:=(Below.refl w.heap.size w).alloc (Nat.le_refl _) (.cells #[.int .i64 g1,.int .i64 g2,.slice oo lo co,.slice a1 a2 a3,.slice b1 b2 b3,.slice d1 d2 d3,.slice e1 e2 e3,.slice f1 f2 f3,.slice j1 j2 j3] 52);have HL:=Len_any j1 j2 j3 j4 _ (j5.1.old b0);have hbl:lenOf j4≤64000:=lenOf_le j5.1.dg 1000 (by have:=j5.1.len;have:=j5.2.2;omega);rw[lenOf_eq j4 j5.1.dg,j5.2.1]at HL hbl;obtain⟨N,hN⟩:∃N,blen K.n.toNat=N:=⟨_,rfl⟩
 rw[hN]at HL hbl;have hlc:=h.lc;have hcm:=h.cm;unfold maxLen at hcm;obtain⟨m,hm⟩:∃m,min n ((N+7)/8)=m:=⟨_,rfl⟩
 have hm1:m≤n∧m≤(N+7)/8:=by omega
 have HR:=fun W (hW:Below w.heap.size w W)=>Read_yes ao m ca (bs.take m) W ((h.old hW).take m hm1.1) (by omega);have hmin:(min (n:Int) (((N:Int)+7)/8)).toNat=m:=by omega
 have hmi2:min (n:Int) (((N:Int)+7)/8)=m:=by omega
 have HM:Hid (min n ((N+7)/8)=m):=hm;clear hm;go_enter Tryz.func86,Tryz.ntmps86;go_wp2_with (go_at_call 69;refine HL.mono ?_;rintro e w1 ⟨rfl,rfl⟩)
 go_at_call 44;refine(HR _ b0).mono ?_;rintro e w2 ⟨v,rfl,p1,p2,p3,p4,rfl,hp,_,hv,hpl,hb2⟩;have B2:=b0.trans (hb2.mono b0.size);have HSH:=Shift_plus p1 p2 p3 p4 (8*m-N) (max 0 (8*(m:Int)-N)) w2 hp (by omega) (by omega);clear HL;go_wp2_with fail
 go_at_call 111;refine HSH.mono ?_;rintro e w3 ⟨v3,rfl,r1,r2,r3,r4,rfl,hr,hcan,hrv,hrl,hb3⟩;go_wp2;go_ret;refine⟨_,rfl,r1,r2,r3,r4,rfl,hr,hcan,?_,by omega,B2.trans (hb3.mono B2.size)⟩;rw[hrv,hv,←hN];unfold digZ;rw[hN,HM.out]
end
section
open Go.RowKit Go.Shelf
theorem div2_step(V:Int)(h0:0≤V)(p:Nat):V/2^p=2*(V/2^(p+1))+bitAt V p:=half_step V p
theorem getD_rev(bs:List Int)(n k:Nat)(hl:bs.length=n)(hk:k<n):bs.reverse.getD (n-1-k) 0=bs.getD k 0:=by
 simp only[List.getD_eq_getElem?_getD];rw[List.getElem?_reverse (by omega)];congr 2
 omega
theorem bit_byte(bs:List Int)(n i:Nat)(hl:bs.length=n)(hd:Dg 256 bs)(hi:i<8*n):bs.getD (i/8) 0/2^(7-i%8)%2=bitAt (val 256 bs.reverse) (8*n-1-i):=by have h:=bit_of_digit (B:=256) (m:=8) rfl (by decide) bs.reverse (fun x hx=>hd x (List.mem_reverse.1 hx)) (8*n-1-i);rw[←h,show(8*n-1-i)/8=n-1-i/8 by omega,show(8*n-1-i)%8=7-i%8 by omega,getD_rev bs n (i/8) hl (by omega)]
theorem rDigest_any(K:Cz)(ao:Option Addr)(n ca:Nat)(bs:List Int)(w:World)(h:NumIn .u8 256 w ao n ca bs)(hn:n≤1000)(hK:S31 K.n):
  Calls Tryz.prog 63 #[rcv K,.slice ao n ca] w fun e w'=>e=.returned (.int .i64 (digZ K.n n bs))∧Below w.heap.size w w':=by
 have hl:=h.len;obtain⟨V,hV⟩:∃V,val 256 bs.reverse=V:=⟨_,rfl⟩
 have hV0:0≤V:=by rw[←hV];exact val_nonneg (by decide) (fun x hx=>h.dg x (List.mem_reverse.1 hx))
 have hVl:V<2^(8*n):=by have:=val_lt (B:=256) (by decide) (xs:=bs.reverse) (fun x hx=>h.dg x (List.mem_reverse.1 hx));rw[hV,List.length_reverse,hl]at this;rw[Int.pow_mul];exact this
 rw[digZ_eq K.n n bs hl h.dg,hV];obtain⟨N,hN⟩:∃N,blen K.n.toNat=N:=⟨_,rfl⟩
 rw[hN];obtain⟨kp,ka,kb,kx,ky,kn⟩:=K;unfold rcv;simp only at hK hN ⊢;have hN31:N≤31:=by rw[←hN];exact blen_le _ _ (by have:=hK.2;have:=hK.1;omega)
 have b0:=(Below.refl w.heap.size w).alloc (Nat.le_refl _) (.cells #[.int .i64 kp,.int .i64 ka,.int .i64 kb,.int .i64 kx,.int .i64 ky,.int .i64 kn] 60);have h1:=h.old b0;obtain⟨W,hW⟩:∃W,w.alloc (.cells #[.int .i64 kp,.int .i64 ka,.int .i64 kb,.int .i64 kx,.int .i64 ky,.int .i64 kn] 60)=W:=⟨_,rfl⟩
 rw[hW]at h1 b0;have HH:Hid (NumIn .u8 256 W ao n ca bs∧Below w.heap.size w W):=⟨h1,b0⟩
 have HW:Hid (_=W):=hW;have HVV:Hid (val 256 bs.reverse=V∧V<2^(8*n)∧0≤V):=⟨hV,hVl,hV0⟩
 have HB:Hid (bs.length=n∧Dg 256 bs):=⟨hl,h.dg⟩
 have HNN:Hid (blen kn.toNat=N):=hN;have hkn0:=hK.1;have hkn1:=hK.2;clear hV hVl hV0 h1 b0 hW hN hl h hK;go_enter Tryz.func63,Tryz.ntmps63;go_wp2_with fail
 rw[HW.out];go_loopw [6,7] (fun vb vn wr=>∃(c:Nat) (m:Int),vb=.int .i64 (c:Int)∧vn=.int .i64 m∧0≤m∧m≤kn∧c+blen m.toNat=N∧wr=W) (fun _ vn _=>(intOf vn).toNat)
 case atStart=>exact⟨0,kn,rfl,rfl,hkn0,Int.le_refl _,by rw[HNN.out];omega,rfl⟩
 case round =>
  obtain⟨c,m,rfl,rfl,hm0,hm1,hc,hwr⟩:=hrel;subst hwr;generalize wr=wr0 at *;by_cases hz:m=0
  ·subst hz;have hcN:c=N:=by rw[←hc];rfl
   subst hcN;clear hm0 hm1 hc;go_wp2;go_loopw [5,8] (fun vz vi ws=>∃(i:Nat),i≤8*n∧i≤c∧vi=.int .i64 (i:Int)∧vz=.int .i64 (V/2^(8*n-i))∧Below wr0.heap.size wr0 ws) (fun _ vi _=>8*n-(intOf vi).toNat)
   case atStart=>exact⟨0,by omega,by omega,rfl,by rw[Nat.sub_zero,Int.ediv_eq_zero_of_lt HVV.out.2.2 HVV.out.2.1],Below.refl _ _⟩
   case round=>
    obtain⟨i,hi,hic,rfl,rfl,hb⟩:=hrel;have HBB:Hid (Below w.heap.size w wr):=HH.out.2.trans (hb.mono HH.out.2.size);have HR:Hid (Below wr0.heap.size wr0 wr):=hb;have HI:=HH.out.1.old hb;have hz0:0≤V/2^(8*n-i):=Int.ediv_nonneg HVV.out.2.2 (Int.le_of_lt (Int.pow_pos (by decide)));have hz1:V/2^(8*n-i)<2147483648:=by
     have h1:V/2^(8*n-i)<2^i:=by refine Int.ediv_lt_of_lt_mul (Int.pow_pos (by decide)) ?_;rw[←Int.pow_add,show i+(8*n-i)=8*n by omega];exact HVV.out.2.1
     have h2:=pow_mono (B:=(2:Int)) (by decide) (show i≤31 by omega);have h3:(2:Int)^31=2147483648:=by decide
     omega
    obtain⟨Z,hZ⟩:∃Z,V/2^(8*n-i)=Z:=⟨_,rfl⟩
    rw[hZ]at hz0 hz1 ⊢;by_cases q1:i<8*n
    ·by_cases q2:i<c
     ·have hbit:=bit_byte bs n i HB.out.1 HB.out.2 q1;rw[HVV.out.1]at hbit;have hst:=div2_step V HVV.out.2.2 (8*n-1-i);rw[show 8*n-1-i+1=8*n-i by omega,hZ,←hbit]at hst;obtain⟨b,off,rfl,hblk,hcs⟩:=HI.lies.at (by omega);have hcell:=hcs (i/8) (by omega);have hx:=HI.dg.getD (by decide) (i/8);obtain⟨q,hq⟩:∃q,i/8=q:=⟨_,rfl⟩
      obtain⟨r,hr⟩:∃r,7-i%8=r:=⟨_,rfl⟩
      rw[hq,hr]at hst;rw[hq]at hcell hx;obtain⟨x,hxx⟩:∃x,bs.getD q 0=x:=⟨_,rfl⟩
      rw[hxx]at hst hcell hx;have hqI:(i:Int)/8=(q:Int):=by omega
      have hrI:7-(i:Int)%8=(r:Int):=by omega
      have hr8:r<8:=by omega
      have hqn:q<n:=by omega
      have x0:=hx.1;have x1:x<256:=hx.2;have hy0:0≤x/2^r:=Int.ediv_nonneg x0 (Int.le_of_lt (Int.pow_pos (by decide)));have hy1:x/2^r≤x:=Int.ediv_le_self _ x0;obtain⟨y,hy⟩:∃y,x/2^r=y:=⟨_,rfl⟩
      rw[hy]at hst hy0 hy1;have wy:IntKind.u8.wrap y=y:=by simp[IntKind.wrap,IntKind.bits,IntKind.signed];omega
      have HE:Hid (2*Z+y%2=V/2^(8*n-(i+1))):=by unfold Hid;rw[show 8*n-(i+1)=8*n-1-i by omega];exact hst.symm
      have hin:(i:Int)<8*(n:Int):=by omega
      have hic2:(i:Int)<(c:Int):=by omega
      have HII:Hid (i<8*n∧i<c):=⟨q1,q2⟩
      clear hst hcs hx hxx hZ hq hr hbit HI hi hic hb q1 q2;have hZ2:IntKind.i64.wrap (2*Z)=2*Z:=IntWalk.i64_in _ (by omega);have hym:(y:Int).tmod 2=y%2:=Int.tmod_eq_emod_of_nonneg hy0;have hqi:(q:Int)<(n:Int):=by omega
      have hi2:(i:Int)<100:=by omega
      go_wp2;go_roundw
      case rel=>exact⟨i+1,by have:=HII.out;omega,by have:=HII.out;omega,by go_num,by rw[←HE.out],HR.out⟩
      case measure=>simp[intOf];have:=HII.out;omega
     ·have hE:Hid (8*n-i=8*n-c):=by unfold Hid;omega
      have hin:(i:Int)<8*(n:Int):=by omega
      have hic2:¬(i:Int)<(c:Int):=by omega
      have HZ:Hid (V/2^(8*n-i)=Z):=hZ;clear hZ hi hic hb q1 q2 HI;go_wp2;go_ret;exact⟨by rw[←hE.out,HZ.out];rfl,HBB.out⟩
    ·have hE:Hid (8*n-i=8*n-c):=by unfold Hid;omega
     have hin:¬(i:Int)<8*(n:Int):=by omega
     have HZ:Hid (V/2^(8*n-i)=Z):=hZ;clear hZ hi hic hb q1 HI;go_wp2;go_ret;exact⟨by rw[←hE.out,HZ.out];rfl,HBB.out⟩
  ·have hb:=blen_half m.toNat (by omega);have e1:(m/2).toNat=m.toNat/2:=by omega
   rw[←e1]at hb;have HE:Hid (c+1+blen (m/2).toNat=N):=by unfold Hid;omega
   have hcs:(c:Int)<100:=by omega
   clear hb e1 hc;go_wp2;go_roundw
   case rel=>exact⟨c+1,m/2,by go_num,by go_num,by omega,by omega,HE.out,trivial⟩
   case measure=>simp[intOf];omega
end
section
open Go.Shelf Go.RowKit
theorem low_leP{xs:List Int}(hd:Dg B64 xs):∀(d k:Nat),low B64 xs k≤low B64 xs (k+d)
 | 0,k=>Int.le_refl _
 | d+1,k=>by
  rw[←Nat.add_assoc,low_succ];have h1:=low_leP hd d k;have h2:=(hd.getD B64_pos (k+d)).1;have h3:(0:Int)≤B64^(k+d)*xs.getD (k+d) 0:=Int.mul_nonneg (Int.le_of_lt (Int.pow_pos B64_pos)) h2;omega
theorem low_val{xs:List Int}(hd:Dg B64 xs)(k:Nat)(hk:k≤xs.length):low B64 xs k≤val B64 xs:=by
 rw[←low_len];have:=low_leP hd (xs.length-k) k
 rwa [show k+(xs.length-k)=xs.length by omega]at this
theorem number_any(ao:Option Addr)(len cap:Nat)(xs:List Int)(w:World)(h:NumIn .u64 B64 w ao len cap xs):
  Calls Tryz.prog 39 #[.slice ao len cap] w fun e w'=>e=.returned (.tuple #[.int .i64 (if val B64 xs<2147483648 then val B64 xs else 0),.bool (decide (val B64 xs<2147483648))])∧Below w.heap.size w w':=by
 have hl:=h.len;obtain⟨V,hV⟩:∃V,val B64 xs=V:=⟨_,rfl⟩
 have HV:Hid (val B64 xs=V):=hV;rw[hV];clear hV;have hsm:=h.sm;obtain⟨r1,hr1⟩:∃r,(if V<2147483648 then V else 0)=r:=⟨_,rfl⟩
 obtain⟨r2,hr2⟩:∃r,decide (V<2147483648)=r:=⟨_,rfl⟩
 rw[hr1,hr2];have HNO:Hid (2147483648≤V→r1=0∧r2=false):=fun hv=>⟨by rw[←hr1,if_neg (by omega)],by rw[←hr2];simp;omega⟩
 have HYES:Hid (V<2147483648→r1=V∧r2=true):=fun hv=>⟨by rw[←hr1,if_pos hv],by rw[←hr2];simp[hv]⟩
 clear hr1 hr2;go_enter Tryz.func39,Tryz.ntmps39;go_wp2_with fail
 go_loopw [4,5] (fun vn vi wr=>∃(k:Nat) (n:Int),k≤len∧vi=.int .i64 k∧vn=.int .i64 n∧(low B64 xs k=n∧0≤n∧n<2147483648)∧Drew w wr) (fun _ vi _=>len-(intOf vi).toNat)
 case atStart=>exact⟨0,0,by omega,rfl,rfl,⟨low_zero _ _,by omega,by omega⟩,Drew.refl _⟩
 case round =>
  obtain⟨k,n,hk,rfl,rfl,hn,hdr⟩:=hrel;have HN:Hid (low B64 xs k=n∧0≤n∧n<2147483648):=hn;have HDR:Hid (Drew w wr):=hdr;by_cases hlt:k<len
  ·have hx:=h.lies.old (hdr.below _);obtain⟨b,off,rfl,hblk,hc⟩:=hx.at (by omega);have hcell:=hc k hlt;have gx:=h.dg.getD B64_pos k;have hs:=low_succ B64 xs k;have hle:=low_val h.dg (k+1) (by omega);rw[HV.out]at hle;obtain⟨x,hxx⟩:∃x,xs.getD k 0=x:=⟨_,rfl⟩
   rw[hxx]at hcell gx hs;rw[hs,HN.out.1]at hle;unfold B64 at gx;have HS:Hid (low B64 xs (k+1)=n+B64^k*x):=by unfold Hid;rw[hs,HN.out.1]
   have HX:Hid (0≤x∧x<18446744073709551616):=gx;have hgx:(0:Int)≤x:=gx.1;have hgx2:x<18446744073709551616:=gx.2;clear hs hc hx hxx gx hdr hn;by_cases h0:k=0
   ·subst h0;have hn0:n=0:=by rw[←HN.out.1,low_zero]
    subst hn0;rw[Int.pow_zero,Int.one_mul,Int.zero_add]at hle;have hcell0:wr.cell? ⟨b,off,none⟩=some (.int .u64 x):=hcell;clear hcell;by_cases hx31:x<2147483648
    ·have HE:Hid (low B64 xs 1=x):=by unfold Hid;rw[HS.out,Int.pow_zero,Int.one_mul,Int.zero_add]
     clear hle HS HX;go_wp2;go_roundw
     case rel=>exact⟨1,x,by omega,by go_num,rfl,⟨HE.out,hgx,hx31⟩,HDR.out⟩
     case measure=>simp[intOf];omega
    ·have HE:Hid (2147483648≤V):=by unfold Hid;omega
     clear hle HS HX;go_wp2;go_ret2
     obtain⟨q1,q2⟩:=HNO.out HE.out;exact⟨by rw[q1,q2];rfl,HDR.out.below _⟩
   ·by_cases hx0:x=0
    ·subst hx0;have HE:Hid (low B64 xs (k+1)=n):=by unfold Hid;rw[HS.out,Int.mul_zero,Int.add_zero]
     clear hle HS HX;go_wp2;go_roundw
     case rel=>exact⟨k+1,n,by omega,by go_num,rfl,⟨HE.out,HN.out.2⟩,HDR.out⟩
     case measure=>simp[intOf];omega
    ·have HE:Hid (2147483648≤V):=by
      unfold Hid;have h1:=pow_mono (B:=B64) (by decide) (show 1≤k by omega);rw[Int.pow_one]at h1;have h2:B64^k*1≤B64^k*x:=Int.mul_le_mul_of_nonneg_left (by omega) (Int.le_of_lt (Int.pow_pos B64_pos));have h3:=HN.out.2.1;unfold B64 at h1 h2 hle;omega
     clear hle HS HX;go_wp2;go_ret2
     obtain⟨q1,q2⟩:=HNO.out HE.out;exact⟨by rw[q1,q2];rfl,HDR.out.below _⟩
  ·obtain rfl:k=len:=by omega
   have HE:Hid (V=n):=by unfold Hid;rw[←HN.out.1,←HV.out,←hl,low_len]
   have HN2:Hid (n<2147483648):=HN.out.2.2;clear hn hdr;go_wp2;go_ret2
   obtain⟨q1,q2⟩:=HYES.out (by rw[HE.out];exact HN2.out);exact⟨by rw[q1,q2,HE.out];rfl,HDR.out.below _⟩
theorem number_nv(a:Value)(x:Int)(L:Nat)(w:World)(ha:Nv w a x L):
  Calls Tryz.prog 39 #[a] w fun e w'=>e=.returned (.tuple #[.int .i64 (if x<2147483648 then x else 0),.bool (decide (x<2147483648))])∧Below w.heap.size w w':=by
 obtain⟨ao,la,ca,xs,rfl,h1,rfl,h2⟩:=ha;exact number_any ao la ca xs w h1
end
section
open Go.RowKit Go.Shelf
theorem ret_pd1{fn:Func}{p:Tmp}(h:fn.results=#[.cell p 64])(tmps:Array Value)(w:World)(g:Nat)(c0 c1 c2:Value)(hp:tmps.getD p undef=.pointer (some ⟨g,0,none⟩))(hg:PSd w g c0 c1 c2):
  (results fn tmps).run Tryz.prog w=.ok (.agg #[c0,c1,c2]) w:=
 results_cell_row h tmps w g 64 _ (0,0) _ hp hg Tryz.underlying64 rfl sizePd
theorem two_blk(w:World)(o:Obj)(c0 c1 c2:Value):PSd ((w.alloc o).alloc (.cells #[c0,c1,c2] 64)) (w.heap.size+1) c0 c1 c2∧Below w.heap.size w ((w.alloc o).alloc (.cells #[c0,c1,c2] 64)):=by have n2:=heap_alloc_new (w.alloc o) (.cells #[c0,c1,c2] 64);rw[alloc_sz7]at n2;exact⟨n2,((Below.refl w.heap.size w).alloc (Nat.le_refl _) _).alloc (by rw[alloc_sz7];omega) _⟩
theorem rBase_any(K:Cz)(w:World):Calls Tryz.prog 18 #[rcv K] w fun e w'=>e=.returned (rpv (baseZ K))∧Below w.heap.size w w':=by
 obtain⟨kp,ka,kb,kx,ky,kn⟩:=K;unfold rcv rpv baseZ;simp only;obtain⟨n2,b2⟩:=two_blk w (.cells #[.int .i64 kp,.int .i64 ka,.int .i64 kb,.int .i64 kx,.int .i64 ky,.int .i64 kn] 60) (.int .i64 kx) (.int .i64 ky) (.bool false);have HF:Hid (_∧_):=⟨n2,b2⟩
 clear n2 b2;go_enter Tryz.func18,Tryz.ntmps18;go_wp2;refine bodyPost_ret (ret_pd1 rfl _ _ _ _ _ _ rfl HF.out.1) rfl ?_;exact⟨rfl,HF.out.2⟩
def n31 (x:Int):Int:=if x<2147483648 then x else 0
theorem n31_s{x:Int}(h:0≤x):S31 (n31 x):=by
 unfold n31;split
 ·exact⟨h,by omega⟩
 ·exact⟨by decide,by decide⟩
def ofZ (P:Pz):Pz:=if P.inf then noZ else ⟨n31 P.x,n31 P.y,false⟩
def ofB (P:Pz):Bool:=P.inf||(decide (P.x<2147483648)&&decide (P.y<2147483648))
theorem rPof_any(p:Value)(P:Pz)(L:Nat)(w:World)(hp:Pv w p P L):Calls Tryz.prog 25 #[p] w fun e w'=>e=.returned (.tuple #[rpv (ofZ P),.bool (ofB P)])∧Below w.heap.size w w':=by
 obtain⟨px,py,rfl,p1,p2⟩:=hp;have HX:=fun W (hW:Below w.heap.size w W)=>number_nv px P.x L W (p1.old hW);have HY:=fun W (hW:Below w.heap.size w W)=>number_nv py P.y L W (p2.old hW);obtain⟨k1,k2,k3,k4,rfl,k5⟩:=p1;obtain⟨l1,l2,l3,l4,rfl,l5⟩:=p2;obtain⟨x,y,pi⟩:=P;simp only at HX HY;unfold ofZ ofB rpv
 cases pi with
 | true=>
  simp only[if_pos,Bool.true_or];obtain⟨n2,b2⟩:=two_blk w (.cells #[.slice k1 k2 k3,.slice l1 l2 l3,.bool true] 26) (.int .i64 0) (.int .i64 0) (.bool true);have HF:Hid (_∧_):=⟨n2,b2⟩
  clear n2 b2 HX HY;go_enter Tryz.func25,Tryz.ntmps25;go_wp2;refine bodyPost_ret (ret_pd rfl _ _ _ _ _ _ rfl HF.out.1) rfl ?_;exact⟨rfl,HF.out.2⟩
 | false =>
  simp only[Bool.false_or,Bool.false_eq_true,if_false];have ex:(if x<2147483648 then x else 0)=n31 x:=rfl;have ey:(if y<2147483648 then y else 0)=n31 y:=rfl;rw[ex]at HX;rw[ey]at HY;obtain⟨X,hX⟩:∃X,n31 x=X:=⟨_,rfl⟩
  obtain⟨Y,hY⟩:∃Y,n31 y=Y:=⟨_,rfl⟩
  obtain⟨bx,hbx⟩:∃b,decide (x<2147483648)=b:=⟨_,rfl⟩
  obtain⟨bY,hby⟩:∃b,decide (y<2147483648)=b:=⟨_,rfl⟩
  rw[hX,hbx]at HX;rw[hY,hby]at HY;rw[hX,hY,hbx,hby];clear hX hY hbx hby ex ey;obtain⟨n2,b2⟩:=two_blk w (.cells #[.slice k1 k2 k3,.slice l1 l2 l3,.bool false] 26) (.int .i64 0) (.int .i64 0) (.bool false);have n1:((w.alloc (.cells #[.slice k1 k2 k3,.slice l1 l2 l3,.bool false] 26)).alloc (.cells #[.int .i64 0,.int .i64 0,.bool false] 64)).heap[w.heap.size]?=some (.cells #[.slice k1 k2 k3,.slice l1 l2 l3,.bool false] 26 (0,0)):=heap_new (heap_alloc_new w _) (by rw[alloc_sz7];omega);obtain⟨W,hW⟩:∃W,(w.alloc (.cells #[.slice k1 k2 k3,.slice l1 l2 l3,.bool false] 26)).alloc (.cells #[.int .i64 0,.int .i64 0,.bool false] 64)=W:=⟨_,rfl⟩
  rw[hW]at n1 n2 b2;have HF:Hid (PSd W (w.heap.size+1) (.int .i64 0) (.int .i64 0) (.bool false)∧Below w.heap.size w W∧W.heap[w.heap.size]?=some (.cells #[.slice k1 k2 k3,.slice l1 l2 l3,.bool false] 26 (0,0))):=⟨n2,b2,n1⟩
  have HX2:=HX W b2;have HW:Hid (_=W):=hW;clear n1 n2 b2 hW HX;go_enter Tryz.func25,Tryz.ntmps25;go_wp2_with fail
  rw[HW.out];refine HX2.mono ?_;rintro e w1 ⟨rfl,hb1⟩;have B1:=HF.out.2.1.trans (hb1.mono HF.out.2.1.size);have HY2:=HY w1 B1;have n1:=blk_old HF.out.2.2 hb1;have q1:w1.cell? ⟨w.heap.size,1,none⟩=some (.slice l1 l2 l3):=by rw[cell_of_row _ _ _ _ _ _ n1];rfl
  go_wp2_with fail
  refine HY2.mono ?_;rintro e w2 ⟨rfl,hb2⟩;have n2:=(HF.out.1.keep hb1).keep hb2;have B2:=B1.trans (hb2.mono B1.size);obtain⟨y0,y1,y2,y3,y4,y5⟩:=n2.facts;clear HX2 HY2 HY hb1 hb2 n1 q1 B1;have HF2:Hid (_∧_):=⟨n2,B2⟩
  clear n2 B2;have fin:∀b,b=(bx&&bY)→(fun(e:Ending) (w':World)=>e=.returned (.tuple #[.agg #[.int .i64 X,.int .i64 Y,.bool false],.bool (bx&&bY)])∧Below w.heap.size w w') (.returned (.tuple #[.agg #[.int .i64 X,.int .i64 Y,.bool false],.bool b])) (((w2.setCell ⟨w.heap.size+1,0,none⟩ (.int .i64 X)).setCell ⟨w.heap.size+1,1,none⟩ (.int .i64 Y)).setCell ⟨w.heap.size+1,2,none⟩ (.bool false)):=fun b hb=>⟨by rw[hb],HF2.out.2.trans ((Bt.set3 w2 (w.heap.size+1) (.int .i64 X) (.int .i64 Y) (.bool false)).below (by omega) HF2.out.2.size)⟩
  have HFIN:Hid _:=fin;clear fin
  cases bx
  ·go_wp2;refine bodyPost_ret (ret_pd rfl _ _ _ _ _ _ rfl (HF2.out.1.set3 (.int .i64 X) (.int .i64 Y) (.bool false))) rfl ?_;exact HFIN.out false rfl
  ·go_wp2;refine bodyPost_ret (ret_pd rfl _ _ _ _ _ _ rfl (HF2.out.1.set3 (.int .i64 X) (.int .i64 Y) (.bool false))) rfl ?_;exact HFIN.out bY rfl
theorem val_dropU(ds:List Int)(hd:Dg D16 ds)(j:Nat)(hj:j<ds.length):val D16 (ds.drop j)=val D16 (ds.drop (j+1))*65536+ds.getD j 0∧0≤ds.getD j 0∧0≤val D16 (ds.drop (j+1)):=by
 have h1:=hd.getD D16_pos j;refine⟨?_,h1.1,val_nonneg D16_pos (fun x hx=>hd x (List.mem_of_mem_drop hx))⟩;have e:ds.getD j 0=ds[j]:=by simp[List.getD,hj]
 rw[List.drop_eq_getElem_cons hj,val_cons,e];show _+65536*_=_;omega
theorem val_drop_leU(ds:List Int)(hd:Dg D16 ds):∀j,j≤ds.length→val D16 (ds.drop j)≤val D16 ds
 | 0,_=>by rw[List.drop_zero];exact Int.le_refl _
 | j+1,hj=>by
  have ih:=val_drop_leU ds hd j (by omega);obtain⟨h1,h2,h3⟩:=val_dropU ds hd j (by omega);omega
theorem rvalue_any(v:Value)(n:Int)(L:Nat)(w:World)(h:Rv w v n L)(hL:L≤1000000)(hn:n<2147483648):Calls Tryz.prog 61 #[v] w fun e w'=>e=.returned (.int .i64 n)∧w'=w:=by
 obtain⟨ao,la,ca,ds,rfl,h1,h2,rfl,h4⟩:=h;have hl:=h1.len;have hsm:=h1.sm;obtain⟨V,hV⟩:∃V,val D16 ds=V:=⟨_,rfl⟩
 have HV:Hid (val D16 ds=V∧V<2147483648):=⟨hV,by omega⟩
 rw[hV];have HD:Hid (Dg D16 ds∧ds.length=la):=⟨h1.dg,hl⟩
 have HL:Hid (NumIn .i64 D16 w ao la ca ds):=h1;have hla:(la:Int)≤1000000:=by omega
 clear hV hn hl h1 hsm h2;go_enter Tryz.func61,Tryz.ntmps61;go_wp2;go_loopw [3,4] (fun vn vi wr=>∃(j:Nat) (z m:Int),j≤la∧z+1=(j:Int)∧vi=.int .i64 z∧vn=.int .i64 m∧m=val D16 (ds.drop j)∧wr=w) (fun _ vi _=>(intOf vi+1).toNat)
 case atStart=>exact⟨la,(la:Int)-1,0,Nat.le_refl _,by omega,by go_num,rfl,by rw[List.drop_eq_nil_of_le (by rw[HD.out.2];exact Nat.le_refl _)];rfl,rfl⟩
 case round=>
  obtain⟨j,z,m,hj,hz,rfl,rfl,hm,rfl⟩:=hrel;by_cases hj0:j=0
  ·subst hj0;have hz1:z = -1:=by omega
   subst hz1;have HE:Hid (m=V):=by unfold Hid;rw[hm,List.drop_zero,HV.out.1]
   clear hz hj hm;go_wp2;go_ret;exact⟨by rw[HE.out];rfl,rfl⟩
  ·obtain⟨i,rfl⟩:∃i,j=i+1:=⟨j-1,by omega⟩
   obtain rfl:z=(i:Int):=by omega
   obtain⟨b,off,rfl,_,hc⟩:=HL.out.lies.at (by omega);have hcell:=hc i (by omega);obtain⟨q1,q2,q3⟩:=val_dropU ds HD.out.1 i (by rw[HD.out.2];omega);have q4:=val_drop_leU ds HD.out.1 i (by rw[HD.out.2];omega);rw[HV.out.1]at q4;have q5:=HV.out.2;rw[←hm]at q1 q3;obtain⟨x,hx⟩:∃x,ds.getD i 0=x:=⟨_,rfl⟩
   rw[hx]at hcell q1 q2;have w1:IntKind.i64.wrap (m*65536)=m*65536:=IntWalk.i64_in _ (by omega);have w2:IntKind.i64.wrap (m*65536+x)=m*65536+x:=IntWalk.i64_in _ (by omega);have HE:Hid (m*65536+x=val D16 (ds.drop i)):=q1.symm;have HJ:Hid (i+1≤la):=hj;have hil:i<la:=by omega
   clear q1 q2 q3 q4 q5 hx hc hz hj hj0 hm;go_wp2;go_roundw
   case rel=>exact⟨i,(i:Int)-1,m*65536+x,by have:=HJ.out;omega,by omega,by go_num,rfl,HE.out,trivial⟩
   case measure=>simp[intOf]
end
section
open Go.Shelf Go.RowKit
theorem len_nv(a:Value)(x:Int)(L:Nat)(w:World)(ha:Nv w a x L)(hL:L≤1000):Calls Tryz.prog 69 #[a] w fun e w'=>(e=.returned (.int .i64 (blen x.toNat:Nat))∧blen x.toNat≤64000)∧w'=w:=by obtain⟨ao,la,ca,xs,rfl,h1,rfl,h2⟩:=ha;refine(Len_any ao la ca xs w h1).mono ?_;rintro e w' ⟨rfl,rfl⟩;have:=lenOf_le h1.dg 1000 (by have:=h1.len;omega);rw[lenOf_eq xs h1.dg]at this ⊢;exact⟨⟨rfl,this⟩,rfl⟩
end
end Go.Proofs.YtkhnnhbmchnajaaGreat
