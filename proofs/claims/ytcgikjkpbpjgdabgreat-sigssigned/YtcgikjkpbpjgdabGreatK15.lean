import Derived.Test.YtcgikjkpbpjgdabGreatK14
import Derived.Test.YtcgikjkpbpjgdabGreatK12
import Derived.Test.YtcgikjkpbpjgdabGreatK10
import Derived.Test.YtcgikjkpbpjgdabGreatK06
import Derived.WalkKit
import Derived.Lib.MapLaws
import Derived.Lib.ValidU
import Derived.Test.YtcgikjkpbpjgdabGreatRows
import Derived.Deep.AppendLies
import Derived.Laws.NewBlocks
import Derived.WalkSpells
import Derived.WalkLawsBesides
import Derived.Lib.ConvBytes
import Derived.Deep.RegionLaw
import Derived.Deep.QuietTactic
import Derived.BigQuiet
import Derived.Shelf.Bytes.SlSmallAll
import Derived.Below
import Derived.Deep.MidRow
import Derived.Deep.RegionHeld3
import Derived.Lib.BytesEntry
import Derived.Laws.Externs
import Derived.Laws.ResultCell
import Derived.Lib.SliceRun
import Derived.Shelf.Bytes.SlEqualAll
import Derived.Maps.AppendAt
import Derived.Test.YtcgikjkpbpjgdabGreatK01
set_option maxRecDepth 100000
set_option maxHeartbeats 40000000
set_option linter.unusedVariables false
set_option linter.unusedSimpArgs false
namespace Go.Proofs.YtcgikjkpbpjgdabGreat
open Go.RowKit Go.Shelf
section
variable {P N : Nat} [NeZero P] {K : Cz}
theorem mt_rounds (g:GoodK K P) {G:Pz} (hG:Gd K P G) (hN:Mt K P G N noZ) {a:Nat} {p:Pz} (h:Mt K P G a p) (k:Nat):Mt K P G (a+k*N) p:=by
 induction k with
 | zero=>rwa [Nat.zero_mul,Nat.add_zero]
 | succ k ih=>rw[Nat.succ_mul,←Nat.add_assoc];exact Mt.round g hG hN ih
theorem mt_same (g:GoodK K P) {G:Pz} (hG:Gd K P G) (hN:Mt K P G N noZ) {a b:Nat} (hab:a%N=b%N) {p:Pz} (h:Mt K P G a p):Mt K P G b p:=by
 obtain⟨q,hq⟩:=mt_ex g hG (a%N);have h1:=mt_rounds g hG hN hq (a/N);have h2:=mt_rounds g hG hN hq (b/N);rw[Nat.mul_comm,Nat.mod_add_div]at h1;rw[hab,Nat.mul_comm,Nat.mod_add_div]at h2;have h2':Mt K P G b q:=by have:=mt_rounds g hG hN hq (b/N);rw[hab,Nat.mul_comm,Nat.mod_add_div]at this;exact this
 rwa [Mt.uniq g h h1]
theorem mt_comp (g:GoodK K P) {G:Pz} (hG:Gd K P G) {a:Nat} {q:Pz} (hq:Mt K P G a q) (k:Nat):∀p,Mt K P q k p→Mt K P G (k*a) p:=by
 have hgq:=hq.gd hG;induction k with
 | zero=>
  intro p hp;rw[Nat.zero_mul,Mt.uniq g hp Mt.zero];exact Mt.zero
 | succ k ih=>
  intro p hp;obtain⟨p0,h0⟩:=mt_ex g hgq k;obtain⟨s,hs⟩:=add_some g p0 q;obtain⟨s1,e1,h1⟩:=Mt.add g hgq h0 (Mt.one g hgq) hs;injection e1 with e1;subst e1;rw[Mt.uniq g hp h1,Nat.succ_mul];obtain⟨s2,e2,h2⟩:=Mt.add g hG (ih p0 h0) hq hs;injection e2 with e2;subst e2;exact h2
theorem mt_fin (R:RightK K P N) (hp:PrimeN N) (hb:(baseZ K).inf=false) {m:Nat} (h0:0<m) (hm:m<N) {q:Pz} (h:Mt K P (baseZ K) m q):q.inf=false:=by
 cases hi:q.inf with
 | false=>rfl
 | true =>
  exfalso;have hN0:0<N:=by omega
  have e : q = noZ := by
   have h1:=h.1;unfold RdP at h1;rw[hi,if_pos rfl]at h1;first
    | exact h1
    | (obtain ⟨qx, qy, qi⟩ := q
       simp only at h1 hi;unfold noZ;obtain⟨ha,hb⟩:=h1;subst ha hb hi;rfl)
  rw[e]at h;have hg:=gd_prime hp (m:Int) (by omega) (by omega);obtain⟨i,hi0,hi1,hi2⟩:=inv_ex (m:=(N:Int)) (a:=(m:Int)) (by omega) hg;have h2:=Mt.times R.good R.base h i.toNat;have e2:(i.toNat*m)%N=1%N:=by
   have:=hi2.emod;have e3:((i.toNat*m:Nat):Int)=i*m:=by rw[Int.natCast_mul];congr 1;omega
   rw[←e3]at this
   exact_mod_cast this
  have h3:=mt_same R.good R.base R.ord e2 h2;have h4:=Mt.uniq R.good h3 (Mt.one R.good R.base);rw[←h4]at hb
  cases hb
theorem sgn_ver (R:RightK K P N) (hp:PrimeN N) {z secret draw r s:Int} {q:Pz} (h1:0<secret) (h2:secret<N) (hd:0<draw∧draw<N) (hq:Mt K P (baseZ K) secret.toNat q) (h:SgnZ K P z secret draw r s):VerZ K P q z r s true:=by
 obtain⟨p,i,hpp,hpi,rfl,hr0,⟨hi0,hi1,hi2⟩,hs,hs0⟩:=h;have hN0:(0:Int)<N:=by omega
 have hqi:=mt_fin R hp rfl (by omega) (by omega) hq;have hon:=on_good R.good (hq.gd R.base);have hn:=R.n;rw[hn]at hi1 hi2 hs hr0 ⊢;obtain⟨r,hr⟩:∃r,p.x%(N:Int)=r:=⟨_,rfl⟩
 rw[hr]at hs hr0 ⊢;have rr:0≤r∧r<N:=by rw[←hr];exact⟨Int.emod_nonneg _ (by omega),Int.emod_lt_of_pos _ hN0⟩
 have rs:0≤s∧s<N:=by rw[hs];exact⟨Int.emod_nonneg _ (by omega),Int.emod_lt_of_pos _ hN0⟩
 have hg:=gd_prime hp s (by omega) rs.2;obtain⟨y,hy0,hy1,hy2⟩:=inv_ex (m:=(N:Int)) (a:=s) hN0 hg;obtain⟨p1,hp1⟩:=mt_ex R.good R.base ((z*y)%(N:Int)).toNat;obtain⟨p2,hp2⟩:=mt_ex R.good (hq.gd R.base) ((r*y)%(N:Int)).toNat;obtain⟨p3,hp3⟩:=add_some R.good p1 p2;have hc:=mt_comp R.good R.base hq _ _ hp2;obtain⟨p4,e4,h4⟩:=Mt.add R.good R.base hp1 hc hp3;injection e4 with e4;subst e4;have g1:=Int.emod_nonneg (z*y) (b:=(N:Int)) (by omega);have g2:=Int.emod_nonneg (r*y) (b:=(N:Int)) (by omega);have key:Cg (N:Int) ((z*y)%N+(r*y)%N*secret) draw:=by
  have c1:Cg (N:Int) ((z*y)%N+(r*y)%N*secret) (z*y+r*y*secret):=(Cg.mod _ _).add ((Cg.mod _ _).mul (Cg.refl _ _));have c2:Cg (N:Int) s ((z+r*secret)*i):=by rw[hs];exact(Cg.mod _ _).trans (((Cg.mod _ _).trans ((Cg.refl _ _).add (Cg.mod _ _))).mul (Cg.refl _ _))
  have c3:Cg (N:Int) (y*((z+r*secret)*i)*draw) draw:=by
   have:=((Cg.refl (N:Int) y).mul c2).symm.trans hy2;have:=this.mul (Cg.refl _ draw)
   rwa [Int.one_mul]at this
  have c4:Cg (N:Int) (y*((z+r*secret)*i)*draw) (z*y+r*y*secret):=by
   have:=(Cg.refl (N:Int) (z*y+r*y*secret)).mul hi2;rw[Int.mul_one]at this;refine Cg.trans (Cg.of_eq ?_) this
   grind
  exact c1.trans (c4.symm.trans c3)
 have e5:(((z*y)%(N:Int)).toNat+((r*y)%(N:Int)).toNat*secret.toNat)%N=draw.toNat%N:=by
  have:=key.emod;have e6:(((((z*y)%(N:Int)).toNat+((r*y)%(N:Int)).toNat*secret.toNat:Nat)):Int)=(z*y)%N+(r*y)%N*secret:=by rw[Int.natCast_add,Int.natCast_mul,Int.toNat_of_nonneg g1,Int.toNat_of_nonneg g2,Int.toNat_of_nonneg (by omega)]
  have e7:((draw.toNat:Nat):Int)=draw:=by omega
  rw[←e6,←e7]at this
  exact_mod_cast this
 have h5:=mt_same R.good R.base R.ord e5 h4;have e8:=Mt.uniq R.good h5 hpp;subst e8;refine .inr ⟨?_,y,p1,p2,p3,?_,?_,?_,hp3,?_⟩
 ·unfold VerNo;rw[hn,hqi,hon,hg];intro hno;rcases hno with h|h|h|h|h
  ·cases h
  ·cases h
  ·exact h ⟨by omega,rr.2⟩
  ·exact h ⟨by omega,rs.2⟩
  ·exact h rfl
 ·rw[hn];exact⟨hy0,hy1,hy2⟩
 ·rw[hn];exact hp1
 ·rw[hn];exact hp2
 ·rw[hpi,hn,hr];simp
end
theorem curS31 (j:Nat):S31 (curZ j).p∧S31 (curZ j).a∧S31 (curZ j).b∧S31 (curZ j).gx∧S31 (curZ j).gy∧S31 (curZ j).n:=by unfold curZ S31;split<;>decide
theorem curN (j:Nat) (hj:j<3):0<(curZ j).n:=by
 match j,hj with
 | 0,_=>decide
 | 1,_=>decide
 | 2,_=>decide
theorem primeN0:PrimeN 271:=prime_below (by decide) (by decide +kernel)
theorem primeN1:PrimeN 9851:=prime_below (by decide) (by decide +kernel)
theorem primeN2:PrimeN 65761:=by
 refine prime_root fun d h2 hd => ?_;have hl:d<300:=by
  rcases Nat.lt_or_ge d 300 with h3|h3
  ·exact h3
  ·have:=Nat.mul_le_mul h3 h3;omega
 have h:∀d,d<300→2≤d→65761%d≠0∨65761<d*d:=by decide +kernel
 rcases h d hl h2 with h4|h4
 ·exact h4
 ·omega
theorem curRightN (j:Nat) (hj:j<3):∃P N,∃_:NeZero P,RightK (curZ j) P N∧PrimeN N∧270<N∧N<65762∧2<P:=by
 match j,hj with
 | 0,_=>exact⟨251,271,inferInstance,right0,primeN0,by decide,by decide,by decide⟩
 | 1,_=>exact⟨10007,9851,inferInstance,right1,primeN1,by decide,by decide,by decide⟩
 | 2,_=>exact⟨65521,65761,inferInstance,right2,primeN2,by decide,by decide,by decide⟩
section
variable {P N : Nat} [NeZero P] {K : Cz}
theorem sgn_rng (R:RightK K P N) (hN0:0<N) {z secret draw r s:Int} (h:SgnZ K P z secret draw r s):0<r∧r<N∧0<s∧s<N:=by obtain⟨p,i,hpp,hpi,hr,hr0,_,hs,hs0⟩:=h;rw[R.n]at hr hs;have a1:=Int.emod_nonneg p.x (b:=(N:Int)) (by omega);have a2:=Int.emod_lt_of_pos p.x (b:=(N:Int)) (by omega);have a3:=Int.emod_nonneg (((z+(r*secret)%(N:Int))%(N:Int))*i) (b:=(N:Int)) (by omega);have a4:=Int.emod_lt_of_pos (((z+(r*secret)%(N:Int))%(N:Int))*i) (b:=(N:Int)) (by omega);rw[←hr]at a1 a2;rw[←hs]at a3 a4;omega
end
abbrev zero6:Array Value:=#[.int .i64 0,.int .i64 0,.int .i64 0,.int .i64 0,.int .i64 0,.int .i64 0]
structure Sm6 (W:World) (b:Nat) (r0 r1 r2 r3 r4 r5:Value) (n0 n1 n2 n3 n4 n5:Int):Prop where
 r:W.heap[b+1]?=some (.cells #[.int .i64 0,.int .i64 0,.int .i64 0,.int .i64 0,.int .i64 0,.int .i64 0] 66 (0,0))
 o:W.heap[b+1+1]?=some (.cells #[.int .i64 0,.int .i64 0,.int .i64 0,.int .i64 0,.int .i64 0,.int .i64 0] 66 (0,0))
 l:W.heap[b+1+1+1]?=some (.cells #[r0,r1,r2,r3,r4,r5] 33 (0,0))
 a:W.heap[b+1+1+1+1]?=some (.cells #[.int .i64 n0,.int .i64 n1,.int .i64 n2,.int .i64 n3,.int .i64 n4,.int .i64 n5] 107 (0,0))
theorem Sm6.keep {W W':World} {b:Nat} {r0 r1 r2 r3 r4 r5:Value} {n0 n1 n2 n3 n4 n5:Int} (h:Sm6 W b r0 r1 r2 r3 r4 r5 n0 n1 n2 n3 n4 n5) (hb:Below W.heap.size W W'):Sm6 W' b r0 r1 r2 r3 r4 r5 n0 n1 n2 n3 n4 n5:=⟨blk_old h.r hb,blk_old h.o hb,blk_old h.l hb,blk_old h.a hb⟩
theorem row6 {W:World} {b:Nat} {c0 c1 c2 c3 c4 c5:Value} {t:TypeId} (h:W.heap[b]?=some (.cells #[c0,c1,c2,c3,c4,c5] t (0,0))):(W.cell? ⟨b,0,none⟩=some c0∧W.cell? ⟨b,1,none⟩=some c1∧W.cell? ⟨b,2,none⟩=some c2∧W.cell? ⟨b,3,none⟩=some c3∧W.cell? ⟨b,4,none⟩=some c4∧W.cell? ⟨b,5,none⟩=some c5)∧W.frozen? ⟨b,0,none⟩=false∧W.frozen? ⟨b,1,none⟩=false∧W.frozen? ⟨b,2,none⟩=false∧W.frozen? ⟨b,3,none⟩=false∧W.frozen? ⟨b,4,none⟩=false∧W.frozen? ⟨b,5,none⟩=false:=by refine⟨⟨?_,?_,?_,?_,?_,?_⟩,frozen_of_row W b 0 _ _ h,frozen_of_row W b 1 _ _ h,frozen_of_row W b 2 _ _ h,frozen_of_row W b 3 _ _ h,frozen_of_row W b 4 _ _ h,frozen_of_row W b 5 _ _ h⟩<;>(rw[cell_of_row _ _ _ _ _ _ h];rfl)
theorem sm6_new (w:World) (o:Obj) (r0 r1 r2 r3 r4 r5:Value):Sm6 (((((w.alloc o).alloc (.cells zero6 66)).alloc (.cells zero6 66)).alloc (.cells #[r0,r1,r2,r3,r4,r5] 33)).alloc (.cells zero6 107)) w.heap.size r0 r1 r2 r3 r4 r5 0 0 0 0 0 0∧Below w.heap.size w (((((w.alloc o).alloc (.cells zero6 66)).alloc (.cells zero6 66)).alloc (.cells #[r0,r1,r2,r3,r4,r5] 33)).alloc (.cells zero6 107)):=by
 obtain⟨w1,e1⟩:∃x,w.alloc o=x:=⟨_,rfl⟩
 obtain⟨w2,e2⟩:∃x,w1.alloc (.cells zero6 66)=x:=⟨_,rfl⟩
 obtain⟨w3,e3⟩:∃x,w2.alloc (.cells zero6 66)=x:=⟨_,rfl⟩
 obtain⟨w4,e4⟩:∃x,w3.alloc (.cells #[r0,r1,r2,r3,r4,r5] 33)=x:=⟨_,rfl⟩
 have z1:w1.heap.size=w.heap.size+1:=by rw[←e1];exact alloc_sz7 _ _
 have z2:w2.heap.size=w.heap.size+1+1:=by rw[←e2,alloc_sz7,z1]
 have z3:w3.heap.size=w.heap.size+1+1+1:=by rw[←e3,alloc_sz7,z2]
 have z4:w4.heap.size=w.heap.size+1+1+1+1:=by rw[←e4,alloc_sz7,z3]
 have n2:w2.heap[w.heap.size+1]?=some (.cells zero6 66 (0,0)):=by rw[←e2,←z1];exact heap_alloc_new w1 _
 have n3:w3.heap[w.heap.size+1+1]?=some (.cells zero6 66 (0,0)):=by rw[←e3,←z2];exact heap_alloc_new w2 _
 have n4:w4.heap[w.heap.size+1+1+1]?=some (.cells #[r0,r1,r2,r3,r4,r5] 33 (0,0)):=by rw[←e4,←z3];exact heap_alloc_new w3 _
 have n5:=heap_alloc_new w4 (.cells zero6 107);rw[z4]at n5;have m2:w3.heap[w.heap.size+1]?=some (.cells zero6 66 (0,0)):=by rw[←e3];exact heap_new n2 (by omega)
 have k2:w4.heap[w.heap.size+1]?=some (.cells zero6 66 (0,0)):=by rw[←e4];exact heap_new m2 (by omega)
 have k3:w4.heap[w.heap.size+1+1]?=some (.cells zero6 66 (0,0)):=by rw[←e4];exact heap_new n3 (by omega)
 have bb:Below w.heap.size w (w4.alloc (.cells zero6 107)):=by rw[←e4,←e3,←e2,←e1];exact(((((Below.refl w.heap.size w).alloc (Nat.le_refl _) _).alloc (by rw[alloc_sz7];omega) _).alloc (by rw[alloc_sz7,alloc_sz7];omega) _).alloc (by rw[alloc_sz7,alloc_sz7,alloc_sz7];omega) _).alloc (by rw[alloc_sz7,alloc_sz7,alloc_sz7,alloc_sz7];omega) _
 rw[e1,e2,e3,e4];exact⟨⟨heap_new k2 (by omega),heap_new k3 (by omega),heap_new n4 (by omega),n5⟩,bb⟩
theorem sizeCv:(Tryz.prog.info? 66).map (·.size)=some 6:=by kernel_rfl
theorem ret_cv {fn:Func} {p u:Tmp} (h:fn.results=#[.cell p 66,.tmp u]) (tmps:Array Value) (w:World) (g:Nat) (c0 c1 c2 c3 c4 c5:Value) (hp:tmps.getD p undef=.pointer (some ⟨g,0,none⟩)) (hg:w.heap[g]?=some (.cells #[c0,c1,c2,c3,c4,c5] 66 (0,0))):
  (results fn tmps).run Tryz.prog w=.ok (.tuple #[.agg #[c0,c1,c2,c3,c4,c5],tmps.getD u undef]) w:=by
 rw[results_cell_tmp h,hp];have hl:=run_loadVar_row (P:=Tryz.prog) w g 66 66 #[c0,c1,c2,c3,c4,c5] (0,0) _ hg Tryz.underlying66 rfl sizeCv;simp[asAddr,Result.andThen,hl]
abbrev set6 (W:World) (g:Nat) (d0 d1 d2 d3 d4 d5:Value):World:=(((((W.setCell ⟨g,0,none⟩ d0).setCell ⟨g,1,none⟩ d1).setCell ⟨g,2,none⟩ d2).setCell ⟨g,3,none⟩ d3).setCell ⟨g,4,none⟩ d4).setCell ⟨g,5,none⟩ d5
theorem bt_set6 (W:World) (g:Nat) (d0 d1 d2 d3 d4 d5:Value):Bt g W (set6 W g d0 d1 d2 d3 d4 d5):=(((((Bt.setCell g W 0 d0).trans (Bt.setCell g _ 1 d1)).trans (Bt.setCell g _ 2 d2)).trans (Bt.setCell g _ 3 d3)).trans (Bt.setCell g _ 4 d4)).trans (Bt.setCell g _ 5 d5)
theorem row_set6 {W:World} {g:Nat} {c0 c1 c2 c3 c4 c5:Value} {t:TypeId} (h:W.heap[g]?=some (.cells #[c0,c1,c2,c3,c4,c5] t (0,0))) (d0 d1 d2 d3 d4 d5:Value):(set6 W g d0 d1 d2 d3 d4 d5).heap[g]?=some (.cells #[d0,d1,d2,d3,d4,d5] t (0,0)):=by have h1:=heap_set7 W g 0 d0 _ _ _ h;have h2:=heap_set7 _ g 1 d1 _ _ _ h1;have h3:=heap_set7 _ g 2 d2 _ _ _ h2;have h4:=heap_set7 _ g 3 d3 _ _ _ h3;have h5:=heap_set7 _ g 4 d4 _ _ _ h4;exact heap_set7 _ g 5 d5 _ _ _ h5
def arr6 (K:Cz) (i k:Nat):Int:=if k<i then (match k with|0=>K.p|1=>K.a|2=>K.b|3=>K.gx|4=>K.gy|_=>K.n) else 0
theorem num_small (v:Value) (x:Int) (L:Nat) (w:World) (h:Nv w v x L) (hs:S31 x):Calls Tryz.prog 50 #[v] w fun e w'=>e=.returned (.tuple #[.int .i64 x,.bool true])∧Below w.heap.size w w':=by
 have:=number_nv v x L w h
 rwa [if_pos hs.2,show decide (x<2147483648)=true by simp[hs.2]]at this
theorem rSmallC_any (c:Value) (K:Cz) (L:Nat) (w:World) (hc:Cu w c K L) (h1:S31 K.p) (h2:S31 K.a) (h3:S31 K.b) (h4:S31 K.gx) (h5:S31 K.gy) (h6:S31 K.n):
  Calls Tryz.prog 19 #[c] w fun e w'=>e=.returned (.tuple #[rcv K,.bool true])∧Below w.heap.size w w':=by
 obtain⟨g1,g2,oo,lo,co,vp,va,vb,vx,vy,vn,rfl,c1,c2,c3,c4,c5,c6⟩:=hc;have N0:=fun W (hW:Below w.heap.size w W)=>num_small vp K.p L W (c1.old hW) h1;have N1:=fun W (hW:Below w.heap.size w W)=>num_small va K.a L W (c2.old hW) h2;have N2:=fun W (hW:Below w.heap.size w W)=>num_small vb K.b L W (c3.old hW) h3;have N3:=fun W (hW:Below w.heap.size w W)=>num_small vx K.gx L W (c4.old hW) h4;have N4:=fun W (hW:Below w.heap.size w W)=>num_small vy K.gy L W (c5.old hW) h5;have N5:=fun W (hW:Below w.heap.size w W)=>num_small vn K.n L W (c6.old hW) h6;obtain⟨a1,a2,a3,a4,rfl,a5⟩:=c1;obtain⟨b1,b2,b3,b4,rfl,b5⟩:=c2;obtain⟨d1,d2,d3,d4,rfl,d5⟩:=c3;obtain⟨e1,e2,e3,e4,rfl,e5⟩:=c4;obtain⟨f1,f2,f3,f4,rfl,f5⟩:=c5;obtain⟨j1,j2,j3,j4,rfl,j5⟩:=c6;obtain⟨kp,ka,kb,kx,ky,kn⟩:=K;unfold rcv;simp only at N0 N1 N2 N3 N4 N5 ⊢;clear a5 b5 d5 e5 f5 j5 h1 h2 h3 h4 h5 h6;obtain⟨F0,B0⟩:=sm6_new w (.cells #[.int .i64 g1,.int .i64 g2,.slice oo lo co,.slice a1 a2 a3,.slice b1 b2 b3,.slice d1 d2 d3,.slice e1 e2 e3,.slice f1 f2 f3,.slice j1 j2 j3] 55) (.slice a1 a2 a3) (.slice b1 b2 b3) (.slice d1 d2 d3) (.slice e1 e2 e3) (.slice f1 f2 f3) (.slice j1 j2 j3);have HF:Hid (_∧_):=⟨F0,B0⟩
 clear F0 B0;go_enter Tryz.func19,Tryz.ntmps19;go_wp2_with fail
 go_loopw [5,8] (fun vk vi wr=>∃(i:Nat),i≤6∧vi=.int .i64 (i:Int)∧vk=.bool true∧Sm6 wr w.heap.size (.slice a1 a2 a3) (.slice b1 b2 b3) (.slice d1 d2 d3) (.slice e1 e2 e3) (.slice f1 f2 f3) (.slice j1 j2 j3) (arr6 ⟨kp,ka,kb,kx,ky,kn⟩ i 0) (arr6 ⟨kp,ka,kb,kx,ky,kn⟩ i 1) (arr6 ⟨kp,ka,kb,kx,ky,kn⟩ i 2) (arr6 ⟨kp,ka,kb,kx,ky,kn⟩ i 3) (arr6 ⟨kp,ka,kb,kx,ky,kn⟩ i 4) (arr6 ⟨kp,ka,kb,kx,ky,kn⟩ i 5)∧Below w.heap.size w wr) (fun _ vi _=>6-(intOf vi).toNat)
 case atStart=>exact⟨0,by omega,rfl,rfl,HF.out.1,HF.out.2⟩
 case round=>
  obtain⟨i,hi,rfl,rfl,hs,hb⟩:=hrel;have HB:Hid (Below w.heap.size w wr):=hb;have hi7:i=0∨i=1∨i=2∨i=3∨i=4∨i=5∨i=6:=by omega
  clear hb hi;rcases hi7 with rfl|rfl|rfl|rfl|rfl|rfl|rfl
  ·have HS:Hid (Sm6 wr w.heap.size (.slice a1 a2 a3) (.slice b1 b2 b3) (.slice d1 d2 d3) (.slice e1 e2 e3) (.slice f1 f2 f3) (.slice j1 j2 j3) 0 0 0 0 0 0):=hs;obtain⟨⟨l0,l1,l2,l3,l4,l5⟩,-⟩:=row6 HS.out.l;have HN:=N0 wr HB.out;clear hs;go_wp2_with fail
   refine HN.mono ?_;rintro e w2 ⟨rfl,hb2⟩;have S2:=HS.out.keep hb2;have B2:=HB.out.trans (hb2.mono HB.out.size);obtain⟨⟨x0,x1,x2,x3,x4,x5⟩,y0,y1,y2,y3,y4,y5⟩:=row6 S2.a;have bt:=Bt.setCell (w.heap.size+1+1+1+1) w2 0 (.int .i64 kp);have S3:Sm6 (w2.setCell ⟨w.heap.size+1+1+1+1,0,none⟩ (.int .i64 kp)) w.heap.size (.slice a1 a2 a3) (.slice b1 b2 b3) (.slice d1 d2 d3) (.slice e1 e2 e3) (.slice f1 f2 f3) (.slice j1 j2 j3) kp 0 0 0 0 0:=⟨bt_blk bt S2.r (by omega),bt_blk bt S2.o (by omega),bt_blk bt S2.l (by omega),heap_set7 w2 _ 0 (.int .i64 kp) _ _ _ S2.a⟩
   have HS3:Hid (_∧_):=⟨S3,B2.trans (bt.below (by omega) B2.size)⟩
   clear l0 l1 l2 l3 l4 l5 S2 B2 bt S3 hb2 HN N0 N1 N2 N3 N4 N5 HS HB;go_wp2;go_roundw
   case rel=>exact⟨1,by omega,by go_num,rfl,HS3.out.1,HS3.out.2⟩
   case measure=>simp[intOf]
  ·have HS:Hid (Sm6 wr w.heap.size (.slice a1 a2 a3) (.slice b1 b2 b3) (.slice d1 d2 d3) (.slice e1 e2 e3) (.slice f1 f2 f3) (.slice j1 j2 j3) kp 0 0 0 0 0):=hs;obtain⟨⟨l0,l1,l2,l3,l4,l5⟩,-⟩:=row6 HS.out.l;have HN:=N1 wr HB.out;clear hs;go_wp2_with fail
   refine HN.mono ?_;rintro e w2 ⟨rfl,hb2⟩;have S2:=HS.out.keep hb2;have B2:=HB.out.trans (hb2.mono HB.out.size);obtain⟨⟨x0,x1,x2,x3,x4,x5⟩,y0,y1,y2,y3,y4,y5⟩:=row6 S2.a;have bt:=Bt.setCell (w.heap.size+1+1+1+1) w2 1 (.int .i64 ka);have S3:Sm6 (w2.setCell ⟨w.heap.size+1+1+1+1,1,none⟩ (.int .i64 ka)) w.heap.size (.slice a1 a2 a3) (.slice b1 b2 b3) (.slice d1 d2 d3) (.slice e1 e2 e3) (.slice f1 f2 f3) (.slice j1 j2 j3) kp ka 0 0 0 0:=⟨bt_blk bt S2.r (by omega),bt_blk bt S2.o (by omega),bt_blk bt S2.l (by omega),heap_set7 w2 _ 1 (.int .i64 ka) _ _ _ S2.a⟩
   have HS3:Hid (_∧_):=⟨S3,B2.trans (bt.below (by omega) B2.size)⟩
   clear l0 l1 l2 l3 l4 l5 S2 B2 bt S3 hb2 HN N0 N1 N2 N3 N4 N5 HS HB;go_wp2;go_roundw
   case rel=>exact⟨2,by omega,by go_num,rfl,HS3.out.1,HS3.out.2⟩
   case measure=>simp[intOf]
  ·have HS:Hid (Sm6 wr w.heap.size (.slice a1 a2 a3) (.slice b1 b2 b3) (.slice d1 d2 d3) (.slice e1 e2 e3) (.slice f1 f2 f3) (.slice j1 j2 j3) kp ka 0 0 0 0):=hs;obtain⟨⟨l0,l1,l2,l3,l4,l5⟩,-⟩:=row6 HS.out.l;have HN:=N2 wr HB.out;clear hs;go_wp2_with fail
   refine HN.mono ?_;rintro e w2 ⟨rfl,hb2⟩;have S2:=HS.out.keep hb2;have B2:=HB.out.trans (hb2.mono HB.out.size);obtain⟨⟨x0,x1,x2,x3,x4,x5⟩,y0,y1,y2,y3,y4,y5⟩:=row6 S2.a;have bt:=Bt.setCell (w.heap.size+1+1+1+1) w2 2 (.int .i64 kb);have S3:Sm6 (w2.setCell ⟨w.heap.size+1+1+1+1,2,none⟩ (.int .i64 kb)) w.heap.size (.slice a1 a2 a3) (.slice b1 b2 b3) (.slice d1 d2 d3) (.slice e1 e2 e3) (.slice f1 f2 f3) (.slice j1 j2 j3) kp ka kb 0 0 0:=⟨bt_blk bt S2.r (by omega),bt_blk bt S2.o (by omega),bt_blk bt S2.l (by omega),heap_set7 w2 _ 2 (.int .i64 kb) _ _ _ S2.a⟩
   have HS3:Hid (_∧_):=⟨S3,B2.trans (bt.below (by omega) B2.size)⟩
   clear l0 l1 l2 l3 l4 l5 S2 B2 bt S3 hb2 HN N0 N1 N2 N3 N4 N5 HS HB;go_wp2;go_roundw
   case rel=>exact⟨3,by omega,by go_num,rfl,HS3.out.1,HS3.out.2⟩
   case measure=>simp[intOf]
  ·have HS:Hid (Sm6 wr w.heap.size (.slice a1 a2 a3) (.slice b1 b2 b3) (.slice d1 d2 d3) (.slice e1 e2 e3) (.slice f1 f2 f3) (.slice j1 j2 j3) kp ka kb 0 0 0):=hs;obtain⟨⟨l0,l1,l2,l3,l4,l5⟩,-⟩:=row6 HS.out.l;have HN:=N3 wr HB.out;clear hs;go_wp2_with fail
   refine HN.mono ?_;rintro e w2 ⟨rfl,hb2⟩;have S2:=HS.out.keep hb2;have B2:=HB.out.trans (hb2.mono HB.out.size);obtain⟨⟨x0,x1,x2,x3,x4,x5⟩,y0,y1,y2,y3,y4,y5⟩:=row6 S2.a;have bt:=Bt.setCell (w.heap.size+1+1+1+1) w2 3 (.int .i64 kx);have S3:Sm6 (w2.setCell ⟨w.heap.size+1+1+1+1,3,none⟩ (.int .i64 kx)) w.heap.size (.slice a1 a2 a3) (.slice b1 b2 b3) (.slice d1 d2 d3) (.slice e1 e2 e3) (.slice f1 f2 f3) (.slice j1 j2 j3) kp ka kb kx 0 0:=⟨bt_blk bt S2.r (by omega),bt_blk bt S2.o (by omega),bt_blk bt S2.l (by omega),heap_set7 w2 _ 3 (.int .i64 kx) _ _ _ S2.a⟩
   have HS3:Hid (_∧_):=⟨S3,B2.trans (bt.below (by omega) B2.size)⟩
   clear l0 l1 l2 l3 l4 l5 S2 B2 bt S3 hb2 HN N0 N1 N2 N3 N4 N5 HS HB;go_wp2;go_roundw
   case rel=>exact⟨4,by omega,by go_num,rfl,HS3.out.1,HS3.out.2⟩
   case measure=>simp[intOf]
  ·have HS:Hid (Sm6 wr w.heap.size (.slice a1 a2 a3) (.slice b1 b2 b3) (.slice d1 d2 d3) (.slice e1 e2 e3) (.slice f1 f2 f3) (.slice j1 j2 j3) kp ka kb kx 0 0):=hs;obtain⟨⟨l0,l1,l2,l3,l4,l5⟩,-⟩:=row6 HS.out.l;have HN:=N4 wr HB.out;clear hs;go_wp2_with fail
   refine HN.mono ?_;rintro e w2 ⟨rfl,hb2⟩;have S2:=HS.out.keep hb2;have B2:=HB.out.trans (hb2.mono HB.out.size);obtain⟨⟨x0,x1,x2,x3,x4,x5⟩,y0,y1,y2,y3,y4,y5⟩:=row6 S2.a;have bt:=Bt.setCell (w.heap.size+1+1+1+1) w2 4 (.int .i64 ky);have S3:Sm6 (w2.setCell ⟨w.heap.size+1+1+1+1,4,none⟩ (.int .i64 ky)) w.heap.size (.slice a1 a2 a3) (.slice b1 b2 b3) (.slice d1 d2 d3) (.slice e1 e2 e3) (.slice f1 f2 f3) (.slice j1 j2 j3) kp ka kb kx ky 0:=⟨bt_blk bt S2.r (by omega),bt_blk bt S2.o (by omega),bt_blk bt S2.l (by omega),heap_set7 w2 _ 4 (.int .i64 ky) _ _ _ S2.a⟩
   have HS3:Hid (_∧_):=⟨S3,B2.trans (bt.below (by omega) B2.size)⟩
   clear l0 l1 l2 l3 l4 l5 S2 B2 bt S3 hb2 HN N0 N1 N2 N3 N4 N5 HS HB;go_wp2;go_roundw
   case rel=>exact⟨5,by omega,by go_num,rfl,HS3.out.1,HS3.out.2⟩
   case measure=>simp[intOf]
  ·have HS:Hid (Sm6 wr w.heap.size (.slice a1 a2 a3) (.slice b1 b2 b3) (.slice d1 d2 d3) (.slice e1 e2 e3) (.slice f1 f2 f3) (.slice j1 j2 j3) kp ka kb kx ky 0):=hs;obtain⟨⟨l0,l1,l2,l3,l4,l5⟩,-⟩:=row6 HS.out.l;have HN:=N5 wr HB.out;clear hs;go_wp2_with fail
   refine HN.mono ?_;rintro e w2 ⟨rfl,hb2⟩;have S2:=HS.out.keep hb2;have B2:=HB.out.trans (hb2.mono HB.out.size);obtain⟨⟨x0,x1,x2,x3,x4,x5⟩,y0,y1,y2,y3,y4,y5⟩:=row6 S2.a;have bt:=Bt.setCell (w.heap.size+1+1+1+1) w2 5 (.int .i64 kn);have S3:Sm6 (w2.setCell ⟨w.heap.size+1+1+1+1,5,none⟩ (.int .i64 kn)) w.heap.size (.slice a1 a2 a3) (.slice b1 b2 b3) (.slice d1 d2 d3) (.slice e1 e2 e3) (.slice f1 f2 f3) (.slice j1 j2 j3) kp ka kb kx ky kn:=⟨bt_blk bt S2.r (by omega),bt_blk bt S2.o (by omega),bt_blk bt S2.l (by omega),heap_set7 w2 _ 5 (.int .i64 kn) _ _ _ S2.a⟩
   have HS3:Hid (_∧_):=⟨S3,B2.trans (bt.below (by omega) B2.size)⟩
   clear l0 l1 l2 l3 l4 l5 S2 B2 bt S3 hb2 HN N0 N1 N2 N3 N4 N5 HS HB;go_wp2;go_roundw
   case rel=>exact⟨6,by omega,by go_num,rfl,HS3.out.1,HS3.out.2⟩
   case measure=>simp[intOf]
  ·have HS:Hid (Sm6 wr w.heap.size (.slice a1 a2 a3) (.slice b1 b2 b3) (.slice d1 d2 d3) (.slice e1 e2 e3) (.slice f1 f2 f3) (.slice j1 j2 j3) kp ka kb kx ky kn):=hs;obtain⟨⟨x0,x1,x2,x3,x4,x5⟩,y0,y1,y2,y3,y4,y5⟩:=row6 HS.out.a;obtain⟨⟨o0,o1,o2,o3,o4,o5⟩,p0,p1,p2,p3,p4,p5⟩:=row6 HS.out.o;obtain⟨⟨r0,r1,r2,r3,r4,r5⟩,q0,q1,q2,q3,q4,q5⟩:=row6 HS.out.r;clear hs N0 N1 N2 N3 N4 N5;have R2:=row_set6 (bt_blk (bt_set6 wr (w.heap.size+1+1) (.int .i64 kp) (.int .i64 ka) (.int .i64 kb) (.int .i64 kx) (.int .i64 ky) (.int .i64 kn)) HS.out.r (by omega)) (.int .i64 kp) (.int .i64 ka) (.int .i64 kb) (.int .i64 kx) (.int .i64 ky) (.int .i64 kn);have b1:=HB.out.trans ((bt_set6 wr (w.heap.size+1+1) (.int .i64 kp) (.int .i64 ka) (.int .i64 kb) (.int .i64 kx) (.int .i64 ky) (.int .i64 kn)).below (by omega) HB.out.size);have b2:=b1.trans ((bt_set6 _ (w.heap.size+1) (.int .i64 kp) (.int .i64 ka) (.int .i64 kb) (.int .i64 kx) (.int .i64 ky) (.int .i64 kn)).below (by omega) b1.size);have HR:Hid (_∧_):=⟨R2,b2⟩
   clear R2 b1 b2;go_wp2;refine bodyPost_ret (ret_cv rfl _ _ _ _ _ _ _ _ _ rfl HR.out.1) rfl ?_;exact⟨rfl,HR.out.2⟩
def sgC (k:Int):Int:=if k%16=15 then -1 else k%3
theorem sgCurve_any (k s:Int) (hk:0≤k∧k<256) (w:World):Calls Tryz.prog 16 #[.agg #[.int .u8 k,.int .u8 s]] w fun e w'=>e=.returned (.int .i64 (sgC k))∧Below w.heap.size w w':=by
 have b0:=balloc w (.cells #[.int .u8 k,.int .u8 s] 23);have t1:k.tmod 16=k%16:=Int.tmod_eq_emod_of_nonneg hk.1;have t2:k.tmod 3=k%3:=Int.tmod_eq_emod_of_nonneg hk.1;obtain⟨a,ha⟩:∃a,k%16=a:=⟨_,rfl⟩
 obtain⟨b,hb⟩:∃b,k%3=b:=⟨_,rfl⟩
 have ra:0≤a∧a<16:=by omega
 have rb:0≤b∧b<3:=by omega
 unfold sgC;rw[ha]at t1 ⊢;rw[hb]at t2 ⊢;have wa:IntKind.u8.wrap a=a:=by simp[IntKind.wrap,IntKind.bits,IntKind.signed];omega
 have wb:IntKind.u8.wrap b=b:=by simp[IntKind.wrap,IntKind.bits,IntKind.signed];omega
 have wb2:IntKind.i64.wrap b=b:=IntWalk.i64_in _ (by omega);have HB:Hid (Below w.heap.size w _):=b0;by_cases h:a=15
 ·rw[if_pos h];subst h;clear ha hb ra rb b0;go_enter Tryz.func16,Tryz.ntmps16;go_wp2;go_ret;exact⟨rfl,HB.out⟩
 ·rw[if_neg h];have h1:(a==15)=false:=by simp[h]
  clear ha hb ra rb b0;go_enter Tryz.func16,Tryz.ntmps16;go_wp2;go_ret;exact⟨rfl,HB.out⟩
theorem sgSecret_any (k s:Int) (hs:0≤s∧s<256) (w:World):Calls Tryz.prog 22 #[.agg #[.int .u8 k,.int .u8 s]] w fun e w'=>e=.returned (.int .i64 (1+s))∧Below w.heap.size w w':=by have b0:=balloc w (.cells #[.int .u8 k,.int .u8 s] 23);have w1:IntKind.i64.wrap s=s:=IntWalk.i64_in _ (by omega);have w2:IntKind.i64.wrap (1+s)=1+s:=IntWalk.i64_in _ (by omega);have HB:Hid (Below w.heap.size w _):=b0;clear b0;go_enter Tryz.func22,Tryz.ntmps22;go_wp2;go_ret;exact⟨rfl,HB.out⟩
structure Fg (S:World→World→Prop) where
 sem:List Value→World→Prop
 keep:∀vs w w',Below w.heap.size w w'→sem vs w→sem vs w'
 store:∀vs w w',S w w'→sem vs w→sem vs w'
def Fg.eq {S:World→World→Prop} (e:Value):Fg S:=⟨fun vs _=>vs.getD 0 undef=e,fun _ _ _ _ h=>h,fun _ _ _ _ h=>h⟩
theorem fg_keep {S:World→World→Prop} (fs:List (Fg S)) (j:Nat) (vs:List Value) {w w':World} (hb:Below w.heap.size w w') (h:(fs.map Fg.sem).getD j (fun _ _=>True) vs w):(fs.map Fg.sem).getD j (fun _ _=>True) vs w':=by
 rw[List.getD_eq_getElem?_getD,List.getElem?_map]at h ⊢
 cases hf:fs[j]? with
 | none=>trivial
 | some f=>rw[hf]at h;exact f.keep vs w w' hb h
theorem fg_store {S:World→World→Prop} (fs:List (Fg S)) (j:Nat) (vs:List Value) {w w':World} (hs:S w w') (h:(fs.map Fg.sem).getD j (fun _ _=>True) vs w):(fs.map Fg.sem).getD j (fun _ _=>True) vs w':=by
 rw[List.getD_eq_getElem?_getD,List.getElem?_map]at h ⊢
 cases hf:fs[j]? with
 | none=>trivial
 | some f=>rw[hf]at h;exact f.store vs w w' hs h
section
variable {ops : Array Oper} {S : World → World → Prop}
end
def KyB (w:World) (r:Nat) (x3 x4 x5 x6:Value) (k c:Int) (b:Bool):Prop:=w.heap[r]?=some (.cells #[.int .u8 k,.int .i64 c,x3,x4,.bool b,x5,x6] 39 (0,0))
theorem Nv.apartK {w w':World} {v:Value} {n:Int} {L r:Nat} {a1 a2 a3 a4:Option Addr} {l1 k1 l2 k2 l3 k3 l4 k4:Nat} {k c:Int} {b:Bool} (h:Nv w v n L) (hs:KyB w r (.slice a1 l1 k1) (.slice a2 l2 k2) (.slice a3 l3 k3) (.slice a4 l4 k4) k c b) (hb:Bt r w w'):Nv w' v n L:=by
 obtain⟨ao,len,cap,xs,e,h1,h2,h3⟩:=h;refine⟨ao,len,cap,xs,e,⟨⟨h1.len,?_⟩,h1.lc,h1.cm,h1.nn,h1.dg,h1.sm⟩,h2,h3⟩;by_cases h0:len=0
 ·exact .inl h0
 ·obtain⟨b',off,e2,hlt,hc⟩:=h1.lies.at (by omega);have hne:b'≠r:=fun e3=>by
   subst e3;have h4:=hc 0 (by omega);rw[cell_of_row _ _ _ _ _ _ hs]at h4;obtain⟨o,ho⟩:∃o,off+0=o:=⟨_,rfl⟩
   rw[ho]at h4;match o,h4 with
   | 0,h4=>cases h4
   | 1,h4=>cases h4
   | 2,h4=>cases h4
   | 3,h4=>cases h4
   | 4,h4=>cases h4
   | 5,h4=>cases h4
   | 6,h4=>cases h4
   | k+7,h4=>simp at h4
  exact .inr ⟨b',off,e2,Nat.lt_of_lt_of_le hlt hb.size,fun i hi=>(World.cell?_of_block (w:=w) (hb.block b' hlt hne)).trans (hc i hi)⟩
theorem row7 {W:World} {b:Nat} {c0 c1 c2 c3 c4 c5 c6:Value} {t:TypeId} (h:W.heap[b]?=some (.cells #[c0,c1,c2,c3,c4,c5,c6] t (0,0))):(W.cell? ⟨b,0,none⟩=some c0∧W.cell? ⟨b,1,none⟩=some c1∧W.cell? ⟨b,2,none⟩=some c2∧W.cell? ⟨b,3,none⟩=some c3∧W.cell? ⟨b,4,none⟩=some c4∧W.cell? ⟨b,5,none⟩=some c5∧W.cell? ⟨b,6,none⟩=some c6)∧W.frozen? ⟨b,0,none⟩=false∧W.frozen? ⟨b,1,none⟩=false∧W.frozen? ⟨b,2,none⟩=false∧W.frozen? ⟨b,3,none⟩=false∧W.frozen? ⟨b,4,none⟩=false∧W.frozen? ⟨b,5,none⟩=false∧W.frozen? ⟨b,6,none⟩=false:=by refine⟨⟨?_,?_,?_,?_,?_,?_,?_⟩,frozen_of_row W b 0 _ _ h,frozen_of_row W b 1 _ _ h,frozen_of_row W b 2 _ _ h,frozen_of_row W b 3 _ _ h,frozen_of_row W b 4 _ _ h,frozen_of_row W b 5 _ _ h,frozen_of_row W b 6 _ _ h⟩<;>(rw[cell_of_row _ _ _ _ _ _ h];rfl)
abbrev set7 (W:World) (g:Nat) (d0 d1 d2 d3 d4 d5 d6:Value):World:=((((((W.setCell ⟨g,0,none⟩ d0).setCell ⟨g,1,none⟩ d1).setCell ⟨g,2,none⟩ d2).setCell ⟨g,3,none⟩ d3).setCell ⟨g,4,none⟩ d4).setCell ⟨g,5,none⟩ d5).setCell ⟨g,6,none⟩ d6
theorem bt_set7 (W:World) (g:Nat) (d0 d1 d2 d3 d4 d5 d6:Value):Bt g W (set7 W g d0 d1 d2 d3 d4 d5 d6):=((((((Bt.setCell g W 0 d0).trans (Bt.setCell g _ 1 d1)).trans (Bt.setCell g _ 2 d2)).trans (Bt.setCell g _ 3 d3)).trans (Bt.setCell g _ 4 d4)).trans (Bt.setCell g _ 5 d5)).trans (Bt.setCell g _ 6 d6)
theorem row_set7 {W:World} {g:Nat} {c0 c1 c2 c3 c4 c5 c6:Value} {t:TypeId} (h:W.heap[g]?=some (.cells #[c0,c1,c2,c3,c4,c5,c6] t (0,0))) (d0 d1 d2 d3 d4 d5 d6:Value):(set7 W g d0 d1 d2 d3 d4 d5 d6).heap[g]?=some (.cells #[d0,d1,d2,d3,d4,d5,d6] t (0,0)):=by
 show((((((((W.setCell ⟨g,0,none⟩ d0).setCell ⟨g,1,none⟩ d1).setCell ⟨g,2,none⟩ d2).setCell ⟨g,3,none⟩ d3).setCell ⟨g,4,none⟩ d4).setCell ⟨g,5,none⟩ d5).setCell ⟨g,6,none⟩ d6)).heap[g]?=_;have h1:(W.setCell ⟨g,0,none⟩ d0).heap[g]?=some (.cells #[d0,c1,c2,c3,c4,c5,c6] t (0,0)):=heap_set7 W g 0 d0 _ _ _ h;obtain⟨W1,e1⟩:∃WW:World,W.setCell ⟨g,0,none⟩ d0=WW:=⟨_,rfl⟩
 rw[e1]at h1 ⊢;have h2:(W1.setCell ⟨g,1,none⟩ d1).heap[g]?=some (.cells #[d0,d1,c2,c3,c4,c5,c6] t (0,0)):=heap_set7 W1 g 1 d1 _ _ _ h1;obtain⟨W2,e2⟩:∃WW:World,W1.setCell ⟨g,1,none⟩ d1=WW:=⟨_,rfl⟩
 rw[e2]at h2 ⊢;have h3:(W2.setCell ⟨g,2,none⟩ d2).heap[g]?=some (.cells #[d0,d1,d2,c3,c4,c5,c6] t (0,0)):=heap_set7 W2 g 2 d2 _ _ _ h2;obtain⟨W3,e3⟩:∃WW:World,W2.setCell ⟨g,2,none⟩ d2=WW:=⟨_,rfl⟩
 rw[e3]at h3 ⊢;have h4:(W3.setCell ⟨g,3,none⟩ d3).heap[g]?=some (.cells #[d0,d1,d2,d3,c4,c5,c6] t (0,0)):=heap_set7 W3 g 3 d3 _ _ _ h3;obtain⟨W4,e4⟩:∃WW:World,W3.setCell ⟨g,3,none⟩ d3=WW:=⟨_,rfl⟩
 rw[e4]at h4 ⊢;have h5:(W4.setCell ⟨g,4,none⟩ d4).heap[g]?=some (.cells #[d0,d1,d2,d3,d4,c5,c6] t (0,0)):=heap_set7 W4 g 4 d4 _ _ _ h4;obtain⟨W5,e5⟩:∃WW:World,W4.setCell ⟨g,4,none⟩ d4=WW:=⟨_,rfl⟩
 rw[e5]at h5 ⊢;have h6:(W5.setCell ⟨g,5,none⟩ d5).heap[g]?=some (.cells #[d0,d1,d2,d3,d4,d5,c6] t (0,0)):=heap_set7 W5 g 5 d5 _ _ _ h5;obtain⟨W6,e6⟩:∃WW:World,W5.setCell ⟨g,5,none⟩ d5=WW:=⟨_,rfl⟩
 rw[e6]at h6 ⊢;have h7:(W6.setCell ⟨g,6,none⟩ d6).heap[g]?=some (.cells #[d0,d1,d2,d3,d4,d5,d6] t (0,0)):=heap_set7 W6 g 6 d6 _ _ _ h6;exact h7
theorem sizeKy:(Tryz.prog.info? 39).map (·.size)=some 7:=by kernel_rfl
theorem ret_ky {fn:Func} {p:Tmp} (h:fn.results=#[.cell p 39]) (tmps:Array Value) (w:World) (g:Nat) (c0 c1 c2 c3 c4 c5 c6:Value) (hp:tmps.getD p undef=.pointer (some ⟨g,0,none⟩)) (hg:w.heap[g]?=some (.cells #[c0,c1,c2,c3,c4,c5,c6] 39 (0,0))):
  (results fn tmps).run Tryz.prog w=.ok (.agg #[c0,c1,c2,c3,c4,c5,c6]) w:=
 results_cell_row h tmps w g 39 _ (0,0) _ hp hg Tryz.underlying39 rfl sizeKy
def isSl (v:Value):Prop:=∃a l k,v=.slice a l k
def Sh9 (W:World) (b:Nat):Prop:=∃(i1 i2:Int) (c2 c3 c4 c5 c6 c7 c8:Value),W.heap[b]?=some (.cells #[.int .i64 i1,.int .i64 i2,c2,c3,c4,c5,c6,c7,c8] 55 (0,0))∧isSl c2∧isSl c3∧isSl c4∧isSl c5∧isSl c6∧isSl c7∧isSl c8
structure Fh where
 sem:List Value→World→Prop
 keep:∀vs w w',Below w.heap.size w w'→sem vs w→sem vs w'
 ok':Bool
 store:ok'=true→∀vs w w' r,Sh9 w r→Sh9 w' r→Bt r w w'→sem vs w→sem vs w'
def Fh.eq (e:Value):Fh:=⟨fun vs _=>vs.getD 0 undef=e,fun _ _ _ _ h=>h,true,fun _ _ _ _ _ _ _ _ h=>h⟩
def Fh.pu (p:List Value→Prop):Fh:=⟨fun vs _=>p vs,fun _ _ _ _ h=>h,true,fun _ _ _ _ _ _ _ _ h=>h⟩
def Fh.same:Fh:=⟨fun vs _=>vs.getD 0 undef=vs.getD 1 undef,fun _ _ _ _ h=>h,true,fun _ _ _ _ _ _ _ _ h=>h⟩
structure CuJ (W:World) (g j:Nat) (K:Cz) (g1 g2:Int) (oo:Option Addr) (lo co:Nat) (b0 b1 b2 b3 b4 b5:Nat):Prop where
 big:∃cur t fr,W.heap[g]?=some (.cells cur t fr)∧9<cur.size
 at':CuAt W g (j*9) g1 g2 oo lo co b0 b1 b2 b3 b4 b5
 cu:Cu W (curV g1 g2 oo lo co b0 b1 b2 b3 b4 b5) K 1
theorem CuJ.keep {W W':World} {g j:Nat} {K:Cz} {g1 g2:Int} {oo:Option Addr} {lo co b0 b1 b2 b3 b4 b5:Nat} (h:CuJ W g j K g1 g2 oo lo co b0 b1 b2 b3 b4 b5) (hb:Below W.heap.size W W'):CuJ W' g j K g1 g2 oo lo co b0 b1 b2 b3 b4 b5:=by obtain⟨⟨cur,t,fr,h1,h2⟩,h3,h4⟩:=h;exact⟨⟨cur,t,fr,blk_old h1 hb,h2⟩,h3.keep hb,h4.old hb⟩
theorem fh_keep (fs:List Fh) (j:Nat) (vs:List Value) {w w':World} (hb:Below w.heap.size w w') (h:(fs.map Fh.sem).getD j (fun _ _=>True) vs w):(fs.map Fh.sem).getD j (fun _ _=>True) vs w':=by
 rw[List.getD_eq_getElem?_getD,List.getElem?_map]at h ⊢
 cases hf:fs[j]? with
 | none=>trivial
 | some f=>rw[hf]at h;exact f.keep vs w w' hb h
section
variable {ops : Array Oper}
theorem GInv.growH {rd:List (List Nat)} {fs:List Fh} {a0:Act} {w0:World} {listed:Array Bool} {a:Act} {w:World} (h:GInv .any ops rd (fs.map Fh.sem) a0 w0 listed a w) {i:Nat} {dst:Option Tmp} {KK:Act→World→Prop}
  (hK:∀v w',Below w0.heap.size w0 w'→(∀j vs,listed.getD j false=true→(fs.map Fh.sem).getD j (fun _ _=>True) vs w→(fs.map Fh.sem).getD j (fun _ _=>True) vs w')→(fs.map Fh.sem).getD i (fun _ _=>True) ((rd.getD i []).map fun s=>(a.put dst v).tmps.getD s undef) w'→KK (a.put dst v) w') (v:Value) (w':World) (hb:Below w.heap.size w w') (hf:(fs.map Fh.sem).getD i (fun _ _=>True) ((rd.getD i []).map fun s=>(a.put dst v).tmps.getD s undef) w'):KK (a.put dst v) w':=
 hK v w' (h.below.trans (hb.mono h.below.size)) (fun j vs _ hj=>fh_keep fs j vs hb hj) hf
end
end Go.Proofs.YtcgikjkpbpjgdabGreat
namespace Go.Proofs.YtcgikjkpbpjgdabGreat
open Go.RowKit
abbrev Bs:=List UInt8
end Go.Proofs.YtcgikjkpbpjgdabGreat
namespace Go.Proofs.YtcgikjkpbpjgdabGreat
open Go.Shelf Go.RowKit Go.Lib
theorem owns_keep {w w':World} {base:Nat} {e:TypeId} {s:Nat} {v:Value} {n:Nat} {xs:List Value} (h:w.ownsRow base e s v n xs) (hb:∀g,v.ownBlock=some g→w'.heap[g]?=w.heap[g]?):w'.ownsRow base e s v n xs:=by
 refine⟨h.1,?_⟩;rcases h.2 with h0|⟨g,cap,cur,rfl,hg,hrow,r⟩
 ·exact .inl h0
 ·exact .inr ⟨g,cap,cur,rfl,hg,by rw[hb g rfl];exact hrow,r⟩
theorem owns_lt {w:World} {base:Nat} {e:TypeId} {s:Nat} {v:Value} {n:Nat} {xs:List Value} (h:w.ownsRow base e s v n xs) {g:Nat} (hg:v.ownBlock=some g):base≤g∧g<w.heap.size∧∃cur,w.heap[g]?=some (.cells cur e (0,0)):=by
 rcases h.2 with⟨rfl,_⟩|⟨g',cap,cur,rfl,hb,hrow,r⟩
 ·cases hg
 ·cases hg;exact⟨hb,(Array.getElem?_eq_some_iff.1 hrow).1,cur,hrow⟩
theorem owns_cell {w:World} {base:Nat} {e:TypeId} {s:Nat} {n cap g:Nat} {xs:List Value} (h:w.ownsRow base e s (.slice (some ⟨g,0,none⟩) n cap) n xs) (j:Nat) (hj:j<n*s):w.cell? ⟨g,j,none⟩=xs[j]?:=by
 rcases h.2 with⟨h0,_⟩|⟨g',cap',cur,h0,hb,hrow,h1,h2,h3,h4⟩
 ·cases h0
 ·cases h0
  rw[cell_of_row w g j cur e (0,0) hrow,←h4,List.getElem?_take,if_pos hj];simp
theorem heap_set_at (w:World) (g j:Nat) (v:Value) (cs:Array Value) (t:TypeId) (fr:Nat × Nat) (h:w.heap[g]?=some (.cells cs t fr)):(w.setCell ⟨g,j,none⟩ v).heap[g]?=some (.cells (cs.setIfInBounds j v) t fr):=by have hlt:=(Array.getElem?_eq_some_iff.1 h).1;have he:w.heap[g]=.cells cs t fr:=(Array.getElem?_eq_some_iff.1 h).2;simp[World.setCell,hlt];rw[Array.getElem_modify];simp[he]
structure But (g:Nat) (w w':World):Prop where
 os:w'.os=w.os
 tape:w'.tape=w.tape
 output:w'.output=w.output
 size:w.heap.size≤w'.heap.size
 block:∀k,k<w.heap.size→k≠g→w'.heap[k]?=w.heap[k]?
theorem But.trans {g:Nat} {a b c:World} (h:But g a b) (k:But g b c):But g a c:=
 ⟨k.os.trans h.os,k.tape.trans h.tape,k.output.trans h.output,Nat.le_trans h.size k.size,fun i hi hg=>(k.block i (Nat.lt_of_lt_of_le hi h.size) hg).trans (h.block i hi hg)⟩
theorem But.below {g B:Nat} {w w':World} (h:But g w w') (hB:B≤g) (hw:B≤w.heap.size):Below B w w':=⟨h.os,h.tape,h.output,h.size,fun k hk=>h.block k (by omega) (by omega)⟩
theorem But.setCell (g:Nat) (w:World) (j:Nat) (v:Value):But g w (w.setCell ⟨g,j,none⟩ v):=⟨rfl,rfl,rfl,by simp[World.setCell],fun k _ hk=>Below.heap_setCell w ⟨g,j,none⟩ v k hk⟩
theorem But.cell {g:Nat} {w w':World} (h:But g w w') {p:Addr} (hp:p.block<w.heap.size) (hg:p.block≠g):w'.cell? p=w.cell? p:=World.cell?_of_block (w:=w) (h.block p.block hp hg)
def BAt (w:World) (p:Option Addr) (n:Nat) (bs:Bs):Prop:=0<n→∃b o,p=some ⟨b,o,none⟩∧∀i,i<n→w.cell? ⟨b,o+i,none⟩=some (.int .u8 ((bs.getD i 0).toNat:Int))
theorem bytesAt_drop {w:World} {p:Option Addr} {n:Nat} {bs:Bs} (h:BAt w p n bs) (hn:bs.length=n) (c j:Nat) (hj:j≤n) (hc:n≤c):BAt w (if c=j then p else p.map (fun x=>x.add j)) (n-j) (bs.drop j):=fun h0=>by obtain⟨b,o,rfl,hcl⟩:=h (by omega);rw[if_neg (by omega)];refine⟨b,o+j,by simp[Addr.add],fun i hi => ?_⟩;rw[show o+j+i=o+(j+i) by omega,hcl (j+i) (by omega)];simp[List.getD]
theorem alloc_sz (w:World) (o:Obj):(w.alloc o).heap.size=w.heap.size+1:=by show(w.heap.push o).size=_;simp
theorem BAt.below {w w':World} {p:Option Addr} {n:Nat} {l:Bs} (h:BAt w p n l) (hb:Below w.heap.size w w'):BAt w' p n l:=fun h0=>by obtain⟨b,o,e,hc⟩:=h h0;have hlt:=World.block_lt_of_cell? w ⟨b,o+0,none⟩ (hc 0 h0);exact⟨b,o,e,fun i hi=>by rw[←hc i hi];exact hb.cell (p:=⟨b,o+i,none⟩) hlt⟩
structure ByV (w:World) (P:Nat→Prop) (p:Option Addr) (c:Nat) (l:Bs):Prop where
 cap:l.length≤c
 big:c≤9223372036854775807
 lies:BAt w p l.length l
 ok:∀a,p=some a→0<l.length→P a.block
theorem ByV.lt {w:World} {P:Nat→Prop} {p:Option Addr} {c:Nat} {l:Bs} (h:ByV w P p c l) {a:Addr} (ha:p=some a) (h0:0<l.length):a.block<w.heap.size∧a.spot=none:=by
 obtain⟨b,o,e,hc⟩:=h.lies h0;rw[ha]at e
 cases e
 exact⟨World.block_lt_of_cell? w ⟨b,o+0,none⟩ (hc 0 h0),rfl⟩
theorem ByV.keep {w w':World} {P:Nat→Prop} {p:Option Addr} {c:Nat} {l:Bs} (h:ByV w P p c l) (hb:∀g,P g→g<w.heap.size→w'.heap[g]?=w.heap[g]?):ByV w' P p c l:=by refine⟨h.cap,h.big,fun h0 => ?_,h.ok⟩;obtain⟨b,o,e,hc⟩:=h.lies h0;have hl:=h.lt e h0;exact⟨b,o,e,fun i hi=>by rw[←hc i hi];exact World.cell?_of_block (w:=w) (hb b (h.ok _ e h0) hl.1)⟩
theorem ByV.mono {w:World} {P Q:Nat→Prop} {p:Option Addr} {c:Nat} {l:Bs} (h:ByV w P p c l) (hPQ:∀g,P g→g<w.heap.size→Q g):ByV w Q p c l:=
 ⟨h.cap,h.big,h.lies,fun a ha h0=>hPQ _ (h.ok a ha h0) (h.lt ha h0).1⟩
theorem ByV.nil (w:World) (P:Nat→Prop):ByV w P none 0 []:=⟨Nat.le_refl _,by omega,fun h=>absurd h (by simp),fun a ha=>by cases ha⟩
theorem ByV.drop {w:World} {P:Nat→Prop} {p:Option Addr} {c:Nat} {l:Bs} (h:ByV w P p c l) (j:Nat) (hj:j≤l.length):ByV w P (if c=j then p else p.map (fun x=>x.add j)) (c-j) (l.drop j):=by
 have hc:=h.cap;have hb:=h.big;refine⟨by rw[List.length_drop];omega,by omega,?_,?_⟩
 ·rw[List.length_drop];exact bytesAt_drop h.lies rfl c j hj hc
 ·intro a ha h0;rw[List.length_drop]at h0;rw[if_neg (by omega)]at ha
  cases p with
  | none=>cases ha
  | some q=>
   have h1:=h.ok q rfl (by omega);simp at ha;subst ha;unfold Addr.add;split<;>exact h1
theorem ByV.take {w:World} {P:Nat→Prop} {p:Option Addr} {c:Nat} {l:Bs} (h:ByV w P p c l) (j:Nat) (hj:j≤l.length):ByV w P p c (l.take j):=by
 have hc:=h.cap;have hb:=h.big;have hl:(l.take j).length=j:=by rw[List.length_take];omega
 refine⟨by omega,hb,fun h0 => ?_,fun a ha h0=>h.ok a ha (by omega)⟩;rw[hl]at h0 ⊢;obtain⟨b,o,e,hcl⟩:=h.lies (by omega);refine⟨b,o,e,fun i hi => ?_⟩;rw[hcl i (by omega)];simp[List.getD,List.getElem?_take,hi]
end Go.Proofs.YtcgikjkpbpjgdabGreat
namespace Go.Proofs.YtcgikjkpbpjgdabGreat
open Go.Shelf Go.RowKit
theorem infoU8:(Tryz.prog.info? 5).map (fun i=>(i.zero,i.size,i.bytes))=some (some (.int .u8 0),1,1):=by kernel_rfl
theorem byteCells_len (l:Bs):(Lib.byteCells l).length=l.length:=by simp[Lib.byteCells]
theorem byteCells_app (a b:Bs):Lib.byteCells a++Lib.byteCells b=Lib.byteCells (a++b):=by simp[Lib.byteCells]
theorem own_byv {w:World} {base:Nat} {v:Value} {l:Bs} (h:w.ownsRow base 5 1 v l.length (Lib.byteCells l)):∃p c,v=.slice p l.length c∧ByV w (fun b=>base≤b) p c l:=by
 rcases h.2 with⟨e,h0⟩|⟨g,cap,cur,e,hb,hr,h1,h2,_⟩
 ·have:l=[]:=List.eq_nil_of_length_eq_zero h0;subst this;exact⟨none,0,e,ByV.nil w _⟩
 ·refine⟨some ⟨g,0,none⟩,cap,e,⟨h1,by unfold maxLen at h2;omega,fun _=>⟨g,0,rfl,fun i hi => ?_⟩,fun a ha _=>by cases ha;exact hb⟩⟩;rw[e]at h;rw[Nat.zero_add,owns_cell h i (by omega)];unfold Lib.byteCells;rw[List.getElem?_map,List.getElem?_eq_getElem hi];simp[List.getD,hi]
theorem wpList_append_bat {w:World} {ops:Array Oper} {rest:List Oper} {o:Oper} {a:Act} {Q:Exit→Act→World→Prop} (hgd:o.guard=none) (s x:Operand)
  (ho:o.op=.call { callee:=.builtin .append,args:=#[s,x],argTypes:=#[24,24] }) (base:Nat) (v:Value) (hs:a.eval s=v) (old:Bs) (m:Nat) (hm:old.length=m) (hown:w.ownsRow base 5 1 v m (Lib.byteCells old)) (ad:Addr) (n c:Nat) (l:Bs) (hn:l.length=n) (hx:a.eval x=.slice (some ad) n c) (hr:BAt w (some ad) n l) (hlen:m+n≤100000000) (hbase:base≤w.heap.size)
  (h:∀v' w',w'.ownsRow base 5 1 v' (m+n) (Lib.byteCells (old++l))→w.grownBy w' v.ownBlock→wpList Tryz.prog ops Q rest (a.put o.dst v') w'):wpList Tryz.prog ops Q (o::rest) a w:=by
 obtain⟨i0,hi0,hz0,hz1,hz2⟩:=info_parts infoU8;refine wpList_append_own (w:=w) hgd s x _ ho base 5 i0 (.int .u8 0) 1 1 Tryz.underlying24 hi0 hz0 hz1 hz2 rfl (by decide) v m (Lib.byteCells old) hs hown ad n c (Lib.byteCells l) hx (by rw[byteCells_len,hn,Nat.mul_one]) ?_ (by intro u hu;simp only[Lib.byteCells,List.mem_map]at hu;obtain⟨x,_,rfl⟩:=hu;rfl) (by unfold maxLen;omega) (by omega) hbase ?_
 ·intro j u hj;obtain⟨hj1,hj2⟩:=List.getElem?_eq_some_iff.1 hj;have hj3:j<l.length:=by simpa [Lib.byteCells] using hj1
  obtain⟨b,f,e,hc⟩:=hr (by omega)
  cases e
  rw[Addr.add_mid,hc j (by omega),←hj2];simp[Lib.byteCells,List.getD,hj3]
 ·intro v' w' hown' hgr _;rw[byteCells_app]at hown';exact h v' w' hown' hgr
theorem clone_any (p:Option Addr) (n c:Nat) (l:Bs) (w:World) (hl:l.length=n) (h:BAt w p n l) (hn:n≤1000000):
  Calls Tryz.prog 122 #[.slice p n c] w fun e w'=>Below w.heap.size w w'∧∃p' c',e=.returned (.slice p' n c')∧ByV w' (fun b=>w.heap.size≤b) p' c' l:=by
 have heq:=fun(q:Option Addr) (m d:Nat) (W:World)=>Lib.run_eql_slice_nil (P:=Tryz.prog) W 24 5 q m d 0 0 Tryz.underlying24
 cases p with
 | none =>
  have h0:n=0:=by
   rcases Nat.eq_zero_or_pos n with h1|h1
   ·exact h1
   ·obtain⟨b,o,e,_⟩:=h h1
    cases e
  subst h0;have:l=[]:=List.eq_nil_of_length_eq_zero hl;subst this;have hq:=heq none 0 c;go_enter Tryz.func122,Tryz.ntmps122;go_wp2;go_ret;exact⟨Below.refl _ _,none,0,rfl,ByV.nil w _⟩
 | some ad=>
  have hq:=heq (some ad) n c;have hown0:(w.alloc (.cells #[] 5)).ownsRow w.heap.size 5 1 (.slice (some ⟨w.heap.size,0,none⟩) 0 0) 0 []:=World.ownsRow_lit w #[] 0 (Nat.le_refl _) (Nat.zero_le _) (by simp);have hb0:Below w.heap.size w (w.alloc (.cells #[] 5)):=(Below.refl _ _).alloc (Nat.le_refl _) _;go_enter Tryz.func122,Tryz.ntmps122;go_wp2_with (at_builtin;refine wpList_append_bat rfl (.tmp 5) (.tmp 6) rfl w.heap.size (.slice (some ⟨w.heap.size,0,none⟩) 0 0) rfl [] 0 rfl hown0 ad n c l hl rfl (h.below hb0) (by omega) hb0.size ?_;intro v1 w1 o1 gr1)
  go_ret;have hsz:=alloc_sz w (.cells #[] 5);subst hl;rw[Nat.zero_add,List.nil_append]at o1;obtain⟨p',c',e,hv⟩:=own_byv o1;refine⟨⟨gr1.os.trans hb0.os,gr1.tape.trans hb0.tape,gr1.output.trans hb0.output,Nat.le_trans hb0.size gr1.size,fun k hk=>(gr1.block k (by omega) (fun e=>by injection e with e;have e':k=w.heap.size:=e;omega)).trans (hb0.block k hk)⟩,p',c',by rw[←e];rfl,hv⟩
theorem run_append_nilc {w:World} (base:Nat) (ty:TypeId) (v:Value) (n c:Nat) (xs:List Value) (hown:w.ownsRow base 5 1 v n xs):(Builtin.append_ #[24,24] ty #[v,.slice none 0 c]).run Tryz.prog w=.ok v w:=by
 obtain⟨i0,hi0,hz0,hz1,hz2⟩:=info_parts infoU8;rcases hown.2 with⟨rfl,rfl⟩|⟨g,cap,cur,rfl,_,_,hnc,_⟩
 ·simp[Builtin.append_,run_underlying Tryz.underlying24,sizeOf,typeInfo,hi0,Builtin.lenOf,Builtin.firstCells]
 ·simp[Builtin.append_,run_underlying Tryz.underlying24,sizeOf,typeInfo,hi0,Builtin.lenOf,Builtin.firstCells,hnc,storeCells]
theorem owns_slice {w:World} {base:Nat} {e:TypeId} {s:Nat} {v:Value} {n:Nat} {xs:List Value} (h:w.ownsRow base e s v n xs):∃p c,v=.slice p n c:=by
 rcases h.2 with⟨rfl,rfl⟩|⟨g,cap,cur,rfl,_⟩
 ·exact⟨_,_,rfl⟩
 ·exact⟨_,_,rfl⟩
theorem wp_append_wt {w:World} {o:Oper} {a:Act} {K:Act→World→Prop} {Q:Exit→Act→World→Prop} (s x:Operand)
  (ho:o.op=.call { callee:=.builtin .append,args:=#[s,x],argTypes:=#[24,24] }) (base:Nat) (v:Value) (hs:a.eval s=v) (old:Bs) (m:Nat) (hm:old.length=m) (hown:w.ownsRow base 5 1 v m (Lib.byteCells old)) (p:Option Addr) (n c:Nat) (l:Bs) (hn:l.length=n) (hx:a.eval x=.slice p n c) (hr:BAt w p n l) (hlen:m+n≤100000000) (hbase:base≤w.heap.size)
  (h:∀v' w',w'.ownsRow base 5 1 v' (m+n) (Lib.byteCells (old++l))→w.grownBy w' v.ownBlock→(v'.ownBlock=v.ownBlock∨v'.ownBlock=some w.heap.size)→K (a.put o.dst v') w'):o.wp Tryz.prog a w K Q:=by
 obtain⟨i0,hi0,hz0,hz1,hz2⟩:=info_parts infoU8
 cases p with
 | none =>
  have h0:n=0:=by
   rcases Nat.eq_zero_or_pos n with h1|h1
   ·exact h1
   ·obtain⟨b,o,e,_⟩:=hr h1
    cases e
  subst h0;have:l=[]:=List.eq_nil_of_length_eq_zero hn;subst this;have hrun:=run_append_nilc (w:=w) base o.type v m c _ hown;unfold Oper.wp;simp[execOp,ho,resolve,invoke,builtin,hs,hx,hrun,Result.andThen];exact h v w (by simpa using hown) ⟨rfl,rfl,rfl,Nat.le_refl _,fun _ _ _=>rfl⟩ (.inl rfl)
 | some ad =>
  obtain⟨v',w',hrun,h2,h3,_,h5⟩:=run_append_own_at (P:=Tryz.prog) w base 24 o.type 5 i0 (.int .u8 0) 1 1 Tryz.underlying24 hi0 hz0 hz1 hz2 rfl (by decide) v m (Lib.byteCells old) hown ad n c (Lib.byteCells l) (by rw[byteCells_len,hn,Nat.mul_one]) (by
   intro j u hj;obtain⟨hj1,hj2⟩:=List.getElem?_eq_some_iff.1 hj;have hj3:j<l.length:=by simpa [Lib.byteCells] using hj1
   obtain⟨b,f,e,hc⟩:=hr (by omega)
   cases e
   rw[Addr.add_mid,hc j (by omega),←hj2];simp[Lib.byteCells,List.getD,hj3]) (by intro u hu;simp only[Lib.byteCells,List.mem_map]at hu;obtain⟨x,_,rfl⟩:=hu;rfl) (by unfold maxLen;omega) (by omega) hbase
  rw[byteCells_app]at h2;unfold Oper.wp;simp only[execOp,ho,resolve,invoke,builtin,Sem.run_bind,Sem.run_pure,Result.andThen_ok,List.map_toArray,List.map_cons,List.map_nil,hs,hx,hrun];exact h v' w' h2 h3 h5
theorem wpList_append_wt {w:World} {ops:Array Oper} {rest:List Oper} {o:Oper} {a:Act} {Q:Exit→Act→World→Prop} (hgd:o.guard=none) (s x:Operand)
  (ho:o.op=.call { callee:=.builtin .append,args:=#[s,x],argTypes:=#[24,24] }) (base:Nat) (v:Value) (hs:a.eval s=v) (old:Bs) (m:Nat) (hm:old.length=m) (hown:w.ownsRow base 5 1 v m (Lib.byteCells old)) (p:Option Addr) (n c:Nat) (l:Bs) (hn:l.length=n) (hx:a.eval x=.slice p n c) (hr:BAt w p n l) (hlen:m+n≤100000000) (hbase:base≤w.heap.size)
  (h:∀v' w',w'.ownsRow base 5 1 v' (m+n) (Lib.byteCells (old++l))→w.grownBy w' v.ownBlock→(v'.ownBlock=v.ownBlock∨v'.ownBlock=some w.heap.size)→wpList Tryz.prog ops Q rest (a.put o.dst v') w'):wpList Tryz.prog ops Q (o::rest) a w:=
 wpList_plain hgd fun _ hK=>wp_append_wt s x ho base v hs old m hm hown p n c l hn hx hr hlen hbase fun v' w' h1 h2 h3=>hK _ _ (h v' w' h1 h2 h3)
theorem alloc_le (w:World) (o:Obj):w.heap.size≤(w.alloc o).heap.size:=by rw[alloc_sz];omega
def u8sC (l:Bs):Array Value:=(l.map fun b=>Value.int .u8 (b.toNat:Int)).toArray
theorem byv_lit (W:World) (l:Bs) (hl:l.length≤1000):ByV (W.alloc (.cells (u8sC l) 5)) (fun b=>b<(W.alloc (.cells (u8sC l) 5)).heap.size) (some ⟨W.heap.size,0,none⟩) l.length l:=by refine⟨Nat.le_refl _,by omega,fun _=>⟨W.heap.size,0,rfl,fun i hi => ?_⟩,fun a ha _=>by cases ha;rw[alloc_sz];show W.heap.size<W.heap.size+1;omega⟩;rw[Nat.zero_add,cell_of_row _ W.heap.size i _ _ _ (heap_alloc_new W _)];simp[u8sC,List.getD,hi]
theorem below_drews {B:Nat} {a w:World} (h:Below B a w):∀q,Below B a (w.drewN q)
 | 0=>h
 | q+1=>(below_drews h q).drew
def bv (l:Bs):Nat:=l.foldl (fun a c=>a*256+c.toNat) 0
theorem bv_snoc (l:Bs) (c:UInt8):bv (l++[c])=bv l*256+c.toNat:=by simp[bv]
theorem fold_lt:∀(l:Bs) (a:Nat),l.foldl (fun a c=>a*256+c.toNat) a<(a+1)*256^l.length
 | [],a=>by simp
 | c::l,a=>by
  have h:=fold_lt l (a*256+c.toNat);have hc:=c.toNat_lt;rw[List.foldl_cons,List.length_cons,Nat.pow_succ];refine Nat.lt_of_lt_of_le h ?_;rw[Nat.mul_comm (256^l.length) 256,←Nat.mul_assoc];exact Nat.mul_le_mul_right _ (by omega)
theorem bv_lt (l:Bs):bv l<256^l.length:=by have:=fold_lt l 0;simpa [bv] using this
theorem take_snoc {l:Bs} {k:Nat} {c:UInt8} (h:l[k]?=some c):l.take (k+1)=l.take k++[c]:=by rw[List.take_add_one,h];rfl
def toB (zs:List Int):Bs:=zs.map fun z=>UInt8.ofNat z.toNat
theorem toB_len (zs:List Int):(toB zs).length=zs.length:=by simp[toB]
theorem row_bat {w:World} {g n:Nat} {zs:List Int} (h:Row 5 .u8 w g zs) (hl:zs.length=n) (hd:Dg 256 zs):BAt w (some ⟨g,0,none⟩) n (toB zs):=by
 intro h0;refine⟨g,0,rfl,fun i hi => ?_⟩;unfold Row at h;rw[Nat.zero_add,cell_of_row w g i _ _ _ h];have hi':i<zs.length:=by omega
 have hz:=hd zs[i] (List.getElem_mem hi');simp[toB,List.getD,hi'];omega
theorem blen_room (V:Int) (h0:0≤V):V<256^((blen V.toNat+7)/8):=by
 have h1:=blen_lt V.toNat;have h2:2^blen V.toNat≤256^((blen V.toNat+7)/8):=by rw[show(256:Nat)=2^8 from rfl,←Nat.pow_mul];exact Nat.pow_le_pow_right (by omega) (by omega)
 have h3:V.toNat<256^((blen V.toNat+7)/8):=Nat.lt_of_lt_of_le h1 h2;have h4:((256^((blen V.toNat+7)/8):Nat):Int)=256^((blen V.toNat+7)/8):=by simp
 omega
end Go.Proofs.YtcgikjkpbpjgdabGreat
namespace Go.Proofs.YtcgikjkpbpjgdabGreat
open Go.RowKit
def len1:Bs→Option (Nat × Bs)
 | []=>none
 | a::ys=>if a.toNat<128 then none else some (a.toNat,ys)
def len2:Bs→Option (Nat × Bs)
 | []=>none
 | [_]=>none
 | a::b::ys=>if a.toNat*256+b.toNat<256 then none else some (a.toNat*256+b.toNat,ys)
def lenD:Bs→Option (Nat × Bs)
 | []=>none
 | f::xs=>if f.toNat<128 then some (f.toNat,xs) else if f.toNat=129 then len1 xs else if f.toNat=130 then len2 xs else none
def readD (bs:Bs):Except Nat ((UInt8 × Bs) × Bs):=
 if 4096<bs.length then .error 3 else match bs with
 | []=>.error 30
 | t::xs=>if t.toNat%32=31 then .error 30 else match lenD xs with
  | none=>.error 30
  | some (n,ys)=>if ys.length<n then .error 30 else .ok ((t,ys.take n),ys.drop n)
def headD (n:Nat):Bs:=if n<128 then [UInt8.ofNat n] else if n<256 then [129,UInt8.ofNat n] else [130,UInt8.ofNat (n/256),UInt8.ofNat n]
def writeD (t:UInt8) (b:Bs):Bs:=t::(headD b.length++b)
theorem headD_len (n:Nat):(headD n).length=if n<128 then 1 else if n<256 then 2 else 3:=by
 unfold headD
 repeat' split
 all_goals rfl
theorem u8_of_toNat (c:UInt8) (n:Nat) (h:n%256=c.toNat):UInt8.ofNat n=c:=by apply UInt8.toNat_inj.1;rw[UInt8.toNat_ofNat'];exact h
theorem lenD_form:∀ {xs:Bs} {n:Nat} {ys:Bs},lenD xs=some (n,ys)→xs=headD n++ys∧n<65536:=by
 intro xs n ys h
 cases xs with
 | nil=>cases h
 | cons f xs =>
  have hf:=f.toNat_lt;simp only[lenD]at h;by_cases h1:f.toNat<128
  ·rw[if_pos h1]at h
   cases h
   exact⟨by unfold headD;rw[if_pos h1,u8_of_toNat f _ (by omega)];rfl,by omega⟩
  rw[if_neg h1]at h;by_cases h2:f.toNat=129
  ·rw[if_pos h2]at h
   cases xs with
   | nil=>cases h
   | cons a xs =>
    simp only[len1]at h;have ha:=a.toNat_lt;by_cases h3:a.toNat<128
    ·rw[if_pos h3]at h;cases h
    rw[if_neg h3]at h
    cases h
    have e:f=129:=UInt8.toNat_inj.1 h2;exact⟨by unfold headD;rw[if_neg h3,if_pos (by omega),u8_of_toNat a _ (by omega),e];rfl,by omega⟩
  rw[if_neg h2]at h;by_cases h3:f.toNat=130
  ·rw[if_pos h3]at h;match xs,h with
   | [],h=>cases h
   | [_],h=>cases h
   | a :: b :: xs, h =>
    simp only[len2]at h;have ha:=a.toNat_lt;have hb:=b.toNat_lt;by_cases h4:a.toNat*256+b.toNat<256
    ·rw[if_pos h4]at h;cases h
    rw[if_neg h4]at h
    cases h
    have e:f=130:=UInt8.toNat_inj.1 h3;exact⟨by unfold headD;rw[if_neg (by omega),if_neg h4,u8_of_toNat a ((a.toNat*256+b.toNat)/256) (by omega),u8_of_toNat b (a.toNat*256+b.toNat) (by omega),e];rfl,by omega⟩
  rw[if_neg h3]at h
  cases h
theorem lenD_head (n:Nat) (ys:Bs) (hn:n<65536):lenD (headD n++ys)=some (n,ys):=by
 unfold headD;by_cases h1:n<128
 ·rw[if_pos h1];have:(UInt8.ofNat n).toNat=n:=by rw[UInt8.toNat_ofNat'];omega
  simp[lenD,this,h1]
 rw[if_neg h1];by_cases h2:n<256
 ·rw[if_pos h2];have:(UInt8.ofNat n).toNat=n:=by rw[UInt8.toNat_ofNat'];omega
  simp[lenD,len1,this,h1]
 rw[if_neg h2];have e1:(UInt8.ofNat (n/256)).toNat=n/256:=by rw[UInt8.toNat_ofNat'];omega
 have e2:(UInt8.ofNat n).toNat=n%256:=by rw[UInt8.toNat_ofNat']
 have e3:n/256*256+n%256=n:=by omega
 simp only[lenD,len2,List.cons_append,List.nil_append,e1,e2,e3,if_neg h2];rfl
theorem read_form {bs:Bs} {t:UInt8} {b r:Bs} (h:readD bs=.ok ((t,b),r)):bs=writeD t b++r∧t.toNat%32≠31∧bs.length≤4096:=by
 unfold readD at h;by_cases h0:4096<bs.length
 ·rw[if_pos h0]at h;cases h
 rw[if_neg h0]at h
 cases bs with
 | nil=>cases h
 | cons c xs =>
  simp only[]at h;by_cases h1:c.toNat%32=31
  ·rw[if_pos h1]at h;cases h
  rw[if_neg h1]at h
  cases hl:lenD xs with
  | none=>rw[hl]at h;cases h
  | some q =>
   obtain⟨n,ys⟩:=q;rw[hl]at h;simp only[]at h;by_cases h2:ys.length<n
   ·rw[if_pos h2]at h;cases h
   rw[if_neg h2]at h
   cases h
   obtain⟨e,hn⟩:=lenD_form hl;refine⟨?_,h1,by omega⟩;unfold writeD;rw[List.length_take,Nat.min_eq_left (by omega),e];simp
theorem write_read {t:UInt8} {b r:Bs} (ht:t.toNat%32≠31) (hl:(writeD t b++r).length≤4096):readD (writeD t b++r)=.ok ((t,b),r):=by unfold readD;rw[if_neg (by omega)];unfold writeD at hl ⊢;simp only[List.cons_append,List.append_assoc];rw[if_neg ht,lenD_head _ _ (by simp at hl;omega)];simp
theorem read_err {bs:Bs} {k:Nat} (h:readD bs=.error k):k=3∧4096<bs.length∨k=30∧bs.length≤4096:=by
 unfold readD at h;by_cases h0:4096<bs.length
 ·rw[if_pos h0]at h;cases h;exact .inl ⟨rfl,h0⟩
 rw[if_neg h0]at h;refine .inr ⟨?_,by omega⟩
 cases bs with
 | nil=>cases h;rfl
 | cons c xs =>
  simp only[]at h;by_cases h1:c.toNat%32=31
  ·rw[if_pos h1]at h;cases h;rfl
  rw[if_neg h1]at h
  cases hl:lenD xs with
  | none=>rw[hl]at h;cases h;rfl
  | some q =>
   rw[hl]at h;simp only[]at h;by_cases h2:q.2.length<q.1
   ·rw[if_pos h2]at h;cases h;rfl
   rw[if_neg h2]at h
   cases h
theorem read_len {bs:Bs} {t:UInt8} {b r:Bs} (h:readD bs=.ok ((t,b),r)):r.length+2≤bs.length∧b.length+2≤bs.length∧r.length+b.length+2≤bs.length:=by
 obtain⟨e,_⟩:=read_form h;have hh:=headD_len b.length;have:1≤(headD b.length).length:=by rw[hh];(repeat' split)<;>omega
 rw[e];simp[writeD];omega
def allD:Nat→Bs→List (UInt8 × Bs) × Nat
 | 0,_=>([],0)
 | m+1,bs=>if bs=[] then ([],0) else match readD bs with
  | .error k=>([],k)
  | .ok (p,r)=>(p::(allD m r).1,(allD m r).2)
end Go.Proofs.YtcgikjkpbpjgdabGreat
