import Derived.Test.YtkhnnhbmchnajaaGreatK22
import Derived.Test.YtkhnnhbmchnajaaGreatK12
import Derived.Test.YtkhnnhbmchnajaaGreatK02
import Derived.Test.YtkhnnhbmchnajaaGreatK20
import Derived.Test.YtkhnnhbmchnajaaGreatK21
import Derived.Test.YtkhnnhbmchnajaaGreatK08
import Derived.Test.YtkhnnhbmchnajaaGreatK14
import Derived.WideShapes
import Derived.OpenShut
import Derived.ChangeSame
set_option maxRecDepth 100000
set_option maxHeartbeats 40000000
set_option linter.unusedVariables false
set_option linter.unusedSimpArgs false
namespace Go.Proofs.YtkhnnhbmchnajaaGreat
section
open Go.RowKit Go.Shelf
abbrev zero6:Array Value:=#[.int .i64 0,.int .i64 0,.int .i64 0,.int .i64 0,.int .i64 0,.int .i64 0]
structure Sm6(W:World)(b:Nat)(r0 r1 r2 r3 r4 r5:Value)(n0 n1 n2 n3 n4 n5:Int):Prop where
 r:W.heap[b+1]?=some (.cells #[.int .i64 0,.int .i64 0,.int .i64 0,.int .i64 0,.int .i64 0,.int .i64 0] 60 (0,0))
 o:W.heap[b+1+1]?=some (.cells #[.int .i64 0,.int .i64 0,.int .i64 0,.int .i64 0,.int .i64 0,.int .i64 0] 60 (0,0))
 l:W.heap[b+1+1+1]?=some (.cells #[r0,r1,r2,r3,r4,r5] 24 (0,0))
 a:W.heap[b+1+1+1+1]?=some (.cells #[.int .i64 n0,.int .i64 n1,.int .i64 n2,.int .i64 n3,.int .i64 n4,.int .i64 n5] 96 (0,0))
theorem Sm6.keep{W W':World}{b:Nat}{r0 r1 r2 r3 r4 r5:Value}{n0 n1 n2 n3 n4 n5:Int}(h:Sm6 W b r0 r1 r2 r3 r4 r5 n0 n1 n2 n3 n4 n5)(hb:Below W.heap.size W W'):Sm6 W' b r0 r1 r2 r3 r4 r5 n0 n1 n2 n3 n4 n5:=⟨blk_old h.r hb,blk_old h.o hb,blk_old h.l hb,blk_old h.a hb⟩
theorem row6{W:World}{b:Nat}{c0 c1 c2 c3 c4 c5:Value}{t:TypeId}(h:W.heap[b]?=some (.cells #[c0,c1,c2,c3,c4,c5] t (0,0))):(W.cell? ⟨b,0,none⟩=some c0∧W.cell? ⟨b,1,none⟩=some c1∧W.cell? ⟨b,2,none⟩=some c2∧W.cell? ⟨b,3,none⟩=some c3∧W.cell? ⟨b,4,none⟩=some c4∧W.cell? ⟨b,5,none⟩=some c5)∧W.frozen? ⟨b,0,none⟩=false∧W.frozen? ⟨b,1,none⟩=false∧W.frozen? ⟨b,2,none⟩=false∧W.frozen? ⟨b,3,none⟩=false∧W.frozen? ⟨b,4,none⟩=false∧W.frozen? ⟨b,5,none⟩=false:=by refine⟨⟨?_,?_,?_,?_,?_,?_⟩,frozen_of_row W b 0 _ _ h,frozen_of_row W b 1 _ _ h,frozen_of_row W b 2 _ _ h,frozen_of_row W b 3 _ _ h,frozen_of_row W b 4 _ _ h,frozen_of_row W b 5 _ _ h⟩<;>(rw[cell_of_row _ _ _ _ _ _ h];rfl)
theorem sm6_new(w:World)(o:Obj)(r0 r1 r2 r3 r4 r5:Value):Sm6 (((((w.alloc o).alloc (.cells zero6 60)).alloc (.cells zero6 60)).alloc (.cells #[r0,r1,r2,r3,r4,r5] 24)).alloc (.cells zero6 96)) w.heap.size r0 r1 r2 r3 r4 r5 0 0 0 0 0 0∧Below w.heap.size w (((((w.alloc o).alloc (.cells zero6 60)).alloc (.cells zero6 60)).alloc (.cells #[r0,r1,r2,r3,r4,r5] 24)).alloc (.cells zero6 96)):=by
 obtain⟨w1,e1⟩:∃x,w.alloc o=x:=⟨_,rfl⟩
 obtain⟨w2,e2⟩:∃x,w1.alloc (.cells zero6 60)=x:=⟨_,rfl⟩
 obtain⟨w3,e3⟩:∃x,w2.alloc (.cells zero6 60)=x:=⟨_,rfl⟩
 obtain⟨w4,e4⟩:∃x,w3.alloc (.cells #[r0,r1,r2,r3,r4,r5] 24)=x:=⟨_,rfl⟩
 have z1:w1.heap.size=w.heap.size+1:=by rw[←e1];exact alloc_sz7 _ _
 have z2:w2.heap.size=w.heap.size+1+1:=by rw[←e2,alloc_sz7,z1]
 have z3:w3.heap.size=w.heap.size+1+1+1:=by rw[←e3,alloc_sz7,z2]
 have z4:w4.heap.size=w.heap.size+1+1+1+1:=by rw[←e4,alloc_sz7,z3]
 have n2:w2.heap[w.heap.size+1]?=some (.cells zero6 60 (0,0)):=by rw[←e2,←z1];exact heap_alloc_new w1 _
 have n3:w3.heap[w.heap.size+1+1]?=some (.cells zero6 60 (0,0)):=by rw[←e3,←z2];exact heap_alloc_new w2 _
 have n4:w4.heap[w.heap.size+1+1+1]?=some (.cells #[r0,r1,r2,r3,r4,r5] 24 (0,0)):=by rw[←e4,←z3];exact heap_alloc_new w3 _
 have n5:=heap_alloc_new w4 (.cells zero6 96);rw[z4]at n5;have m2:w3.heap[w.heap.size+1]?=some (.cells zero6 60 (0,0)):=by rw[←e3];exact heap_new n2 (by omega)
 have k2:w4.heap[w.heap.size+1]?=some (.cells zero6 60 (0,0)):=by rw[←e4];exact heap_new m2 (by omega)
 have k3:w4.heap[w.heap.size+1+1]?=some (.cells zero6 60 (0,0)):=by rw[←e4];exact heap_new n3 (by omega)
 have bb:Below w.heap.size w (w4.alloc (.cells zero6 96)):=by rw[←e4,←e3,←e2,←e1];exact(((((Below.refl w.heap.size w).alloc (Nat.le_refl _) _).alloc (by rw[alloc_sz7];omega) _).alloc (by rw[alloc_sz7,alloc_sz7];omega) _).alloc (by rw[alloc_sz7,alloc_sz7,alloc_sz7];omega) _).alloc (by rw[alloc_sz7,alloc_sz7,alloc_sz7,alloc_sz7];omega) _
 rw[e1,e2,e3,e4];exact⟨⟨heap_new k2 (by omega),heap_new k3 (by omega),heap_new n4 (by omega),n5⟩,bb⟩
theorem sizeCv:(Tryz.prog.info? 60).map (·.size)=some 6:=by kernel_rfl
theorem ret_cv{fn:Func}{p u:Tmp}(h:fn.results=#[.cell p 60,.tmp u])(tmps:Array Value)(w:World)(g:Nat)(c0 c1 c2 c3 c4 c5:Value)(hp:tmps.getD p undef=.pointer (some ⟨g,0,none⟩))(hg:w.heap[g]?=some (.cells #[c0,c1,c2,c3,c4,c5] 60 (0,0))):
  (results fn tmps).run Tryz.prog w=.ok (.tuple #[.agg #[c0,c1,c2,c3,c4,c5],tmps.getD u undef]) w:=by
 rw[results_cell_tmp h,hp];have hl:=run_loadVar_row (P:=Tryz.prog) w g 60 60 #[c0,c1,c2,c3,c4,c5] (0,0) _ hg Tryz.underlying60 rfl sizeCv;simp[asAddr,Result.andThen,hl]
abbrev set6(W:World)(g:Nat)(d0 d1 d2 d3 d4 d5:Value):World:=(((((W.setCell ⟨g,0,none⟩ d0).setCell ⟨g,1,none⟩ d1).setCell ⟨g,2,none⟩ d2).setCell ⟨g,3,none⟩ d3).setCell ⟨g,4,none⟩ d4).setCell ⟨g,5,none⟩ d5
theorem bt_set6(W:World)(g:Nat)(d0 d1 d2 d3 d4 d5:Value):Bt g W (set6 W g d0 d1 d2 d3 d4 d5):=(((((Bt.setCell g W 0 d0).trans (Bt.setCell g _ 1 d1)).trans (Bt.setCell g _ 2 d2)).trans (Bt.setCell g _ 3 d3)).trans (Bt.setCell g _ 4 d4)).trans (Bt.setCell g _ 5 d5)
theorem row_set6{W:World}{g:Nat}{c0 c1 c2 c3 c4 c5:Value}{t:TypeId}(h:W.heap[g]?=some (.cells #[c0,c1,c2,c3,c4,c5] t (0,0)))(d0 d1 d2 d3 d4 d5:Value):(set6 W g d0 d1 d2 d3 d4 d5).heap[g]?=some (.cells #[d0,d1,d2,d3,d4,d5] t (0,0)):=by have h1:=heap_set7 W g 0 d0 _ _ _ h;have h2:=heap_set7 _ g 1 d1 _ _ _ h1;have h3:=heap_set7 _ g 2 d2 _ _ _ h2;have h4:=heap_set7 _ g 3 d3 _ _ _ h3;have h5:=heap_set7 _ g 4 d4 _ _ _ h4;exact heap_set7 _ g 5 d5 _ _ _ h5
def arr6 (K:Cz)(i k:Nat):Int:=if k<i then (match k with|0=>K.p|1=>K.a|2=>K.b|3=>K.gx|4=>K.gy|_=>K.n) else 0
theorem num_small(v:Value)(x:Int)(L:Nat)(w:World)(h:Nv w v x L)(hs:S31 x):Calls Tryz.prog 39 #[v] w fun e w'=>e=.returned (.tuple #[.int .i64 x,.bool true])∧Below w.heap.size w w':=by
 have:=number_nv v x L w h
 rwa [if_pos hs.2,show decide (x<2147483648)=true by simp[hs.2]]at this
theorem rSmallC_any(c:Value)(K:Cz)(L:Nat)(w:World)(hc:Cu w c K L)(h1:S31 K.p)(h2:S31 K.a)(h3:S31 K.b)(h4:S31 K.gx)(h5:S31 K.gy)(h6:S31 K.n):
  Calls Tryz.prog 14 #[c] w fun e w'=>e=.returned (.tuple #[rcv K,.bool true])∧Below w.heap.size w w':=by
 obtain⟨g1,g2,oo,lo,co,vp,va,vb,vx,vy,vn,rfl,c1,c2,c3,c4,c5,c6⟩:=hc;have N0:=fun W (hW:Below w.heap.size w W)=>num_small vp K.p L W (c1.old hW) h1;have N1:=fun W (hW:Below w.heap.size w W)=>num_small va K.a L W (c2.old hW) h2;have N2:=fun W (hW:Below w.heap.size w W)=>num_small vb K.b L W (c3.old hW) h3;have N3:=fun W (hW:Below w.heap.size w W)=>num_small vx K.gx L W (c4.old hW) h4;have N4:=fun W (hW:Below w.heap.size w W)=>num_small vy K.gy L W (c5.old hW) h5;have N5:=fun W (hW:Below w.heap.size w W)=>num_small vn K.n L W (c6.old hW) h6;obtain⟨a1,a2,a3,a4,rfl,a5⟩:=c1;obtain⟨b1,b2,b3,b4,rfl,b5⟩:=c2;obtain⟨d1,d2,d3,d4,rfl,d5⟩:=c3;obtain⟨e1,e2,e3,e4,rfl,e5⟩:=c4;obtain⟨f1,f2,f3,f4,rfl,f5⟩:=c5;obtain⟨j1,j2,j3,j4,rfl,j5⟩:=c6;obtain⟨kp,ka,kb,kx,ky,kn⟩:=K;unfold rcv;simp only at N0 N1 N2 N3 N4 N5 ⊢;clear a5 b5 d5 e5 f5 j5 h1 h2 h3 h4 h5 h6;obtain⟨F0,B0⟩:=sm6_new w (.cells #[.int .i64 g1,.int .i64 g2,.slice oo lo co,.slice a1 a2 a3,.slice b1 b2 b3,.slice d1 d2 d3,.slice e1 e2 e3,.slice f1 f2 f3,.slice j1 j2 j3] 52) (.slice a1 a2 a3) (.slice b1 b2 b3) (.slice d1 d2 d3) (.slice e1 e2 e3) (.slice f1 f2 f3) (.slice j1 j2 j3);have HF:Hid (_∧_):=⟨F0,B0⟩
 clear F0 B0;go_enter Tryz.func14,Tryz.ntmps14;go_wp2_with fail
 go_loopw [5,8] (fun vk vi wr=>∃(i:Nat),i≤6∧vi=.int .i64 (i:Int)∧vk=.bool true∧Sm6 wr w.heap.size (.slice a1 a2 a3) (.slice b1 b2 b3) (.slice d1 d2 d3) (.slice e1 e2 e3) (.slice f1 f2 f3) (.slice j1 j2 j3) (arr6 ⟨kp,ka,kb,kx,ky,kn⟩ i 0) (arr6 ⟨kp,ka,kb,kx,ky,kn⟩ i 1) (arr6 ⟨kp,ka,kb,kx,ky,kn⟩ i 2) (arr6 ⟨kp,ka,kb,kx,ky,kn⟩ i 3) (arr6 ⟨kp,ka,kb,kx,ky,kn⟩ i 4) (arr6 ⟨kp,ka,kb,kx,ky,kn⟩ i 5)∧Below w.heap.size w wr) (fun _ vi _=>6-(intOf vi).toNat)
 case atStart=>exact⟨0,by omega,rfl,rfl,HF.out.1,HF.out.2⟩
 case round=>
  obtain⟨i,hi,rfl,rfl,hs,hb⟩:=hrel;have HB:Hid (Below w.heap.size w wr):=hb;have hi7:i=0∨i=1∨i=2∨i=3∨i=4∨i=5∨i=6:=by omega
  clear hb hi;rcases hi7 with rfl|rfl|rfl|rfl|rfl|rfl|rfl
  ·have HS:Hid (Sm6 wr w.heap.size (.slice a1 a2 a3) (.slice b1 b2 b3) (.slice d1 d2 d3) (.slice e1 e2 e3) (.slice f1 f2 f3) (.slice j1 j2 j3) 0 0 0 0 0 0):=hs;obtain⟨⟨l0,l1,l2,l3,l4,l5⟩,-⟩:=row6 HS.out.l;have HN:=N0 wr HB.out;clear hs;go_wp2_with fail
   refine HN.mono ?_;rintro e w2 ⟨rfl,hb2⟩;have S2:=HS.out.keep hb2;have B2:=HB.out.trans (hb2.mono HB.out.size);obtain⟨⟨x0,x1,x2,x3,x4,x5⟩,y0,y1,y2,y3,y4,y5⟩:=row6 S2.a;have bt:=Bt.setCell (w.heap.size+1+1+1+1) w2 0 (.int .i64 kp);have S3:Sm6 (w2.setCell ⟨w.heap.size+1+1+1+1,0,none⟩ (.int .i64 kp)) w.heap.size (.slice a1 a2 a3) (.slice b1 b2 b3) (.slice d1 d2 d3) (.slice e1 e2 e3) (.slice f1 f2 f3) (.slice j1 j2 j3) kp 0 0 0 0 0:=⟨bt_blk bt S2.r (by omega),bt_blk bt S2.o (by omega),bt_blk bt S2.l (by omega),heap_set7 w2 _ 0 (.int .i64 kp) _ _ _ S2.a⟩
   have HS3:Hid (_∧_):=⟨S3,B2.trans (bt.below (by omega) B2.size)⟩
   clear l0 l1 l2 l3 l4 l5 S2 B2 bt S3 hb2 HN N0 N1 N2 N3 N4 N5 HS HB;go_wp2;go_roundw
   case rel=>exact⟨1,by omega,by go_num,rfl,HS3.out.1,HS3.out.2⟩
   case measure=>simp[intOf]
  ·have HS:Hid (Sm6 wr w.heap.size (.slice a1 a2 a3) (.slice b1 b2 b3) (.slice d1 d2 d3) (.slice e1 e2 e3) (.slice f1 f2 f3) (.slice j1 j2 j3) kp 0 0 0 0 0):=hs;obtain⟨⟨l0,l1,l2,l3,l4,l5⟩,-⟩:=row6 HS.out.l;have HN:=N1 wr HB.out;clear hs;go_wp2_with fail
   refine HN.mono ?_;rintro e w2 ⟨rfl,hb2⟩;have S2:=HS.out.keep hb2;have B2:=HB.out.trans (hb2.mono HB.out.size);obtain⟨⟨x0,x1,x2,x3,x4,x5⟩,y0,y1,y2,y3,y4,y5⟩:=row6 S2.a;have bt:=Bt.setCell (w.heap.size+1+1+1+1) w2 1 (.int .i64 ka);have S3:Sm6 (w2.setCell ⟨w.heap.size+1+1+1+1,1,none⟩ (.int .i64 ka)) w.heap.size (.slice a1 a2 a3) (.slice b1 b2 b3) (.slice d1 d2 d3) (.slice e1 e2 e3) (.slice f1 f2 f3) (.slice j1 j2 j3) kp ka 0 0 0 0:=⟨bt_blk bt S2.r (by omega),bt_blk bt S2.o (by omega),bt_blk bt S2.l (by omega),heap_set7 w2 _ 1 (.int .i64 ka) _ _ _ S2.a⟩
   have HS3:Hid (_∧_):=⟨S3,B2.trans (bt.below (by omega) B2.size)⟩
   clear l0 l1 l2 l3 l4 l5 S2 B2 bt S3 hb2 HN N0 N1 N2 N3 N4 N5 HS HB;go_wp2;go_roundw
   case rel=>exact⟨2,by omega,by go_num,rfl,HS3.out.1,HS3.out.2⟩
   case measure=>simp[intOf]
  ·have HS:Hid (Sm6 wr w.heap.size (.slice a1 a2 a3) (.slice b1 b2 b3) (.slice d1 d2 d3) (.slice e1 e2 e3) (.slice f1 f2 f3) (.slice j1 j2 j3) kp ka 0 0 0 0):=hs;obtain⟨⟨l0,l1,l2,l3,l4,l5⟩,-⟩:=row6 HS.out.l;have HN:=N2 wr HB.out;clear hs;go_wp2_with fail
   refine HN.mono ?_;rintro e w2 ⟨rfl,hb2⟩;have S2:=HS.out.keep hb2;have B2:=HB.out.trans (hb2.mono HB.out.size);obtain⟨⟨x0,x1,x2,x3,x4,x5⟩,y0,y1,y2,y3,y4,y5⟩:=row6 S2.a;have bt:=Bt.setCell (w.heap.size+1+1+1+1) w2 2 (.int .i64 kb);have S3:Sm6 (w2.setCell ⟨w.heap.size+1+1+1+1,2,none⟩ (.int .i64 kb)) w.heap.size (.slice a1 a2 a3) (.slice b1 b2 b3) (.slice d1 d2 d3) (.slice e1 e2 e3) (.slice f1 f2 f3) (.slice j1 j2 j3) kp ka kb 0 0 0:=⟨bt_blk bt S2.r (by omega),bt_blk bt S2.o (by omega),bt_blk bt S2.l (by omega),heap_set7 w2 _ 2 (.int .i64 kb) _ _ _ S2.a⟩
   have HS3:Hid (_∧_):=⟨S3,B2.trans (bt.below (by omega) B2.size)⟩
   clear l0 l1 l2 l3 l4 l5 S2 B2 bt S3 hb2 HN N0 N1 N2 N3 N4 N5 HS HB;go_wp2;go_roundw
   case rel=>exact⟨3,by omega,by go_num,rfl,HS3.out.1,HS3.out.2⟩
   case measure=>simp[intOf]
  ·have HS:Hid (Sm6 wr w.heap.size (.slice a1 a2 a3) (.slice b1 b2 b3) (.slice d1 d2 d3) (.slice e1 e2 e3) (.slice f1 f2 f3) (.slice j1 j2 j3) kp ka kb 0 0 0):=hs;obtain⟨⟨l0,l1,l2,l3,l4,l5⟩,-⟩:=row6 HS.out.l;have HN:=N3 wr HB.out;clear hs;go_wp2_with fail
   refine HN.mono ?_;rintro e w2 ⟨rfl,hb2⟩;have S2:=HS.out.keep hb2;have B2:=HB.out.trans (hb2.mono HB.out.size);obtain⟨⟨x0,x1,x2,x3,x4,x5⟩,y0,y1,y2,y3,y4,y5⟩:=row6 S2.a;have bt:=Bt.setCell (w.heap.size+1+1+1+1) w2 3 (.int .i64 kx);have S3:Sm6 (w2.setCell ⟨w.heap.size+1+1+1+1,3,none⟩ (.int .i64 kx)) w.heap.size (.slice a1 a2 a3) (.slice b1 b2 b3) (.slice d1 d2 d3) (.slice e1 e2 e3) (.slice f1 f2 f3) (.slice j1 j2 j3) kp ka kb kx 0 0:=⟨bt_blk bt S2.r (by omega),bt_blk bt S2.o (by omega),bt_blk bt S2.l (by omega),heap_set7 w2 _ 3 (.int .i64 kx) _ _ _ S2.a⟩
   have HS3:Hid (_∧_):=⟨S3,B2.trans (bt.below (by omega) B2.size)⟩
   clear l0 l1 l2 l3 l4 l5 S2 B2 bt S3 hb2 HN N0 N1 N2 N3 N4 N5 HS HB;go_wp2;go_roundw
   case rel=>exact⟨4,by omega,by go_num,rfl,HS3.out.1,HS3.out.2⟩
   case measure=>simp[intOf]
  ·have HS:Hid (Sm6 wr w.heap.size (.slice a1 a2 a3) (.slice b1 b2 b3) (.slice d1 d2 d3) (.slice e1 e2 e3) (.slice f1 f2 f3) (.slice j1 j2 j3) kp ka kb kx 0 0):=hs;obtain⟨⟨l0,l1,l2,l3,l4,l5⟩,-⟩:=row6 HS.out.l;have HN:=N4 wr HB.out;clear hs;go_wp2_with fail
   refine HN.mono ?_;rintro e w2 ⟨rfl,hb2⟩;have S2:=HS.out.keep hb2;have B2:=HB.out.trans (hb2.mono HB.out.size);obtain⟨⟨x0,x1,x2,x3,x4,x5⟩,y0,y1,y2,y3,y4,y5⟩:=row6 S2.a;have bt:=Bt.setCell (w.heap.size+1+1+1+1) w2 4 (.int .i64 ky);have S3:Sm6 (w2.setCell ⟨w.heap.size+1+1+1+1,4,none⟩ (.int .i64 ky)) w.heap.size (.slice a1 a2 a3) (.slice b1 b2 b3) (.slice d1 d2 d3) (.slice e1 e2 e3) (.slice f1 f2 f3) (.slice j1 j2 j3) kp ka kb kx ky 0:=⟨bt_blk bt S2.r (by omega),bt_blk bt S2.o (by omega),bt_blk bt S2.l (by omega),heap_set7 w2 _ 4 (.int .i64 ky) _ _ _ S2.a⟩
   have HS3:Hid (_∧_):=⟨S3,B2.trans (bt.below (by omega) B2.size)⟩
   clear l0 l1 l2 l3 l4 l5 S2 B2 bt S3 hb2 HN N0 N1 N2 N3 N4 N5 HS HB;go_wp2;go_roundw
   case rel=>exact⟨5,by omega,by go_num,rfl,HS3.out.1,HS3.out.2⟩
   case measure=>simp[intOf]
  ·have HS:Hid (Sm6 wr w.heap.size (.slice a1 a2 a3) (.slice b1 b2 b3) (.slice d1 d2 d3) (.slice e1 e2 e3) (.slice f1 f2 f3) (.slice j1 j2 j3) kp ka kb kx ky 0):=hs;obtain⟨⟨l0,l1,l2,l3,l4,l5⟩,-⟩:=row6 HS.out.l;have HN:=N5 wr HB.out;clear hs;go_wp2_with fail
   refine HN.mono ?_;rintro e w2 ⟨rfl,hb2⟩;have S2:=HS.out.keep hb2;have B2:=HB.out.trans (hb2.mono HB.out.size);obtain⟨⟨x0,x1,x2,x3,x4,x5⟩,y0,y1,y2,y3,y4,y5⟩:=row6 S2.a;have bt:=Bt.setCell (w.heap.size+1+1+1+1) w2 5 (.int .i64 kn);have S3:Sm6 (w2.setCell ⟨w.heap.size+1+1+1+1,5,none⟩ (.int .i64 kn)) w.heap.size (.slice a1 a2 a3) (.slice b1 b2 b3) (.slice d1 d2 d3) (.slice e1 e2 e3) (.slice f1 f2 f3) (.slice j1 j2 j3) kp ka kb kx ky kn:=⟨bt_blk bt S2.r (by omega),bt_blk bt S2.o (by omega),bt_blk bt S2.l (by omega),heap_set7 w2 _ 5 (.int .i64 kn) _ _ _ S2.a⟩
   have HS3:Hid (_∧_):=⟨S3,B2.trans (bt.below (by omega) B2.size)⟩
   clear l0 l1 l2 l3 l4 l5 S2 B2 bt S3 hb2 HN N0 N1 N2 N3 N4 N5 HS HB;go_wp2;go_roundw
   case rel=>exact⟨6,by omega,by go_num,rfl,HS3.out.1,HS3.out.2⟩
   case measure=>simp[intOf]
  ·have HS:Hid (Sm6 wr w.heap.size (.slice a1 a2 a3) (.slice b1 b2 b3) (.slice d1 d2 d3) (.slice e1 e2 e3) (.slice f1 f2 f3) (.slice j1 j2 j3) kp ka kb kx ky kn):=hs;obtain⟨⟨x0,x1,x2,x3,x4,x5⟩,y0,y1,y2,y3,y4,y5⟩:=row6 HS.out.a;obtain⟨⟨o0,o1,o2,o3,o4,o5⟩,p0,p1,p2,p3,p4,p5⟩:=row6 HS.out.o;obtain⟨⟨r0,r1,r2,r3,r4,r5⟩,q0,q1,q2,q3,q4,q5⟩:=row6 HS.out.r;clear hs N0 N1 N2 N3 N4 N5;have R2:=row_set6 (bt_blk (bt_set6 wr (w.heap.size+1+1) (.int .i64 kp) (.int .i64 ka) (.int .i64 kb) (.int .i64 kx) (.int .i64 ky) (.int .i64 kn)) HS.out.r (by omega)) (.int .i64 kp) (.int .i64 ka) (.int .i64 kb) (.int .i64 kx) (.int .i64 ky) (.int .i64 kn);have b1:=HB.out.trans ((bt_set6 wr (w.heap.size+1+1) (.int .i64 kp) (.int .i64 ka) (.int .i64 kb) (.int .i64 kx) (.int .i64 ky) (.int .i64 kn)).below (by omega) HB.out.size);have b2:=b1.trans ((bt_set6 _ (w.heap.size+1) (.int .i64 kp) (.int .i64 ka) (.int .i64 kb) (.int .i64 kx) (.int .i64 ky) (.int .i64 kn)).below (by omega) b1.size);have HR:Hid (_∧_):=⟨R2,b2⟩
   clear R2 b1 b2;go_wp2;refine bodyPost_ret (ret_cv rfl _ _ _ _ _ _ _ _ _ rfl HR.out.1) rfl ?_;exact⟨rfl,HR.out.2⟩
def sgC (k:Int):Int:=if k%16=15 then -1 else k%3
theorem sgCurve_any(k s:Int)(hk:0≤k∧k<256)(w:World):Calls Tryz.prog 11 #[.agg #[.int .u8 k,.int .u8 s]] w fun e w'=>e=.returned (.int .i64 (sgC k))∧Below w.heap.size w w':=by
 have b0:=balloc w (.cells #[.int .u8 k,.int .u8 s] 32);have t1:k.tmod 16=k%16:=Int.tmod_eq_emod_of_nonneg hk.1;have t2:k.tmod 3=k%3:=Int.tmod_eq_emod_of_nonneg hk.1;obtain⟨a,ha⟩:∃a,k%16=a:=⟨_,rfl⟩
 obtain⟨b,hb⟩:∃b,k%3=b:=⟨_,rfl⟩
 have ra:0≤a∧a<16:=by omega
 have rb:0≤b∧b<3:=by omega
 unfold sgC;rw[ha]at t1 ⊢;rw[hb]at t2 ⊢;have wa:IntKind.u8.wrap a=a:=by simp[IntKind.wrap,IntKind.bits,IntKind.signed];omega
 have wb:IntKind.u8.wrap b=b:=by simp[IntKind.wrap,IntKind.bits,IntKind.signed];omega
 have wb2:IntKind.i64.wrap b=b:=IntWalk.i64_in _ (by omega);have HB:Hid (Below w.heap.size w _):=b0;by_cases h:a=15
 ·rw[if_pos h];subst h;clear ha hb ra rb b0;go_enter Tryz.func11,Tryz.ntmps11;go_wp2;go_ret;exact⟨rfl,HB.out⟩
 ·rw[if_neg h];have h1:(a==15)=false:=by simp[h]
  clear ha hb ra rb b0;go_enter Tryz.func11,Tryz.ntmps11;go_wp2;go_ret;exact⟨rfl,HB.out⟩
theorem sgSecret_any(k s:Int)(hs:0≤s∧s<256)(w:World):Calls Tryz.prog 17 #[.agg #[.int .u8 k,.int .u8 s]] w fun e w'=>e=.returned (.int .i64 (1+s))∧Below w.heap.size w w':=by have b0:=balloc w (.cells #[.int .u8 k,.int .u8 s] 32);have w1:IntKind.i64.wrap s=s:=IntWalk.i64_in _ (by omega);have w2:IntKind.i64.wrap (1+s)=1+s:=IntWalk.i64_in _ (by omega);have HB:Hid (Below w.heap.size w _):=b0;clear b0;go_enter Tryz.func17,Tryz.ntmps17;go_wp2;go_ret;exact⟨rfl,HB.out⟩
structure Fg(S:World→World→Prop) where
 sem:List Value→World→Prop
 keep:∀vs w w',Below w.heap.size w w'→sem vs w→sem vs w'
 store:∀vs w w',S w w'→sem vs w→sem vs w'
def Fg.eq{S:World→World→Prop}(e:Value):Fg S:=⟨fun vs _=>vs.getD 0 undef=e,fun _ _ _ _ h=>h,fun _ _ _ _ h=>h⟩
theorem fg_keep{S:World→World→Prop}(fs:List (Fg S))(j:Nat)(vs:List Value){w w':World}(hb:Below w.heap.size w w')(h:(fs.map Fg.sem).getD j (fun _ _=>True) vs w):(fs.map Fg.sem).getD j (fun _ _=>True) vs w':=by
 rw[List.getD_eq_getElem?_getD,List.getElem?_map]at h ⊢
 cases hf:fs[j]? with
 | none=>trivial
 | some f=>rw[hf]at h;exact f.keep vs w w' hb h
theorem fg_store{S:World→World→Prop}(fs:List (Fg S))(j:Nat)(vs:List Value){w w':World}(hs:S w w')(h:(fs.map Fg.sem).getD j (fun _ _=>True) vs w):(fs.map Fg.sem).getD j (fun _ _=>True) vs w':=by
 rw[List.getD_eq_getElem?_getD,List.getElem?_map]at h ⊢
 cases hf:fs[j]? with
 | none=>trivial
 | some f=>rw[hf]at h;exact f.store vs w w' hs h
section
variable {ops : Array Oper} {S : World → World → Prop}
end
def KyB (w:World)(r:Nat)(x3 x4 x5 x6:Value)(k c:Int)(b:Bool):Prop:=w.heap[r]?=some (.cells #[.int .u8 k,.int .i64 c,x3,x4,.bool b,x5,x6] 30 (0,0))
theorem Nv.apartK{w w':World}{v:Value}{n:Int}{L r:Nat}{a1 a2 a3 a4:Option Addr}{l1 k1 l2 k2 l3 k3 l4 k4:Nat}{k c:Int}{b:Bool}(h:Nv w v n L)(hs:KyB w r (.slice a1 l1 k1) (.slice a2 l2 k2) (.slice a3 l3 k3) (.slice a4 l4 k4) k c b)(hb:Bt r w w'):Nv w' v n L:=by
 obtain⟨ao,len,cap,xs,e,h1,h2,h3⟩:=h;refine⟨ao,len,cap,xs,e,⟨⟨h1.len,?_⟩,h1.lc,h1.cm,h1.nn,h1.dg,h1.sm⟩,h2,h3⟩;by_cases h0:len=0
 ·exact .inl h0
 ·obtain⟨b',off,e2,hlt,hc⟩:=h1.lies.at (by omega);have hne:b'≠r:=fun e3=>by
   subst e3;have h4:=hc 0 (by omega);rw[cell_of_row _ _ _ _ _ _ hs]at h4;obtain⟨o,ho⟩:∃o,off+0=o:=⟨_,rfl⟩
   rw[ho]at h4;match o,h4 with
   | 0,h4=>cases h4
   | 1,h4=>cases h4
   | 2,h4=>cases h4
   | 3,h4=>cases h4
   | 4,h4=>cases h4
   | 5,h4=>cases h4
   | 6,h4=>cases h4
   | k+7,h4=>simp at h4
  exact .inr ⟨b',off,e2,Nat.lt_of_lt_of_le hlt hb.size,fun i hi=>(World.cell?_of_block (w:=w) (hb.block b' hlt hne)).trans (hc i hi)⟩
theorem row7{W:World}{b:Nat}{c0 c1 c2 c3 c4 c5 c6:Value}{t:TypeId}(h:W.heap[b]?=some (.cells #[c0,c1,c2,c3,c4,c5,c6] t (0,0))):(W.cell? ⟨b,0,none⟩=some c0∧W.cell? ⟨b,1,none⟩=some c1∧W.cell? ⟨b,2,none⟩=some c2∧W.cell? ⟨b,3,none⟩=some c3∧W.cell? ⟨b,4,none⟩=some c4∧W.cell? ⟨b,5,none⟩=some c5∧W.cell? ⟨b,6,none⟩=some c6)∧W.frozen? ⟨b,0,none⟩=false∧W.frozen? ⟨b,1,none⟩=false∧W.frozen? ⟨b,2,none⟩=false∧W.frozen? ⟨b,3,none⟩=false∧W.frozen? ⟨b,4,none⟩=false∧W.frozen? ⟨b,5,none⟩=false∧W.frozen? ⟨b,6,none⟩=false:=by refine⟨⟨?_,?_,?_,?_,?_,?_,?_⟩,frozen_of_row W b 0 _ _ h,frozen_of_row W b 1 _ _ h,frozen_of_row W b 2 _ _ h,frozen_of_row W b 3 _ _ h,frozen_of_row W b 4 _ _ h,frozen_of_row W b 5 _ _ h,frozen_of_row W b 6 _ _ h⟩<;>(rw[cell_of_row _ _ _ _ _ _ h];rfl)
abbrev set7(W:World)(g:Nat)(d0 d1 d2 d3 d4 d5 d6:Value):World:=((((((W.setCell ⟨g,0,none⟩ d0).setCell ⟨g,1,none⟩ d1).setCell ⟨g,2,none⟩ d2).setCell ⟨g,3,none⟩ d3).setCell ⟨g,4,none⟩ d4).setCell ⟨g,5,none⟩ d5).setCell ⟨g,6,none⟩ d6
theorem bt_set7(W:World)(g:Nat)(d0 d1 d2 d3 d4 d5 d6:Value):Bt g W (set7 W g d0 d1 d2 d3 d4 d5 d6):=((((((Bt.setCell g W 0 d0).trans (Bt.setCell g _ 1 d1)).trans (Bt.setCell g _ 2 d2)).trans (Bt.setCell g _ 3 d3)).trans (Bt.setCell g _ 4 d4)).trans (Bt.setCell g _ 5 d5)).trans (Bt.setCell g _ 6 d6)
theorem row_set7{W:World}{g:Nat}{c0 c1 c2 c3 c4 c5 c6:Value}{t:TypeId}(h:W.heap[g]?=some (.cells #[c0,c1,c2,c3,c4,c5,c6] t (0,0)))(d0 d1 d2 d3 d4 d5 d6:Value):(set7 W g d0 d1 d2 d3 d4 d5 d6).heap[g]?=some (.cells #[d0,d1,d2,d3,d4,d5,d6] t (0,0)):=by
 show((((((((W.setCell ⟨g,0,none⟩ d0).setCell ⟨g,1,none⟩ d1).setCell ⟨g,2,none⟩ d2).setCell ⟨g,3,none⟩ d3).setCell ⟨g,4,none⟩ d4).setCell ⟨g,5,none⟩ d5).setCell ⟨g,6,none⟩ d6)).heap[g]?=_;have h1:(W.setCell ⟨g,0,none⟩ d0).heap[g]?=some (.cells #[d0,c1,c2,c3,c4,c5,c6] t (0,0)):=heap_set7 W g 0 d0 _ _ _ h;obtain⟨W1,e1⟩:∃WW:World,W.setCell ⟨g,0,none⟩ d0=WW:=⟨_,rfl⟩
 rw[e1]at h1 ⊢;have h2:(W1.setCell ⟨g,1,none⟩ d1).heap[g]?=some (.cells #[d0,d1,c2,c3,c4,c5,c6] t (0,0)):=heap_set7 W1 g 1 d1 _ _ _ h1;obtain⟨W2,e2⟩:∃WW:World,W1.setCell ⟨g,1,none⟩ d1=WW:=⟨_,rfl⟩
 rw[e2]at h2 ⊢;have h3:(W2.setCell ⟨g,2,none⟩ d2).heap[g]?=some (.cells #[d0,d1,d2,c3,c4,c5,c6] t (0,0)):=heap_set7 W2 g 2 d2 _ _ _ h2;obtain⟨W3,e3⟩:∃WW:World,W2.setCell ⟨g,2,none⟩ d2=WW:=⟨_,rfl⟩
 rw[e3]at h3 ⊢;have h4:(W3.setCell ⟨g,3,none⟩ d3).heap[g]?=some (.cells #[d0,d1,d2,d3,c4,c5,c6] t (0,0)):=heap_set7 W3 g 3 d3 _ _ _ h3;obtain⟨W4,e4⟩:∃WW:World,W3.setCell ⟨g,3,none⟩ d3=WW:=⟨_,rfl⟩
 rw[e4]at h4 ⊢;have h5:(W4.setCell ⟨g,4,none⟩ d4).heap[g]?=some (.cells #[d0,d1,d2,d3,d4,c5,c6] t (0,0)):=heap_set7 W4 g 4 d4 _ _ _ h4;obtain⟨W5,e5⟩:∃WW:World,W4.setCell ⟨g,4,none⟩ d4=WW:=⟨_,rfl⟩
 rw[e5]at h5 ⊢;have h6:(W5.setCell ⟨g,5,none⟩ d5).heap[g]?=some (.cells #[d0,d1,d2,d3,d4,d5,c6] t (0,0)):=heap_set7 W5 g 5 d5 _ _ _ h5;obtain⟨W6,e6⟩:∃WW:World,W5.setCell ⟨g,5,none⟩ d5=WW:=⟨_,rfl⟩
 rw[e6]at h6 ⊢;have h7:(W6.setCell ⟨g,6,none⟩ d6).heap[g]?=some (.cells #[d0,d1,d2,d3,d4,d5,d6] t (0,0)):=heap_set7 W6 g 6 d6 _ _ _ h6;exact h7
theorem sizeKy:(Tryz.prog.info? 30).map (·.size)=some 7:=by kernel_rfl
theorem ret_ky{fn:Func}{p:Tmp}(h:fn.results=#[.cell p 30])(tmps:Array Value)(w:World)(g:Nat)(c0 c1 c2 c3 c4 c5 c6:Value)(hp:tmps.getD p undef=.pointer (some ⟨g,0,none⟩))(hg:w.heap[g]?=some (.cells #[c0,c1,c2,c3,c4,c5,c6] 30 (0,0))):
  (results fn tmps).run Tryz.prog w=.ok (.agg #[c0,c1,c2,c3,c4,c5,c6]) w:=
 results_cell_row h tmps w g 30 _ (0,0) _ hp hg Tryz.underlying30 rfl sizeKy
end
section
open Go.RowKit Go.Shelf
def isSl (v:Value):Prop:=∃a l k,v=.slice a l k
def Sh9 (W:World)(b:Nat):Prop:=∃(i1 i2:Int) (c2 c3 c4 c5 c6 c7 c8:Value),W.heap[b]?=some (.cells #[.int .i64 i1,.int .i64 i2,c2,c3,c4,c5,c6,c7,c8] 52 (0,0))∧isSl c2∧isSl c3∧isSl c4∧isSl c5∧isSl c6∧isSl c7∧isSl c8
structure Fh where
 sem:List Value→World→Prop
 keep:∀vs w w',Below w.heap.size w w'→sem vs w→sem vs w'
 ok':Bool
 store:ok'=true→∀vs w w' r,Sh9 w r→Sh9 w' r→Bt r w w'→sem vs w→sem vs w'
def Fh.eq(e:Value):Fh:=⟨fun vs _=>vs.getD 0 undef=e,fun _ _ _ _ h=>h,true,fun _ _ _ _ _ _ _ _ h=>h⟩
def Fh.pu(p:List Value→Prop):Fh:=⟨fun vs _=>p vs,fun _ _ _ _ h=>h,true,fun _ _ _ _ _ _ _ _ h=>h⟩
def Fh.same:Fh:=⟨fun vs _=>vs.getD 0 undef=vs.getD 1 undef,fun _ _ _ _ h=>h,true,fun _ _ _ _ _ _ _ _ h=>h⟩
structure CuJ(W:World)(g j:Nat)(K:Cz)(g1 g2:Int)(oo:Option Addr)(lo co:Nat)(b0 b1 b2 b3 b4 b5:Nat):Prop where
 big:∃cur t fr,W.heap[g]?=some (.cells cur t fr)∧9<cur.size
 at':CuAt W g (j*9) g1 g2 oo lo co b0 b1 b2 b3 b4 b5
 cu:Cu W (curV g1 g2 oo lo co b0 b1 b2 b3 b4 b5) K 1
theorem CuJ.keep{W W':World}{g j:Nat}{K:Cz}{g1 g2:Int}{oo:Option Addr}{lo co b0 b1 b2 b3 b4 b5:Nat}(h:CuJ W g j K g1 g2 oo lo co b0 b1 b2 b3 b4 b5)(hb:Below W.heap.size W W'):CuJ W' g j K g1 g2 oo lo co b0 b1 b2 b3 b4 b5:=by obtain⟨⟨cur,t,fr,h1,h2⟩,h3,h4⟩:=h;exact⟨⟨cur,t,fr,blk_old h1 hb,h2⟩,h3.keep hb,h4.old hb⟩
theorem fh_keep(fs:List Fh)(j:Nat)(vs:List Value){w w':World}(hb:Below w.heap.size w w')(h:(fs.map Fh.sem).getD j (fun _ _=>True) vs w):(fs.map Fh.sem).getD j (fun _ _=>True) vs w':=by
 rw[List.getD_eq_getElem?_getD,List.getElem?_map]at h ⊢
 cases hf:fs[j]? with
 | none=>trivial
 | some f=>rw[hf]at h;exact f.keep vs w w' hb h
section
variable {ops : Array Oper}
theorem GInv.growH{rd:List (List Nat)}{fs:List Fh}{a0:Act}{w0:World}{listed:Array Bool}{a:Act}{w:World}(h:GInv .any ops rd (fs.map Fh.sem) a0 w0 listed a w){i:Nat}{dst:Option Tmp}{KK:Act→World→Prop}
  (hK:∀v w',Below w0.heap.size w0 w'→(∀j vs,listed.getD j false=true→(fs.map Fh.sem).getD j (fun _ _=>True) vs w→(fs.map Fh.sem).getD j (fun _ _=>True) vs w')→(fs.map Fh.sem).getD i (fun _ _=>True) ((rd.getD i []).map fun s=>(a.put dst v).tmps.getD s undef) w'→KK (a.put dst v) w') (v:Value) (w':World) (hb:Below w.heap.size w w') (hf:(fs.map Fh.sem).getD i (fun _ _=>True) ((rd.getD i []).map fun s=>(a.put dst v).tmps.getD s undef) w'):KK (a.put dst v) w':=
 hK v w' (h.below.trans (hb.mono h.below.size)) (fun j vs _ hj=>fh_keep fs j vs hb hj) hf
end
end
section
open Go.Shelf Go.RowKit
theorem sJudged(b:Bool)(w:World):Calls Tryz.prog 19 #[.bool b] w fun e w'=>e=.returned (.int .i64 (if b then 0 else 43))∧Below w.heap.size w w':=by
 cases b with
 | true=>
  go_enter Tryz.func19,Tryz.ntmps19;go_wp2;go_ret;exact⟨rfl,Below.refl _ _⟩
 | false=>
  go_enter Tryz.func19,Tryz.ntmps19;go_wp2;go_ret;exact⟨rfl,Below.refl _ _⟩
theorem ptZ_ex{P:Nat}[NeZero P]{K:Cz}(g:GoodK K P)(hb:Gd K P (baseZ K))(hN:0<K.n)(q:Pz)(hq:0≤q.x∧0≤q.y)(hs:List Int)(R:Option (Bs × Bs)):∃b,PtZ K P q hs R b:=by
 match R with
 | none=>exact⟨false,rfl⟩
 | some (x,y)=>exact verZ_ex g hb hN q hq _ _ _
theorem row_num32{w:World}{g:Nat}{hs:List Int}(h:Row 71 .u8 w g hs)(hl:hs.length=32)(hd:Dg 256 hs):NumIn .u8 256 w (some ⟨g,0,none⟩) 32 32 hs:=by have h1:=h.lies 0 32 (by omega);rw[List.drop_zero,List.take_of_length_le (by omega)]at h1;exact⟨h1,by decide,by unfold maxLen;decide,fun h=>(by cases h),hd,by decide⟩
theorem sha_dg(bs:List Int):Dg 256 (shaS bs):=by intro x hx;unfold shaS spreadS at hx;obtain⟨i,_,rfl⟩:=List.mem_map.1 hx;omega
theorem sByPoint{P:Nat}[NeZero P]{K:Cz}(g:GoodK K P)(hbs:Gd K P (baseZ K))(hN:0<K.n)(hN2:K.n<18446744073709551616)(q:Pz)(cv qv:Value)(ao:Option Addr)(m c:Nat)(ms:List Int)(p:Option Addr)(n cs:Nat)(sb:Bs)(w:World)(hc:Cu w cv K 4)(hq:Pv w qv q 4)(hm:NumIn .u8 256 w ao m c ms)(hn:sb.length=n)(hn2:n≤100000)(hv:ByV w (fun _=>True) p cs sb):
  Calls Tryz.prog 22 #[cv,qv,.slice ao m c,.slice p n cs] w fun e w'=>∃b,PtZ K P q (shaS ms) (pairR sb) b∧e=.returned (.bool b)∧Below w.heap.size w w':=by
 have hq0:0≤q.x∧0≤q.y:=by obtain⟨vx,vy,_,h1,h2⟩:=hq;exact⟨h1.nonneg,h2.nonneg⟩
 obtain⟨bb,hbb⟩:=ptZ_ex g hbs hN q hq0 (shaS ms) (pairR sb);have HU:∀x y b,pairR sb=some (x,y)→VerZ K P q (digZ K.n 32 (shaS ms)) (nI x) (nI y) b→b=bb:=fun x y b e h=>by refine ptZ_uniq g hbs hq0 ?_ hbb;rw[e];exact h
 have HCQ:Hid (Cu w cv K 4∧Pv w qv q 4):=⟨hc,hq⟩
 have HVC:=fun W (hW:Below w.heap.size w W) ao bs ca hh r s x y hr hs=>cVerify_big g hbs q cv qv ao 32 ca bs r s x y W (by omega) hN2 (HCQ.out.1.old hW) (by obtain⟨vx,vy,e,h1,h2⟩:=HCQ.out.2;exact⟨vx,vy,e,h1.old hW,h2.old hW⟩) hh (by decide) hr hs;have HPT:Hid (PtZ K P q (shaS ms) (pairR sb) bb):=hbb;obtain⟨g1,g2,oo,lo,co,a1,a2,a3,b1,b2,b3,d1,d2,d3,e1,e2,e3,f1,f2,f3,j1,j2,j3,rfl,-⟩:=hc.slices;obtain⟨vx,vy,rfl,⟨x1,x2,x3,_,rfl,-⟩,⟨y1,y2,y3,_,rfl,-⟩⟩:=hq;have HM:=fun W (hW:Below w.heap.size w W)=>HOf_num ms ao m c W (hm.old hW);have hl32:(shaS ms).length=32:=by unfold shaS;exact spreadS_length _
 have HSD:Hid (Dg 256 (shaS ms)):=sha_dg ms;generalize shaS ms=hh at *;have HP:=fun W (hW:Below w.heap.size w W)=>sPair p n cs sb _ W hn (hv.below hW) hn2;have hb0:=balloc w (.cells #[.int .i64 g1,.int .i64 g2,.slice oo lo co,.slice a1 a2 a3,.slice b1 b2 b3,.slice d1 d2 d3,.slice e1 e2 e3,.slice f1 f2 f3,.slice j1 j2 j3] 52);have hc0:=heap_alloc_new w (.cells #[.int .i64 g1,.int .i64 g2,.slice oo lo co,.slice a1 a2 a3,.slice b1 b2 b3,.slice d1 d2 d3,.slice e1 e2 e3,.slice f1 f2 f3,.slice j1 j2 j3] 52);have hz1:(w.alloc (.cells #[.int .i64 g1,.int .i64 g2,.slice oo lo co,.slice a1 a2 a3,.slice b1 b2 b3,.slice d1 d2 d3,.slice e1 e2 e3,.slice f1 f2 f3,.slice j1 j2 j3] 52)).heap.size=w.heap.size+1:=Array.size_push ..;have hb1:=balloc (w.alloc (.cells #[.int .i64 g1,.int .i64 g2,.slice oo lo co,.slice a1 a2 a3,.slice b1 b2 b3,.slice d1 d2 d3,.slice e1 e2 e3,.slice f1 f2 f3,.slice j1 j2 j3] 52)) (.cells #[.slice x1 x2 x3,.slice y1 y2 y3,.bool q.inf] 26);have hc1:=heap_alloc_new (w.alloc (.cells #[.int .i64 g1,.int .i64 g2,.slice oo lo co,.slice a1 a2 a3,.slice b1 b2 b3,.slice d1 d2 d3,.slice e1 e2 e3,.slice f1 f2 f3,.slice j1 j2 j3] 52)) (.cells #[.slice x1 x2 x3,.slice y1 y2 y3,.bool q.inf] 26);have hc2:=blk_old hc0 hb1;have hb2:=bstep hb0 hb1;rw[hz1]at hc1;obtain⟨W,hW⟩:∃W,(w.alloc (.cells #[.int .i64 g1,.int .i64 g2,.slice oo lo co,.slice a1 a2 a3,.slice b1 b2 b3,.slice d1 d2 d3,.slice e1 e2 e3,.slice f1 f2 f3,.slice j1 j2 j3] 52)).alloc (.cells #[.slice x1 x2 x3,.slice y1 y2 y3,.bool q.inf] 26)=W:=⟨_,rfl⟩
 rw[hW]at hc1 hc2 hb2;have HW:Hid (_=W):=hW;have HS:Hid (W.heap[w.heap.size]?=some (.cells #[.int .i64 g1,.int .i64 g2,.slice oo lo co,.slice a1 a2 a3,.slice b1 b2 b3,.slice d1 d2 d3,.slice e1 e2 e3,.slice f1 f2 f3,.slice j1 j2 j3] 52 (0,0))∧PSl W (w.heap.size+1) (.slice x1 x2 x3) (.slice y1 y2 y3) (.bool q.inf)∧Below w.heap.size w W):=⟨hc2,hc1,hb2⟩
 clear hb0 hc0 hW hz1 hb1 hc1 hc2 hb2 hm hv hbb;obtain⟨qi,hqi⟩:∃b,q.inf=b:=⟨_,rfl⟩
 rw[hqi]at HS HW HVC ⊢;clear hqi;go_enter Tryz.func22,Tryz.ntmps22;go_wp2_with fail
 rw[HW.out];clear HW;have HPW:=HP W HS.out.2.2;clear HP
 cases hR:pairR sb with
 | none =>
  rw[hR]at HPW;have hbf:bb=false:=by have h:=HPT.out;rw[hR]at h;exact h
  refine HPW.mono ?_;rintro e w2 ⟨hb2,(⟨_,rfl⟩|⟨_,_,_,_,_,_,_,_,hno,_⟩)⟩
  rotate_left
  ·cases hno
  clear HPW HVC HU HM;go_wp2_with fail
  go_ret;exact⟨false,by rw[hR];exact rfl,rfl,bstep HS.out.2.2 hb2⟩
 | some xy =>
  obtain⟨x,y⟩:=xy;rw[hR]at HPW;refine HPW.mono ?_;rintro e w2 ⟨hb2,(⟨hno,_⟩|⟨x',y',s1,s2,s3,s4,s5,s6,hs,rfl,nX,nY⟩)⟩
  ·cases hno
  cases hs
  have HPT2:Hid (VerZ K P q (digZ K.n 32 hh) (nI x) (nI y) bb):=by have h:=HPT.out;rw[hR]at h;exact h
  have HM2:=HM w2 (bstep HS.out.2.2 hb2);have HS2:Hid (w2.heap[w.heap.size]?=some (.cells #[.int .i64 g1,.int .i64 g2,.slice oo lo co,.slice a1 a2 a3,.slice b1 b2 b3,.slice d1 d2 d3,.slice e1 e2 e3,.slice f1 f2 f3,.slice j1 j2 j3] 52 (0,0))∧PSl w2 (w.heap.size+1) (.slice x1 x2 x3) (.slice y1 y2 y3) (.bool qi)∧Below w.heap.size w w2∧Nc w2 (.slice s1 s2 s3) (nI x) 64∧Nc w2 (.slice s4 s5 s6) (nI y) 64):=⟨blk_old HS.out.1 hb2,HS.out.2.1.keep hb2,bstep HS.out.2.2 hb2,nX,nY⟩
  have HUX:=fun b h=>HU x y b hR h;clear HPW hb2 nX nY HS HM HU HPT;go_wp2_with fail
  refine HM2.mono ?_;rintro e w3 ⟨rfl,hb3⟩;have HS3:Hid (w3.heap[w.heap.size]?=some (.cells #[.int .i64 g1,.int .i64 g2,.slice oo lo co,.slice a1 a2 a3,.slice b1 b2 b3,.slice d1 d2 d3,.slice e1 e2 e3,.slice f1 f2 f3,.slice j1 j2 j3] 52 (0,0))∧PSl w3 (w.heap.size+1) (.slice x1 x2 x3) (.slice y1 y2 y3) (.bool qi)∧Below w.heap.size w w3∧Nc w3 (.slice s1 s2 s3) (nI x) 64∧Nc w3 (.slice s4 s5 s6) (nI y) 64):=⟨blk_old HS2.out.1 hb3,HS2.out.2.1.keep hb3,bstep HS2.out.2.2.1 hb3,HS2.out.2.2.2.1.old hb3,HS2.out.2.2.2.2.old hb3⟩
  clear HM2 hb3 HS2;go_wp2_with (first
   | ((with_reducible show wpList _ _ _ (Oper.mk _ (Op.alloc 71) _ _ _ _::_) _ _);refine wpList_alloc_row (w:=w3) (by with_reducible rfl) 71 (by with_reducible rfl) .u8 32 Tryz.infoB32 ?_;intro w4 hr4 hb4 hs4)
   | ((with_reducible show wpList _ _ _ (Oper.mk _ (Op.store 71 _ _) _ _ _ _::_) _ _);refine wpList_store_nums (w:=w4) (by with_reducible rfl) 71 _ _ (by with_reducible rfl) .u8 71 32 Tryz.sizeB32 w3.heap.size (List.replicate 32 0) hh (by rfl) (by rfl) hr4 (by simp) hl32 ?_;intro w5 hr5 hb5 hs5 ho5))
  have B5:Below w3.heap.size w3 w5:=hb4.trans hb5;obtain⟨gh,hgh⟩:∃g,w3.heap.size=g:=⟨_,rfl⟩
  have HS5:Hid (w5.heap[w.heap.size]?=some (.cells #[.int .i64 g1,.int .i64 g2,.slice oo lo co,.slice a1 a2 a3,.slice b1 b2 b3,.slice d1 d2 d3,.slice e1 e2 e3,.slice f1 f2 f3,.slice j1 j2 j3] 52 (0,0))∧PSl w5 (w.heap.size+1) (.slice x1 x2 x3) (.slice y1 y2 y3) (.bool qi)∧Below w.heap.size w w5∧Nc w5 (.slice s1 s2 s3) (nI x) 64∧Nc w5 (.slice s4 s5 s6) (nI y) 64∧Row 71 .u8 w5 gh hh):=⟨blk_old HS3.out.1 B5,HS3.out.2.1.keep B5,bstep HS3.out.2.2.1 B5,HS3.out.2.2.2.1.old B5,HS3.out.2.2.2.2.old B5,by rw[←hgh];exact hr5⟩
  rw[hgh];clear hr4 hb4 hs4 hr5 hb5 hs5 ho5 B5 HS3 hgh;simp only[Act.put,List.setIfInBounds_toArray,List.set_cons_succ,List.set_cons_zero];refine wp_region_frames 1 [[23],[24],[25],[26],[27],[28],[8]] (([.eq (.agg #[.int .i64 g1,.int .i64 g2,.slice oo lo co,.slice a1 a2 a3,.slice b1 b2 b3,.slice d1 d2 d3,.slice e1 e2 e3,.slice f1 f2 f3,.slice j1 j2 j3]),.eq (.agg #[.slice x1 x2 x3,.slice y1 y2 y3,.bool qi]),.eq (.slice (some ⟨gh,0,none⟩) 32 32),.eq (.slice s1 s2 s3),.eq (.slice s4 s5 s6),.eq (.bool bb),.eq (.bool bb)]:List Fh).map Fh.sem) [0,1,2,3,4,5,6] (by kernel_rfl) (by kernel_rfl) (by kernel_rfl) ?step ?done
  case step=>
   intro i o ho listed a wx hI hli hne KK hK;have hlt:i<7:=(Array.getElem?_eq_some_iff.1 ho).1;have hsz:Hid (a.tmps.size=29):=hI.slots;have hbw:Below w5.heap.size w5 wx:=(Below.refl _ _).drew.trans hI.below;obtain rfl|rfl|rfl|rfl|rfl|rfl|rfl:i=0∨i=1∨i=2∨i=3∨i=4∨i=5∨i=6:=by omega
   ·obtain rfl:=op_is ho rfl;rw[if_pos (by rfl)];have eH4:a.tmps.getD 4 undef=.pointer (some { block:=w.heap.size,off:=0 }):=hI.stays hli 1 4 (by decide +kernel);obtain⟨cC0,cC1,cC2,cC3,cC4,cC5,cC6,cC7,cC8⟩:=cells9 (blk_old HS5.out.1 hbw);go_simp;exact hI.growH hK _ _ (Below.refl _ _) (pz hsz (by rfl))
   ·obtain rfl:=op_is ho rfl;rw[if_pos (by rfl)];have eH5:a.tmps.getD 5 undef=.pointer (some { block:=w.heap.size+1,off:=0 }):=hI.stays hli 1 5 (by decide +kernel);obtain⟨yB0,yB1,yB2,_,_,_⟩:=(HS5.out.2.1.keep hbw).facts;go_simp;exact hI.growH hK _ _ (Below.refl _ _) (pz hsz (by rfl))
   ·obtain rfl:=op_is ho rfl;rw[if_pos (by rfl)];have eH12:a.tmps.getD 12 undef=.pointer (some { block:=gh,off:=0 }):=hI.stays hli 1 12 (by decide +kernel);go_simp;exact hI.growH hK _ _ (Below.refl _ _) (pz hsz (by rfl))
   ·obtain rfl:=op_is ho rfl;rw[if_pos (by rfl)];have eH9:a.tmps.getD 9 undef=.slice s1 s2 s3:=hI.stays hli 1 9 (by decide +kernel);go_simp;exact hI.growH hK _ _ (Below.refl _ _) (pz hsz (by rfl))
   ·obtain rfl:=op_is ho rfl;rw[if_pos (by rfl)];have eH10:a.tmps.getD 10 undef=.slice s4 s5 s6:=hI.stays hli 1 10 (by decide +kernel);go_simp;exact hI.growH hK _ _ (Below.refl _ _) (pz hsz (by rfl))
   ·obtain rfl:=op_is ho rfl;rw[if_pos (by rfl)];have eH23:a.tmps.getD 23 undef=(.agg #[.int .i64 g1,.int .i64 g2,.slice oo lo co,.slice a1 a2 a3,.slice b1 b2 b3,.slice d1 d2 d3,.slice e1 e2 e3,.slice f1 f2 f3,.slice j1 j2 j3]):=hI.deep hne 0 0 (by decide +kernel);have eH24:a.tmps.getD 24 undef=(.agg #[.slice x1 x2 x3,.slice y1 y2 y3,.bool qi]):=hI.deep hne 0 1 (by decide +kernel);have eH25:a.tmps.getD 25 undef=(.slice (some ⟨gh,0,none⟩) 32 32):=hI.deep hne 0 2 (by decide +kernel);have eH26:a.tmps.getD 26 undef=(.slice s1 s2 s3):=hI.deep hne 0 3 (by decide +kernel);have eH27:a.tmps.getD 27 undef=(.slice s4 s5 s6):=hI.deep hne 0 4 (by decide +kernel);go_simp;go_at_call 51;refine(HVC wx (bstep HS5.out.2.2.1 hbw) _ _ _ (row_num32 (HS5.out.2.2.2.2.2.below hbw HS5.out.2.2.2.2.2.lt) hl32 HSD.out) _ _ _ _ (HS5.out.2.2.2.1.old hbw) (HS5.out.2.2.2.2.1.old hbw)).mono ?_;rintro e w6 ⟨b6,h6,rfl,hb5⟩;rw[HUX b6 h6];exact hI.growH hK _ _ hb5 (pz hsz (by rfl))
   ·obtain rfl:=op_is ho rfl;rw[if_pos (by rfl)];have eH28:a.tmps.getD 28 undef=(.bool bb):=hI.deep hne 0 5 (by decide +kernel);go_simp;exact hI.growH hK _ _ (Below.refl _ _) (pz hsz (by rfl))
  case done=>
   intro listed a W6 hI hall;obtain⟨tm,df⟩:=a;have hdf:df=[]:=hI.defers;subst hdf;have hTM:=hI.frame _ rfl [false,false,false,false,false,false,false,false,true,false,false,false,false,false,false,false,false,false,false,false,false,false,false,true,true,true,true,true,true] 29 rfl rfl (by decide +kernel);have fA0:tm.getD 23 undef=(.agg #[.int .i64 g1,.int .i64 g2,.slice oo lo co,.slice a1 a2 a3,.slice b1 b2 b3,.slice d1 d2 d3,.slice e1 e2 e3,.slice f1 f2 f3,.slice j1 j2 j3]):=hI.facts 0 (hall 0 (by decide));have fA1:tm.getD 24 undef=(.agg #[.slice x1 x2 x3,.slice y1 y2 y3,.bool qi]):=hI.facts 1 (hall 1 (by decide));have fA2:tm.getD 25 undef=(.slice (some ⟨gh,0,none⟩) 32 32):=hI.facts 2 (hall 2 (by decide));have fA3:tm.getD 26 undef=(.slice s1 s2 s3):=hI.facts 3 (hall 3 (by decide));have fA4:tm.getD 27 undef=(.slice s4 s5 s6):=hI.facts 4 (hall 4 (by decide));have fA5:tm.getD 28 undef=(.bool bb):=hI.facts 5 (hall 5 (by decide));have fA6:tm.getD 8 undef=(.bool bb):=hI.facts 6 (hall 6 (by decide));have hbw:Below w5.heap.size w5 W6:=(Below.refl _ _).drew.trans hI.below;clear hI hall listed;simp only[frameV,cond_true,cond_false,Nat.reduceAdd,Nat.zero_add,fA0,fA1,fA2,fA3,fA4,fA5,fA6]at hTM;clear fA0 fA1 fA2 fA3 fA4 fA5 fA6;subst hTM;have HF:Hid (Below w.heap.size w W6):=bstep HS5.out.2.2.1 hbw;clear hbw HVC HUX;go_wp2_with fail
   go_ret;exact⟨bb,by rw[hR];exact HPT2.out,rfl,HF.out⟩
end
section
open Go.RowKit
def hashN:List Int:=[48,49,48,13,6,9,96,134,72,1,101,3,4,2,1,5,0,4,32]
def padL (n:Nat)(hs:List Int):List Int:=0::1::(List.replicate (n-54) 255++(0::(hashN++hs)))
theorem padL_len(n:Nat)(hs:List Int)(h:hs.length=32)(hn:54≤n):(padL n hs).length=n:=by simp[padL,hashN,h];omega
theorem padL_dg(n:Nat)(hs:List Int)(h:Dg 256 hs):Dg 256 (padL n hs):=by
 intro x hx;simp only[padL,hashN,List.mem_cons,List.mem_append,List.mem_replicate,List.not_mem_nil,or_false]at hx;rcases hx with rfl|rfl|⟨_,rfl⟩|rfl|h0|h0
 ·omega
 ·omega
 ·omega
 ·omega
 ·omega
 ·exact h x h0
theorem Own.openR{e:TypeId}{k:IntKind}{w:World}{base:Nat}{v:Value}{xs:List Int}(h:Own e k w base v xs):∃ao cap,v=.slice ao xs.length cap∧xs.length≤cap∧cap≤maxLen:=by
 rcases h.2 with⟨rfl,h0⟩|⟨g,cap,cur,rfl,hg,hrow,h1,h2,h3,h4⟩
 ·exact⟨none,0,by rw[h0],by omega,by simp[maxLen]⟩
 ·exact⟨_,cap,rfl,h1,h2⟩
theorem Own.lenR{e:TypeId}{k:IntKind}{w:World}{base:Nat}{ao:Option Addr}{n c:Nat}{xs:List Int}(h:Own e k w base (.slice ao n c) xs):xs.length=n:=by obtain⟨ao',c',e',_⟩:=h.openR;injection e' with _ h2 _;exact h2.symm
theorem Own.baseR{e:TypeId}{k:IntKind}{w:World}{b b':Nat}{v:Value}{xs:List Int}(h:Own e k w b v xs)(hb:b'≤b):Own e k w b' v xs:=by
 refine⟨h.1,?_⟩;rcases h.2 with h0|⟨g,cap,cur,e1,hg,r⟩
 ·exact .inl h0
 ·exact .inr ⟨g,cap,cur,e1,by omega,r⟩
theorem lies_all{e:TypeId}{k:IntKind}{w:World}{g n:Nat}{xs:List Int}(h:Row e k w g xs)(hn:xs.length=n):Lies k w (some ⟨g,0,none⟩) n xs:=by
 have:=h.lies 0 n (by omega)
 rwa [List.drop_zero,List.take_of_length_le (by omega)]at this
theorem Row.keepOther{e:TypeId}{k:IntKind}{w:World}{g:Nat}{xs:List Int}(h:Row e k w g xs){p:Addr}(hp:g≠p.block)(v:Value):Row e k (w.setCell p v) g xs:=by unfold Row at *;rw[heap_setCell_other w p g v hp];exact h
theorem wpList_copy_text{P:Program}{w:World}{ops:Array Oper}{rest:List Oper}{o:Oper}{a:Act}{Q:Exit→Act→World→Prop}(hgd:o.guard=none)(d s:Operand)(dT sT:TypeId)
  (ho:o.op=.call { callee:=.builtin .copy,args:=#[d,s],argTypes:=#[dT,sT] }) (e:TypeId) (hu:P.underlying dT=some (.slice e)) (hsz:(P.info? e).map (·.size)=some 1)
  (g off dl dc:Nat) (b:ByteArray) (hd:a.eval d=.slice (some ⟨g,off,none⟩) dl dc) (hs:a.eval s=.string b) (xs ys:List Int) (hr:Row e .u8 w g xs) (hb:b.data.toList.map (fun x=>Value.int .u8 x.toNat)=ys.map (Value.int .u8)) (hn:b.size≤dl) (hfit:off+ys.length≤xs.length)
  (B:Nat) (w0:World) (hbel:Below B w0 w) (hB:B≤g)
  (h:∀w',Row e .u8 w' g (xs.take off++ys++xs.drop (off+ys.length))→Below B w0 w'→(∀j,j≠g→w'.heap[j]?=w.heap[j]?)→wpList P ops Q rest (a.put o.dst (goInt ys.length)) w'):wpList P ops Q (o::rest) a w:=by
 refine wpList_plain hgd fun K hK => ?_;have hlen:b.size=ys.length:=by have:=congrArg List.length hb;rw[List.length_map,List.length_map,Array.length_toList]at this;exact this
 have hst:=run_storeCells_at P g off e (ys.map (Value.int .u8)) 0 ((xs.map (Value.int .u8)).toArray) w hr (by simpa using hfit) (ints_oneCell _ _);have hmin:Nat.min b.size dl=b.size:=Nat.min_eq_left hn;have hex:b.extract 0 b.size=b:=ByteArray.extract_zero_size;have hcs:(b.data.map fun x=>Value.int .u8 x.toNat).toList=ys.map (Value.int .u8):=by rw[Array.toList_map];exact hb
 clear hb;have hrun:(Builtin.copy_ #[dT,sT] o.type #[.slice (some ⟨g,off,none⟩) dl dc,.string b]).run P w=.ok (goInt b.size) (w.setRow g ((xs.map (Value.int .u8)).take off++ys.map (Value.int .u8)++(xs.map (Value.int .u8)).drop (off+ys.length)).toArray):=by
  cases hq:P.info? e with
  | none=>simp[hq]at hsz
  | some i=>
   have hi:i.size=1:=by simpa [hq] using hsz
   simp only[List.length_map,Nat.add_zero]at hst;simp[Builtin.copy_,run_underlying hu,Builtin.lenOf,Builtin.firstCells,sizeOf,typeInfo,hq,hi,hmin,hex,-Array.toList_map,hcs,hst];rw[List.take_of_length_le (by simp;omega),hst];simp[List.append_assoc]
 unfold Oper.wp;simp[execOp,ho,resolve,invoke,builtin,hd,hs,hrun,Result.andThen];refine hK _ _ ?_;rw[hlen];have hrow:=setRow_heap w g ((xs.map (Value.int .u8)).toArray) ((xs.map (Value.int .u8)).take off++ys.map (Value.int .u8)++(xs.map (Value.int .u8)).drop (off+ys.length)).toArray e (0,0) hr;have hgo:=h _ (by unfold Row;rw[hrow];simp) (below_setRow hbel hB _) (fun j hj=>setRow_other w g j _ hj);simpa using hgo
theorem Pad_yes(n:Nat)(hs:List Int)(w:World)(h1:62≤n)(h2:n≤512)(hl:hs.length=32):
  Calls Tryz.prog 47 #[.int .i64 n,ag .u8 hs] w fun e w'=>∃g,e=.returned (.slice (some ⟨g,0,none⟩) n n)∧Row 5 .u8 w' g (padL n hs)∧w.heap.size≤g∧Below w.heap.size w w':=by
 have hlt1:¬((n:Int)<62):=by omega
 have hgt1:¬((512:Int)<n):=by omega
 go_enter Tryz.func47,Tryz.ntmps47;go_wp2_with (first
  | ((with_reducible show wpList _ _ _ (Oper.mk _ (Op.box _ _) _ _ _ _::_) _ _);refine wpList_box_row (w:=w) (by with_reducible rfl) 71 _ (by with_reducible rfl) .u8 hs rfl ?_;intro w1 hr1 hb1 hs1)
  | (at_make;refine wpList_make_row _ rfl _ _ 33 rfl 5 .u8 1 Tryz.underlying33 Tryz.infoB _ _ _ _ n rfl rfl rfl rfl (by omega) (by unfold maxLen;omega) ?_))
 intro w2 hrow hbel;obtain⟨g,hg⟩:∃g,w.heap.size+1=g:=⟨_,rfl⟩
 rw[hg]at hrow hbel;have HH:Hid (Row 71 .u8 w2 w.heap.size hs∧Below w.heap.size w w2):=⟨hr1.below hbel (by omega),hb1.trans (hbel.mono (by omega))⟩
 rw[hg];have hg2:w.heap.size<g:=by omega
 clear hr1 hb1 hs1 hbel hg;go_wp2;go_loopw [18] (fun i wr=>∃k:Nat,k≤n∧i=.int .i64 k∧Row 5 .u8 wr g (List.replicate k 255++List.replicate (n-k) 0)∧Row 71 .u8 wr w.heap.size hs∧Below w.heap.size w wr) (fun i _=>n-(intOf i).toNat)
 case atStart=>exact⟨0,Nat.zero_le _,rfl,by simpa using hrow,HH.out⟩
 case round =>
  obtain⟨k,hk,rfl,hrw,hh,hb⟩:=hrel;clear hrow HH;by_cases hlt:k<n
  ·have hcl:=hrw.cell k (by simp;omega);have hfr:=hrw.frozen k;have HR:Hid (Row 5 .u8 (wr.setCell ⟨g,k,none⟩ (.int .u8 255)) g (List.replicate (k+1) 255++List.replicate (n-(k+1)) 0)):=by
    have h0:=hrw.set k 255;have e:(List.replicate k (255:Int)++List.replicate (n-k) 0).set k 255=List.replicate (k+1) 255++List.replicate (n-(k+1)) 0:=by rw[List.set_append_right _ _ (by simp),List.length_replicate,Nat.sub_self,show n-k=(n-(k+1))+1 by omega,List.replicate_succ (n:=n-(k+1)),List.set_cons_zero,List.replicate_succ' (n:=k)];simp
    rw[e]at h0;exact h0
   have HH:Hid (Row 71 .u8 (wr.setCell ⟨g,k,none⟩ (.int .u8 255)) w.heap.size hs∧Below w.heap.size w (wr.setCell ⟨g,k,none⟩ (.int .u8 255))):=⟨hh.keepOther (by simp;omega) _,hb.setCell (by simp;omega) _⟩
   generalize (List.replicate k (255:Int)++List.replicate (n-k) 0).getD k 0=y at *;clear hrw hh hb;go_wp2;go_roundw
   case rel=>exact⟨k+1,by omega,by go_num,HR.out,HH.out⟩
   case measure=>simp[intOf];omega
  ·obtain rfl:k=n:=by omega
   rw[Nat.sub_self,List.replicate_zero,List.append_nil]at hrw;obtain⟨m,hm⟩:∃m,k-52=m:=⟨_,rfl⟩
   have hm1:(k:Int)-32-19-1=(m:Int):=by omega
   have hm2:k-m=52:=by omega
   have hm3:m<k:=by omega
   have hm4:¬(k=m):=by omega
   have r1:=hrw.set 0 0;have r2:=r1.set 1 1;have r3:=r2.set m 0;have l1:(List.replicate k (255:Int)).length=k:=by simp
   have l2:((List.replicate k (255:Int)).set 0 0).length=k:=by simp
   have l3:(((List.replicate k (255:Int)).set 0 0).set 1 1).length=k:=by simp
   have c0:=hrw.cell 0 (by omega);have f0:=hrw.frozen 0;have c1:=r1.cell 1 (by omega);have f1:=r1.frozen 1;have c2:=r2.cell m (by omega);have f2:=r2.frozen m;have q3:=((hh.keepOther (p:=⟨g,0,none⟩) (by simp;omega) (.int .u8 0)).keepOther (p:=⟨g,1,none⟩) (by simp;omega) (.int .u8 1)).keepOther (p:=⟨g,m,none⟩) (by simp;omega) (.int .u8 0);have b3:=((hb.setCell (p:=⟨g,0,none⟩) (by simp;omega) (.int .u8 0)).setCell (p:=⟨g,1,none⟩) (by simp;omega) (.int .u8 1)).setCell (p:=⟨g,m,none⟩) (by simp;omega) (.int .u8 0);have HR:Hid _:=r3;have HQ:Hid _:=And.intro q3 b3;generalize (List.replicate k (255:Int)).getD 0 0=y0 at *;generalize ((List.replicate k (255:Int)).set 0 0).getD 1 0=y1 at *;generalize (((List.replicate k (255:Int)).set 0 0).set 1 1).getD m 0=y2 at *;clear hrw r1 r2 r3 q3 b3 hh hb l1 l2 l3;have HB:Hid (([48,49,48,13,6,9,96,134,72,1,101,3,4,2,1,5,0,4,32]:List UInt8).map (fun x=>Value.int .u8 x.toNat)=hashN.map (Value.int .u8)):=by unfold Hid;rfl
   go_wp2_with ((with_reducible show wpList _ _ _ (Oper.mk _ (Op.call { callee:=.builtin .copy,args:=#[_,.const _],argTypes:=_ }) _ _ _ _::_) _ _);refine wpList_copy_text rfl _ _ 33 9 rfl 5 Tryz.underlying33 (by kernel_rfl) g (m+1) 51 51 ⟨#[48,49,48,13,6,9,96,134,72,1,101,3,4,2,1,5,0,4,32]⟩ rfl rfl _ hashN HR.out HB.out (by decide) (by simp[hashN];omega) w.heap.size w HQ.out.2 (by omega) ?_;intro w3 hr3 hb3 hk3)
   have hq3:Row 71 .u8 w3 w.heap.size hs:=by unfold Row;rw[hk3 _ (by omega)];exact HQ.out.1
   obtain⟨L,hL⟩:∃L,List.take (m+1) ((((List.replicate k (255:Int)).set 0 0).set 1 1).set m 0)++hashN++List.drop (m+1+hashN.length) ((((List.replicate k 255).set 0 0).set 1 1).set m 0)=L:=⟨_,rfl⟩
   have HL:Hid (L.length=k∧L.take (m+20)=0::1::(List.replicate (k-54) 255++(0::hashN))):=by
    unfold Hid;have e0:(((List.replicate k (255:Int)).set 0 0).set 1 1).set m 0=(0::1::(List.replicate (k-54) 255++[0]))++List.replicate 51 255:=by
     rw[show List.replicate k (255:Int)=255::255::(List.replicate (k-54) 255++255::List.replicate 51 255) by
      rw[show k=(k-54)+(51+1)+1+1 by omega,List.replicate_succ,List.replicate_succ];congr 2
      rw[←List.replicate_succ,←List.replicate_append_replicate];congr 2]
     rw[List.set_cons_zero,List.set_cons_succ,List.set_cons_zero,show m=(k-54)+1+1 by omega,List.set_cons_succ,List.set_cons_succ,List.set_append_right _ _ (by simp)];simp
    have el:(0::1::(List.replicate (k-54) (255:Int)++[0])).length=m+1:=by simp;omega
    rw[e0,List.take_left' el]at hL;rw[←hL];constructor
    ·simp[hashN];omega
    ·rw[List.take_append_of_le_length (by simp[hashN];omega),List.take_of_length_le (by simp[hashN];omega)];simp
   rw[hL]at hr3;clear hL HR HQ HB c0 c1 c2 f0 f1 f2;have HG:Hid (Row 5 .u8 w3 g L∧Row 71 .u8 w3 w.heap.size hs∧Below w.heap.size w w3):=⟨hr3,hq3,hb3⟩
   clear hr3 hq3 hb3 hk3;have hrun:=run_copy_row Tryz.prog w3.drew 33 33 3 5 g (m+20) 32 32 ⟨w.heap.size,0,none⟩ 32 32 ((L.map (Value.int .u8)).toArray) 5 (hs.map (Value.int .u8)) Tryz.underlying33 (by kernel_rfl) HG.out.1 (by simp[hl]) (fun j v hj=>by
    rw[List.getElem?_map]at hj;have hlt:j<hs.length:=by
     rcases Nat.lt_or_ge j hs.length with h|h
     ·exact h
     ·rw[List.getElem?_eq_none h]at hj;cases hj
    have h5:w3.drew.cell? ⟨w.heap.size,j,none⟩=_:=HG.out.2.1.cell j hlt;rw[add_none,Nat.zero_add,h5,←hj,List.getElem?_eq_getElem hlt,List.getD_eq_getElem?_getD,List.getElem?_eq_getElem hlt];rfl) (by have:=HL.out.1;simp;omega) (ints_oneCell _ _)
   rw[List.length_map,hl]at hrun;have HX:Hid (Row 5 .u8 (w3.drew.setRow g ((L.map (Value.int .u8)).toArray.toList.take (m+20)++hs.map (Value.int .u8)++(L.map (Value.int .u8)).toArray.toList.drop (m+20+32)).toArray) g (padL k hs)∧Below w.heap.size w (w3.drew.setRow g ((L.map (Value.int .u8)).toArray.toList.take (m+20)++hs.map (Value.int .u8)++(L.map (Value.int .u8)).toArray.toList.drop (m+20+32)).toArray)):=by
    refine⟨?_,below_setRow HG.out.2.2.drew (by omega) _⟩;unfold Row;rw[setRow_heap w3.drew g _ _ 5 (0,0) HG.out.1];congr 2
    rw[List.drop_of_length_le (by have:=HL.out.1;simp;omega),List.append_nil,List.toList_toArray,←List.map_take,HL.out.2,←List.map_append];simp[padL]
   generalize w3.drew.setRow g ((L.map (Value.int .u8)).toArray.toList.take (m+20)++hs.map (Value.int .u8)++(L.map (Value.int .u8)).toArray.toList.drop (m+20+32)).toArray=w5 at *;go_region
   all_goals
    go_wp2;go_ret;exact⟨g,rfl,HX.out.1,by omega,HX.out.2⟩
theorem Pad_no(n:Int)(hs:List Int)(w:World)(h1:n<62∨512<n):
  Calls Tryz.prog 47 #[.int .i64 n,ag .u8 hs] w fun e w'=>e=.returned (.slice none 0 0)∧Below w.heap.size w w':=by
 go_enter Tryz.func47,Tryz.ntmps47;by_cases h2:n<62
 ·go_wp2_with (first
   | ((with_reducible show wpList _ _ _ (Oper.mk _ (Op.box _ _) _ _ _ _::_) _ _);refine wpList_box_row (w:=w) (by with_reducible rfl) 71 _ (by with_reducible rfl) .u8 hs rfl ?_;intro w1 hr1 hb1 hs1))
  go_ret;exact⟨rfl,hb1⟩
 ·have h3:512<n:=by omega
  go_wp2_with (first
   | ((with_reducible show wpList _ _ _ (Oper.mk _ (Op.box _ _) _ _ _ _::_) _ _);refine wpList_box_row (w:=w) (by with_reducible rfl) 71 _ (by with_reducible rfl) .u8 hs rfl ?_;intro w1 hr1 hb1 hs1))
  go_ret;exact⟨rfl,hb1⟩
theorem rPad_no(n:Int)(hs:List Int)(w:World)(h1:n<62∨512<n):
  Calls Tryz.prog 29 #[.int .i64 n,ag .u8 hs] w fun e w'=>e=.returned (.slice none 0 0)∧Below w.heap.size w w':=by
 go_enter Tryz.func29,Tryz.ntmps29;by_cases h2:n<62
 ·go_wp2_with (first
   | ((with_reducible show wpList _ _ _ (Oper.mk _ (Op.box _ _) _ _ _ _::_) _ _);refine wpList_box_row (w:=w) (by with_reducible rfl) 71 _ (by with_reducible rfl) .u8 hs rfl ?_;intro w1 hr1 hb1 hs1))
  go_ret;exact⟨rfl,hb1⟩
 ·have h3:512<n:=by omega
  go_wp2_with (first
   | ((with_reducible show wpList _ _ _ (Oper.mk _ (Op.box _ _) _ _ _ _::_) _ _);refine wpList_box_row (w:=w) (by with_reducible rfl) 71 _ (by with_reducible rfl) .u8 hs rfl ?_;intro w1 hr1 hb1 hs1))
  go_ret;exact⟨rfl,hb1⟩
theorem rPad_yes(n:Nat)(hs:List Int)(w:World)(h1:62≤n)(h2:n≤512)(hl:hs.length=32):
  Calls Tryz.prog 29 #[.int .i64 n,ag .u8 hs] w fun e w'=>∃v,e=.returned v∧Own 5 .u8 w' w.heap.size v (padL n hs)∧Below w.heap.size w w':=by
 have hlt1:¬((n:Int)<62):=by omega
 have hgt1:¬((512:Int)<n):=by omega
 go_enter Tryz.func29,Tryz.ntmps29;go_wp2_with (first
  | ((with_reducible show wpList _ _ _ (Oper.mk _ (Op.box _ _) _ _ _ _::_) _ _);refine wpList_box_row (w:=w) (by with_reducible rfl) 71 _ (by with_reducible rfl) .u8 hs rfl ?_;intro w1 hr1 hb1 hs1))
 obtain⟨gap,hgap⟩:∃gap,n-54=gap:=⟨_,rfl⟩
 have h0:Own 5 .u8 (w1.alloc (.cells #[.int .u8 0,.int .u8 1] 5)) (w.heap.size+1) (.slice (some ⟨w1.heap.size,0,none⟩) 2 2) ([0,1]++List.replicate 0 255):=(Row.alloc 5 .u8 w1 [0,1]).own (by omega) (by decide);have HB0:Hid (Row 71 .u8 w1 w.heap.size hs∧Below w.heap.size w w1∧w1.heap.size=w.heap.size+1):=⟨hr1,hb1,hs1⟩
 have HH0:Hid (Own 5 .u8 (w1.alloc (.cells #[.int .u8 0,.int .u8 1] 5)) (w.heap.size+1) (.slice (some ⟨w1.heap.size,0,none⟩) 2 2) ([0,1]++List.replicate 0 255)∧Below (w.heap.size+1) w1 (w1.alloc (.cells #[.int .u8 0,.int .u8 1] 5))):=⟨h0,(Below.refl _ _).alloc (by omega) _⟩
 have HGAP:Hid (n-54=gap):=hgap;have hsz1:=hs1;clear h0 hr1 hb1 hs1 hgap;go_loopg [5] gap (fun k v wr=>∃j,j+k=gap∧Own 5 .u8 wr (w.heap.size+1) v ([0,1]++List.replicate j 255)∧Below (w.heap.size+1) w1 wr)
 case atStart=>exact⟨0,by omega,by have:=HH0.out;rwa [hsz1]at this⟩
 case round=>
  obtain⟨j,hjk,hown,hb⟩:=hrel;clear HH0;obtain⟨a5,c5,hv5,hlc5,hcm5⟩:=hown.openR;have hL:([0,1]++List.replicate j (255:Int)).length=2+j:=by simp;omega
  obtain⟨M,hM⟩:∃M,2+j=M:=⟨_,rfl⟩
  rw[hL,hM]at hv5 hlc5;subst hv5;have hgp:=HGAP.out;have HO:Hid (Own 5 .u8 wr (w.heap.size+1) (.slice a5 M c5) ([0,1]++List.replicate j 255)∧Below (w.heap.size+1) w1 wr∧([0,1]++List.replicate j (255:Int)).length<1073741824∧w.heap.size+1≤wr.heap.size):=⟨hown,hb,by omega,by have:=hb.size;omega⟩
  unfold maxLen at hcm5;have HL:Hid (2+j=M):=hM;clear hown hb hL
  cases gk with
  | succ k'=>
   have hlt:(M:Int)<(n:Int)-52:=by omega
   clear hM hgp;generalize hXs:[0,1]++List.replicate j (255:Int)=Xs at HO;have HXS:Hid (Xs++[255]=[0,1]++List.replicate (j+1) 255):=by unfold Hid;rw[←hXs,List.replicate_succ',List.append_assoc]
   clear hXs;go_wp2_with (at_builtin;refine wpList_append_one rfl _ _ 33 rfl 5 .u8 1 Tryz.underlying33 Tryz.infoB (w.heap.size+1) (.slice a5 M c5) Xs 255 (by rfl) HO.out.1 (by rfl) HO.out.2.2.1 (by decide) w1 HO.out.2.1 HO.out.2.2.2 ?_;intro v6 w6 hown6 hb6)
   go_roundg k'
   case measure=>omega
   case rel=>exact⟨j+1,by omega,by rw[←HXS.out];exact hown6,hb6⟩
  | zero =>
   have hge:¬((M:Int)<(n:Int)-52):=by omega
   have hM5:M≤512:=by omega
   obtain rfl:j=gap:=by omega
   clear hM hgp;have HXS:Hid ([0,1]++List.replicate j (255:Int)++(0::hashN)++hs=padL n hs):=by unfold Hid padL;rw[HGAP.out];simp
   generalize [0,1]++List.replicate j (255:Int)=Xs at *;have hn8:Xs.length+20≤1073741824:=by have:=HO.out.2.2.1;have h9:Xs.length=M:=HO.out.1.lenR;omega
   have hn9:(Xs++(0::hashN)).length+32≤1073741824:=by have h9:Xs.length=M:=HO.out.1.lenR;simp[hashN];omega
   have ha:Row 5 .u8 (wr.alloc (.cells (((0::hashN).map (Value.int .u8)).toArray) 5)) wr.heap.size (0::hashN):=Row.alloc 5 .u8 wr (0::hashN);have HA:Hid (Lies .u8 (wr.alloc (.cells #[.int .u8 0,.int .u8 48,.int .u8 49,.int .u8 48,.int .u8 13,.int .u8 6,.int .u8 9,.int .u8 96,.int .u8 134,.int .u8 72,.int .u8 1,.int .u8 101,.int .u8 3,.int .u8 4,.int .u8 2,.int .u8 1,.int .u8 5,.int .u8 0,.int .u8 4,.int .u8 32] 5)) (some ⟨wr.heap.size,0,none⟩) 20 (0::hashN)):=ha.lies 0 20 (by decide);go_wp2_with (first
    | (at_builtin;refine wpList_append_nums rfl _ _ 33 rfl 5 .u8 1 Tryz.underlying33 Tryz.infoB (w.heap.size+1) (.slice a5 M c5) Xs (by rfl) (HO.out.1.alloc _) (some ⟨wr.heap.size,0,none⟩) 20 20 (0::hashN) (by rfl) HA.out (fun h=>by cases h) hn8 (by decide) w1 (HO.out.2.1.alloc HO.out.2.2.2 _) (by have:=HO.out.2.2.2;simp;omega) ?_;intro v6 w6 hown6 hb6 hk6 hs6;have H6:Hid (Own 5 .u8 w6 (w.heap.size+1) v6 (Xs++(0::hashN))∧Below (w.heap.size+1) w1 w6∧Lies .u8 w6 (some ⟨w.heap.size,0,none⟩) 32 hs∧w.heap.size+1≤w6.heap.size):=⟨hown6,hb6,lies_all (HB0.out.1.below hb6 (by omega)) hl,by have:=HO.out.2.2.2;simp at hs6;omega⟩;clear hown6 hb6 hk6 hs6 HA ha)
    | (at_builtin;refine wpList_append_nums rfl _ _ 33 rfl 5 .u8 1 Tryz.underlying33 Tryz.infoB (w.heap.size+1) v6 (Xs++(0::hashN)) (by rfl) H6.out.1 (some ⟨w.heap.size,0,none⟩) 32 32 hs (by rfl) H6.out.2.2.1 (fun h=>by cases h) hn9 (by decide) w1 H6.out.2.1 H6.out.2.2.2 ?_;intro v7 w7 hown7 hb7 hk7 hs7))
   go_ret;refine⟨_,rfl,?_,HB0.out.2.1.trans (hb7.mono (by omega))⟩;rw[HXS.out]at hown7;exact hown7.baseR (by omega)
end
section
open Go.Shelf Go.RowKit
def padA (n:Int)(hs:List Int):List Int:=if n<62∨512<n then [] else padL n.toNat hs
def By8 (W:World)(v:Value)(xs:List Int):Prop:=∃ao l c,v=.slice ao l c∧NumIn .u8 256 W ao l c xs
theorem By8.old{w w':World}{v:Value}{xs:List Int}(h:By8 w v xs)(hb:Below w.heap.size w w'):By8 w' v xs:=by obtain⟨ao,l,c,e,h⟩:=h;exact⟨ao,l,c,e,h.old hb⟩
theorem Pad_any(n:Int)(hs:List Int)(w:World)(hl:hs.length=32)(hd:Dg 256 hs):
  Calls Tryz.prog 47 #[.int .i64 n,ag .u8 hs] w fun e w'=>∃v,e=.returned v∧By8 w' v (padA n hs)∧Below w.heap.size w w':=by
 unfold padA;by_cases h:n<62∨512<n
 ·rw[if_pos h];refine(Pad_no n hs w h).mono ?_;rintro e w' ⟨rfl,hb⟩;exact⟨_,rfl,⟨none,0,0,rfl,NumIn.nil⟩,hb⟩
 ·rw[if_neg h];obtain⟨m,rfl⟩:∃m:Nat,n=m:=⟨n.toNat,by omega⟩
  refine(Pad_yes m hs w (by omega) (by omega) hl).mono ?_;rintro e w' ⟨g,rfl,hr,hg,hb⟩;have hp:=padL_len m hs hl (by omega);have h5:=hr.num (padL_dg m hs hd) (by omega);rw[hp]at h5;exact⟨_,rfl,⟨_,m,m,rfl,h5⟩,hb⟩
theorem rPad_any(n:Int)(hs:List Int)(w:World)(hl:hs.length=32)(hd:Dg 256 hs):
  Calls Tryz.prog 29 #[.int .i64 n,ag .u8 hs] w fun e w'=>∃v,e=.returned v∧By8 w' v (padA n hs)∧Below w.heap.size w w':=by
 unfold padA;by_cases h:n<62∨512<n
 ·rw[if_pos h];refine(rPad_no n hs w h).mono ?_;rintro e w' ⟨rfl,hb⟩;exact⟨_,rfl,⟨none,0,0,rfl,NumIn.nil⟩,hb⟩
 ·rw[if_neg h];obtain⟨m,rfl⟩:∃m:Nat,n=m:=⟨n.toNat,by omega⟩
  refine(rPad_yes m hs w (by omega) (by omega) hl).mono ?_;rintro e w' ⟨v,rfl,ho,hb⟩;have hp:=padL_len m hs hl (by omega);obtain⟨ao,cap,hv,h5⟩:=ho.num (padL_dg m hs hd) (by omega);exact⟨_,rfl,⟨ao,_,cap,hv,h5⟩,hb⟩
def Fk.gen(S:List Value→World→Prop)(hk:∀vs w w',Below w.heap.size w w'→S vs w→S vs w'):Fk:=⟨S,hk,false,fun h=>by cases h⟩
def Fk.by(xs:List Int):Fk:=Fk.gen (fun vs W=>By8 W (vs.getD 0 undef) xs) fun vs w w' hb h=>h.old hb
theorem row_ld32{w:World}{g:Nat}{e:TypeId}{xs:List Int}(h:Row e .u8 w g xs)(hl:xs.length=32):(HLD 71 (.pointer (some ⟨g,0,none⟩))).run Tryz.prog w=.ok (ag .u8 xs) w:=by
 refine run_loadAt_mid w g 0 71 (xs.map (Value.int .u8)) (.array 32 5) (fun j v hv => ?_) Tryz.underlying71 rfl (by rw[Tryz.sizeB32,List.length_map,hl]);have hj:j<xs.length:=by have:=(List.getElem?_eq_some_iff.1 hv).1;rw[List.length_map]at this;exact this
 rw[Nat.zero_add,h.cell j hj,←hv];simp[List.getD,hj]
end
section
open Go.RowKit Go.ChangeShapes Go.WideShapes Go.ChangeShapes
theorem keyFields:∃f0 f1:Field,Tryz.prog.underlying 28=some (.struct #[f0,f1])∧f0.offset=0∧f1.offset=1∧f0.type=24∧f1.type=24:=⟨_,_,Tryz.underlying28,rfl,rfl,rfl,rfl⟩
theorem open_key{H:Type}{enc:TypeId × Value→H}{w:World}{held:Bool}{fuel:Nat}{cs:Array Value}{x:DataW H × List MemPlace}(h:DataW.trod enc Tryz.prog w 0 (fun _=>true) held fuel 28 cs.toList=some x):
  ∃(a1:Option Addr) (l1 c1:Nat) (z1:List Int) (a2:Option Addr) (l2 c2:Nat) (z2:List Int),cs=#[.slice a1 l1 c1,.slice a2 l2 c2]∧Came .u64 w a1 l1 c1 z1∧Came .u64 w a2 l2 c2 z2:=by
 obtain⟨f0,f1,hu,o0,o1,t0,t1⟩:=keyFields;have hc:Tryz.prog.cellsOf 24=1:=by kernel_rfl
 have hc2:Tryz.prog.cellsOf 28=2:=by kernel_rfl
 obtain⟨y0,y1,n,_,hl,g0,g1⟩:=trod_struct2 hu h;rw[hc2]at hl;rw[o0,t0,hc]at g0;rw[o1,t1,hc]at g1;obtain⟨v0,v1,hcs⟩:∃v0 v1,cs.toList=[v0,v1]:=by
  match hh:cs.toList,hl with
  | [v0,v1],_=>exact⟨v0,v1,rfl⟩
 rw[hcs]at g0 g1;simp only[List.drop_zero,List.drop_succ_cons,List.take_succ_cons,List.take_zero]at g0 g1;have one:∀v (y:DataW H × List MemPlace),DataW.trod enc Tryz.prog w 0 (fun _=>true) held n 24 [v]=some y→∃a l c z,v=.slice a l c∧Came .u64 w a l c z:=fun v y g=>by
  rcases open_ints Tryz.underlying24 Tryz.underlying47 (by kernel_rfl) g with⟨hcs,_⟩|⟨x,l,c,zs,hcs,_,hl,hm,hz,_,hcell,hwz⟩
  ·cases hcs
   exact⟨none,0,0,[],rfl,.inl ⟨rfl,rfl,rfl,rfl⟩⟩
  ·cases hcs
   exact⟨_,_,_,zs,rfl,.inr ⟨_,rfl,hl,hm,by simpa using hz,hcell,hwz⟩⟩
 obtain⟨a1,l1,c1,z1,rfl,w1⟩:=one _ _ g0;obtain⟨a2,l2,c2,z2,rfl,w2⟩:=one _ _ g1;exact⟨a1,l1,c1,z1,a2,l2,c2,z2,Array.ext' hcs,w1,w2⟩
end
section
open Go.RowKit
theorem rDiv_any(ao bo : Option Addr)(la ca lb cb : Nat)(xs ys : List Int)(w : World)(h : NumIn .i64 D16 w ao la ca xs)(h' : NumIn .i64 D16 w bo lb cb ys)(hy : Canon ys)(hb0 : 0 < lb)(hla : la ≤ 100000)(hlb : lb ≤ 100000) :
  Calls Tryz.prog 90 #[.slice ao la ca,.slice bo lb cb] w fun e w'=>∃vq vr,e=.returned (.tuple #[vq,vr])∧NumOut .i64 D16 w w' vq (val D16 xs/val D16 ys) la∧NumOut .i64 D16 w w' vr (val D16 xs%val D16 ys) lb:=by
 have hl:=h.len;have hl':=h'.len;have hYp:0<val D16 ys:=by have a:=val_ge D16_pos h'.dg (lb-1) (by unfold Canon at hy;omega);have b:0<D16^(lb-1):=Int.pow_pos D16_pos;omega
 have HYP:Hid (0<val D16 ys):=hYp;clear hYp;go_enter Tryz.func90,Tryz.ntmps90;go_wp2_with (at_make;refine wpList_make_row _ rfl _ _ 55 rfl 3 .i64 8 Tryz.underlying55 Tryz.infoI _ _ _ _ la rfl rfl rfl rfl (by omega) (by unfold maxLen;omega) ?_)
 intro w3 hrow hbel;have hsz3:w.heap.size<w3.heap.size:=hrow.lt;go_wp2;go_loopw [7,9,10,11] (fun vr vi _ _ wr=>∃(kk:Nat) (q:List Int) (R:Int),kk≤la∧vi=.int .i64 ((kk:Int)-1)∧Row 3 .i64 wr w.heap.size q∧RDivs xs ys kk q R∧Rem wr w.heap.size vr R lb∧Below w.heap.size w wr) (fun _ vi _ _ _=>(intOf vi+1).toNat)
 case atStart=>
  have hb4:Below w3.heap.size w3 (w3.alloc (.cells #[] 3)):=(Below.refl _ _).alloc (Nat.le_refl _) _;refine⟨la,List.replicate la 0,0,Nat.le_refl _,by go_num,hrow.below hb4 hsz3,⟨by simp[hl],Dg.zeros D16_pos _,fun j _=>getD_zeros _ j,by decide,HYP.out,?_⟩,?_,hbel.trans (hb4.mono (by omega))⟩
  ·rw[List.drop_of_length_le (by omega),List.drop_of_length_le (by simp)];simp[val]
  ·refine⟨some ⟨w3.heap.size,0,none⟩,0,0,[],rfl,⟨Lies.empty _ _ _,Nat.le_refl _,by simp[maxLen],fun h=>(by cases h),Dg.nil _,by omega⟩,Canon.nil,rfl,by omega,?_⟩;intro b off s e;injection e with e;injection e with e;omega
 case round =>
  obtain⟨kk,q0,R0,hkk,rfl,hrw0,hd0,⟨a_r,l_r,c_r,rs,rfl,hr,hcr,hvr,hlr,hfr⟩,hb1⟩:=hrel;clear hrow hbel hsz3;by_cases hk0:kk=0
  ·subst hk0;have hqR:=hd0.done;have hqlen:=hd0.1;have HQ:Hid (NumIn .i64 D16 wr (some ⟨w.heap.size,0,none⟩) la la q0):=by have:=hrw0.num hd0.2.1 (by omega);rw[hqlen,hl]at this;exact this
   have HV:Hid (val D16 q0=val D16 xs/val D16 ys):=hqR.1;have HR:Hid (NumOut .i64 D16 w wr (.slice a_r l_r c_r) (val D16 xs%val D16 ys) lb):=⟨a_r,l_r,c_r,rs,rfl,hr,hcr,by rw[hvr];exact hqR.2,hlr,hb1⟩
   have HB:Hid (Below w.heap.size w wr):=hb1;clear hqR hqlen hd0 hrw0 hr hcr hvr hlr hfr hb1 h h' hy HYP;go_wp2_with fail
   refine(rtrim_any (some ⟨w.heap.size,0,none⟩) la la q0 wr HQ.out).mono ?_;rintro e w4 ⟨rfl,rfl⟩;go_wp2;go_ret2
   exact⟨_,_,rfl,HQ.out.out HB.out _ HV.out _ (Nat.le_refl _),HR.out⟩
  ·obtain⟨i,rfl⟩:∃i,kk=i+1:=⟨kk-1,by omega⟩
   obtain⟨b,off,rfl,hblk,hcs⟩:=(h.lies.old hb1).at (by omega);have hcx:=hcs i (by omega);have gx:=h.dg.getD D16_pos i;have HEN:Hid (RDivIn xs ys i (xs.getD i 0+D16*R0) q0 q0 0 (xs.getD i 0+D16*R0)):=hd0.enter h.dg;have HTOP:Hid (xs.getD i 0+D16*R0<D16*val D16 ys):=hd0.top h.dg;have HD0:Hid (RDivs xs ys (i+1) q0 R0):=hd0;have HROW0:Hid (Row 3 .i64 wr w.heap.size q0):=hrw0;have HB1:Hid (Below w.heap.size w wr):=hb1;have hgs:=hrw0.lt;have hown0:=(row_alloc wr 3 .i64 (xs.getD i 0)).own (base:=wr.heap.size) (Nat.le_refl _) (by simp);have hba:Below wr.heap.size wr (wr.alloc (.cells #[.int .i64 (xs.getD i 0)] 3)):=(Below.refl _ _).alloc (Nat.le_refl _) _;have hlr2:=hr.lies.old hba;have hnn:=hr.nn;have HR:Hid (NumIn .i64 D16 wr a_r l_r c_r rs∧val D16 rs=R0):=⟨hr,hvr⟩
   have HX:Hid (0≤xs.getD i 0∧xs.getD i 0<D16):=gx;obtain⟨T,HT⟩:∃T,Hid (xs.getD i 0+D16*R0=T):=⟨_,rfl⟩
   rw[HT.out]at HEN HTOP;have HT2:Hid (T=xs.getD i 0+D16*R0):=HT.out.symm;have HLV:Hid (∀q t R,RDivIn xs ys i T q0 q t R→R<val D16 ys→RDivs xs ys i q R):=fun q t R h1 h2=>h1.leave HD0.out (by omega) HT2.out h2;generalize xs.getD i 0=x at *;clear hcs hd0 hrw0 hb1 hr hcr hvr hfr gx HT;have hbasz:=hba.size;go_wp2_with (at_builtin;refine wpList_append_nums rfl _ _ 55 rfl 3 .i64 8 Tryz.underlying55 Tryz.infoI wr.heap.size (.slice (some ⟨wr.heap.size,0,none⟩) 1 1) [x] (by rfl) hown0 a_r l_r c_r rs (by rfl) hlr2 hnn (by simp;omega) (by decide) wr hba hbasz ?_)
   intro v2 w4 hown hb4 _ _;replace hown:Own 3 .i64 w4 wr.heap.size v2 (x::rs):=hown;have hlen4:(x::rs).length=l_r+1:=by simp[HR.out.1.len]
   have hdg4:Dg D16 (x::rs):=Dg.cons HX.out HR.out.1.dg;obtain⟨a4,c4,hv4,hnum4⟩:=hown.num hdg4 (by omega);subst hv4;have hfr4:=hown.fresh;rw[hlen4]at hnum4 ⊢;have HN4:Hid (NumIn .i64 D16 w4 a4 (l_r+1) c4 (x::rs)):=hnum4;have HV4:Hid (val D16 (x::rs)=T):=by unfold Hid;rw[val_cons,HR.out.2,HT2.out]
   have HREM:Hid (Rem w4 w.heap.size (.slice a4 (top (x::rs)) c4) T (lb+1)):=by have ht:=top_le (x::rs);exact⟨a4,_,c4,(x::rs).take (top (x::rs)),rfl,hnum4.take _ (by omega),canon_take_top _,by rw[val_take_top,HV4.out],by omega,fun b off s e=>by have:=hfr4 b off s e;omega⟩
   have HROW4:Hid (Row 3 .i64 w4 w.heap.size q0):=HROW0.out.below hb4 hgs;have HB4:Hid (Below w.heap.size w w4):=HB1.out.trans (hb4.mono HB1.out.size);clear hown0 hba hlr2 hnn hbasz hown hb4 hlen4 hdg4 hnum4 hfr4 HROW0 HB1 hgs HV4 HR HX;go_wp2_with fail
   refine(rtrim_any a4 (l_r+1) c4 (x::rs) w4 HN4.out).mono ?_;rintro e w5 ⟨rfl,rfl⟩;generalize top (x::rs)=l4 at *;clear HN4;go_wp2;go_loopw [7,10,11] (fun vr _ _ wr=>∃(q:List Int) (t R:Int),Row 3 .i64 wr w.heap.size q∧RDivIn xs ys i T q0 q t R∧Rem wr w.heap.size vr R (lb+1)∧Below w.heap.size w wr) (fun _ _ _ wr=>65536-cellNat wr ⟨w.heap.size,i,none⟩)
   case atStart=>exact⟨q0,0,T,HROW4.out,HEN.out,HREM.out,HB4.out⟩
   case round =>
    obtain⟨q,t,R,hrw,hin,⟨a_s,l_s,c_s,rs2,rfl,hr,hcr,hvr,hlr,hfr⟩,hb⟩:=hrel;clear HROW4 HEN HREM HB4;have HC:=rCmp_any a_s bo l_s c_s lb cb rs2 ys wr hr (h'.old hb) hcr hy (by omega) (by omega);have hqlen:q.length=la:=by rw[hin.1];simp[HD0.out.1,hl]
    by_cases hge:val D16 ys≤R
    ·obtain⟨m,hm⟩:∃m,lb=m+1:=⟨lb-1,by omega⟩
     have em:(lb:Int)-1=(m:Int):=by omega
     have hll:lb≤l_s:=by have h1:=top_mono D16_one h'.dg hr.dg (by omega);have h2:=hr.len;unfold Canon at hy hcr;omega
     obtain⟨cv,hcv⟩:∃c,cmpI (val D16 rs2) (val D16 ys)=c:=⟨_,rfl⟩
     have hcv0:0≤cv:=by
      rw[←hcv,hvr];rcases Int.lt_or_eq_of_le hge with h1|h1
      ·rw[cmpI_gt h1];decide
      ·rw[cmpI_eq h1.symm];decide
     rw[hcv]at HC;obtain⟨b2,off2,rfl,hblk2,hcs2⟩:=hr.lies.at (by omega);obtain⟨b3,off3,rfl,hblk3,hcs3⟩:=(h'.lies.old hb).at (by omega);have HCS:Hid (∀j,j<l_s→wr.cell? ⟨b2,off2+j,none⟩=some (.int .i64 (rs2.getD j 0))):=hcs2;have hcy:=hcs3 m (by omega);have hcr0:=hcs2 m (by omega);have HSTEP:Hid (∀s,1≤s→s*val D16 ys≤R→RDivIn xs ys i T q0 (q.set i (t+s)) (t+s) (R-s*val D16 ys)):=fun s h1 h2=>hin.step HTOP.out HYP.out h1 h2;have HOK:Hid (∀s,0≤s→s*(ys.getD m 0+1)≤rs2.getD m 0+65536*rs2.getD lb 0→s*val D16 ys≤R):=fun s h1 h2=>by rw[←hvr];exact times_ok rs2 ys hr.dg h'.dg m (by omega) s h1 (by rw[←hm];exact h2)
     have gy:=h'.dg.getD D16_pos m;have g0:=hr.dg.getD D16_pos m;have g1:=hr.dg.getD D16_pos lb;have y0:=gy.1;have y1:ys.getD m 0<65536:=gy.2;have r0:=g0.1;have r1:rs2.getD m 0<65536:=g0.2;have s0:=g1.1;have s1:rs2.getD lb 0<65536:=g1.2;have HR:Hid (NumIn .i64 D16 wr (some ⟨b2,off2,none⟩) l_s c_s rs2∧Canon rs2∧val D16 rs2=R):=⟨hr,hcr,hvr⟩
     have HROW:Hid (Row 3 .i64 wr w.heap.size q):=hrw;have HB:Hid (Below w.heap.size w wr):=hb;have HIN:Hid (RDivIn xs ys i T q0 q t R):=hin;have hout:l_s=lb→rs2.getD lb 0=0:=fun e=>by have:=hr.len;simp[List.getD,List.getElem?_eq_none (show rs2.length≤lb by omega)]
     have hcin:lb<l_s→wr.cell? ⟨b2,off2+lb,none⟩=some (.int .i64 (rs2.getD lb 0)):=fun e=>hcs2 lb e;have HY:Hid (NumIn .i64 D16 w (some ⟨b3,off3,none⟩) lb cb ys∧Canon ys):=⟨h',hy⟩
     have HFR:Hid (w.heap.size<b2):=hfr b2 off2 none rfl;have hmlb:(m:Int)<(lb:Int):=by omega
     have hmls:(m:Int)<(l_s:Int):=by omega
     have hlI:(lb:Int)≤100000:=by omega
     clear hcs2 hcs3 hin hr hcr hvr hfr hrw hb hcv gy g0 g1 h h' hy hm hl';generalize ys.getD m 0=y at *;generalize rs2.getD m 0=x0 at *;generalize rs2.getD lb 0=x1 at *;go_wp2_with fail
     refine HC.mono ?_;rintro e w6 ⟨rfl,hdr⟩;have hcy6:=(hdr.cell _).trans hcy;have hcr6:=(hdr.cell _).trans hcr0;clear hcy hcr0;by_cases hmore:lb<l_s
     ·have hc16:=(hdr.cell _).trans (hcin hmore);clear hout hcin;go_wp2_with fail
      clear hc16;obtain⟨tm,htm⟩:∃tm,max ((x0+65536*x1)/(y+1)) 1=tm:=⟨_,rfl⟩
      have hs0:0≤(x0+65536*x1)/(y+1):=Int.ediv_nonneg (by omega) (by omega);have hsmul:(x0+65536*x1)/(y+1)*(y+1)≤x0+65536*x1:=Int.ediv_mul_le _ (by omega);have hsle:(x0+65536*x1)/(y+1)≤x0+65536*x1:=Int.ediv_le_self _ (by omega);have htm1:1≤tm:=by rw[←htm];exact Int.le_max_right _ _
      have htmR:tm*val D16 ys≤R:=by
       rcases Int.le_total ((x0+65536*x1)/(y+1)) 1 with h1|h1
       ·have e:tm=1:=by rw[←htm];exact Int.max_eq_right h1
        rw[e,Int.one_mul];exact hge
       ·have e:tm=(x0+65536*x1)/(y+1):=by rw[←htm];exact Int.max_eq_left h1
        rw[e];exact HOK.out _ hs0 (by omega)
      have htm2:tm≤4294967296:=by
       rcases Int.le_total ((x0+65536*x1)/(y+1)) 1 with h1|h1
       ·have e:tm=1:=by rw[←htm];exact Int.max_eq_right h1
        omega
       ·have e:tm=(x0+65536*x1)/(y+1):=by rw[←htm];exact Int.max_eq_left h1
        omega
      rw[htm];have HS:Hid (RDivIn xs ys i T q0 (q.set i (t+tm)) (t+tm) (R-tm*val D16 ys)):=HSTEP.out tm htm1 htmR;have HTR:Hid (tm*val D16 ys≤R):=htmR;clear htm hs0 hsmul hsle HOK HSTEP htmR hge hcr6 hcy6;refine(rSmall_any tm w6 (by omega) (by omega)).mono ?_;rintro e w7 ⟨v,rfl,a_m,l_m,c_m,s_m,rfl,n_m,k_m,v_m,b_m,hb7⟩;have HB7:Hid (Below wr.heap.size wr w7):=(hdr.below _).trans (by rw[hdr.size]at hb7;exact hb7);have HNM:Hid (NumIn .i64 D16 w7 a_m l_m c_m s_m∧val D16 s_m=tm):=⟨n_m,v_m⟩
      clear n_m k_m v_m hb7 hdr;have HY7:Hid (NumIn .i64 D16 w7 (some ⟨b3,off3,none⟩) lb cb ys):=HY.out.1.old (HB.out.trans (HB7.out.mono HB.out.size));go_wp2_with fail
      refine(rMul_any (some ⟨b3,off3,none⟩) a_m lb cb l_m c_m ys s_m w7 HY7.out HNM.out.1 (by omega) (by omega)).mono ?_;rintro e w8 ⟨v,rfl,a_p,l_p,c_p,s_p,rfl,n_p,k_p,v_p,b_p,hb8⟩;have HB8:Hid (Below wr.heap.size wr w8):=HB7.out.trans (hb8.mono HB7.out.size);have HNP:Hid (NumIn .i64 D16 w8 a_p l_p c_p s_p∧Canon s_p∧val D16 s_p=tm*val D16 ys):=⟨n_p,k_p,by rw[v_p,HNM.out.2,Int.mul_comm]⟩
      have HR8:Hid (NumIn .i64 D16 w8 (some ⟨b2,off2,none⟩) l_s c_s rs2):=HR.out.1.old HB8.out;clear n_p k_p v_p hb8 HNM HY7;go_wp2_with fail
      refine(rSub_new (some ⟨b2,off2,none⟩) a_p l_s c_s l_p c_p rs2 s_p w8 HR8.out HNP.out.1 HR.out.2.1 HNP.out.2.1 (by rw[HNP.out.2.2,HR.out.2.2];exact HTR.out) (by omega) (by omega)).mono ?_;rintro e w9 ⟨v,rfl,a_n,l_n,c_n,s_n,rfl,n_n,k_n,v_n,b_n,hb9,f_n⟩;have hlt8:w.heap.size<w8.heap.size:=Nat.lt_of_lt_of_le HROW.out.lt HB8.out.size;have HB9:Hid (Below wr.heap.size wr w9):=HB8.out.trans (hb9.mono HB8.out.size);have hrow9:=HROW.out.below HB9.out HROW.out.lt;have hqi:q.getD i 0=t:=by rw[HIN.out.1,getD_set _ _ _ _ (by have:=HD0.out.1;omega),if_pos rfl]
      have hcq:=hrow9.cell i (by omega);have hfz:=hrow9.frozen i;rw[hqi]at hcq;have ht0:=HIN.out.2.1;have ht1:=HIN.out.2.2.1;have HROW':Hid (Row 3 .i64 (w9.setCell ⟨w.heap.size,i,none⟩ (.int .i64 (t+tm))) w.heap.size (q.set i (t+tm))):=hrow9.set i (t+tm);have HREM':Hid (Rem (w9.setCell ⟨w.heap.size,i,none⟩ (.int .i64 (t+tm))) w.heap.size (.slice a_n l_n c_n) (R-tm*val D16 ys) (lb+1)):=
       ⟨a_n,l_n,c_n,s_n,rfl,n_n.kept (grown_set _ _ _ _) (fun b off s e=>by have:=f_n b off s e;intro h0;injection h0 with h0;omega),k_n,by rw[v_n,HNP.out.2.2,HR.out.2.2],by omega,fun b off s e=>by have:=f_n b off s e;omega⟩
      have HB':Hid (Below w.heap.size w (w9.setCell ⟨w.heap.size,i,none⟩ (.int .i64 (t+tm)))):=(HB.out.trans (HB9.out.mono HB.out.size)).setCell (Nat.le_refl _) _;have HMS:Hid (65536-cellNat (w9.setCell ⟨w.heap.size,i,none⟩ (.int .i64 (t+tm))) ⟨w.heap.size,i,none⟩<65536-cellNat wr ⟨w.heap.size,i,none⟩):=by unfold Hid;rw[cellNat_row HROW'.out i (by simp;omega),cellNat_row HROW.out i (by omega),hqi,getD_set _ _ _ _ (by omega),if_pos rfl];have:=HS.out.2.2.1;omega
      clear hrow9 hqi n_n k_n v_n f_n hb9 HB9 HB8 HB7 HR8 HNP HR HROW HB HIN HY HD0 HYP HTOP;go_wp2;go_roundw
      case rel=>exact⟨_,_,_,HROW'.out,HS.out,HREM'.out,HB'.out⟩
      case measure=>exact HMS.out
     ·obtain rfl:=hout (by omega);clear hout hcin s0 s1;go_wp2_with fail
      obtain⟨tm,htm⟩:∃tm,max ((x0)/(y+1)) 1=tm:=⟨_,rfl⟩
      have hs0:0≤(x0)/(y+1):=Int.ediv_nonneg (by omega) (by omega);have hsmul:(x0)/(y+1)*(y+1)≤x0:=Int.ediv_mul_le _ (by omega);have hsle:(x0)/(y+1)≤x0:=Int.ediv_le_self _ (by omega);have htm1:1≤tm:=by rw[←htm];exact Int.le_max_right _ _
      have htmR:tm*val D16 ys≤R:=by
       rcases Int.le_total ((x0)/(y+1)) 1 with h1|h1
       ·have e:tm=1:=by rw[←htm];exact Int.max_eq_right h1
        rw[e,Int.one_mul];exact hge
       ·have e:tm=(x0)/(y+1):=by rw[←htm];exact Int.max_eq_left h1
        rw[e];exact HOK.out _ hs0 (by omega)
      have htm2:tm≤4294967296:=by
       rcases Int.le_total ((x0)/(y+1)) 1 with h1|h1
       ·have e:tm=1:=by rw[←htm];exact Int.max_eq_right h1
        omega
       ·have e:tm=(x0)/(y+1):=by rw[←htm];exact Int.max_eq_left h1
        omega
      rw[htm];have HS:Hid (RDivIn xs ys i T q0 (q.set i (t+tm)) (t+tm) (R-tm*val D16 ys)):=HSTEP.out tm htm1 htmR;have HTR:Hid (tm*val D16 ys≤R):=htmR;clear htm hs0 hsmul hsle HOK HSTEP htmR hge hcr6 hcy6;refine(rSmall_any tm w6 (by omega) (by omega)).mono ?_;rintro e w7 ⟨v,rfl,a_m,l_m,c_m,s_m,rfl,n_m,k_m,v_m,b_m,hb7⟩;have HB7:Hid (Below wr.heap.size wr w7):=(hdr.below _).trans (by rw[hdr.size]at hb7;exact hb7);have HNM:Hid (NumIn .i64 D16 w7 a_m l_m c_m s_m∧val D16 s_m=tm):=⟨n_m,v_m⟩
      clear n_m k_m v_m hb7 hdr;have HY7:Hid (NumIn .i64 D16 w7 (some ⟨b3,off3,none⟩) lb cb ys):=HY.out.1.old (HB.out.trans (HB7.out.mono HB.out.size));go_wp2_with fail
      refine(rMul_any (some ⟨b3,off3,none⟩) a_m lb cb l_m c_m ys s_m w7 HY7.out HNM.out.1 (by omega) (by omega)).mono ?_;rintro e w8 ⟨v,rfl,a_p,l_p,c_p,s_p,rfl,n_p,k_p,v_p,b_p,hb8⟩;have HB8:Hid (Below wr.heap.size wr w8):=HB7.out.trans (hb8.mono HB7.out.size);have HNP:Hid (NumIn .i64 D16 w8 a_p l_p c_p s_p∧Canon s_p∧val D16 s_p=tm*val D16 ys):=⟨n_p,k_p,by rw[v_p,HNM.out.2,Int.mul_comm]⟩
      have HR8:Hid (NumIn .i64 D16 w8 (some ⟨b2,off2,none⟩) l_s c_s rs2):=HR.out.1.old HB8.out;clear n_p k_p v_p hb8 HNM HY7;go_wp2_with fail
      refine(rSub_new (some ⟨b2,off2,none⟩) a_p l_s c_s l_p c_p rs2 s_p w8 HR8.out HNP.out.1 HR.out.2.1 HNP.out.2.1 (by rw[HNP.out.2.2,HR.out.2.2];exact HTR.out) (by omega) (by omega)).mono ?_;rintro e w9 ⟨v,rfl,a_n,l_n,c_n,s_n,rfl,n_n,k_n,v_n,b_n,hb9,f_n⟩;have hlt8:w.heap.size<w8.heap.size:=Nat.lt_of_lt_of_le HROW.out.lt HB8.out.size;have HB9:Hid (Below wr.heap.size wr w9):=HB8.out.trans (hb9.mono HB8.out.size);have hrow9:=HROW.out.below HB9.out HROW.out.lt;have hqi:q.getD i 0=t:=by rw[HIN.out.1,getD_set _ _ _ _ (by have:=HD0.out.1;omega),if_pos rfl]
      have hcq:=hrow9.cell i (by omega);have hfz:=hrow9.frozen i;rw[hqi]at hcq;have ht0:=HIN.out.2.1;have ht1:=HIN.out.2.2.1;have HROW':Hid (Row 3 .i64 (w9.setCell ⟨w.heap.size,i,none⟩ (.int .i64 (t+tm))) w.heap.size (q.set i (t+tm))):=hrow9.set i (t+tm);have HREM':Hid (Rem (w9.setCell ⟨w.heap.size,i,none⟩ (.int .i64 (t+tm))) w.heap.size (.slice a_n l_n c_n) (R-tm*val D16 ys) (lb+1)):=
       ⟨a_n,l_n,c_n,s_n,rfl,n_n.kept (grown_set _ _ _ _) (fun b off s e=>by have:=f_n b off s e;intro h0;injection h0 with h0;omega),k_n,by rw[v_n,HNP.out.2.2,HR.out.2.2],by omega,fun b off s e=>by have:=f_n b off s e;omega⟩
      have HB':Hid (Below w.heap.size w (w9.setCell ⟨w.heap.size,i,none⟩ (.int .i64 (t+tm)))):=(HB.out.trans (HB9.out.mono HB.out.size)).setCell (Nat.le_refl _) _;have HMS:Hid (65536-cellNat (w9.setCell ⟨w.heap.size,i,none⟩ (.int .i64 (t+tm))) ⟨w.heap.size,i,none⟩<65536-cellNat wr ⟨w.heap.size,i,none⟩):=by unfold Hid;rw[cellNat_row HROW'.out i (by simp;omega),cellNat_row HROW.out i (by omega),hqi,getD_set _ _ _ _ (by omega),if_pos rfl];have:=HS.out.2.2.1;omega
      clear hrow9 hqi n_n k_n v_n f_n hb9 HB9 HB8 HB7 HR8 HNP HR HROW HB HIN HY HD0 HYP HTOP;go_wp2;go_roundw
      case rel=>exact⟨_,_,_,HROW'.out,HS.out,HREM'.out,HB'.out⟩
      case measure=>exact HMS.out
    ·have hRl:R<val D16 ys:=by omega
     rw[show cmpI (val D16 rs2) (val D16 ys) = -1 from cmpI_lt (by rw[hvr];exact hRl)]at HC;have HD:Hid (RDivs xs ys i q R):=HLV.out q t R hin hRl;have HREM:Hid (Rem wr w.heap.size (.slice a_s l_s c_s) R lb):=by
      have h1:Rem wr w.heap.size (.slice a_s l_s c_s) R (lb+1):=⟨a_s,l_s,c_s,rs2,rfl,hr,hcr,hvr,hlr,hfr⟩
      have:=h1.len h'.dg hRl;rw[hl']at this;exact this
     have HROW:Hid (Row 3 .i64 wr w.heap.size q):=hrw;have HB:Hid (Below w.heap.size w wr):=hb;clear hin hr hcr hvr hlr hfr hrw hb hge hRl h h' hy HYP HTOP HD0 HT2 HLV;go_wp2_with fail
     refine HC.mono ?_;rintro e w6 ⟨rfl,n6,rfl⟩;clear HC;go_wp2;go_roundw
     case rel=>exact⟨i,q,R,by omega,by go_num,HROW.out.drewN _,HD.out,HREM.out.old (Drew.below ⟨_,rfl⟩ _),HB.out.trans (Drew.below ⟨_,rfl⟩ _)⟩
     case measure=>simp[intOf]<;>omega
theorem rMod_any(ao bo:Option Addr)(la ca lb cb:Nat)(xs ys:List Int)(w:World)(h:NumIn .i64 D16 w ao la ca xs)(h':NumIn .i64 D16 w bo lb cb ys)(hy:Canon ys)(h0:val D16 ys≠0)(hla:la≤100000)(hlb:lb≤100000):
  Calls Tryz.prog 65 #[.slice ao la ca,.slice bo lb cb] w fun e w'=>∃v,e=.returned v∧NumOut .i64 D16 w w' v (val D16 xs%val D16 ys) lb:=by
 have hb0:0<lb:=by
  rcases Nat.eq_zero_or_pos lb with e|e
  ·have hl:=h'.len;have:ys=[]:=List.eq_nil_of_length_eq_zero (by omega);rw[this]at h0;exact absurd rfl h0
  ·exact e
 have HD:=rDiv_any ao bo la ca lb cb xs ys w h h' hy hb0 hla hlb;clear h h' h0 hb0;go_enter Tryz.func65,Tryz.ntmps65;go_wp2_with fail
 refine HD.mono ?_;rintro e w' ⟨q,r,rfl,hq,hr⟩;obtain⟨aq,lq,cq,xq,rfl,_,_,_,_,_⟩:=hq;obtain⟨ar,lr,cr,xr,rfl,n1,n2,n3,n4,n5⟩:=hr;have HN:Hid (NumOut .i64 D16 w w' (.slice ar lr cr) (val D16 xs%val D16 ys) lb):=⟨ar,lr,cr,xr,rfl,n1,n2,n3,n4,n5⟩
 clear n1 n2 n3 n4 n5 HD;go_wp2;go_ret;exact⟨_,rfl,HN.out⟩
theorem rPow_any(ao no mo:Option Addr)(la ca ln cn lm cm:Nat)(xs ns ms:List Int)(w:World)(h:NumIn .i64 D16 w ao la ca xs)(hn:NumIn .i64 D16 w no ln cn ns)(h':NumIn .i64 D16 w mo lm cm ms)(hx:Canon xs)(hcn:Canon ns)(hm:Canon ms)(h0:val D16 ms≠0)(hla:la≤1000)(hln:ln≤1000)(hlm:lm≤1000):
  Calls Tryz.prog 32 #[.slice ao la ca,.slice no ln cn,.slice mo lm cm] w fun e w'=>∃v,e=.returned v∧NumOut .i64 D16 w w' v (val D16 xs^(val D16 ns).toNat%val D16 ms) lm:=by
 have hM:=val_nonneg D16_pos h'.dg;have hV:=val_nonneg D16_pos hn.dg;have NX:Hid (NumIn .i64 D16 w ao la ca xs∧Canon xs):=⟨h,hx⟩
 have NN:Hid (NumIn .i64 D16 w no ln cn ns∧Canon ns):=⟨hn,hcn⟩
 have NM:Hid (NumIn .i64 D16 w mo lm cm ms∧Canon ms):=⟨h',hm⟩
 have HLb:Hid (blen (val D16 ns).toNat≤16*ln):=by
  unfold Hid;refine blen_le _ _ ?_;have h1:=val_lt D16_pos hn.dg;rw[hn.len]at h1;have e:D16^ln=((2^(16*ln):Nat):Int):=by rw[Nat.pow_mul,Int.natCast_pow];rfl
  omega
 have HVL:Hid (val D16 ns<2^blen (val D16 ns).toNat):=by
  unfold Hid;have h1:=blen_lt (val D16 ns).toNat;have e:((2^blen (val D16 ns).toNat:Nat):Int)=2^blen (val D16 ns).toNat:=by rw[Int.natCast_pow];rfl
  omega
 have HL:=fun w1 (hb:Below w.heap.size w w1)=>rLen_any no ln cn ns w1 (hn.old hb) hcn (by omega);obtain⟨M,hMv⟩:∃M,val D16 ms=M:=⟨_,rfl⟩
 obtain⟨V,hVv⟩:∃V,val D16 ns=V:=⟨_,rfl⟩
 obtain⟨X,hXv⟩:∃X,val D16 xs=X:=⟨_,rfl⟩
 have HV:Hid (val D16 ms=M∧val D16 ns=V∧val D16 xs=X):=⟨hMv,hVv,hXv⟩
 rw[hMv]at hM h0 ⊢;rw[hVv]at hV HLb HVL HL ⊢;rw[hXv];have HMP:Hid (M≠0∧0<M):=⟨h0,by omega⟩
 have HVP:Hid (0≤V):=hV;obtain⟨L,hL⟩:∃L,blen V.toNat=L:=⟨_,rfl⟩
 rw[hL]at HLb HVL HL;have hL2:L≤16000:=by have:=HLb.out;omega
 clear h hn h' hx hcn hm hM hV h0 hMv hVv hXv hL HLb;go_enter Tryz.func32,Tryz.ntmps32;go_wp2_with fail
 refine(rSmall_any 1 w (by decide) (by decide)).mono ?_;rintro e w1 ⟨v,rfl,a1,l1,c1,s1,rfl,q1,q2,q3,q4,q5⟩;have HM:=rMod_any a1 mo l1 c1 lm cm s1 ms w1 q1 (NM.out.1.old q5) NM.out.2 (by rw[HV.out.1];exact HMP.out.1) (by omega) (by omega);rw[q3,HV.out.1]at HM;have BW:Hid (Below w.heap.size w w1):=q5;clear q1 q2 q3 q4 q5;go_wp2_with fail
 refine HM.mono ?_;rintro e w2 ⟨v,rfl,hv⟩;have N0:Hid (NumOut .i64 D16 w w2 v (1%M) lm):=hv.from BW.out;have HL2:=HL w2 N0.out.bl;clear hv HM BW HL;go_wp2_with fail
 refine HL2.mono ?_;rintro e w3 ⟨rfl,rfl⟩;clear HL2;go_wp2;go_loopw [7,8] (fun vo vi wr=>∃(i P:Int),vi=.int .i64 i ∧ -1≤i∧i<L∧NumOut .i64 D16 w wr vo P lm∧0≤P∧P<M∧Cg M P (pws X V (i+1).toNat)) (fun vo vi wr=>(intOf vi+1).toNat)
 case atStart=> have r:=mod_range 1 M (Int.le_of_lt HMP.out.2) HMP.out.1;refine⟨(L:Int)-1,1%M,rfl,by omega,by omega,N0.out,r.1,r.2,?_⟩;rw[show((L:Int)-1+1).toNat=L by omega,pws_top X V HVP.out L HVL.out];exact Cg.mod M 1
 case round=>
  clear N0;obtain⟨i,P,rfl,hi0,hi1,nP,hP0,hP1,hcg⟩:=hrel;by_cases hneg:i<0
  ·obtain rfl:i = -1:=by omega
   have HF:Hid (P=X^V.toNat%M):=by unfold Hid;rw[show((-1:Int)+1).toNat=0 by decide,pws_zero]at hcg;rw[←hcg.emod,Int.emod_eq_of_lt hP0 hP1]
   obtain⟨ap,lp,cp,sp,rfl,q1,q2,q3,q4,q5⟩:=nP;have HN:Hid (NumOut .i64 D16 w wr (.slice ap lp cp) (X^V.toNat%M) lm):=⟨ap,lp,cp,sp,rfl,q1,q2,by rw[q3];exact HF.out,q4,q5⟩
   clear q1 q2 q3 q4 q5 hcg hP0 hP1;go_wp2;go_ret;exact⟨_,rfl,HN.out⟩
  ·obtain⟨p,rfl⟩:=Int.eq_ofNat_of_zero_le (show 0≤i by omega);obtain⟨ap,lp,cp,sp,rfl,q1,q2,q3,q4,q5⟩:=nP;have BW:Hid (Below w.heap.size w wr):=q5;have HCG:Hid (Cg M P (pws X V (p+1))):=by
    unfold Hid;rw[show((p:Int)+1).toNat=p+1 by omega]at hcg;exact hcg
   have HSQ:=rMul_any ap ap lp cp lp cp sp sp wr q1 q1 (by omega) (by omega);rw[q3]at HSQ;have LP:Hid (lp≤lm):=q4;have hp1:p<16000:=by omega
   have hpL:p<L:=by omega
   clear q1 q2 q3 q4 q5 hcg hP0 hP1 hi0 hi1 hneg;go_wp2_with fail
   refine HSQ.mono ?_;rintro e w4 ⟨v,rfl,a4,l4,c4,s4,rfl,q1,q2,q3,q4,q5⟩;replace BW:Hid (Below w.heap.size w w4):=BW.out.trans (q5.mono BW.out.size);have HM:=rMod_any a4 mo l4 c4 lm cm s4 ms w4 q1 (NM.out.1.old BW.out) NM.out.2 (by rw[HV.out.1];exact HMP.out.1) (by have:=LP.out;omega) (by omega);rw[q3,HV.out.1]at HM;clear q1 q2 q3 q4 q5 HSQ;go_wp2_with fail
   refine HM.mono ?_;rintro e w5 ⟨v,rfl,a5,l5,c5,s5,rfl,q1,q2,q3,q4,q5⟩;replace BW:Hid (Below w.heap.size w w5):=BW.out.trans (q5.mono BW.out.size);have N5:Hid (NumIn .i64 D16 w5 a5 l5 c5 s5∧Canon s5∧val D16 s5=P*P%M∧l5≤lm):=⟨q1,q2,q3,q4⟩
   have C5:Hid (Cg M (P*P%M) (pws X V (p+1)*pws X V (p+1))):=(Cg.mod M _).trans (HCG.out.mul HCG.out);have HB:=rBit_any no ln cn ns p w5 (NN.out.1.old BW.out) (by omega);rw[HV.out.2.1]at HB;clear q1 q2 q3 q4 q5 HM;rcases bitAt_01 V p with hb|hb
   ·rw[hb]at HB;have HFIN:Hid (Cg M (P*P%M) (pws X V p)):=by unfold Hid;rw[pws_even X V HVP.out p hb];exact C5.out
    have HR:Hid (0≤P*P%M∧P*P%M<M):=mod_range _ _ (Int.le_of_lt HMP.out.2) HMP.out.1;clear hb C5 HCG;go_wp2_with fail
    refine HB.mono ?_;rintro e w6 ⟨rfl,rfl⟩;clear HB;go_wp2;go_roundw
    case rel=>exact⟨(p:Int)-1,P*P%M,by go_num,by omega,by omega,⟨a5,l5,c5,s5,rfl,N5.out.1,N5.out.2.1,N5.out.2.2.1,N5.out.2.2.2,BW.out⟩,HR.out.1,HR.out.2,by rw[show((p:Int)-1+1).toNat=p by omega];exact HFIN.out⟩
    case measure=>simp[intOf]<;>omega
   ·rw[hb]at HB;have HFIN:Hid (Cg M (P*P%M*X%M) (pws X V p)):=by unfold Hid;rw[pws_odd X V HVP.out p hb];exact(Cg.mod M _).trans (C5.out.mul (Cg.refl M X))
    have HR:Hid (0≤P*P%M*X%M∧P*P%M*X%M<M):=mod_range _ _ (Int.le_of_lt HMP.out.2) HMP.out.1;clear hb C5 HCG;go_wp2_with fail
    refine HB.mono ?_;rintro e w6 ⟨rfl,rfl⟩;clear HB;have HMU:=rMul_any a5 ao l5 c5 la ca s5 xs w6 N5.out.1 (NX.out.1.old BW.out) (by have:=N5.out.2.2.2;omega) (by omega);rw[N5.out.2.2.1,HV.out.2.2]at HMU;go_wp2_with fail
    refine HMU.mono ?_;rintro e w7 ⟨v,rfl,a7,l7,c7,s7,rfl,q1,q2,q3,q4,q5⟩;replace BW:Hid (Below w.heap.size w w7):=BW.out.trans (q5.mono BW.out.size);have HM:=rMod_any a7 mo l7 c7 lm cm s7 ms w7 q1 (NM.out.1.old BW.out) NM.out.2 (by rw[HV.out.1];exact HMP.out.1) (by have:=N5.out.2.2.2;omega) (by omega);rw[q3,HV.out.1]at HM;clear q1 q2 q3 q4 q5 HMU N5;go_wp2_with fail
    refine HM.mono ?_;rintro e w8 ⟨v,rfl,hv⟩;have NF:Hid (NumOut .i64 D16 w w8 v (P*P%M*X%M) lm):=hv.from BW.out;clear hv HM;go_wp2;go_roundw
    case rel=>exact⟨(p:Int)-1,P*P%M*X%M,by go_num,by omega,by omega,NF.out,HR.out.1,HR.out.2,by rw[show((p:Int)-1+1).toNat=p by omega];exact HFIN.out⟩
    case measure=>simp[intOf]<;>omega
end
section
open Go.Shelf Go.RowKit
def Kv (w:World)(v:Value)(n e:Int)(L:Nat):Prop:=∃vn ve,v=.agg #[vn,ve]∧Nv w vn n L∧Nv w ve e L
theorem Kv.old{w w':World}{v:Value}{n e:Int}{L:Nat}(h:Kv w v n e L)(hb:Below w.heap.size w w'):Kv w' v n e L:=by obtain⟨vn,ve,rfl,h1,h2⟩:=h;exact⟨vn,ve,rfl,h1.old hb,h2.old hb⟩
def Fk.rv(n:Int)(L:Nat):Fk:=Fk.gen (fun vs W=>Rv W (vs.getD 0 undef) n L) fun vs w w' hb h=>h.old hb
def szZ (n:Int):Int:=((blen n.toNat+7)/8:Nat)
def expB (n e:Int):Bool:=decide (e%2=1)&&(decide (3≤e)&&decide (e<n))
def keyB (n e:Int):Bool:=(decide (62≤szZ n)&&decide (szZ n≤256))&&(decide (n%2=1)&&expB n e)
theorem and_one(x:Int)(h0:0≤x)(h1:x<B64):bits .and .u64 x 1=x%2:=by
 obtain⟨m,rfl⟩:=Int.eq_ofNat_of_zero_le h0;unfold B64 at h1;show IntKind.u64.wrap ((BitVec.ofInt 64 (m:Int)&&&BitVec.ofInt 64 1).toNat:Int)=_;have e1:(BitVec.ofInt 64 (m:Int)&&&BitVec.ofInt 64 1).toNat=m%2:=by rw[BitVec.toNat_and,show BitVec.ofInt 64 1=1#64 by decide,show BitVec.ofInt 64 (m:Int)=BitVec.ofNat 64 m from BitVec.ofInt_natCast 64 m,BitVec.toNat_ofNat,Nat.mod_eq_of_lt (by omega)];show m&&&1=m%2;exact Nat.and_one_is_mod m
 rw[e1];simp[IntKind.wrap,IntKind.bits,IntKind.signed];omega
theorem isodd_any(v:Value)(n:Int)(L:Nat)(w:World)(hv:Nv w v n L):
  Calls Tryz.prog 70 #[v] w fun e w'=>e=.returned (.bool (decide (n%2=1)))∧Below w.heap.size w w':=by
 obtain⟨a1,a2,a3,a4,rfl,a5,a6,a7⟩:=hv;have hlen:=a5.len;by_cases h0:a2=0
 ·have hn:n=0:=by
   have:a4=[]:=List.eq_nil_of_length_eq_zero (by omega);rw[←a6,this];rfl
  subst h0;rw[hn];go_enter Tryz.func70,Tryz.ntmps70;go_wp2;go_ret;exact⟨rfl,Below.refl _ _⟩
 ·obtain⟨b',off,rfl,hlt,hc⟩:=a5.lies.at (by omega);match a4,hlen,a6,hc,a5 with
  | [],hlen,_,_,_=>exact absurd hlen.symm h0
  | x :: xs, hlen, a6, hc, a5 =>
   have hc0:w.cell? ⟨b',off,none⟩=some (.int .u64 x):=by have:=hc 0 (by omega);simpa using this
   have hx:=a5.dg x (by simp);have hd:decide (n%2=1)=decide (x%2=1):=by
    have:n%2=x%2:=by rw[←a6,val_cons,show B64=2*9223372036854775808 by decide,Int.mul_assoc,Int.add_mul_emod_self_left]
    rw[this]
   have hbt:=and_one x hx.1 hx.2;have hpos:(0:Int)<(a2:Int):=by omega
   have hsm:=a5.sm;rw[hd];clear hd a6 a5 hc hlen a7;rcases Int.emod_two_eq x with hm|hm
   ·rw[hm]at hbt ⊢;clear hx hm;go_enter Tryz.func70,Tryz.ntmps70;go_wp2;go_ret;exact⟨rfl,Below.refl _ _⟩
   ·rw[hm]at hbt ⊢;clear hx hm;go_enter Tryz.func70,Tryz.ntmps70;go_wp2;go_ret;exact⟨rfl,Below.refl _ _⟩
theorem size_any(k:Value)(n e:Int)(L:Nat)(w:World)(hk:Kv w k n e L)(hL:L≤1000):
  Calls Tryz.prog 42 #[k] w fun r w'=>r=.returned (.int .i64 (szZ n))∧Below w.heap.size w w':=by
 obtain⟨_,_,rfl,⟨a1,a2,a3,a4,rfl,a5,a6,a7⟩,⟨b1,b2,b3,b4,rfl,b5,b6,b7⟩⟩:=hk;have b0:=(Below.refl w.heap.size w).alloc (Nat.le_refl _) (.cells #[.slice a1 a2 a3,.slice b1 b2 b3] 28);have HL:=Len_any a1 a2 a3 a4 _ (a5.old b0);have hbl:lenOf a4≤64000:=lenOf_le a5.dg 1000 (by have:=a5.len;omega);rw[lenOf_eq a4 a5.dg,a6]at HL hbl;unfold szZ;generalize blen n.toNat=N at *;have hq:((N:Int)+7).tdiv 8=(((N+7)/8:Nat):Int):=by rw[Int.tdiv_eq_ediv_of_nonneg (by omega)];omega
 clear a5 b5;go_enter Tryz.func42,Tryz.ntmps42;go_wp2_with (go_at_call 69;refine HL.mono ?_;rintro e w1 ⟨rfl,rfl⟩)
 go_ret;exact⟨ret_int (by omega),b0⟩
theorem nv_of{w w':World}{v:Value}{n:Int}{L:Nat}(h:NumOut .u64 B64 w w' v n L):Nv w' v n L∧Below w.heap.size w w':=by obtain⟨ao,l,c,xs,rfl,h1,_,h3,h4,h5⟩:=h;exact⟨⟨ao,l,c,xs,rfl,h1,h3,h4⟩,h5⟩
theorem cmp_kv(a b:Value)(x y:Int)(L L':Nat)(w:World)(ha:Nv w a x L)(hb:Nv w b y L'):
  Calls Tryz.prog 45 #[a,b] w fun e w'=>e=.returned (.int .i64 (cmpI x y))∧Below w.heap.size w w':=by
 obtain⟨a1,a2,a3,a4,rfl,a5,a6,a7⟩:=ha;obtain⟨b1,b2,b3,b4,rfl,b5,b6,b7⟩:=hb;refine(Cmp_any a1 b1 a2 a3 b2 b3 a4 b4 w a5 b5).mono ?_;rintro e w' ⟨rfl,hd⟩;rw[a6,b6];exact⟨rfl,hd.below _⟩
theorem cmpI_ge(a b:Int):0≤cmpI a b↔b≤a:=by unfold cmpI;split<;>(try split)<;>omega
theorem cmpI_ltz(a b:Int):cmpI a b<0↔a<b:=by unfold cmpI;split<;>(try split)<;>omega
theorem cmpI_z(a b:Int):cmpI a b=0↔a=b:=by unfold cmpI;split<;>(try split)<;>omega
theorem expo_any(ve vn:Value)(e n:Int)(L:Nat)(w:World)(he:Nv w ve e L)(hn:Nv w vn n L):
  Calls Tryz.prog 71 #[ve,vn] w fun r w'=>r=.returned (.bool (expB n e))∧Below w.heap.size w w':=by
 have H1:=isodd_any ve e L w he;have H2:=fun W=>Of_any 3 W (by decide) (by decide);have H3:=fun(W:World) (v:Value) (hb:Below w.heap.size w W) (hv:Nv W v 3 1)=>cmp_kv ve v e 3 L 1 W (he.old hb) hv;have H4:=fun(W:World) (hb:Below w.heap.size w W)=>cmp_kv ve vn e n L L W (he.old hb) (hn.old hb);have q1:=cmpI_ge e 3;have q2:=cmpI_ltz e n;obtain⟨a1,a2,a3,a4,rfl,-⟩:=he;obtain⟨b1,b2,b3,b4,rfl,-⟩:=hn;generalize cmpI e 3=c1 at *;generalize cmpI e n=c2 at *;unfold expB;by_cases h1:e%2=1
 ·rw[show decide (e%2=1)=true by simp[h1]] at *;by_cases h2:3≤e
  ·have h2':=q1.2 h2;rw[show decide (3≤e)=true by simp[h2]];by_cases h3:e<n
   ·have h3':=q2.2 h3;rw[show decide (e<n)=true by simp[h3]];clear h1 h2 h3 q1 q2;go_enter Tryz.func71,Tryz.ntmps71;go_wp2_with fail
    refine H1.mono ?_;rintro r w1 ⟨rfl,d1⟩;go_wp2_with fail
    refine(H2 w1).mono ?_;rintro r w2 ⟨v,rfl,hv⟩;obtain⟨hv1,hv2⟩:=nv_of hv;have d2:=d1.trans (hv2.mono d1.size);have H3':=H3 w2 v d2 hv1;obtain⟨v1,v2,v3,v4,rfl,-⟩:=hv1;go_wp2_with fail
    refine H3'.mono ?_;rintro r w3 ⟨rfl,hd3⟩;have d3:=d2.trans (hd3.mono d2.size);have H4':=H4 w3 d3;go_wp2_with fail
    refine H4'.mono ?_;rintro r w4 ⟨rfl,hd4⟩;go_wp2;go_ret;exact⟨rfl,d3.trans (hd4.mono d3.size)⟩
   ·have h3':¬c2<0:=fun h=>h3 (q2.1 h);rw[show decide (e<n)=false by simp[h3]];clear h1 h2 h3 q1 q2;go_enter Tryz.func71,Tryz.ntmps71;go_wp2_with fail
    refine H1.mono ?_;rintro r w1 ⟨rfl,d1⟩;go_wp2_with fail
    refine(H2 w1).mono ?_;rintro r w2 ⟨v,rfl,hv⟩;obtain⟨hv1,hv2⟩:=nv_of hv;have d2:=d1.trans (hv2.mono d1.size);have H3':=H3 w2 v d2 hv1;obtain⟨v1,v2,v3,v4,rfl,-⟩:=hv1;go_wp2_with fail
    refine H3'.mono ?_;rintro r w3 ⟨rfl,hd3⟩;have d3:=d2.trans (hd3.mono d2.size);have H4':=H4 w3 d3;go_wp2_with fail
    refine H4'.mono ?_;rintro r w4 ⟨rfl,hd4⟩;go_wp2;go_ret;refine⟨?_,d3.trans (hd4.mono d3.size)⟩;show Ending.returned (Value.bool (decide (c2<0)))=_;rw[decide_eq_false (show ¬c2<0 by omega)];rfl
  ·have h2':¬0≤c1:=fun h=>h2 (q1.1 h);rw[show decide (3≤e)=false by simp[h2]];clear h1 h2 q1 q2;go_enter Tryz.func71,Tryz.ntmps71;go_wp2_with fail
   refine H1.mono ?_;rintro r w1 ⟨rfl,d1⟩;go_wp2_with fail
   refine(H2 w1).mono ?_;rintro r w2 ⟨v,rfl,hv⟩;obtain⟨hv1,hv2⟩:=nv_of hv;have d2:=d1.trans (hv2.mono d1.size);have H3':=H3 w2 v d2 hv1;obtain⟨v1,v2,v3,v4,rfl,-⟩:=hv1;go_wp2_with fail
   refine H3'.mono ?_;rintro r w3 ⟨rfl,hd3⟩;go_wp2;go_ret;exact⟨rfl,d2.trans (hd3.mono d2.size)⟩
 ·rw[show decide (e%2=1)=false by simp[h1]] at *;clear h1 q1 q2;go_enter Tryz.func71,Tryz.ntmps71;go_wp2_with fail
  refine H1.mono ?_;rintro r w1 ⟨rfl,d1⟩;go_wp2;go_ret;exact⟨rfl,d1⟩
theorem cells2{W:World}{g:Nat}{c0 c1:Value}{t:TypeId}(h:W.heap[g]?=some (.cells #[c0,c1] t (0,0))):W.cell? ⟨g,0,none⟩=some c0∧W.cell? ⟨g,1,none⟩=some c1:=⟨by rw[cell_of_row _ _ _ _ _ _ h];rfl,by rw[cell_of_row _ _ _ _ _ _ h];rfl⟩
theorem check_any(k:Value)(n e:Int)(L:Nat)(w:World)(hk:Kv w k n e L)(hL:L≤1000):
  Calls Tryz.prog 43 #[k] w fun r w'=>r=.returned (.int .i64 (if keyB n e=true then 0 else 41))∧Below w.heap.size w w':=by
 have H1:=fun W (hb:Below w.heap.size w W)=>size_any k n e L W (hk.old hb) hL;have hk2:=hk;obtain⟨vn,ve,rfl,hn,he⟩:=hk2;have H2:=fun W (hb:Below w.heap.size w W)=>isodd_any vn n L W (hn.old hb);have H3:=fun W (hb:Below w.heap.size w W)=>expo_any ve vn e n L W (he.old hb) (hn.old hb);obtain⟨a1,a2,a3,a4,rfl,-⟩:=hn;obtain⟨e1,e2,e3,e4,rfl,-⟩:=he;have b0:=(Below.refl w.heap.size w).alloc (Nat.le_refl _) (.cells #[.slice a1 a2 a3,.slice e1 e2 e3] 28);have HC:Hid (∀W,Below (w.alloc (.cells #[.slice a1 a2 a3,.slice e1 e2 e3] 28)).heap.size (w.alloc (.cells #[.slice a1 a2 a3,.slice e1 e2 e3] 28)) W→W.cell? ⟨w.heap.size,0,none⟩=some (.slice a1 a2 a3)∧W.cell? ⟨w.heap.size,1,none⟩=some (.slice e1 e2 e3)):=fun W hb=>cells2 (t:=28) (by rw[hb.block _ (by rw[alloc_sz7];omega)];exact heap_alloc_new w _);have hsz0:0≤szZ n:=by unfold szZ;omega
 unfold keyB;generalize szZ n=s at *;generalize expB n e=B3 at *;generalize decide (n%2=1)=B2 at *;clear hk;by_cases h1:s<62
 ·rw[show decide (62≤s)=false by simp;omega,Bool.false_and,Bool.false_and,if_neg (by decide)];have h1':¬(62≤s):=by omega
  go_enter Tryz.func43,Tryz.ntmps43;go_wp2_with fail
  refine(H1 _ b0).mono ?_;rintro r w1 ⟨rfl,d1⟩;have D1:=b0.trans (d1.mono b0.size);obtain⟨x0,x1⟩:=HC.out w1 (d1.mono (Nat.le_refl _));go_wp2;go_ret;exact⟨rfl,D1⟩
 by_cases h2:256<s
 ·rw[show decide (62≤s)=true by simp;omega,show decide (s≤256)=false by simp;omega,Bool.true_and,Bool.false_and,if_neg (by decide)];go_enter Tryz.func43,Tryz.ntmps43;go_wp2_with fail
  refine(H1 _ b0).mono ?_;rintro r w1 ⟨rfl,d1⟩;have D1:=b0.trans (d1.mono b0.size);obtain⟨x0,x1⟩:=HC.out w1 (d1.mono (Nat.le_refl _));go_wp2;go_ret;exact⟨rfl,D1⟩
 rw[show decide (62≤s)=true by simp;omega,show decide (s≤256)=true by simp;omega,Bool.true_and,Bool.true_and]
 cases B2 with
 | false=>
  rw[Bool.false_and,if_neg (by decide)];go_enter Tryz.func43,Tryz.ntmps43;go_wp2_with fail
  refine(H1 _ b0).mono ?_;rintro r w1 ⟨rfl,d1⟩;have D1:=b0.trans (d1.mono b0.size);obtain⟨x0,x1⟩:=HC.out w1 (d1.mono (Nat.le_refl _));go_wp2_with fail
  refine(H2 w1 D1).mono ?_;rintro r w2 ⟨rfl,d2⟩;have D2:=D1.trans (d2.mono D1.size);clear x0 x1;obtain⟨x0,x1⟩:=HC.out w2 (d1.trans (d2.mono d1.size));go_wp2;go_ret;exact⟨rfl,D2⟩
 | true =>
  rw[Bool.true_and]
  cases B3 with
  | false=>
   rw[if_neg (by decide)];go_enter Tryz.func43,Tryz.ntmps43;go_wp2_with fail
   refine(H1 _ b0).mono ?_;rintro r w1 ⟨rfl,d1⟩;have D1:=b0.trans (d1.mono b0.size);obtain⟨x0,x1⟩:=HC.out w1 (d1.mono (Nat.le_refl _));go_wp2_with fail
   refine(H2 w1 D1).mono ?_;rintro r w2 ⟨rfl,d2⟩;have D2:=D1.trans (d2.mono D1.size);clear x0 x1;obtain⟨x0,x1⟩:=HC.out w2 (d1.trans (d2.mono d1.size));go_wp2_with fail
   refine(H3 w2 D2).mono ?_;rintro r w3 ⟨rfl,d3⟩;have D3:=D2.trans (d3.mono D2.size);clear x0 x1;go_wp2;go_ret;exact⟨rfl,D3⟩
  | true=>
   rw[if_pos rfl];go_enter Tryz.func43,Tryz.ntmps43;go_wp2_with fail
   refine(H1 _ b0).mono ?_;rintro r w1 ⟨rfl,d1⟩;have D1:=b0.trans (d1.mono b0.size);obtain⟨x0,x1⟩:=HC.out w1 (d1.mono (Nat.le_refl _));go_wp2_with fail
   refine(H2 w1 D1).mono ?_;rintro r w2 ⟨rfl,d2⟩;have D2:=D1.trans (d2.mono D1.size);clear x0 x1;obtain⟨x0,x1⟩:=HC.out w2 (d1.trans (d2.mono d1.size));go_wp2_with fail
   refine(H3 w2 D2).mono ?_;rintro r w3 ⟨rfl,d3⟩;have D3:=D2.trans (d3.mono D2.size);clear x0 x1;go_wp2;go_ret;exact⟨rfl,D3⟩
theorem rsize_any(k:Value)(n e:Int)(L:Nat)(w:World)(hk:Kv w k n e L)(hL:L≤1000):
  Calls Tryz.prog 55 #[k] w fun r w'=>r=.returned (.int .i64 (szZ n))∧Below w.heap.size w w':=by
 obtain⟨_,_,rfl,⟨a1,a2,a3,a4,rfl,a5,a6,a7⟩,⟨b1,b2,b3,b4,rfl,b5,b6,b7⟩⟩:=hk;have b0:=(Below.refl w.heap.size w).alloc (Nat.le_refl _) (.cells #[.slice a1 a2 a3,.slice b1 b2 b3] 28);have HO:=rOf_any a1 a2 a3 a4 _ (a5.old b0) (by omega);have hbl:lenOf a4≤64000:=lenOf_le a5.dg 1000 (by have:=a5.len;omega);rw[lenOf_eq a4 a5.dg,a6]at hbl;rw[a6]at HO;unfold szZ;have hq:((blen n.toNat:Int)+7).tdiv 8=(((blen n.toNat+7)/8:Nat):Int):=by rw[Int.tdiv_eq_ediv_of_nonneg (by omega)];omega
 obtain⟨N,hN⟩:∃N,blen n.toNat=N:=⟨_,rfl⟩
 rw[hN]at hq hbl ⊢;have HN:Hid (blen n.toNat=N):=hN;clear a5 b5 hN;go_enter Tryz.func55,Tryz.ntmps55;go_wp2_with fail
 refine HO.mono ?_;rintro r w1 ⟨v,rfl,q1,q2,q3,q4,rfl,hq4,hqc,hqv,hql,hb1⟩;have HL:=rLen_any q1 q2 q3 q4 w1 hq4 hqc (by omega);rw[hqv,HN.out]at HL;clear HO hq4 hqc hqv a6;go_wp2_with fail
 refine HL.mono ?_;rintro r w2 ⟨rfl,rfl⟩;go_wp2;go_ret;exact⟨ret_int (by omega),b0.trans (hb1.mono b0.size)⟩
end
end Go.Proofs.YtkhnnhbmchnajaaGreat
