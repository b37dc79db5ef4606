import Derived.Test.YtcgikjkpbpjgdabGreatK02
import Derived.Laws.ResultCell
import Derived.Test.YtcgikjkpbpjgdabGreatK01
import Derived.WalkKit
set_option maxRecDepth 100000
set_option maxHeartbeats 40000000
set_option linter.unusedVariables false
set_option linter.unusedSimpArgs false
namespace Go.Proofs.YtcgikjkpbpjgdabGreat
open Go.Shelf Go.RowKit
def noZ:Pz:=⟨0,0,true⟩
def ownZ (p:Pz):Pz:=if p.inf then noZ else p
def sumX (K:Cz) (p q:Pz) (s:Int):Int:=(((s*s)%K.p-p.x)%K.p-q.x)%K.p
def sumY (K:Cz) (p q:Pz) (s:Int):Int:=((s*((p.x-sumX K p q s)%K.p))%K.p-p.y)%K.p
def AddN (K:Cz) (p q:Pz) (r:Option Pz):Prop:=
 if runZ K p q=0 then r=some noZ else if gd K.p (runZ K p q%K.p)≠1 then r=none else ∃n,0≤n∧n<K.p∧Cg K.p (n*runZ K p q) 1∧r=some ⟨sumX K p q ((riseZ K p q*n)%K.p),sumY K p q ((riseZ K p q*n)%K.p),false⟩
def AddZ (K:Cz) (p q:Pz) (r:Option Pz):Prop:=
 if K.p=0 then r=none else if p.inf then r=some (ownZ q) else if q.inf then r=some (ownZ p) else AddN K p q r
def Pa (w w':World) (e:Ending) (r:Option Pz) (L:Nat):Prop:=Below w.heap.size w w'∧((∃v p,r=some p∧e=.returned (.tuple #[v,.bool true])∧Pv w' v p L)∨(r=none∧e=.returned (.tuple #[.agg #[.slice none 0 0,.slice none 0 0,.bool false],.bool false])))
theorem nv_nil (w:World) (L:Nat):Nv w (.slice none 0 0) 0 L:=⟨none,0,0,[],rfl,NumIn.nil,rfl,Nat.zero_le _⟩
theorem pv_no (w:World) (L:Nat):Pv w (.agg #[.slice none 0 0,.slice none 0 0,.bool true]) noZ L:=⟨_,_,rfl,nv_nil w L,nv_nil w L⟩
structure Bt (g:Nat) (w w':World):Prop where
 os:w'.os=w.os
 tape:w'.tape=w.tape
 output:w'.output=w.output
 size:w.heap.size≤w'.heap.size
 block:∀k,k<w.heap.size→k≠g→w'.heap[k]?=w.heap[k]?
theorem Bt.below {g B:Nat} {w w':World} (h:Bt g w w') (hB:B≤g) (hw:B≤w.heap.size):Below B w w':=⟨h.os,h.tape,h.output,h.size,fun k hk=>h.block k (by omega) (by omega)⟩
theorem Bt.trans {g:Nat} {a b c:World} (h:Bt g a b) (k:Bt g b c):Bt g a c:=
 ⟨k.os.trans h.os,k.tape.trans h.tape,k.output.trans h.output,Nat.le_trans h.size k.size,fun i hi hg=>(k.block i (Nat.lt_of_lt_of_le hi h.size) hg).trans (h.block i hi hg)⟩
theorem Bt.setCell (g:Nat) (w:World) (j:Nat) (v:Value):Bt g w (w.setCell ⟨g,j,none⟩ v):=⟨rfl,rfl,rfl,by simp[World.setCell],fun k _ hk=>Below.heap_setCell w ⟨g,j,none⟩ v k hk⟩
def PSl (w:World) (r:Nat) (c0 c1 c2:Value):Prop:=w.heap[r]?=some (.cells #[c0,c1,c2] 35 (0,0))
theorem PSl.lt {w:World} {r:Nat} {c0 c1 c2:Value} (h:PSl w r c0 c1 c2):r<w.heap.size:=(Array.getElem?_eq_some_iff.1 h).1
theorem PSl.keep {w w':World} {r:Nat} {c0 c1 c2:Value} (h:PSl w r c0 c1 c2) (hb:Below w.heap.size w w'):PSl w' r c0 c1 c2:=(hb.block _ h.lt).trans h
theorem PSl.facts {w:World} {r:Nat} {c0 c1 c2:Value} (h:PSl w r c0 c1 c2):w.cell? ⟨r,0,none⟩=some c0∧w.cell? ⟨r,1,none⟩=some c1∧w.cell? ⟨r,2,none⟩=some c2∧w.frozen? ⟨r,0,none⟩=false∧w.frozen? ⟨r,1,none⟩=false∧w.frozen? ⟨r,2,none⟩=false:=
 ⟨by rw[cell_of_row _ _ _ _ _ _ h];rfl,by rw[cell_of_row _ _ _ _ _ _ h];rfl,by rw[cell_of_row _ _ _ _ _ _ h];rfl,frozen_of_row w r 0 _ _ h,frozen_of_row w r 1 _ _ h,frozen_of_row w r 2 _ _ h⟩
theorem heap_set7 (w:World) (g j:Nat) (v:Value) (cs:Array Value) (t:TypeId) (fr:Nat × Nat) (h:w.heap[g]?=some (.cells cs t fr)):(w.setCell ⟨g,j,none⟩ v).heap[g]?=some (.cells (cs.setIfInBounds j v) t fr):=by have hlt:=(Array.getElem?_eq_some_iff.1 h).1;have he:w.heap[g]=.cells cs t fr:=(Array.getElem?_eq_some_iff.1 h).2;simp[World.setCell,hlt];rw[Array.getElem_modify];simp[he]
theorem PSl.set3 {w:World} {r:Nat} {c0 c1 c2:Value} (h:PSl w r c0 c1 c2) (d0 d1 d2:Value):PSl (((w.setCell ⟨r,0,none⟩ d0).setCell ⟨r,1,none⟩ d1).setCell ⟨r,2,none⟩ d2) r d0 d1 d2:=by have h1:=heap_set7 w r 0 d0 _ _ _ h;have h2:=heap_set7 _ r 1 d1 _ _ _ h1;exact heap_set7 _ r 2 d2 _ _ _ h2
theorem Bt.set3 (w:World) (r:Nat) (d0 d1 d2:Value):Bt r w (((w.setCell ⟨r,0,none⟩ d0).setCell ⟨r,1,none⟩ d1).setCell ⟨r,2,none⟩ d2):=((Bt.setCell r w 0 d0).trans (Bt.setCell r _ 1 d1)).trans (Bt.setCell r _ 2 d2)
theorem Nv.apart {w w':World} {v:Value} {n:Int} {L r:Nat} {a1 a2:Option Addr} {l1 k1 l2 k2:Nat} {b:Bool} (h:Nv w v n L) (hs:PSl w r (.slice a1 l1 k1) (.slice a2 l2 k2) (.bool b)) (hb:Bt r w w'):Nv w' v n L:=by
 obtain⟨ao,len,cap,xs,e,h1,h2,h3⟩:=h;refine⟨ao,len,cap,xs,e,⟨⟨h1.len,?_⟩,h1.lc,h1.cm,h1.nn,h1.dg,h1.sm⟩,h2,h3⟩;by_cases h0:len=0
 ·exact .inl h0
 ·obtain⟨b',off,e2,hlt,hc⟩:=h1.lies.at (by omega);have hne:b'≠r:=fun e3=>by
   subst e3;have h4:=hc 0 (by omega);rw[cell_of_row _ _ _ _ _ _ hs]at h4;obtain⟨o,ho⟩:∃o,off+0=o:=⟨_,rfl⟩
   rw[ho]at h4;match o,h4 with
   | 0,h4=>cases h4
   | 1,h4=>cases h4
   | 2,h4=>cases h4
   | k+3,h4=>simp at h4
  exact .inr ⟨b',off,e2,Nat.lt_of_lt_of_le hlt hb.size,fun i hi=>(World.cell?_of_block (w:=w) (hb.block b' hlt hne)).trans (hc i hi)⟩
theorem sizePt:(Tryz.prog.info? 35).map (·.size)=some 3:=by kernel_rfl
theorem ret_pt {fn:Func} {p u:Tmp} (h:fn.results=#[.cell p 35,.tmp u]) (tmps:Array Value) (w:World) (g:Nat) (c0 c1 c2:Value) (hp:tmps.getD p undef=.pointer (some ⟨g,0,none⟩)) (hg:PSl w g c0 c1 c2):
  (results fn tmps).run Tryz.prog w=.ok (.tuple #[.agg #[c0,c1,c2],tmps.getD u undef]) w:=by
 rw[results_cell_tmp h,hp];have hl:=run_loadVar_row (P:=Tryz.prog) w g 35 35 #[c0,c1,c2] (0,0) _ hg Tryz.underlying35 rfl sizePt;simp[asAddr,Result.andThen,hl]
theorem ret_pt1 {fn:Func} {p:Tmp} (h:fn.results=#[.cell p 35]) (tmps:Array Value) (w:World) (g:Nat) (c0 c1 c2:Value) (hp:tmps.getD p undef=.pointer (some ⟨g,0,none⟩)) (hg:PSl w g c0 c1 c2):
  (results fn tmps).run Tryz.prog w=.ok (.agg #[c0,c1,c2]) w:=
 results_cell_row h tmps w g 35 _ (0,0) _ hp hg Tryz.underlying35 rfl sizePt
theorem nothing_any (w:World):Calls Tryz.prog 140 #[] w fun e w'=>e=.returned (.agg #[.slice none 0 0,.slice none 0 0,.bool true])∧Below w.heap.size w w':=by go_enter Tryz.func140,Tryz.ntmps140;go_wp2;refine bodyPost_ret (ret_pt1 rfl _ _ w.heap.size _ _ _ rfl (heap_alloc_new w _)) rfl ?_;exact⟨rfl,(Below.refl _ _).alloc (Nat.le_refl _) _⟩
structure FrA (W:World) (b:Nat) (pv qv:Array Value) (m:Value):Prop where
 p:W.heap[b+1]?=some (.cells pv 35 (0,0))
 q:W.heap[b+1+1]?=some (.cells qv 35 (0,0))
 r:PSl W (b+1+1+1) (.slice none 0 0) (.slice none 0 0) (.bool false)
 f:W.heap[b+1+1+1+1]?=some (.cells #[m] 177 (0,0))
theorem frA_new (w:World) (cv pv qv:Array Value) (m:Value):FrA (((((w.alloc (.cells cv 55)).alloc (.cells pv 35)).alloc (.cells qv 35)).alloc (.cells #[.slice none 0 0,.slice none 0 0,.bool false] 35)).alloc (.cells #[m] 177)) w.heap.size pv qv m∧Below w.heap.size w (((((w.alloc (.cells cv 55)).alloc (.cells pv 35)).alloc (.cells qv 35)).alloc (.cells #[.slice none 0 0,.slice none 0 0,.bool false] 35)).alloc (.cells #[m] 177)):=by
 obtain⟨w1,e1⟩:∃x,w.alloc (.cells cv 55)=x:=⟨_,rfl⟩
 obtain⟨w2,e2⟩:∃x,w1.alloc (.cells pv 35)=x:=⟨_,rfl⟩
 obtain⟨w3,e3⟩:∃x,w2.alloc (.cells qv 35)=x:=⟨_,rfl⟩
 obtain⟨w4,e4⟩:∃x,w3.alloc (.cells #[.slice none 0 0,.slice none 0 0,.bool false] 35)=x:=⟨_,rfl⟩
 have z1:w1.heap.size=w.heap.size+1:=by rw[←e1];exact alloc_sz7 _ _
 have z2:w2.heap.size=w.heap.size+1+1:=by rw[←e2,alloc_sz7,z1]
 have z3:w3.heap.size=w.heap.size+1+1+1:=by rw[←e3,alloc_sz7,z2]
 have z4:w4.heap.size=w.heap.size+1+1+1+1:=by rw[←e4,alloc_sz7,z3]
 have n2:w2.heap[w.heap.size+1]?=some (.cells pv 35 (0,0)):=by rw[←e2,←z1];exact heap_alloc_new w1 _
 have n3:w3.heap[w.heap.size+1+1]?=some (.cells qv 35 (0,0)):=by rw[←e3,←z2];exact heap_alloc_new w2 _
 have n4:w4.heap[w.heap.size+1+1+1]?=some (.cells #[.slice none 0 0,.slice none 0 0,.bool false] 35 (0,0)):=by rw[←e4,←z3];exact heap_alloc_new w3 _
 have n5:=heap_alloc_new w4 (.cells #[m] 177);rw[z4]at n5;have m2:w3.heap[w.heap.size+1]?=some (.cells pv 35 (0,0)):=by rw[←e3];exact heap_new n2 (by omega)
 have k2:w4.heap[w.heap.size+1]?=some (.cells pv 35 (0,0)):=by rw[←e4];exact heap_new m2 (by omega)
 have k3:w4.heap[w.heap.size+1+1]?=some (.cells qv 35 (0,0)):=by rw[←e4];exact heap_new n3 (by omega)
 have bb:Below w.heap.size w (w4.alloc (.cells #[m] 177)):=by rw[←e4,←e3,←e2,←e1];exact(((((Below.refl w.heap.size w).alloc (Nat.le_refl _) _).alloc (by rw[alloc_sz7];omega) _).alloc (by rw[alloc_sz7,alloc_sz7];omega) _).alloc (by rw[alloc_sz7,alloc_sz7,alloc_sz7];omega) _).alloc (by rw[alloc_sz7,alloc_sz7,alloc_sz7,alloc_sz7];omega) _
 rw[e1,e2,e3,e4];exact⟨⟨heap_new k2 (by omega),heap_new k3 (by omega),heap_new n4 (by omega),n5⟩,bb⟩
theorem FrA.keep {W W':World} {b:Nat} {pv qv:Array Value} {m:Value} (h:FrA W b pv qv m) (hb:Below W.heap.size W W'):FrA W' b pv qv m:=
 ⟨(hb.block _ (Array.getElem?_eq_some_iff.1 h.p).1).trans h.p,(hb.block _ (Array.getElem?_eq_some_iff.1 h.q).1).trans h.q,h.r.keep hb,(hb.block _ (Array.getElem?_eq_some_iff.1 h.f).1).trans h.f⟩
theorem FrA.cells {W:World} {b:Nat} {p0 p1 p2 q0 q1 q2 m:Value} (h:FrA W b #[p0,p1,p2] #[q0,q1,q2] m):W.cell? ⟨b+1,0,none⟩=some p0∧W.cell? ⟨b+1,1,none⟩=some p1∧W.cell? ⟨b+1+1,0,none⟩=some q0∧W.cell? ⟨b+1+1+1+1,0,none⟩=some m:=by
 refine⟨?_,?_,?_,?_⟩
 ·rw[cell_of_row _ _ _ _ _ _ h.p];rfl
 ·rw[cell_of_row _ _ _ _ _ _ h.p];rfl
 ·rw[cell_of_row _ _ _ _ _ _ h.q];rfl
 ·rw[cell_of_row _ _ _ _ _ _ h.f];rfl
theorem addNumbers_any (c p q:Value) (K:Cz) (P Q:Pz) (L:Nat) (w:World) (hc:Cu w c K L) (hp:Pv w p P L) (hq:Pv w q Q L) (h0:K.p≠0) (hL:1≤L∧L≤1000):
  Calls Tryz.prog 142 #[c,p,q] w fun e w'=>∃r,AddN K P Q r∧Pa w w' e r L:=by
 have HS:=fun W (hW:Below w.heap.size w W)=>slope_any c p q K P Q L W (hc.old hW) (hp.old hW) (hq.old hW) h0 hL;obtain⟨g1,g2,oo,lo,co,vp,va,vb,vx,vy,vn,rfl,c1,c2,c3,c4,c5,c6⟩:=hc;obtain⟨px,py,rfl,p1,p2⟩:=hp;obtain⟨qx,qy,rfl,q1,q2⟩:=hq;obtain⟨a1,a2,a3,a4,rfl,a5⟩:=c1;obtain⟨b1,b2,b3,b4,rfl,b5⟩:=c2;obtain⟨d1,d2,d3,d4,rfl,d5⟩:=c3;obtain⟨e1,e2,e3,e4,rfl,e5⟩:=c4;obtain⟨f1,f2,f3,f4,rfl,f5⟩:=c5;obtain⟨j1,j2,j3,j4,rfl,j5⟩:=c6;obtain⟨k1,k2,k3,k4,rfl,k5⟩:=p1;obtain⟨l1,l2,l3,l4,rfl,l5⟩:=p2;obtain⟨m1,m2,m3,m4,rfl,m5⟩:=q1;obtain⟨n1,n2,n3,n4,rfl,n5⟩:=q2;have FZ:=frA_new w #[.int .i64 g1,.int .i64 g2,.slice oo lo co,.slice a1 a2 a3,.slice b1 b2 b3,.slice d1 d2 d3,.slice e1 e2 e3,.slice f1 f2 f3,.slice j1 j2 j3] #[.slice k1 k2 k3,.slice l1 l2 l3,.bool P.inf] #[.slice m1 m2 m3,.slice n1 n2 n3,.bool Q.inf] (.slice a1 a2 a3);obtain⟨FZ,hb⟩:=FZ;have HSW:=HS _ hb;obtain⟨RI,hRI⟩:∃r,riseZ K P Q=r:=⟨_,rfl⟩
 obtain⟨RU,hRU⟩:∃r,runZ K P Q=r:=⟨_,rfl⟩
 have HRI:Hid (riseZ K P Q=RI∧runZ K P Q=RU):=⟨hRI,hRU⟩
 rw[hRI,hRU]at HSW;clear hRI hRU;have HFS:Hid (FrA _ w.heap.size #[.slice k1 k2 k3,.slice l1 l2 l3,.bool P.inf] #[.slice m1 m2 m3,.slice n1 n2 n3,.bool Q.inf] (.slice a1 a2 a3)):=FZ;clear FZ HS;go_enter Tryz.func142,Tryz.ntmps142;go_wp2_with fail
 go_at_call 151;refine HSW.mono ?_;rintro e w1 ⟨v1,v2,rfl,hv1,hv2,hb1⟩;have F1:=HFS.out.keep hb1;have B1:=hb.trans (hb1.mono hb.size);have HZ:=isZero_any v2 RU L w1 hv2;have HN:=nothing_any w1;have s1:=F1.r;obtain⟨x1,x2,x3,x4⟩:=F1.cells;have HQ:=fun hg=>quot_yes v1 v2 (.slice a1 a2 a3) RI RU K.p L L w1 hv1 hv2 (Nv.old ⟨a1,a2,a3,a4,rfl,a5⟩ B1) h0 hg (by omega);have HQn:=fun hg=>quot_no v1 v2 (.slice a1 a2 a3) RI RU K.p L L w1 hv1 hv2 (Nv.old ⟨a1,a2,a3,a4,rfl,a5⟩ B1) h0 hg (by omega);obtain⟨t1,t2,t3,t4,rfl,t5⟩:=hv1;obtain⟨u1,u2,u3,u4,rfl,u5⟩:=hv2;clear HSW;by_cases hz:RU=0
 ·have hd:decide (RU=0)=true:=by simp[hz]
  rw[hd]at HZ;go_wp2_with (first
   | (go_at_call 106;refine HZ.mono ?_;rintro e w2 ⟨rfl,rfl⟩)
   | (go_at_call 140;refine HN.mono ?_;rintro e w3 ⟨rfl,hb3⟩;have s3:=s1.keep hb3;obtain⟨y0,y1,y2,y3,y4,y5⟩:=s3.facts))
  refine bodyPost_ret (ret_pt rfl _ _ (w.heap.size+1+1+1) _ _ _ rfl (s3.set3 (.slice none 0 0) (.slice none 0 0) (.bool true))) rfl ?_;have bt:=Bt.set3 w3 (w.heap.size+1+1+1) (.slice none 0 0) (.slice none 0 0) (.bool true);have B3:=B1.trans (hb3.mono B1.size);refine⟨some noZ,?_,B3.trans (bt.below (by omega) B3.size),.inl ⟨_,noZ,rfl,rfl,pv_no _ L⟩⟩;unfold AddN;rw[HRI.out.2,if_pos hz]
 ·have hd:decide (RU=0)=false:=by simp[hz]
  rw[hd]at HZ;by_cases hg:gd K.p (RU%K.p)=1
  ·have HQ2:=HQ hg;clear HQ HQn HN;go_wp2_with (first
    | (go_at_call 106;refine HZ.mono ?_;rintro e w2 ⟨rfl,rfl⟩)
    | (go_at_call 152;refine HQ2.mono ?_;rintro e w3 ⟨v3,n,rfl,⟨hv3,hb3⟩,hn⟩;have F3:=F1.keep hb3;have B3:=B1.trans (hb3.mono B1.size);have hv3':=hv3;obtain⟨z1,z2,z3,z4,rfl,z5⟩:=hv3;clear x1 x2 x3 x4;obtain⟨y1,y2,y3,y4⟩:=F3.cells))
   have HK:=fun(W:World) (hW:Below w3.heap.size w3 W)=>(F3.keep hW).cells;have K3:=HK w3 (Below.refl _ _);have K3d:=HK w3.drew (Below.refl _ _).drew;have HP1:=fun W (hW:Below w.heap.size w W) (h3:Below w3.heap.size w3 W)=>product_any (.slice z1 z2 z3) (.slice z1 z2 z3) (.slice a1 a2 a3) _ _ K.p L L W (hv3'.old h3) (hv3'.old h3) (Nv.old ⟨a1,a2,a3,a4,rfl,a5⟩ hW) h0 (by omega);have HP2:=fun W (hW:Below w.heap.size w W) (h3:Below w3.heap.size w3 W) v m (hv:Nv W v m L)=>product_any (.slice z1 z2 z3) v (.slice a1 a2 a3) _ m K.p L L W (hv3'.old h3) hv (Nv.old ⟨a1,a2,a3,a4,rfl,a5⟩ hW) h0 (by omega);have HM1:=fun W (hW:Below w.heap.size w W) v m (hv:Nv W v m L)=>minus_any v (.slice k1 k2 k3) (.slice a1 a2 a3) m P.x K.p L L W hv (Nv.old ⟨k1,k2,k3,k4,rfl,k5⟩ hW) (Nv.old ⟨a1,a2,a3,a4,rfl,a5⟩ hW) h0 (by omega);have HM2:=fun W (hW:Below w.heap.size w W) v m (hv:Nv W v m L)=>minus_any v (.slice m1 m2 m3) (.slice a1 a2 a3) m Q.x K.p L L W hv (Nv.old ⟨m1,m2,m3,m4,rfl,m5⟩ hW) (Nv.old ⟨a1,a2,a3,a4,rfl,a5⟩ hW) h0 (by omega);have HM3:=fun W (hW:Below w.heap.size w W) v m (hv:Nv W v m L)=>minus_any (.slice k1 k2 k3) v (.slice a1 a2 a3) P.x m K.p L L W (Nv.old ⟨k1,k2,k3,k4,rfl,k5⟩ hW) hv (Nv.old ⟨a1,a2,a3,a4,rfl,a5⟩ hW) h0 (by omega);have HM4:=fun W (hW:Below w.heap.size w W) v m (hv:Nv W v m L)=>minus_any v (.slice l1 l2 l3) (.slice a1 a2 a3) m P.y K.p L L W hv (Nv.old ⟨l1,l2,l3,l4,rfl,l5⟩ hW) (Nv.old ⟨a1,a2,a3,a4,rfl,a5⟩ hW) h0 (by omega);have HP1d:=HP1 w3.drew B3.drew (Below.refl _ _).drew;have T1:True:=trivial;go_region_held3 (fun W=>W.cell? ⟨w.heap.size+1,0,none⟩=some (.slice k1 k2 k3)∧W.cell? ⟨w.heap.size+1,1,none⟩=some (.slice l1 l2 l3)∧W.cell? ⟨w.heap.size+1+1,0,none⟩=some (.slice m1 m2 m3)∧W.cell? ⟨w.heap.size+1+1+1+1,0,none⟩=some (.slice a1 a2 a3))
    (first|exact K3|exact K3d|exact K4|exact K5|exact K6) (first
    | (go_at_call 108;refine HP1d.mono ?_;rintro e w4 ⟨v4,rfl,hv4,hb4⟩;have C4:=((Below.refl w3.heap.size w3).drew).trans (hb4.mono (Nat.le_refl _));have K4:=HK w4 C4;have HM1d:=HM1 w4 (B3.trans (C4.mono B3.size)) v4 _ hv4;obtain⟨o1,o2,o3,o4,rfl,o5⟩:=hv4)
    | (go_at_call 153;clear T1;refine HM1d.mono ?_;rintro e w5 ⟨v5,rfl,hv5,hb5⟩;have C5:=C4.trans (hb5.mono C4.size);have K5:=HK w5 C5;have HM2d:=HM2 w5 (B3.trans (C5.mono B3.size)) v5 _ hv5;obtain⟨r1,r2,r3,r4,rfl,r5⟩:=hv5)
    | (go_at_call 153;refine HM2d.mono ?_;rintro e w6 ⟨v6,rfl,hv6,hb6⟩;have C6:=C5.trans (hb6.mono C5.size);have K6:=HK w6 C6;have hv6':=hv6;obtain⟨s1,s2,s3,s4,rfl,s5⟩:=hv6))
   go_wp2_with fail
   have B6:=B3.trans (C6.mono B3.size);have C6d:=C6.drew;have K6d:=HK w6.drew C6d;have HM3d:=HM3 w6.drew B6.drew (.slice s1 s2 s3) _ (hv6'.old (Below.refl _ _).drew);have T1:True:=trivial;clear HM1d HM2d HP1d K3 K3d K4 K5 HZ HQ2 y1 y2 y3 y4;go_region_held3 (fun W=>W.cell? ⟨w.heap.size+1,0,none⟩=some (.slice k1 k2 k3)∧W.cell? ⟨w.heap.size+1,1,none⟩=some (.slice l1 l2 l3)∧W.cell? ⟨w.heap.size+1+1,0,none⟩=some (.slice m1 m2 m3)∧W.cell? ⟨w.heap.size+1+1+1+1,0,none⟩=some (.slice a1 a2 a3))
    (first|exact K6|exact K6d|exact K7|exact K8|exact K9) (first
    | (go_at_call 153;clear T1;refine HM3d.mono ?_;rintro e w7 ⟨v7,rfl,hv7,hb7⟩;have C7:=C6d.trans (hb7.mono C6d.size);have K7:=HK w7 C7;have HP2d:=HP2 w7 (B3.trans (C7.mono B3.size)) C7 v7 _ hv7;obtain⟨o1',o2',o3',o4',rfl,o5'⟩:=hv7)
    | (go_at_call 108;refine HP2d.mono ?_;rintro e w8 ⟨v8,rfl,hv8,hb8⟩;have C8:=C7.trans (hb8.mono C7.size);have K8:=HK w8 C8;have HM4d:=HM4 w8 (B3.trans (C8.mono B3.size)) v8 _ hv8;obtain⟨r1',r2',r3',r4',rfl,r5'⟩:=hv8)
    | (go_at_call 153;refine HM4d.mono ?_;rintro e w9 ⟨v9,rfl,hv9,hb9⟩;have C9:=C8.trans (hb9.mono C8.size);have K9:=HK w9 C9;have hv9':=hv9;obtain⟨q1',q2',q3',q4',rfl,q5'⟩:=hv9))
   have s9:=(F3.keep C9).r;obtain⟨i0,i1,i2,i3,i4,i5⟩:=s9.facts;clear HM3d HP2d HM4d;go_wp2_with fail
   refine bodyPost_ret (ret_pt rfl _ _ (w.heap.size+1+1+1) _ _ _ rfl (s9.set3 (.slice s1 s2 s3) (.slice q1' q2' q3') (.bool false))) rfl ?_;have bt:=Bt.set3 w9 (w.heap.size+1+1+1) (.slice s1 s2 s3) (.slice q1' q2' q3') (.bool false);have B9:=B3.trans (C9.mono B3.size);have hx:=hv6'.old ((((Below.refl w6.heap.size w6).drew).trans (hb7.mono (Nat.le_refl _))).trans ((hb8.mono hb7.size).trans (hb9.mono (Nat.le_trans hb7.size hb8.size))));refine⟨some ⟨sumX K P Q ((riseZ K P Q*n)%K.p),sumY K P Q ((riseZ K P Q*n)%K.p),false⟩,?_,B9.trans (bt.below (by omega) B9.size),.inl ⟨_,_,rfl,rfl,_,_,rfl,?_,?_⟩⟩
   ·unfold AddN;rw[HRI.out.2,if_neg hz,if_neg (by simp[hg])];exact⟨n,hn.1,hn.2.1,hn.2.2,rfl⟩
   ·have h1:=hx.apart s9 bt;rw[HRI.out.1];exact h1
   ·have h1:=hv9'.apart s9 bt;rw[HRI.out.1];exact h1
  ·have HQ2:=HQn hg;clear HQ HQn HN;obtain⟨r0,r1,r2,r3,r4,r5⟩:=s1.facts;go_wp2_with (first
    | (go_at_call 106;refine HZ.mono ?_;rintro e w2 ⟨rfl,rfl⟩)
    | (go_at_call 152;refine HQ2.mono ?_;rintro e w3 ⟨rfl,hb3⟩;have s3:=s1.keep hb3;obtain⟨y0,y1,y2,y3,y4,y5⟩:=s3.facts))
   refine bodyPost_ret (ret_pt rfl _ _ (w.heap.size+1+1+1) _ _ _ rfl (s3.set3 (.slice none 0 0) (.slice none 0 0) (.bool false))) rfl ?_;have bt:=Bt.set3 w3 (w.heap.size+1+1+1) (.slice none 0 0) (.slice none 0 0) (.bool false);have B3:=B1.trans (hb3.mono B1.size);refine⟨none,?_,B3.trans (bt.below (by omega) B3.size),.inr ⟨rfl,rfl⟩⟩;unfold AddN;rw[HRI.out.2,if_neg hz,if_pos hg]
theorem norm_nv (a:Value) (x:Int) (L:Nat) (w:World) (ha:Nv w a x L):Calls Tryz.prog 99 #[a] w fun e w'=>∃v,e=.returned v∧Na w w' v x L:=by obtain⟨ao,la,ca,xs,rfl,h1,rfl,h2⟩:=ha;refine(Norm_any ao la ca xs w h1).mono ?_;rintro e w' ⟨v,rfl,h⟩;exact⟨v,rfl,h.na.1.up h2,h.na.2⟩
theorem set3_other {w:World} {b j r:Nat} {v d0 d1 d2:Value} (h:w.cell? ⟨b,j,none⟩=some v) (hne:b≠r):(((w.setCell ⟨r,0,none⟩ d0).setCell ⟨r,1,none⟩ d1).setCell ⟨r,2,none⟩ d2).cell? ⟨b,j,none⟩=some v:=
 (World.cell?_of_block (w:=w) ((Bt.set3 w r d0 d1 d2).block b (World.block_lt_of_cell? w _ h) hne)).trans h
theorem two_new (w:World) (pv:Array Value) (t:TypeId):((w.alloc (.cells pv t)).alloc (.cells #[.slice none 0 0,.slice none 0 0,.bool false] 35)).heap[w.heap.size]?=some (.cells pv t (0,0))∧PSl ((w.alloc (.cells pv t)).alloc (.cells #[.slice none 0 0,.slice none 0 0,.bool false] 35)) (w.heap.size+1) (.slice none 0 0) (.slice none 0 0) (.bool false)∧Below w.heap.size w ((w.alloc (.cells pv t)).alloc (.cells #[.slice none 0 0,.slice none 0 0,.bool false] 35)):=by have z1:=alloc_sz7 w (.cells pv t);have n1:=heap_alloc_new w (.cells pv t);have n2:=heap_alloc_new (w.alloc (.cells pv t)) (.cells #[.slice none 0 0,.slice none 0 0,.bool false] 35);rw[z1]at n2;exact⟨heap_new n1 (by omega),n2,((Below.refl w.heap.size w).alloc (Nat.le_refl _) _).alloc (by omega) _⟩
theorem own_any (p:Value) (P:Pz) (L:Nat) (w:World) (hp:Pv w p P L):
  Calls Tryz.prog 141 #[p] w fun e w'=>∃v,e=.returned v∧Pv w' v (ownZ P) L∧Below w.heap.size w w':=by
 obtain⟨px,py,rfl,p1,p2⟩:=hp;have HX:=fun W (hW:Below w.heap.size w W)=>norm_nv px P.x L W (p1.old hW);have HY:=fun W (hW:Below w.heap.size w W)=>norm_nv py P.y L W (p2.old hW);obtain⟨k1,k2,k3,k4,rfl,k5⟩:=p1;obtain⟨l1,l2,l3,l4,rfl,l5⟩:=p2;have HN:=fun W=>nothing_any W;unfold ownZ
 cases hi:P.inf with
 | true=>
  rw[if_pos rfl];obtain⟨f1,s1,hb⟩:=two_new w #[.slice k1 k2 k3,.slice l1 l2 l3,.bool true] 35;have HN2:=HN ((w.alloc (.cells #[.slice k1 k2 k3,.slice l1 l2 l3,.bool true] 35)).alloc (.cells #[.slice none 0 0,.slice none 0 0,.bool false] 35));have HS1:Hid (PSl _ (w.heap.size+1) (.slice none 0 0) (.slice none 0 0) (.bool false)):=s1;clear f1 s1 HN HX HY;go_enter Tryz.func141,Tryz.ntmps141;go_wp2_with (go_at_call 140;refine HN2.mono ?_;rintro e w3 ⟨rfl,hb3⟩;have s3:=HS1.out.keep hb3;obtain⟨y0,y1,y2,y3,y4,y5⟩:=s3.facts)
  refine bodyPost_ret (ret_pt1 rfl _ _ (w.heap.size+1) _ _ _ rfl (s3.set3 (.slice none 0 0) (.slice none 0 0) (.bool true))) rfl ?_;have bt:=Bt.set3 w3 (w.heap.size+1) (.slice none 0 0) (.slice none 0 0) (.bool true);have B3:=hb.trans (hb3.mono hb.size);exact⟨_,rfl,pv_no _ L,B3.trans (bt.below (by omega) B3.size)⟩
 | false =>
  rw[if_neg (by simp)];obtain⟨f1,s1,hb⟩:=two_new w #[.slice k1 k2 k3,.slice l1 l2 l3,.bool false] 35;obtain⟨W,hW⟩:∃W,(w.alloc (.cells #[.slice k1 k2 k3,.slice l1 l2 l3,.bool false] 35)).alloc (.cells #[.slice none 0 0,.slice none 0 0,.bool false] 35)=W:=⟨_,rfl⟩
  rw[hW]at f1 s1 hb;have HK:=fun(W':World) (h':Below W.heap.size W W')=>(show W'.cell? ⟨w.heap.size,0,none⟩=some (.slice k1 k2 k3)∧W'.cell? ⟨w.heap.size,1,none⟩=some (.slice l1 l2 l3) from by have f2:=(h'.block _ (Array.getElem?_eq_some_iff.1 f1).1).trans f1;exact⟨by rw[cell_of_row _ _ _ _ _ _ f2];rfl,by rw[cell_of_row _ _ _ _ _ _ f2];rfl⟩)
  have HW:Hid ((w.alloc (.cells #[.slice k1 k2 k3,.slice l1 l2 l3,.bool false] 35)).alloc (.cells #[.slice none 0 0,.slice none 0 0,.bool false] 35)=W):=hW;have HX2:=HX W.drew hb.drew;have K3:=HK W (Below.refl _ _);have K4:=HK W.drew (Below.refl _ _).drew;have T1:True:=trivial;have HS1:Hid (PSl W (w.heap.size+1) (.slice none 0 0) (.slice none 0 0) (.bool false)):=s1;clear hW HN HX f1 s1;go_enter Tryz.func141,Tryz.ntmps141;go_wp2_with fail
  rw[HW.out];go_region_held3 (fun W=>W.cell? ⟨w.heap.size,0,none⟩=some (.slice k1 k2 k3)∧W.cell? ⟨w.heap.size,1,none⟩=some (.slice l1 l2 l3))
   (first|exact K3|exact K4|exact K5|exact K6|exact⟨set3_other K6.1 (by omega),set3_other K6.2 (by omega)⟩) (first
   | (go_at_call 99;clear T1;refine HX2.mono ?_;rintro e w5 ⟨v5,rfl,hv5,hb5⟩;have C5:=((Below.refl W.heap.size W).drew).trans (hb5.mono (Nat.le_refl _));have K5:=HK w5 C5;have HY2:=HY w5 (hb.trans (C5.mono hb.size));have hv5':=hv5;obtain⟨o1,o2,o3,o4,rfl,o5⟩:=hv5)
   | (go_at_call 99;refine HY2.mono ?_;rintro e w6 ⟨v6,rfl,hv6,hb6⟩;have C6:=C5.trans (hb6.mono C5.size);have K6:=HK w6 C6;have hv6':=hv6;obtain⟨r1,r2,r3,r4,rfl,r5⟩:=hv6;have s6:=HS1.out.keep C6;obtain⟨y0,y1,y2,y3,y4,y5⟩:=s6.facts))
  go_wp2;refine bodyPost_ret (ret_pt1 rfl _ _ (w.heap.size+1) _ _ _ rfl (s6.set3 (.slice o1 o2 o3) (.slice r1 r2 r3) (.bool false))) rfl ?_;have bt:=Bt.set3 w6 (w.heap.size+1) (.slice o1 o2 o3) (.slice r1 r2 r3) (.bool false);have B6:=hb.trans (C6.mono hb.size);exact⟨_,rfl,⟨_,_,by rw[hi],(hv5'.old hb6).apart s6 bt,hv6'.apart s6 bt⟩,B6.trans (bt.below (by omega) B6.size)⟩
theorem frB_new (w:World) (cv pv qv:Array Value):PSl ((((w.alloc (.cells cv 55)).alloc (.cells pv 35)).alloc (.cells qv 35)).alloc (.cells #[.slice none 0 0,.slice none 0 0,.bool false] 35)) (w.heap.size+1+1+1) (.slice none 0 0) (.slice none 0 0) (.bool false)∧Below w.heap.size w ((((w.alloc (.cells cv 55)).alloc (.cells pv 35)).alloc (.cells qv 35)).alloc (.cells #[.slice none 0 0,.slice none 0 0,.bool false] 35)):=by have n4:=heap_alloc_new (((w.alloc (.cells cv 55)).alloc (.cells pv 35)).alloc (.cells qv 35)) (.cells #[.slice none 0 0,.slice none 0 0,.bool false] 35);rw[alloc_sz7,alloc_sz7,alloc_sz7]at n4;exact⟨n4,((((Below.refl w.heap.size w).alloc (Nat.le_refl _) _).alloc (by rw[alloc_sz7];omega) _).alloc (by rw[alloc_sz7,alloc_sz7];omega) _).alloc (by rw[alloc_sz7,alloc_sz7,alloc_sz7];omega) _⟩
theorem Add_pt (c p q:Value) (K:Cz) (P Q:Pz) (L:Nat) (w:World) (hc:Cu w c K L) (hp:Pv w p P L) (hq:Pv w q Q L) (hL:1≤L∧L≤1000):
  Calls Tryz.prog 115 #[c,p,q] w fun e w'=>∃r,AddZ K P Q r∧Pa w w' e r L:=by
 have HA:=fun W (hW:Below w.heap.size w W) h0=>addNumbers_any c p q K P Q L W (hc.old hW) (hp.old hW) (hq.old hW) h0 hL;obtain⟨g1,g2,oo,lo,co,vp,va,vb,vx,vy,vn,rfl,c1,c2,c3,c4,c5,c6⟩:=hc;obtain⟨px,py,rfl,p1,p2⟩:=hp;obtain⟨qx,qy,rfl,q1,q2⟩:=hq;obtain⟨a1,a2,a3,a4,rfl,a5⟩:=c1;obtain⟨b1,b2,b3,b4,rfl,b5⟩:=c2;obtain⟨d1,d2,d3,d4,rfl,d5⟩:=c3;obtain⟨e1,e2,e3,e4,rfl,e5⟩:=c4;obtain⟨f1,f2,f3,f4,rfl,f5⟩:=c5;obtain⟨j1,j2,j3,j4,rfl,j5⟩:=c6;obtain⟨k1,k2,k3,k4,rfl,k5⟩:=p1;obtain⟨l1,l2,l3,l4,rfl,l5⟩:=p2;obtain⟨m1,m2,m3,m4,rfl,m5⟩:=q1;obtain⟨n1,n2,n3,n4,rfl,n5⟩:=q2;have FZ:=frB_new w #[.int .i64 g1,.int .i64 g2,.slice oo lo co,.slice a1 a2 a3,.slice b1 b2 b3,.slice d1 d2 d3,.slice e1 e2 e3,.slice f1 f2 f3,.slice j1 j2 j3] #[.slice k1 k2 k3,.slice l1 l2 l3,.bool P.inf] #[.slice m1 m2 m3,.slice n1 n2 n3,.bool Q.inf];obtain⟨W,hW⟩:∃W,(((w.alloc (.cells #[.int .i64 g1,.int .i64 g2,.slice oo lo co,.slice a1 a2 a3,.slice b1 b2 b3,.slice d1 d2 d3,.slice e1 e2 e3,.slice f1 f2 f3,.slice j1 j2 j3] 55)).alloc (.cells #[.slice k1 k2 k3,.slice l1 l2 l3,.bool P.inf] 35)).alloc (.cells #[.slice m1 m2 m3,.slice n1 n2 n3,.bool Q.inf] 35)).alloc (.cells #[.slice none 0 0,.slice none 0 0,.bool false] 35)=W:=⟨_,rfl⟩
 rw[hW]at FZ;obtain⟨s1,hb⟩:=FZ;have HZ:=isZero_any (.slice a1 a2 a3) K.p L W (Nv.old ⟨a1,a2,a3,a4,rfl,a5⟩ hb);have HOP:=own_any (.agg #[.slice k1 k2 k3,.slice l1 l2 l3,.bool P.inf]) P L W (Pv.old ⟨_,_,rfl,⟨k1,k2,k3,k4,rfl,k5⟩,⟨l1,l2,l3,l4,rfl,l5⟩⟩ hb);have HOQ:=own_any (.agg #[.slice m1 m2 m3,.slice n1 n2 n3,.bool Q.inf]) Q L W (Pv.old ⟨_,_,rfl,⟨m1,m2,m3,m4,rfl,m5⟩,⟨n1,n2,n3,n4,rfl,n5⟩⟩ hb);have HAW:=fun h0=>HA W hb h0;have HW:Hid (_=W):=hW;have HS1:Hid (PSl W (w.heap.size+1+1+1) (.slice none 0 0) (.slice none 0 0) (.bool false)):=s1;clear hW HA;unfold AddZ;by_cases h0:K.p=0
 ·have hd:decide (K.p=0)=true:=by simp[h0]
  rw[hd]at HZ;simp only[if_pos h0];have s2:=s1;clear HOP HOQ HAW;go_enter Tryz.func115,Tryz.ntmps115;go_wp2_with (go_at_call 106;rw[HW.out];refine HZ.mono ?_;rintro e w2 ⟨rfl,rfl⟩;obtain⟨y0,y1,y2,y3,y4,y5⟩:=s2.facts)
  refine bodyPost_ret (ret_pt rfl _ _ (w.heap.size+1+1+1) _ _ _ rfl (s2.set3 (.slice none 0 0) (.slice none 0 0) (.bool false))) rfl ?_;have bt:=Bt.set3 w2 (w.heap.size+1+1+1) (.slice none 0 0) (.slice none 0 0) (.bool false);exact⟨none,rfl,hb.trans (bt.below (by omega) hb.size),.inr ⟨rfl,rfl⟩⟩
 have hd:decide (K.p=0)=false:=by simp[h0]
 rw[hd]at HZ;simp only[if_neg h0];have HAW2:=HAW h0
 cases hpi:P.inf with
 | true =>
  rw[hpi]at HOP HW;simp only[if_pos];clear HAW HAW2 HOP;go_enter Tryz.func115,Tryz.ntmps115;go_wp2_with (first
   | (go_at_call 106;rw[HW.out];refine HZ.mono ?_;rintro e w2 ⟨rfl,rfl⟩;rw[←HW.out])
   | (go_at_call 141;rw[HW.out];refine HOQ.mono ?_;rintro e w3 ⟨v3,rfl,hv3,hb3⟩;have s3:=HS1.out.keep hb3;obtain⟨y0,y1,y2,y3,y4,y5⟩:=s3.facts;have hv3':=hv3;obtain⟨vx,vy,rfl,⟨o1,o2,o3,o4,rfl,o5⟩,⟨r1,r2,r3,r4,rfl,r5⟩⟩:=hv3))
  refine bodyPost_ret (ret_pt rfl _ _ (w.heap.size+1+1+1) _ _ _ rfl (s3.set3 (.slice o1 o2 o3) (.slice r1 r2 r3) (.bool (ownZ Q).inf))) rfl ?_;have bt:=Bt.set3 w3 (w.heap.size+1+1+1) (.slice o1 o2 o3) (.slice r1 r2 r3) (.bool (ownZ Q).inf);have B3:=hb.trans (hb3.mono hb.size);exact⟨_,rfl,B3.trans (bt.below (by omega) B3.size),.inl ⟨_,_,rfl,rfl,_,_,rfl,Nv.apart ⟨o1,o2,o3,o4,rfl,o5⟩ s3 bt,Nv.apart ⟨r1,r2,r3,r4,rfl,r5⟩ s3 bt⟩⟩
 | false =>
  rw[hpi]at HOP HAW2 HW;simp only[if_neg (show ¬(false=true) by decide)]
  cases hqi:Q.inf with
  | true =>
   rw[hqi]at HW HOQ;simp only[if_pos];clear HAW HAW2 HOQ;go_enter Tryz.func115,Tryz.ntmps115;go_wp2_with (first
    | (go_at_call 106;rw[HW.out];refine HZ.mono ?_;rintro e w2 ⟨rfl,rfl⟩;rw[←HW.out])
    | (go_at_call 141;rw[HW.out];refine HOP.mono ?_;rintro e w3 ⟨v3,rfl,hv3,hb3⟩;have s3:=HS1.out.keep hb3;obtain⟨y0,y1,y2,y3,y4,y5⟩:=s3.facts;have hv3':=hv3;obtain⟨vx,vy,rfl,⟨o1,o2,o3,o4,rfl,o5⟩,⟨r1,r2,r3,r4,rfl,r5⟩⟩:=hv3))
   refine bodyPost_ret (ret_pt rfl _ _ (w.heap.size+1+1+1) _ _ _ rfl (s3.set3 (.slice o1 o2 o3) (.slice r1 r2 r3) (.bool (ownZ P).inf))) rfl ?_;have bt:=Bt.set3 w3 (w.heap.size+1+1+1) (.slice o1 o2 o3) (.slice r1 r2 r3) (.bool (ownZ P).inf);have B3:=hb.trans (hb3.mono hb.size);exact⟨_,rfl,B3.trans (bt.below (by omega) B3.size),.inl ⟨_,_,rfl,rfl,_,_,rfl,Nv.apart ⟨o1,o2,o3,o4,rfl,o5⟩ s3 bt,Nv.apart ⟨r1,r2,r3,r4,rfl,r5⟩ s3 bt⟩⟩
  | false =>
   rw[hqi]at HW HOQ HAW2;simp only[if_neg (show ¬(false=true) by decide)];clear HAW HOP HOQ;go_enter Tryz.func115,Tryz.ntmps115;go_wp2_with (go_at_call 106;rw[HW.out];refine HZ.mono ?_;rintro e w2 ⟨rfl,rfl⟩;rw[←HW.out])
   rw[HW.out];go_at_call 142;refine HAW2.mono ?_;rintro e w3 ⟨r,hr,hb3,(⟨v,pz,rfl,rfl,hv3⟩|⟨rfl,rfl⟩)⟩
   ·have s3:=HS1.out.keep hb3;obtain⟨y0,y1,y2,y3,y4,y5⟩:=s3.facts;obtain⟨vx,vy,rfl,⟨o1,o2,o3,o4,rfl,o5⟩,⟨r1,r2,r3,r4,rfl,r5⟩⟩:=hv3;have B3:=hb.trans (hb3.mono hb.size);go_wp2_with fail
    refine bodyPost_ret (ret_pt rfl _ _ (w.heap.size+1+1+1) _ _ _ rfl (s3.set3 (.slice o1 o2 o3) (.slice r1 r2 r3) (.bool pz.inf))) rfl ?_;have bt:=Bt.set3 w3 (w.heap.size+1+1+1) (.slice o1 o2 o3) (.slice r1 r2 r3) (.bool pz.inf);exact⟨_,hr,B3.trans (bt.below (by omega) B3.size),.inl ⟨_,_,rfl,rfl,_,_,rfl,Nv.apart ⟨o1,o2,o3,o4,rfl,o5⟩ s3 bt,Nv.apart ⟨r1,r2,r3,r4,rfl,r5⟩ s3 bt⟩⟩
   ·have s3:=HS1.out.keep hb3;obtain⟨y0,y1,y2,y3,y4,y5⟩:=s3.facts;have B3:=hb.trans (hb3.mono hb.size);go_wp2_with fail
    refine bodyPost_ret (ret_pt rfl _ _ (w.heap.size+1+1+1) _ _ _ rfl (s3.set3 (.slice none 0 0) (.slice none 0 0) (.bool false))) rfl ?_;have bt:=Bt.set3 w3 (w.heap.size+1+1+1) (.slice none 0 0) (.slice none 0 0) (.bool false);exact⟨_,hr,B3.trans (bt.below (by omega) B3.size),.inr ⟨rfl,rfl⟩⟩
end Go.Proofs.YtcgikjkpbpjgdabGreat
namespace Go.Proofs.YtcgikjkpbpjgdabGreat
open Go.RowKit Go.Shelf
attribute [local go_sem] Oper.semAt_some
structure FrC (W:World) (b:Nat) (cv pv:Array Value):Prop where
 c:W.heap[b]?=some (.cells cv 55 (0,0))
 p:W.heap[b+1]?=some (.cells pv 35 (0,0))
 r:PSl W (b+1+1) (.slice none 0 0) (.slice none 0 0) (.bool false)
 o:W.heap[b+1+1+1]?=some (.cells #[.bool false] 4 (0,0))
theorem frC_new (w:World) (cv pv:Array Value):FrC ((((w.alloc (.cells cv 55)).alloc (.cells pv 35)).alloc (.cells #[.slice none 0 0,.slice none 0 0,.bool false] 35)).alloc (.cells #[.bool false] 4)) w.heap.size cv pv∧Below w.heap.size w ((((w.alloc (.cells cv 55)).alloc (.cells pv 35)).alloc (.cells #[.slice none 0 0,.slice none 0 0,.bool false] 35)).alloc (.cells #[.bool false] 4)):=by
 obtain⟨w1,e1⟩:∃x,w.alloc (.cells cv 55)=x:=⟨_,rfl⟩
 obtain⟨w2,e2⟩:∃x,w1.alloc (.cells pv 35)=x:=⟨_,rfl⟩
 obtain⟨w3,e3⟩:∃x,w2.alloc (.cells #[.slice none 0 0,.slice none 0 0,.bool false] 35)=x:=⟨_,rfl⟩
 have z1:w1.heap.size=w.heap.size+1:=by rw[←e1];exact alloc_sz7 _ _
 have z2:w2.heap.size=w.heap.size+1+1:=by rw[←e2,alloc_sz7,z1]
 have z3:w3.heap.size=w.heap.size+1+1+1:=by rw[←e3,alloc_sz7,z2]
 have n1:w1.heap[w.heap.size]?=some (.cells cv 55 (0,0)):=by rw[←e1];exact heap_alloc_new w _
 have n2:w2.heap[w.heap.size+1]?=some (.cells pv 35 (0,0)):=by rw[←e2,←z1];exact heap_alloc_new w1 _
 have n3:w3.heap[w.heap.size+1+1]?=some (.cells #[.slice none 0 0,.slice none 0 0,.bool false] 35 (0,0)):=by rw[←e3,←z2];exact heap_alloc_new w2 _
 have n4:=heap_alloc_new w3 (.cells #[.bool false] 4);rw[z3]at n4;have m1:w2.heap[w.heap.size]?=some (.cells cv 55 (0,0)):=by rw[←e2];exact heap_new n1 (by omega)
 have k1:w3.heap[w.heap.size]?=some (.cells cv 55 (0,0)):=by rw[←e3];exact heap_new m1 (by omega)
 have k2:w3.heap[w.heap.size+1]?=some (.cells pv 35 (0,0)):=by rw[←e3];exact heap_new n2 (by omega)
 have bb:Below w.heap.size w (w3.alloc (.cells #[.bool false] 4)):=by rw[←e3,←e2,←e1];exact((((Below.refl w.heap.size w).alloc (Nat.le_refl _) _).alloc (by rw[alloc_sz7];omega) _).alloc (by rw[alloc_sz7,alloc_sz7];omega) _).alloc (by rw[alloc_sz7,alloc_sz7,alloc_sz7];omega) _
 rw[e1,e2,e3];exact⟨⟨heap_new k1 (by omega),heap_new k2 (by omega),heap_new n3 (by omega),n4⟩,bb⟩
theorem FrC.keep {W W':World} {b:Nat} {cv pv:Array Value} (h:FrC W b cv pv) (hb:Below W.heap.size W W'):FrC W' b cv pv:=
 ⟨(hb.block _ (Array.getElem?_eq_some_iff.1 h.c).1).trans h.c,(hb.block _ (Array.getElem?_eq_some_iff.1 h.p).1).trans h.p,h.r.keep hb,(hb.block _ (Array.getElem?_eq_some_iff.1 h.o).1).trans h.o⟩
def stepR (K:Cz) (P:Pz) (set:Bool) (q:Pz) (r:Option Pz):Prop:=∃d,AddZ K q q d∧((d=none∧r=none)∨∃e,d=some e∧if set then AddZ K e P r else r=some e)
def MF (K:Cz) (P:Pz) (pre:List (Int × Bool)):Pz→Prop:=pre.foldl (fun S x=>fun q'=>∃q,S q∧stepR K P x.2 q (some q')) (fun q=>q=noZ)
theorem MF_snoc (K:Cz) (P:Pz) (pre:List (Int × Bool)) (x:Int × Bool) (q':Pz):MF K P (pre++[x]) q'↔∃q,MF K P pre q∧stepR K P x.2 q (some q'):=by unfold MF;rw[List.foldl_append];exact Iff.rfl
def MulZ (K:Cz) (P:Pz) (bits:List (Int × Bool)) (r:Option Pz):Prop:=(∃q,r=some q∧MF K P bits q)∨(r=none∧∃pre x q,(pre++[x]) <+: bits∧MF K P pre q∧stepR K P x.2 q none)
theorem blk_kept {W W':World} {k:Nat} {cs:Array Value} {t:TypeId} {row:Option Nat} (h:W.heap[k]?=some (.cells cs t (0,0))) (hg:W.grownBy W' row) (hr:∀r,row=some r→∃o:Obj,W.heap[r]?=some o∧o.isCells=false):W'.heap[k]?=some (.cells cs t (0,0)):=by
 rw[hg.block k (Array.getElem?_eq_some_iff.1 h).1 (fun e=>by
  obtain⟨o,ho,hc⟩:=hr k e.symm;rw[h]at ho
  cases ho
  cases hc),h]
theorem Nv.kept {W W':World} {v:Value} {n:Int} {L:Nat} {row:Option Nat} (h:Nv W v n L) (hg:W.grownBy W' row) (hr:∀r,row=some r→∃o:Obj,W.heap[r]?=some o∧o.isCells=false):Nv W' v n L:=by obtain⟨ao,len,cap,xs,e,h1,h2,h3⟩:=h;exact⟨ao,len,cap,xs,e,h1.keptc hg hr,h2,h3⟩
theorem Cu.kept {W W':World} {c:Value} {K:Cz} {L:Nat} {row:Option Nat} (h:Cu W c K L) (hg:W.grownBy W' row) (hr:∀r,row=some r→∃o:Obj,W.heap[r]?=some o∧o.isCells=false):Cu W' c K L:=by obtain⟨g1,g2,oo,lo,co,vp,va,vb,vx,vy,vn,e,h1,h2,h3,h4,h5,h6⟩:=h;exact⟨g1,g2,oo,lo,co,vp,va,vb,vx,vy,vn,e,h1.kept hg hr,h2.kept hg hr,h3.kept hg hr,h4.kept hg hr,h5.kept hg hr,h6.kept hg hr⟩
theorem Pv.kept {W W':World} {c:Value} {p:Pz} {L:Nat} {row:Option Nat} (h:Pv W c p L) (hg:W.grownBy W' row) (hr:∀r,row=some r→∃o:Obj,W.heap[r]?=some o∧o.isCells=false):Pv W' c p L:=by obtain⟨vx,vy,e,h1,h2⟩:=h;exact⟨vx,vy,e,h1.kept hg hr,h2.kept hg hr⟩
def BBx (w:World) (g:Nat) (b:Bool):Prop:=w.heap[g]?=some (.cells #[.bool b] 4 (0,0))
theorem Nv.apartB {w w':World} {v:Value} {n:Int} {L r:Nat} {b:Bool} (h:Nv w v n L) (hs:BBx w r b) (hb:Bt r w w'):Nv w' v n L:=by
 obtain⟨ao,len,cap,xs,e,h1,h2,h3⟩:=h;refine⟨ao,len,cap,xs,e,⟨⟨h1.len,?_⟩,h1.lc,h1.cm,h1.nn,h1.dg,h1.sm⟩,h2,h3⟩;by_cases h0:len=0
 ·exact .inl h0
 ·obtain⟨b',off,e2,hlt,hc⟩:=h1.lies.at (by omega);have hne:b'≠r:=fun e3=>by
   subst e3;have h4:=hc 0 (by omega);rw[cell_of_row _ _ _ _ _ _ hs]at h4;obtain⟨o,ho⟩:∃o,off+0=o:=⟨_,rfl⟩
   rw[ho]at h4;match o,h4 with
   | 0,h4=>cases h4
   | k+1,h4=>simp at h4
  exact .inr ⟨b',off,e2,Nat.lt_of_lt_of_le hlt hb.size,fun i hi=>(World.cell?_of_block (w:=w) (hb.block b' hlt hne)).trans (hc i hi)⟩
structure MSt (w:World) (b gs go:Nat) (cv pv:Array Value) (K:Cz) (P:Pz) (L:Nat) (x1 y1:Option Addr) (x2 x3 y2 y3:Nat) (q:Pz) (W:World):Prop where
 fr:FrC W b cv pv
 sum:PSl W gs (.slice x1 x2 x3) (.slice y1 y2 y3) (.bool q.inf)
 sx:Nv W (.slice x1 x2 x3) q.x L
 sy:Nv W (.slice y1 y2 y3) q.y L
 ok:BBx W go true
 cu:Cu W (.agg cv) K L
 pp:Pv W (.agg pv) P L
 low:Below w.heap.size w W
theorem MSt.old {w:World} {b gs go:Nat} {cv pv:Array Value} {K:Cz} {P:Pz} {L:Nat} {x1 y1:Option Addr} {x2 x3 y2 y3:Nat} {q:Pz} {W W':World} (h:MSt w b gs go cv pv K P L x1 y1 x2 x3 y2 y3 q W) (hb:Below W.heap.size W W'):MSt w b gs go cv pv K P L x1 y1 x2 x3 y2 y3 q W':=
 ⟨h.fr.keep hb,h.sum.keep hb,h.sx.old hb,h.sy.old hb,(hb.block _ (Array.getElem?_eq_some_iff.1 h.ok).1).trans h.ok,h.cu.old hb,h.pp.old hb,h.low.trans (hb.mono h.low.size)⟩
theorem MSt.kept {w:World} {b gs go:Nat} {cv pv:Array Value} {K:Cz} {P:Pz} {L:Nat} {x1 y1:Option Addr} {x2 x3 y2 y3:Nat} {q:Pz} {W W':World} {row:Option Nat} {B:Nat} (hB:w.heap.size≤B) (h:MSt w b gs go cv pv K P L x1 y1 x2 x3 y2 y3 q W) (hg:W.grownBy W' row) (hr:∀r,row=some r→B≤r∧∃o:Obj,W.heap[r]?=some o∧o.isCells=false):MSt w b gs go cv pv K P L x1 y1 x2 x3 y2 y3 q W':=by have hr2:=fun r e=>(hr r e).2;exact⟨⟨blk_kept h.fr.c hg hr2,blk_kept h.fr.p hg hr2,blk_kept h.fr.r hg hr2,blk_kept h.fr.o hg hr2⟩,blk_kept h.sum hg hr2,h.sx.kept hg hr2,h.sy.kept hg hr2,blk_kept h.ok hg hr2,h.cu.kept hg hr2,h.pp.kept hg hr2,ownFrom_below (β:=Unit) (Nat.le_refl _) hB () W W' row h.low hg hr⟩
def sumW (W:World) (gs go:Nat) (vx vy:Value) (inf ok:Bool):World:=(((W.setCell ⟨gs,0,none⟩ vx).setCell ⟨gs,1,none⟩ vy).setCell ⟨gs,2,none⟩ (.bool inf)).setCell ⟨go,0,none⟩ (.bool ok)
theorem nv_sum {W:World} {v:Value} {n:Int} {L gs go:Nat} {a1 a2:Option Addr} {l1 k1 l2 k2:Nat} {b ok0:Bool} (h:Nv W v n L) (hs:PSl W gs (.slice a1 l1 k1) (.slice a2 l2 k2) (.bool b)) (ho:BBx W go ok0) (hne:go≠gs) (vx vy:Value) (inf ok:Bool):Nv (sumW W gs go vx vy inf ok) v n L:=by have b3:=Bt.set3 W gs vx vy (.bool inf);have ho2:BBx (((W.setCell ⟨gs,0,none⟩ vx).setCell ⟨gs,1,none⟩ vy).setCell ⟨gs,2,none⟩ (.bool inf)) go ok0:=(b3.block go (Array.getElem?_eq_some_iff.1 ho).1 hne).trans ho;exact(h.apart hs b3).apartB ho2 (Bt.setCell go _ 0 _)
theorem sumW_blocks {W:World} {gs go:Nat} (vx vy:Value) (inf ok:Bool) (k:Nat) (hk:k<W.heap.size) (h1:k≠gs) (h2:k≠go):(sumW W gs go vx vy inf ok).heap[k]?=W.heap[k]?:=by have b3:=Bt.set3 W gs vx vy (.bool inf);exact((Bt.setCell go _ 0 (.bool ok)).block k (Nat.lt_of_lt_of_le hk b3.size) h2).trans (b3.block k hk h1)
theorem sumW_sum {W:World} {gs go:Nat} {c0 c1 c2:Value} (hs:PSl W gs c0 c1 c2) (hne:go≠gs) (vx vy:Value) (inf ok:Bool):PSl (sumW W gs go vx vy inf ok) gs vx vy (.bool inf):=by have s3:=hs.set3 vx vy (.bool inf);exact((Bt.setCell go _ 0 (.bool ok)).block gs s3.lt (Ne.symm hne)).trans s3
theorem sumW_ok {W:World} {gs go:Nat} {ok0:Bool} (ho:BBx W go ok0) (hne:go≠gs) (vx vy:Value) (inf ok:Bool):BBx (sumW W gs go vx vy inf ok) go ok:=by have b3:=Bt.set3 W gs vx vy (.bool inf);have ho2:BBx (((W.setCell ⟨gs,0,none⟩ vx).setCell ⟨gs,1,none⟩ vy).setCell ⟨gs,2,none⟩ (.bool inf)) go ok0:=(b3.block go (Array.getElem?_eq_some_iff.1 ho).1 hne).trans ho;have:=heap_set7 _ go 0 (.bool ok) _ _ _ ho2;exact this
theorem sumW_below {w W:World} {gs go:Nat} (h:Below w.heap.size w W) (h1:w.heap.size≤gs) (h2:w.heap.size≤go) (vx vy:Value) (inf ok:Bool):Below w.heap.size w (sumW W gs go vx vy inf ok):=by have b3:=Bt.set3 W gs vx vy (.bool inf);have b4:=Bt.setCell go (((W.setCell ⟨gs,0,none⟩ vx).setCell ⟨gs,1,none⟩ vy).setCell ⟨gs,2,none⟩ (.bool inf)) 0 (.bool ok);exact h.trans ((b3.below h1 h.size).trans (b4.below h2 (Nat.le_trans h.size b3.size)))
theorem sumW_keeps (W:World) (gs go:Nat) (vx vy:Value) (inf ok:Bool):KeepsOthers W (sumW W gs go vx vy inf ok):=(((KeepsOthers.setCell _ _ _).trans (KeepsOthers.setCell _ _ _)).trans (KeepsOthers.setCell _ _ _)).trans (KeepsOthers.setCell _ _ _)
theorem bitsAt_sum {W:World} {g3 g4:Nat} {V:Int} {N gs go:Nat} {a1 a2:Option Addr} {l1 k1 l2 k2:Nat} {b ok0:Bool} (h:BitsAt W g3 g4 V N) (hs:PSl W gs (.slice a1 l1 k1) (.slice a2 l2 k2) (.bool b)) (ho:BBx W go ok0) (hne:go≠gs) (h3:gs≠g3∧go≠g3) (vx vy:Value) (inf ok:Bool):BitsAt (sumW W gs go vx vy inf ok) g3 g4 V N:=by
 obtain⟨ao,la,ca,xs,e1,e2,e3,e4,e5,e6,e7⟩:=h;have hn4:g4≠gs:=fun e=>by
  subst e;have:=hs.facts.1.symm.trans e3
  cases this
 have hn5:g4≠go:=fun e=>by
  subst e;rw[cell_of_row _ _ _ _ _ _ ho]at e3
  cases e3
 have hz:=(sumW_keeps W gs go vx vy inf ok).size;have hb:=sumW_blocks (W:=W) (gs:=gs) (go:=go) vx vy inf ok;have hv:=nv_sum (L:=la) (v:=.slice ao la ca) (n:=val B64 xs) ⟨ao,la,ca,xs,rfl,e5,rfl,Nat.le_refl _⟩ hs ho hne vx vy inf ok;generalize sumW W gs go vx vy inf ok=W' at *;have c4:W'.cell? ⟨g4,0,none⟩=some (.int .i64 N):=by rw[←e3];exact World.cell?_of_block (w:=W) (hb g4 e2 hn4 hn5)
 have c3:W'.cell? ⟨g3,0,none⟩=some (.slice ao la ca):=by rw[←e4];exact World.cell?_of_block (w:=W) (hb g3 e1 (Ne.symm h3.1) (Ne.symm h3.2))
 obtain⟨p1,p2,p3,p4,ee,q1,q2,q3⟩:=hv;injection ee with u1 u2 u3;subst u1 u2 u3;exact⟨ao,la,ca,p4,Nat.lt_of_lt_of_le e1 hz,Nat.lt_of_lt_of_le e2 hz,c4,c3,q1,by rw[q2];exact e6,e7⟩
theorem MSt.next {w:World} {b gs go:Nat} {cv pv:Array Value} {K:Cz} {P:Pz} {L:Nat} {x1 y1 x1' y1':Option Addr} {x2 x3 y2 y3 x2' x3' y2' y3':Nat} {q q':Pz} {W:World} (h:MSt w b gs go cv pv K P L x1 y1 x2 x3 y2 y3 q W) (hg:b+1+1+1<gs∧gs+1=go∧w.heap.size=b) (nx:Nv W (.slice x1' x2' x3') q'.x L) (ny:Nv W (.slice y1' y2' y3') q'.y L):MSt w b gs go cv pv K P L x1' y1' x2' x3' y2' y3' q' (sumW W gs go (.slice x1' x2' x3') (.slice y1' y2' y3') q'.inf true):=by
 have hne:go≠gs:=by omega
 have nn:∀ {v:Value} {n:Int},Nv W v n L→Nv (sumW W gs go (.slice x1' x2' x3') (.slice y1' y2' y3') q'.inf true) v n L:=fun hv=>nv_sum hv h.sum h.ok hne _ _ _ _;have bk:=fun k hk h1 h2=>sumW_blocks (W:=W) (gs:=gs) (go:=go) (.slice x1' x2' x3') (.slice y1' y2' y3') q'.inf true k hk h1 h2;refine⟨⟨(bk b (Array.getElem?_eq_some_iff.1 h.fr.c).1 (by omega) (by omega)).trans h.fr.c,(bk _ (Array.getElem?_eq_some_iff.1 h.fr.p).1 (by omega) (by omega)).trans h.fr.p,(bk _ h.fr.r.lt (by omega) (by omega)).trans h.fr.r,(bk _ (Array.getElem?_eq_some_iff.1 h.fr.o).1 (by omega) (by omega)).trans h.fr.o⟩,sumW_sum h.sum hne _ _ _ _,nn nx,nn ny,sumW_ok h.ok hne _ _ _ _,?_,?_,sumW_below h.low (by omega) (by omega) _ _ _ _⟩
 ·obtain⟨g1,g2,oo,lo,co,vp,va,vb,vx,vy,vn,e,h1,h2,h3,h4,h5,h6⟩:=h.cu;exact⟨g1,g2,oo,lo,co,vp,va,vb,vx,vy,vn,e,nn h1,nn h2,nn h3,nn h4,nn h5,nn h6⟩
 ·obtain⟨vx,vy,e,h1,h2⟩:=h.pp;exact⟨vx,vy,e,nn h1,nn h2⟩
def MGo (w:World) (b gs go:Nat) (cv pv:Array Value) (K:Cz) (P:Pz) (L:Nat) (pre:List (Int × Bool)) (W:World):Prop:=∃x1 y1 x2 x3 y2 y3 q,MF K P pre q∧MSt w b gs go cv pv K P L x1 y1 x2 x3 y2 y3 q W
def MEnd (w:World) (b:Nat) (K:Cz) (P:Pz) (c:Code) (pre:List (Int × Bool)) (W:World):Prop:=c=.ret∧(PSl W (b+1+1) (.slice none 0 0) (.slice none 0 0) (.bool false)∧BBx W (b+1+1+1) false)∧Below w.heap.size w W∧∃pre' x q,pre=pre'++[x]∧MF K P pre' q∧stepR K P x.2 q none
theorem MGo.kept {w:World} {b gs go:Nat} {cv pv:Array Value} {K:Cz} {P:Pz} {L B:Nat} (hB:w.heap.size≤B):OwnFrom B (MGo w b gs go cv pv K P L):=by rintro pre A A' row ⟨x1,y1,x2,x3,y2,y3,q,h1,h2⟩ hg hr;exact⟨x1,y1,x2,x3,y2,y3,q,h1,h2.kept hB hg hr⟩
theorem MEnd.kept {w:World} {b:Nat} {K:Cz} {P:Pz} {B:Nat} (hB:w.heap.size≤B) (c:Code):OwnFrom B (MEnd w b K P c):=by rintro pre A A' row ⟨h1,h2,h3,h4⟩ hg hr;have hr2:=fun r e=>(hr r e).2;exact⟨h1,⟨blk_kept h2.1 hg hr2,blk_kept h2.2 hg hr2⟩,ownFrom_below (β:=Unit) (Nat.le_refl _) hB () A A' row h3 hg hr,h4⟩
theorem BBx.facts {W:World} {g:Nat} {b:Bool} (h:BBx W g b):W.cell? ⟨g,0,none⟩=some (.bool b)∧W.frozen? ⟨g,0,none⟩=false:=by
 refine⟨?_,?_⟩
 ·rw[cell_of_row _ _ _ _ _ _ h];rfl
 ·exact frozen_of_row W g 0 _ _ h
theorem FrC.cells {W:World} {b:Nat} {c0 c1 c2 c3 c4 c5 c6 c7 c8 p0 p1 p2:Value} (h:FrC W b #[c0,c1,c2,c3,c4,c5,c6,c7,c8] #[p0,p1,p2]):(W.cell? ⟨b,0,none⟩=some c0∧W.cell? ⟨b,1,none⟩=some c1∧W.cell? ⟨b,2,none⟩=some c2∧W.cell? ⟨b,3,none⟩=some c3∧W.cell? ⟨b,4,none⟩=some c4∧W.cell? ⟨b,5,none⟩=some c5∧W.cell? ⟨b,6,none⟩=some c6∧W.cell? ⟨b,7,none⟩=some c7∧W.cell? ⟨b,8,none⟩=some c8)∧W.cell? ⟨b+1,0,none⟩=some p0∧W.cell? ⟨b+1,1,none⟩=some p1∧W.cell? ⟨b+1,2,none⟩=some p2:=by
 refine⟨⟨?_,?_,?_,?_,?_,?_,?_,?_,?_⟩,?_,?_,?_⟩;all_goals first
  | (rw[cell_of_row _ _ _ _ _ _ h.c];rfl)
  | (rw[cell_of_row _ _ _ _ _ _ h.p];rfl)
theorem MSt.fails {w:World} {b gs go:Nat} {cv pv:Array Value} {K:Cz} {P:Pz} {L:Nat} {x1 y1:Option Addr} {x2 x3 y2 y3:Nat} {q:Pz} {W:World} (h:MSt w b gs go cv pv K P L x1 y1 x2 x3 y2 y3 q W) (hg:b+1+1+1<gs∧gs+1=go∧w.heap.size=b) {pre:List (Int × Bool)} {x:Int × Bool} {q0:Pz} (hm:MF K P pre q0) (hs:stepR K P x.2 q0 none):
  KeepsOthers W (((((sumW W gs go (.slice none 0 0) (.slice none 0 0) false false).setCell ⟨b+1+1,0,none⟩ (.slice none 0 0)).setCell ⟨b+1+1,1,none⟩ (.slice none 0 0)).setCell ⟨b+1+1,2,none⟩ (.bool false)).setCell ⟨b+1+1+1,0,none⟩ (.bool false))∧MEnd w b K P .ret (pre++[x]) (((((sumW W gs go (.slice none 0 0) (.slice none 0 0) false false).setCell ⟨b+1+1,0,none⟩ (.slice none 0 0)).setCell ⟨b+1+1,1,none⟩ (.slice none 0 0)).setCell ⟨b+1+1,2,none⟩ (.bool false)).setCell ⟨b+1+1+1,0,none⟩ (.bool false)):=by
 have ks:=sumW_keeps W gs go (.slice none 0 0) (.slice none 0 0) false false;have bk:=fun k hk h1 h2=>sumW_blocks (W:=W) (gs:=gs) (go:=go) (.slice none 0 0) (.slice none 0 0) false false k hk h1 h2;have lo:=sumW_below (gs:=gs) (go:=go) h.low (by omega) (by omega) (.slice none 0 0) (.slice none 0 0) false false;have r1:PSl _ (b+1+1) (.slice none 0 0) (.slice none 0 0) (.bool false):=(bk _ h.fr.r.lt (by omega) (by omega)).trans h.fr.r;have o1:BBx _ (b+1+1+1) false:=(bk _ (Array.getElem?_eq_some_iff.1 h.fr.o).1 (by omega) (by omega)).trans h.fr.o;generalize sumW W gs go (.slice none 0 0) (.slice none 0 0) false false=W2 at *;refine⟨ks.trans (sumW_keeps W2 (b+1+1) (b+1+1+1) _ _ false false),rfl,⟨sumW_sum r1 (by omega) _ _ _ _,sumW_ok o1 (by omega) _ _ _ _⟩,sumW_below lo (by omega) (by omega) _ _ _ _,pre,x,q0,rfl,hm,hs⟩
theorem ret_ptb {fn:Func} {p u:Tmp} (h:fn.results=#[.cell p 35,.cell u 4]) (tmps:Array Value) (w:World) (g g':Nat) (c0 c1 c2:Value) (b:Bool) (hp:tmps.getD p undef=.pointer (some ⟨g,0,none⟩)) (hu:tmps.getD u undef=.pointer (some ⟨g',0,none⟩)) (hg:PSl w g c0 c1 c2) (hb:BBx w g' b):
  (results fn tmps).run Tryz.prog w=.ok (.tuple #[.agg #[c0,c1,c2],.bool b]) w:=by
 have hp':tmps[p]?.getD undef=.pointer (some ⟨g,0,none⟩):=by simpa using hp
 have hu':tmps[u]?.getD undef=.pointer (some ⟨g',0,none⟩):=by simpa using hu
 have hl:=run_loadVar_row (P:=Tryz.prog) w g 35 35 #[c0,c1,c2] (0,0) _ hg Tryz.underlying35 rfl sizePt;have hc:=hb.facts.1;obtain⟨x0,x1,x2,_⟩:=hg.facts;simp[results,h,hp',hu',asAddr,go_sem,x0,x1,x2,hc]
theorem Mul_pt (c k p:Value) (K:Cz) (n:Int) (P:Pz) (L:Nat) (w:World) (hc:Cu w c K L) (hk:Nv w k n L) (hp:Pv w p P L) (hL:1≤L∧L≤70) (h0:K.p≠0):
  Calls Tryz.prog 113 #[c,k,p] w fun e w'=>∃r,MulZ K P (bitsOf n (blen n.toNat) (blen n.toNat)) r∧Pa w w' e r L:=by
 obtain⟨g1,g2,oo,lo,co,vp,va,vb,vx,vy,vn,rfl,c1,c2,c3,c4,c5,c6⟩:=hc;obtain⟨px,py,rfl,p1,p2⟩:=hp;obtain⟨a1,a2,a3,a4,rfl,a5⟩:=c1;obtain⟨b1,b2,b3,b4,rfl,b5'⟩:=c2;obtain⟨d1,d2,d3,d4,rfl,d5⟩:=c3;obtain⟨e1,e2,e3,e4,rfl,e5⟩:=c4;obtain⟨f1,f2,f3,f4,rfl,f5⟩:=c5;obtain⟨j1,j2,j3,j4,rfl,j5⟩:=c6;obtain⟨k1,k2,k3,k4,rfl,k5⟩:=p1;obtain⟨l1,l2,l3,l4,rfl,l5⟩:=p2;obtain⟨m1,m2,m3,m4,rfl,m5⟩:=hk;have FZ:=frC_new w #[.int .i64 g1,.int .i64 g2,.slice oo lo co,.slice a1 a2 a3,.slice b1 b2 b3,.slice d1 d2 d3,.slice e1 e2 e3,.slice f1 f2 f3,.slice j1 j2 j3] #[.slice k1 k2 k3,.slice l1 l2 l3,.bool P.inf];obtain⟨W,hW⟩:∃W,(((w.alloc (.cells #[.int .i64 g1,.int .i64 g2,.slice oo lo co,.slice a1 a2 a3,.slice b1 b2 b3,.slice d1 d2 d3,.slice e1 e2 e3,.slice f1 f2 f3,.slice j1 j2 j3] 55)).alloc (.cells #[.slice k1 k2 k3,.slice l1 l2 l3,.bool P.inf] 35)).alloc (.cells #[.slice none 0 0,.slice none 0 0,.bool false] 35)).alloc (.cells #[.bool false] 4)=W:=⟨_,rfl⟩
 rw[hW]at FZ;obtain⟨FZ,hb⟩:=FZ;have HZ:=isZero_any (.slice a1 a2 a3) K.p L W (Nv.old ⟨a1,a2,a3,a4,rfl,a5⟩ hb);have hd:decide (K.p=0)=false:=by simp[h0]
 rw[hd]at HZ;have HN:=nothing_any W;have HW:Hid (_=W):=hW;clear hW;refine(callsIn_wide (n:=4)).1 ?_;refine callsIn_of_wp_marks Tryz.func113 rfl trivial ?_ rfl;simp only[Tryz.ntmps113,List.size_toArray,List.length_cons,List.length_nil,Nat.reduceAdd,Nat.reduceSub,Array.replicate_succ,Array.replicate_zero,List.push_toArray,List.append_toArray,List.nil_append,List.cons_append]
 gi_wp2_with fail
 refine⟨trivial,?_⟩;rw[HW.out];refine(callsIn_wide.2 HZ).mono ?_;rintro e w2 ⟨rfl,rfl⟩
 gi_wp2_with fail
 refine⟨trivial,?_⟩;refine(callsIn_wide.2 HN).mono ?_;rintro e w3 ⟨rfl,hb3⟩;have B3:=hb.trans (hb3.mono hb.size);have F3:=FZ.keep hb3;obtain⟨gs,hgs⟩:∃gs,w3.heap.size=gs:=⟨_,rfl⟩
 obtain⟨W5,hW5⟩:∃W5,(w3.alloc (.cells #[.slice none 0 0,.slice none 0 0,.bool true] 35)).alloc (.cells #[.bool true] 4)=W5:=⟨_,rfl⟩
 have b5:Below w3.heap.size w3 W5:=by rw[←hW5];exact((Below.refl _ _).alloc (Nat.le_refl _) _).alloc (by rw[alloc_sz7];omega) _
 have s5:PSl W5 gs (.slice none 0 0) (.slice none 0 0) (.bool true):=by rw[←hW5,←hgs];exact heap_new (heap_alloc_new w3 _) (by rw[alloc_sz7];omega)
 have o5:BBx W5 (gs+1) true:=by have:=heap_alloc_new (w3.alloc (.cells #[.slice none 0 0,.slice none 0 0,.bool true] 35)) (.cells #[.bool true] 4);rw[alloc_sz7,hgs,hW5]at this;exact this
 have B5:=B3.trans (b5.mono B3.size);have hgg:w.heap.size+1+1+1<gs:=by rw[←hgs];exact(Array.getElem?_eq_some_iff.1 F3.o).1
 have HBITS:=Bits_new m1 m2 m3 m4 W5 (m5.1.old B5) (by omega);have HMS:Hid (MSt w w.heap.size gs (gs+1) #[.int .i64 g1,.int .i64 g2,.slice oo lo co,.slice a1 a2 a3,.slice b1 b2 b3,.slice d1 d2 d3,.slice e1 e2 e3,.slice f1 f2 f3,.slice j1 j2 j3] #[.slice k1 k2 k3,.slice l1 l2 l3,.bool P.inf] K P L none none 0 0 0 0 noZ W5):=
  ⟨F3.keep b5,s5,nv_nil W5 L,nv_nil W5 L,o5,Cu.old ⟨g1,g2,oo,lo,co,_,_,_,_,_,_,rfl,⟨a1,a2,a3,a4,rfl,a5⟩,⟨b1,b2,b3,b4,rfl,b5'⟩,⟨d1,d2,d3,d4,rfl,d5⟩,⟨e1,e2,e3,e4,rfl,e5⟩,⟨f1,f2,f3,f4,rfl,f5⟩,⟨j1,j2,j3,j4,rfl,j5⟩⟩ B5,Pv.old ⟨_,_,rfl,⟨k1,k2,k3,k4,rfl,k5⟩,⟨l1,l2,l3,l4,rfl,l5⟩⟩ B5,B5⟩
 have HVN:Hid (val B64 m4=n):=m5.2.1;have HGG:Hid (w.heap.size+1+1+1<gs∧gs<W5.heap.size∧gs+1<W5.heap.size):=⟨hgg,s5.lt,(Array.getElem?_eq_some_iff.1 o5).1⟩
 have HW5:Hid (_=W5):=hW5;clear hW5 B5 B3 b5 s5 o5 hgg F3 FZ HN HZ hb hb3 HW
 gi_wp2_with fail
 rw[HW5.out];refine⟨trivial,?_⟩;refine(callsIn_wide.2 HBITS).mono ?_;rintro e W6 ⟨g3,g4,rfl,hBA,hbl,hg3⟩;rw[HVN.out]at hBA;obtain⟨N,hN⟩:∃N,blen n.toNat=N:=⟨_,rfl⟩
 rw[hN]at hBA;have HNN:Hid (blen n.toNat=N):=hN;clear hN;have HGI:Hid (MSt w w.heap.size gs (gs+1) _ _ K P L none none 0 0 0 0 noZ W6):=HMS.out.old hbl;have HNE:Hid (gs≠g3∧gs+1≠g3∧w.heap.size≤W6.heap.size):=⟨by have:=HGG.out;omega,by have:=HGG.out;omega,HGI.out.low.size⟩
 clear HMS hbl HBITS hg3 HW5;have HGX:Hid (w.heap.size+1+1+1<gs∧True):=⟨HGG.out.1,trivial⟩
 have HLL:Hid (1≤L∧L≤1000):=⟨hL.1,by omega⟩
 clear HGG hgs a5 b5' d5 e5 f5 j5 k5 l5 m5 HVN hd h0 hL
 gi_wp2
 refine wpIn_rangeFunc_ownF rfl (by omega) (gf:=100) (lb:=#[.pointer (some ⟨g4,0,none⟩),.pointer (some ⟨g3,0,none⟩)]) rfl trivial (enters_of Tryz.func100 (by kernel_rfl) rfl)
  (bits_stopsI (4-1) (by omega) W6 g3 g4 n N hBA) (fun h k hB=>k (h hB)) (fun W l o o' _ hl hc _ hB=>hB.keptc (grownBy_putObj' W l o') (fun r e=>by cases e;exact⟨o,hl,hc⟩)) (Below.refl _ _) (fun _=>rfl)
  (MGo w w.heap.size gs (gs+1) #[.int .i64 g1,.int .i64 g2,.slice oo lo co,.slice a1 a2 a3,.slice b1 b2 b3,.slice d1 d2 d3,.slice e1 e2 e3,.slice f1 f2 f3,.slice j1 j2 j3] #[.slice k1 k2 k3,.slice l1 l2 l3,.bool P.inf] K P L) (MEnd w w.heap.size K P)
  (MGo.kept HNE.out.2.2) (MEnd.kept HNE.out.2.2) ⟨none,none,0,0,0,0,noZ,rfl,HGI.out⟩
  (fun x=>{ tmps:=#[.agg #[.int .i64 g1,.int .i64 g2,.slice oo lo co,.slice a1 a2 a3,.slice b1 b2 b3,.slice d1 d2 d3,.slice e1 e2 e3,.slice f1 f2 f3,.slice j1 j2 j3],.slice m1 m2 m3,.agg #[.slice k1 k2 k3,.slice l1 l2 l3,.bool P.inf],.pointer (some ⟨w.heap.size,0,none⟩),undef,.pointer (some ⟨w.heap.size+1,0,none⟩),.pointer (some ⟨w.heap.size+1+1,0,none⟩),.pointer (some ⟨w.heap.size+1+1+1,0,none⟩),.pointer (some ⟨gs,0,none⟩),.pointer (some ⟨gs+1,0,none⟩),undef,.bool x.2,.pointer (some ⟨w.heap.size,3,none⟩),.slice a1 a2 a3,.bool false,undef,.agg #[.slice none 0 0,.slice none 0 0,.bool true],.slice m1 m2 m3,.func (.func 100) #[] #[.pointer (some ⟨g4,0,none⟩),.pointer (some ⟨g3,0,none⟩)],.int .i64 x.1,.bool x.2,undef,undef,undef,undef,undef,undef,undef,undef,undef,undef,undef,undef,undef,undef,undef,undef,undef,undef,undef,undef,undef,undef,undef],defers:=[] }) ?assign ?body ?done ?stop
 case assign=>
  intro l x W' K hK
  gi_wp2
  exact hK
 case body=>
  rintro l pre ⟨z1,z2⟩ W' ⟨x1,y1,x2,x3,y2,y3,q,hmf,hst⟩ hlen;have HST:Hid (MSt w w.heap.size gs (gs+1) #[.int .i64 g1,.int .i64 g2,.slice oo lo co,.slice a1 a2 a3,.slice b1 b2 b3,.slice d1 d2 d3,.slice e1 e2 e3,.slice f1 f2 f3,.slice j1 j2 j3] #[.slice k1 k2 k3,.slice l1 l2 l3,.bool P.inf] K P L x1 y1 x2 x3 y2 y3 q W'):=hst;have HMF:Hid (MF K P pre q):=hmf;have HA:=Add_pt _ (.agg #[.slice x1 x2 x3,.slice y1 y2 y3,.bool q.inf]) (.agg #[.slice x1 x2 x3,.slice y1 y2 y3,.bool q.inf]) K q q L W' hst.cu ⟨_,_,rfl,hst.sx,hst.sy⟩ ⟨_,_,rfl,hst.sx,hst.sy⟩ HLL.out;obtain⟨⟨C0,C1,C2,C3,C4,C5,C6,C7,C8⟩,P0,P1,P2⟩:=hst.fr.cells;obtain⟨S0,S1,S2,S3,S4,S5⟩:=hst.sum.facts;clear hst hmf hBA HGI
  gi_wp2_with fail
  refine⟨trivial,?_⟩;refine(CallsIn.inRound l (callsIn_wide.2 HA)).mono ?_;rintro e W2 ⟨r,hr,hb2,hpa⟩;have HS2:Hid (MSt w w.heap.size gs (gs+1) #[.int .i64 g1,.int .i64 g2,.slice oo lo co,.slice a1 a2 a3,.slice b1 b2 b3,.slice d1 d2 d3,.slice e1 e2 e3,.slice f1 f2 f3,.slice j1 j2 j3] #[.slice k1 k2 k3,.slice l1 l2 l3,.bool P.inf] K P L x1 y1 x2 x3 y2 y3 q W2):=HST.out.old hb2;obtain⟨T0,T1,T2,T3,T4,T5⟩:=HS2.out.sum.facts;obtain⟨U0,U1⟩:=HS2.out.ok.facts;have KO:Hid (KeepsOthers W' W2):=KeepsOthers.of_below hb2;have KP:Hid (BitsAt W' g3 g4 n N→BitsAt W2 g3 g4 n N):=fun hB=>hB.old hb2;clear C0 C1 C2 C3 C4 C5 C6 C7 C8 P0 P1 P2 S0 S1 S2 S3 S4 S5 HST HA hb2;have N7:w.heap.size≠gs∧w.heap.size≠gs+1∧w.heap.size+1≠gs∧w.heap.size+1≠gs+1∧w.heap.size+1+1≠gs∧w.heap.size+1+1≠gs+1∧w.heap.size+1+1+1≠gs∧w.heap.size+1+1+1≠gs+1:=by have:=HGX.out.1;omega
  obtain⟨M1,M2,M3,M4,M5,M6,M7,M8⟩:=N7;obtain⟨⟨C0,C1,C2,C3,C4,C5,C6,C7,C8⟩,P0,P1,P2⟩:=HS2.out.fr.cells;obtain⟨R0,R1,R2,R3,R4,R5⟩:=HS2.out.fr.r.facts;obtain⟨O0,O1⟩:=BBx.facts HS2.out.fr.o;have N1:gs≠w.heap.size+1+1:=by have:=HGX.out.1;omega
  have N2:gs≠w.heap.size+1+1+1:=by have:=HGX.out.1;omega
  have N3:gs+1≠w.heap.size+1+1:=by have:=HGX.out.1;omega
  have N4:gs+1≠w.heap.size+1+1+1:=by have:=HGX.out.1;omega
  rcases hpa with⟨v,d,rfl,rfl,hv⟩|⟨rfl,rfl⟩
  ·obtain⟨vx,vy,rfl,hvx,hvy⟩:=hv;have hvx':=hvx;have hvy':=hvy;obtain⟨o1,o2,o3,o4,rfl,o5⟩:=hvx;obtain⟨r1,r2,r3,r4,rfl,r5⟩:=hvy;have NX:=HS2.out.next (q':=d) ⟨HGX.out.1,rfl,rfl⟩ hvx' hvy';have KP2:Hid (BitsAt W' g3 g4 n N→BitsAt (sumW W2 gs (gs+1) (.slice o1 o2 o3) (.slice r1 r2 r3) d.inf true) g3 g4 n N):=fun hB=>bitsAt_sum (KP.out hB) HS2.out.sum HS2.out.ok (by omega) ⟨HNE.out.1,HNE.out.2.1⟩ _ _ _ _;have KO2:Hid (KeepsOthers W' (sumW W2 gs (gs+1) (.slice o1 o2 o3) (.slice r1 r2 r3) d.inf true)):=KO.out.trans (sumW_keeps _ _ _ _ _ _ _);have HN:Hid (MSt w w.heap.size gs (gs+1) #[.int .i64 g1,.int .i64 g2,.slice oo lo co,.slice a1 a2 a3,.slice b1 b2 b3,.slice d1 d2 d3,.slice e1 e2 e3,.slice f1 f2 f3,.slice j1 j2 j3] #[.slice k1 k2 k3,.slice l1 l2 l3,.bool P.inf] K P L o1 r1 o2 o3 r2 r3 d (sumW W2 gs (gs+1) (.slice o1 o2 o3) (.slice r1 r2 r3) d.inf true)):=NX;have HR:Hid (AddZ K q q (some d)):=hr;clear hr hvx' hvy' o5 r5 NX KP KO HS2
   cases z2 with
   | false=>
    gi_wp2
    exact⟨KO2.out,KP2.out,o1,r1,o2,o3,r2,r3,d,(MF_snoc K P pre (z1,false) d).2 ⟨q,HMF.out,some d,HR.out,.inr ⟨d,rfl,rfl⟩⟩,HN.out⟩
   | true =>
    have HA2:=Add_pt _ (.agg #[.slice o1 o2 o3,.slice r1 r2 r3,.bool d.inf]) (.agg #[.slice k1 k2 k3,.slice l1 l2 l3,.bool P.inf]) K d P L (sumW W2 gs (gs+1) (.slice o1 o2 o3) (.slice r1 r2 r3) d.inf true) HN.out.cu ⟨_,_,rfl,HN.out.sx,HN.out.sy⟩ HN.out.pp HLL.out
    gi_wp2_with fail
    refine⟨trivial,?_⟩;refine(CallsIn.inRound l (callsIn_wide.2 HA2)).mono ?_;clear C0 C1 C2 C3 C4 C5 C6 C7 C8 P0 P1 P2 T0 T1 T2 T3 T4 T5 U0 U1 R0 R1 R2 R3 R4 R5 O0 O1;rintro e W4 ⟨r,hr,hb4,hpa⟩;have HS4:Hid (MSt w w.heap.size gs (gs+1) #[.int .i64 g1,.int .i64 g2,.slice oo lo co,.slice a1 a2 a3,.slice b1 b2 b3,.slice d1 d2 d3,.slice e1 e2 e3,.slice f1 f2 f3,.slice j1 j2 j3] #[.slice k1 k2 k3,.slice l1 l2 l3,.bool P.inf] K P L o1 r1 o2 o3 r2 r3 d W4):=HN.out.old hb4;obtain⟨T0,T1,T2,T3,T4,T5⟩:=HS4.out.sum.facts;obtain⟨U0,U1⟩:=HS4.out.ok.facts;obtain⟨R0,R1,R2,R3,R4,R5⟩:=HS4.out.fr.r.facts;obtain⟨O0,O1⟩:=BBx.facts HS4.out.fr.o;have KO4:Hid (KeepsOthers W' W4):=KO2.out.trans (KeepsOthers.of_below hb4);have KP4:Hid (BitsAt W' g3 g4 n N→BitsAt W4 g3 g4 n N):=fun hB=>(KP2.out hB).old hb4;clear hb4 HN KO2 KP2 HA2;rcases hpa with⟨v,d',rfl,rfl,hv⟩|⟨rfl,rfl⟩
    ·obtain⟨vx,vy,rfl,hvx,hvy⟩:=hv;have hvx':=hvx;have hvy':=hvy;obtain⟨t1,t2,t3,t4,rfl,t5⟩:=hvx;obtain⟨u1,u2,u3,u4,rfl,u5⟩:=hvy;have NX:=HS4.out.next (q':=d') ⟨HGX.out.1,rfl,rfl⟩ hvx' hvy';have KP5:Hid (BitsAt W' g3 g4 n N→BitsAt (sumW W4 gs (gs+1) (.slice t1 t2 t3) (.slice u1 u2 u3) d'.inf true) g3 g4 n N):=fun hB=>bitsAt_sum (KP4.out hB) HS4.out.sum HS4.out.ok (by omega) ⟨HNE.out.1,HNE.out.2.1⟩ _ _ _ _;have KO5:Hid (KeepsOthers W' (sumW W4 gs (gs+1) (.slice t1 t2 t3) (.slice u1 u2 u3) d'.inf true)):=KO4.out.trans (sumW_keeps _ _ _ _ _ _ _);have HN5:Hid (MSt w w.heap.size gs (gs+1) #[.int .i64 g1,.int .i64 g2,.slice oo lo co,.slice a1 a2 a3,.slice b1 b2 b3,.slice d1 d2 d3,.slice e1 e2 e3,.slice f1 f2 f3,.slice j1 j2 j3] #[.slice k1 k2 k3,.slice l1 l2 l3,.bool P.inf] K P L t1 u1 t2 t3 u2 u3 d' (sumW W4 gs (gs+1) (.slice t1 t2 t3) (.slice u1 u2 u3) d'.inf true)):=NX;have HR5:Hid (AddZ K d P (some d')):=hr;clear hr hvx' hvy' t5 u5 NX KP4 KO4 HS4
     gi_wp2
     exact⟨KO5.out,KP5.out,t1,u1,t2,t3,u2,u3,d',(MF_snoc K P pre (z1,true) d').2 ⟨q,HMF.out,some d,HR.out,.inr ⟨d,rfl,HR5.out⟩⟩,HN5.out⟩
    ·have HF:=HS4.out.fails ⟨HGX.out.1,rfl,rfl⟩ (x:=(z1,true)) HMF.out ⟨some d,HR.out,.inr ⟨d,rfl,hr⟩⟩;have HFF:Hid _:=HF;clear HF hr
     gi_wp2
     exact⟨KO4.out.trans HFF.out.1,HFF.out.2⟩
  ·have HF:=HS2.out.fails ⟨HGX.out.1,rfl,rfl⟩ (x:=(z1,z2)) HMF.out ⟨none,hr,.inl ⟨rfl,rfl⟩⟩;have HFF:Hid _:=HF;clear HF hr
   gi_wp2
   exact⟨KO.out.trans HFF.out.1,HFF.out.2⟩
 case done=>
  rintro D ys W' hD hys ⟨x1,y1,x2,x3,y2,y3,q,hmf,hst⟩ hK;have HST:Hid (MSt w w.heap.size gs (gs+1) #[.int .i64 g1,.int .i64 g2,.slice oo lo co,.slice a1 a2 a3,.slice b1 b2 b3,.slice d1 d2 d3,.slice e1 e2 e3,.slice f1 f2 f3,.slice j1 j2 j3] #[.slice k1 k2 k3,.slice l1 l2 l3,.bool P.inf] K P L x1 y1 x2 x3 y2 y3 q W'):=hst;have HMF:Hid (MF K P (bitsOf n N N) q):=by rw[←hys];exact hmf
  have HK:Hid (W'.heap[D]?=some (.deferred (some []))∧W6.heap.size≤D):=⟨hK,hD⟩
  obtain⟨S0,S1,S2,S3,S4,S5⟩:=hst.sum.facts;obtain⟨R0,R1,R2,R3,R4,R5⟩:=hst.fr.r.facts;obtain⟨O0,O1⟩:=BBx.facts hst.fr.o;clear hst hmf hBA HGI hys hK hD;have SS:=sumW_sum HST.out.fr.r (go:=w.heap.size+1+1+1) (by omega) (.slice x1 x2 x3) (.slice y1 y2 y3) q.inf true;have SO:=sumW_ok (gs:=w.heap.size+1+1) HST.out.fr.o (by omega) (.slice x1 x2 x3) (.slice y1 y2 y3) q.inf true;have SX:=nv_sum HST.out.sx HST.out.fr.r HST.out.fr.o (by omega) (.slice x1 x2 x3) (.slice y1 y2 y3) q.inf true;have SY:=nv_sum HST.out.sy HST.out.fr.r HST.out.fr.o (by omega) (.slice x1 x2 x3) (.slice y1 y2 y3) q.inf true;have SB:=sumW_below (gs:=w.heap.size+1+1) (go:=w.heap.size+1+1+1) HST.out.low (by omega) (by omega) (.slice x1 x2 x3) (.slice y1 y2 y3) q.inf true;have SK:=(sumW_keeps W' (w.heap.size+1+1) (w.heap.size+1+1+1) (.slice x1 x2 x3) (.slice y1 y2 y3) q.inf true).same D _ HK.out.1 rfl;have HALL:Hid (_∧_∧_∧_∧_∧_):=⟨SS,SO,SX,SY,SB,SK⟩
  clear SS SO SX SY SB SK
  gi_wp2
  obtain⟨SS,SO,SX,SY,SB,SK⟩:=HALL.out;refine⟨by simp,.inl ⟨_,_,rfl,run_takeDeferred SK,?_⟩⟩;have gk:=grownBy_putObj' (sumW W' (w.heap.size+1+1) (w.heap.size+1+1+1) (.slice x1 x2 x3) (.slice y1 y2 y3) q.inf true) D (.deferred none);have hr:∀r,some D=some r→∃o:Obj,(sumW W' (w.heap.size+1+1) (w.heap.size+1+1+1) (.slice x1 x2 x3) (.slice y1 y2 y3) q.inf true).heap[r]?=some o∧o.isCells=false:=fun r e=>by cases e;exact⟨_,SK,rfl⟩
  refine⟨_,ret_ptb rfl _ _ (w.heap.size+1+1) (w.heap.size+1+1+1) _ _ _ _ rfl rfl (blk_kept SS gk hr) (blk_kept SO gk hr),some q,.inl ⟨q,rfl,by rw[HNN.out];exact HMF.out⟩,SB.trans (belowK_b (w:=w) (Nat.le_refl _) _ D _ _ (by have:=HK.out.2;have:=HNE.out.2.2;omega) SK rfl rfl),.inl ⟨_,q,rfl,rfl,_,_,rfl,SX.kept gk hr,SY.kept gk hr⟩⟩
 case stop=>
  rintro D c pre W' hD hpre ⟨rfl,h1,h2,h3⟩ hK;obtain⟨pre',x,q,rfl,hm,hs⟩:=h3
  gi_wp2
  refine⟨by simp,.inl ⟨_,_,rfl,run_takeDeferred hK,?_⟩⟩;have gk:=grownBy_putObj' W' D (.deferred none);have hr:∀r,some D=some r→∃o:Obj,W'.heap[r]?=some o∧o.isCells=false:=fun r e=>by cases e;exact⟨_,hK,rfl⟩
  exact⟨_,ret_ptb rfl _ _ (w.heap.size+1+1) (w.heap.size+1+1+1) _ _ _ _ rfl rfl (blk_kept h1.1 gk hr) (blk_kept h1.2 gk hr),none,.inr ⟨rfl,pre',x,q,by rw[HNN.out];exact hpre,hm,hs⟩,h2.trans (belowK_b (w:=w) (Nat.le_refl _) _ D _ _ (by have:=HNE.out.2.2;omega) hK rfl rfl),.inr ⟨rfl,rfl⟩⟩
end Go.Proofs.YtcgikjkpbpjgdabGreat
namespace Go.Proofs.YtcgikjkpbpjgdabGreat
structure Dom (P:Nat) [NeZero P]:Prop where
 dom:∀a b:Fin P,a*b=0→a=0∨b=0
 two:∀a:Fin P,a+a=0→a=0
variable {P : Nat} [NeZero P]
theorem Dom.cancel (D:Dom P) {a b c:Fin P} (h:a*b=a*c) (ha:¬a=0):b=c:=by
 have h1:a*(b-c)=0:=by grind
 rcases D.dom _ _ h1 with h2|h2
 ·exact absurd h2 ha
 ·grind
def OnR (A B:Fin P):Option (Fin P × Fin P)→Prop
 | none=>True
 | some (x,y)=>y*y=x*x*x+A*x+B
def LineR (A x1 y1 x2 y2 l:Fin P):Prop:=y2-y1=l*(x2-x1)∧l*(y1+y2)=x1*x1+x1*x2+x2*x2+A
def SumR (A:Fin P):Option (Fin P × Fin P)→Option (Fin P × Fin P)→Option (Fin P × Fin P)→Prop
 | none,q,r=>r=q
 | some p,none,r=>r=some p
 | some (x1,y1),some (x2,y2),r=>(x1=x2∧y1+y2=0∧r=none)∨(¬(x1=x2∧y1+y2=0)∧∃l x3 y3,LineR A x1 y1 x2 y2 l∧x3=l*l-x1-x2∧y3=l*(x1-x3)-y1∧r=some (x3,y3))
def Smooth (A B:Fin P):Prop:=∀x:Fin P,x*x*x+A*x+B=0→x*x+x*x+x*x+A=0→False
theorem zero_of {a b:Fin P} (h:a-b=0):a=b:=by grind
theorem sub_of {a b:Fin P} (h:a=b):a-b=0:=by rw[h];grind
theorem eq_add {a b c:Fin P} (h:a-b=c):a=b+c:=by grind
theorem eq_sub {a b c:Fin P} (h:a=b+c):c=a-b:=by grind
theorem id_on (x1 y1 x2 l:Fin P):(l*(x1-(l*l-x1-x2))-y1)*(l*(x1-(l*l-x1-x2))-y1)=(l*l-x1-x2)*(l*l-x1-x2)*(l*l-x1-x2)+(l*(y1+(y1+l*(x2-x1)))-(x1*x1+x1*x2+x2*x2))*(l*l-x1-x2)+(y1*y1-x1*x1*x1-(l*(y1+(y1+l*(x2-x1)))-(x1*x1+x1*x2+x2*x2))*x1):=by grind
theorem line_on {A B x1 y1 x2 y2 l x3 y3:Fin P} (h1:y1*y1=x1*x1*x1+A*x1+B) (hl:LineR A x1 y1 x2 y2 l) (e3:x3=l*l-x1-x2) (e4:y3=l*(x1-x3)-y1):y3*y3=x3*x3*x3+A*x3+B:=by
 obtain⟨a,b⟩:=hl;obtain rfl:=eq_add a;obtain rfl:=eq_sub b;have hB:B=y1*y1-x1*x1*x1-(l*(y1+(y1+l*(x2-x1)))-(x1*x1+x1*x2+x2*x2))*x1:=by
  clear e3 e4 a b;generalize (l*(y1+(y1+l*(x2-x1)))-(x1*x1+x1*x2+x2*x2))=A at *
  grind
 subst hB;subst e3 e4;exact id_on x1 y1 x2 l
theorem mid_id (x1 x2 x3 y2 l m:Fin P):(y2+y2)*(l-m)-((x1-x2)*(x1+x2+x3-l*l)+(x2-x3)*(x1+x2+x3-m*m))=(l*((y2+l*(x1-x2))+y2)-(x1*x1+x1*x2+x2*x2))-(m*(y2+(y2+m*(x3-x2)))-(x2*x2+x2*x3+x3*x3)):=by grind
theorem mid_eq {A x1 y1 x2 y2 x3 y3 l m:Fin P} (h:LineR A x1 y1 x2 y2 l) (k:LineR A x2 y2 x3 y3 m):(y2+y2)*(l-m)=(x1-x2)*(x1+x2+x3-l*l)+(x2-x3)*(x1+x2+x3-m*m):=by
 obtain⟨a,b⟩:=h;obtain⟨c,d⟩:=k;have e1:y1=y2+l*(x1-x2):=by clear b c d;grind
 have e3:=eq_add c;have e:=mid_id x1 x2 x3 y2 l m;rw[←e1,←e3,b,d]at e;clear a b c d e1 e3
 grind
theorem far_id (x1 x2 x3 y2 l m:Fin P):(l-m)*((y2+m*(x3-x2))-(l*(x2-(l*l-x1-x2))-y2))-(x3-(l*l-x1-x2))*(x1-x3-(l-m)*l)=(y2+y2)*(l-m)-((x1-x2)*(x1+x2+x3-l*l)+(x2-x3)*(x1+x2+x3-m*m)):=by grind
theorem line_comm {A x1 y1 x2 y2 l:Fin P} (h:LineR A x1 y1 x2 y2 l):LineR A x2 y2 x1 y1 l:=by obtain⟨a,b⟩:=h;constructor<;>grind
theorem line_uniq (D:Dom P) {A x1 y1 x2 y2 l m:Fin P} (h:LineR A x1 y1 x2 y2 l) (k:LineR A x1 y1 x2 y2 m) (hn:¬(x1=x2∧y1+y2=0)):l=m:=by
 obtain⟨a,b⟩:=h;obtain⟨c,d⟩:=k;by_cases hx:x1=x2
 ·have hy:¬y1+y2=0:=fun e=>hn ⟨hx,e⟩;exact D.cancel (a:=y1+y2) (by grind) hy
 ·exact D.cancel (a:=x2-x1) (by grind) (fun e=>hx (by grind))
theorem far_eq {A x1 y1 x2 y2 x3 y3 l m x12 y12 g:Fin P} (h:LineR A x1 y1 x2 y2 l) (k:LineR A x2 y2 x3 y3 m) (e12:x12=l*l-x1-x2) (f12:y12=l*(x1-x12)-y1) (hg:y3-y12=g*(x3-x12)):(x3-x12)*(g*(l-m))=(x3-x12)*(x1-x3-(l-m)*l):=by
 have e:=far_id x1 x2 x3 y2 l m;have e0:=mid_eq h k;have e1:y1=y2+l*(x1-x2):=by have a:=h.1;clear h k e12 f12 hg e e0;grind
 have e3:y3=y2+m*(x3-x2):=eq_add k.1;have f:y12=l*(x2-x12)-y2:=by clear h k e12 hg e e0 e3;grind
 rw[←e12,←f,←e3,e0,hg]at e;clear h k e12 f12 hg e0 e1 e3 f
 grind
theorem fin_x {x1 x2 x3 l m t:Fin P} (ht:t*(l-m)=x1-x3):(t-l)*(t-l)-(l*l-x1-x2)-x3=(t-m)*(t-m)-x1-(m*m-x2-x3):=by grind
theorem fin_y {x1 x2 x3 y2 l m t:Fin P} (ht:t*(l-m)=x1-x3):(t-l)*(x3-((t-l)*(t-l)-(l*l-x1-x2)-x3))-(y2+m*(x3-x2))=(t-m)*(x1-((t-m)*(t-m)-x1-(m*m-x2-x3)))-(y2+l*(x1-x2)):=by grind
theorem sum_comm {A:Fin P}:∀ {p q r:Option (Fin P × Fin P)},SumR A p q r→SumR A q p r
 | none,none,r,h=>h
 | none,some q,r,h=>h
 | some p,none,r,h=>h
 | some (x1, y1), some (x2, y2), r, h => by
  rcases h with⟨h1,h2,h3⟩|⟨h0,l,x3,y3,hl,e3,e4,e5⟩
  ·exact .inl ⟨h1.symm,by rw[←h2];grind,h3⟩
  ·refine .inr ⟨fun e=>h0 ⟨e.1.symm,by rw[←e.2];grind⟩,l,x3,y3,line_comm hl,by rw[e3];grind,?_,e5⟩;have a:=hl.1;rw[e4];clear hl e3 e4 e5 h0
   grind
theorem sum_uniq (D:Dom P) {A:Fin P}:∀ {p q r r':Option (Fin P × Fin P)},SumR A p q r→SumR A p q r'→r=r'
 | none,q,r,r',h,k=>h.trans k.symm
 | some p,none,r,r',h,k=>h.trans k.symm
 | some (x1, y1), some (x2, y2), r, r', h, k => by
  rcases h with⟨h1,h2,h3⟩|⟨h0,l,x3,y3,hl,e3,e4,e5⟩
  ·rcases k with⟨k1,k2,k3⟩|⟨k0,_⟩
   ·rw[h3,k3]
   ·exact absurd ⟨h1,h2⟩ k0
  ·rcases k with⟨k1,k2,k3⟩|⟨k0,m,x4,y4,hm,f3,f4,f5⟩
   ·exact absurd ⟨k1,k2⟩ h0
   ·obtain rfl:=line_uniq D hl hm h0;rw[e5,f5,e4,f4,e3,f3]
theorem sum_on {A B:Fin P}:∀ {p q r:Option (Fin P × Fin P)},OnR A B p→OnR A B q→SumR A p q r→OnR A B r
 | none,q,r,hp,hq,h=>by rw[show r=q from h];exact hq
 | some p,none,r,hp,hq,h=>by rw[show r=some p from h];exact hp
 | some (x1, y1), some (x2, y2), r, hp, hq, h => by
  rcases h with⟨h1,h2,h3⟩|⟨h0,l,x3,y3,hl,e3,e4,e5⟩
  ·rw[h3];trivial
  ·rw[e5];exact line_on hp hl e3 e4
theorem claimG (D:Dom P) {A B x1 y1 x2 y2 x3 y3 l m x12 y12:Fin P} {r:Option (Fin P × Fin P)} (o1:y1*y1=x1*x1*x1+A*x1+B) (o3:y3*y3=x3*x3*x3+A*x3+B) (h:LineR A x1 y1 x2 y2 l) (k:LineR A x2 y2 x3 y3 m) (hlm:¬l-m=0) (n23:¬(x2=x3∧y2+y3=0)) (e12:x12=l*l-x1-x2) (f12:y12=l*(x1-x12)-y1) (hs:SumR A (some (x12,y12)) (some (x3,y3)) r):
  ∃g X Y,LineR A x12 y12 x3 y3 g∧X=g*g-x12-x3∧Y=g*(x12-X)-y12∧r=some (X,Y)∧g*(l-m)=x1-x3-(l-m)*l:=by
 have e0:=mid_eq h k;have e1:y1=y2+l*(x1-x2):=by have a:=h.1;clear h k e12 f12 hs e0 o1 o3;grind
 have e3:y3=y2+m*(x3-x2):=eq_add k.1;have f:y12=l*(x2-x12)-y2:=by clear h k e12 hs e0 e3 o1 o3;grind
 by_cases hu:x3-x12=0
 ·have hx:x12=x3:=by clear h k e12 f12 hs e0 e1 e3 f o1 o3;grind
  -- not each other's opposites
  have hn:¬(x12=x3∧y12+y3=0):=fun⟨_,hy⟩=>by
   have h1:(l-m)*(x3-x2)=0:=by
    rw[hx]at f;clear h k e12 f12 hs e0 e1 o1 o3 hu hx
    grind
   rcases D.dom _ _ h1 with h2|h2
   ·exact hlm h2
   have h3:x2=x3:=by clear h k e12 f12 hs e0 e1 e3 f o1 o3 hu hx hy h1;grind
   have h4:y2=y3:=by clear h k e12 f12 hs e0 e1 f o1 o3 hu hx hy h1 h2;grind
   have h5:(y2+y2)*(l-m)=0:=by
    have h6:x1+x2+x3-l*l=0:=by clear h k f12 hs e0 e1 e3 f o1 o3 hy h1 h2 h3 h4;grind
    rw[e0,h6,h3];clear h k f12 hs e0 e1 e3 f o1 o3 hy h1 h2 h3 h4 h6
    grind
   rcases D.dom _ _ h5 with h6|h6
   ·exact n23 ⟨h3,by rw[←h4];exact h6⟩
   ·exact hlm h6
  rcases hs with⟨a,b,_⟩|⟨_,g,X,Y,hl,eX,eY,eR⟩
  ·exact absurd ⟨a,b⟩ hn
  ·refine⟨g,X,Y,hl,eX,eY,eR,?_⟩;have o12:=line_on o1 h e12 f12;have hp:(y12-y3)*(y12+y3)=0:=by
    rw[hx]at o12;clear h k e12 f12 e0 e1 e3 f hl eX eY eR o1 hu hx
    grind
   have hy:y12=y3:=by
    rcases D.dom _ _ hp with h1|h1
    ·exact zero_of h1
    ·exact absurd ⟨hx,h1⟩ hn
   have hg:=hl.2;rw[hx,hy]at hg;have hA:A=m*(y2+y3)-(x2*x2+x2*x3+x3*x3):=by have a:=k.2;clear h k e12 f12 e0 e1 e3 f hl eX eY eR o1 o3 hu hx o12 hp hy hg;grind
   -- 2 y3=(l-m) (x2-x3)
   have h2y:y3+y3=(l-m)*(x2-x3):=by
    rw[hx,hy]at f;clear h k e12 f12 e0 e1 hl eX eY eR o1 o3 hu hx o12 hp hy hg hA
    grind
   have hll:l*l=x1+x2+x3:=by rw[hx]at e12;clear h k f12 e0 e1 e3 f hl eX eY eR o1 o3 hu hx o12 hp hy hg hA h2y;grind
   have hq:¬x2-x3=0:=fun e=>by
    rw[e]at h2y;have h3:y3+y3=0:=by rw[h2y];clear h k e12 f12 e0 e1 e3 f hl eX eY eR o1 o3 hu hx o12 hp hy hg hA h2y hll e;grind
    exact hn ⟨hx,by rw[hy];exact h3⟩
   refine D.cancel (a:=x2-x3) ?_ hq;have h4:(x2-x3)*(g*(l-m))=g*(y3+y3):=by rw[h2y];clear h k e12 f12 e0 e1 e3 f hl eX eY eR o1 o3 hu hx o12 hp hy hg hA h2y hll hq;grind
   rw[h4,hg,hA];have h5:y2+y3=l*(x2-x3):=by rw[hx,hy]at f;clear h k e12 f12 e0 e1 e3 hl eX eY eR o1 o3 hu hx o12 hp hy hg hA h2y hll hq h4;grind
   rw[h5];clear h k e12 f12 e0 e1 e3 f hl eX eY eR o1 o3 hu hx o12 hp hy hg hA h2y hq h4 h5
   grind
 ·rcases hs with⟨a,b,_⟩|⟨_,g,X,Y,hl,eX,eY,eR⟩
  ·exact absurd (by rw[a];clear h k e12 f12 e0 e1 e3 f o1 o3;grind) hu
  ·exact⟨g,X,Y,hl,eX,eY,eR,D.cancel (far_eq h k e12 f12 hl.1) hu⟩
theorem opp_line {A x2 y2 x3 y3 m x23 y23:Fin P} (k:LineR A x2 y2 x3 y3 m) (e:x23=m*m-x2-x3) (f:y23=m*(x2-x23)-y2):LineR A x2 (-y2) x23 y23 (-m):=by
 obtain⟨c,d⟩:=k;have e3:=eq_add c;subst e3;have hA:=eq_sub d;subst hA;subst f;subst e;constructor
 ·clear c d;grind
 ·clear c d;grind
theorem sum_back (D:Dom P) {A B:Fin P} (S:Smooth A B) {x2 y2:Fin P} (o2:y2*y2=x2*x2*x2+A*x2+B):∀ {p3 p23 r:Option (Fin P × Fin P)},SumR A (some (x2,y2)) p3 p23→SumR A (some (x2,-y2)) p23 r→r=p3
 | none, p23, r, h, k => by
  rw[show p23=some (x2,y2) from h]at k;rcases k with⟨_,_,k3⟩|⟨k0,_⟩
  ·exact k3
  ·exact absurd ⟨rfl,by clear o2;grind⟩ k0
 | some (x3, y3), p23, r, h, k => by
  rcases h with⟨h1,h2,h3⟩|⟨h0,m,x23,y23,hl,e3,e4,e5⟩
  ·rw[h3]at k;rw[show r=some (x2,-y2) from k,h1,show -y2=y3 by clear o2;grind]
  ·rw[e5]at k;have hop:=opp_line hl e3 e4;rcases k with⟨k1,k2,_⟩|⟨k0,g,X,Y,hg,eX,eY,eR⟩
   ·exfalso;have hy:y2=0:=D.two _ (by rw[←k1]at e4;clear o2 hl hop e3 e5 h0;grind);have hm:m*m=x2+x2+x3:=by rw[←k1]at e3;clear o2 hl hop e4 e5 h0 k2 hy;grind
    have h3:y3=m*(x3-x2):=by have c:=hl.1;rw[hy]at c;clear o2 hl hop e3 e4 e5 h0 k2 hm;grind
    have h4:m*(m*(x3-x2))=x2*x2+x2*x3+x3*x3+A:=by have d:=hl.2;rw[hy,h3]at d;clear o2 hl hop e3 e4 e5 h0 k2 hm h3;grind
    have h5:(x2+x2+x3)*(x3-x2)=x2*x2+x2*x3+x3*x3+A:=by rw[←hm,←h4];clear o2 hl hop e3 e4 e5 h0 k2 hm h3 h4;grind
    refine S x2 ?_ ?_
    ·rw[←o2,hy];clear o2 hl hop e3 e4 e5 h0 k2 hm h3 h4 h5;grind
    ·clear o2 hl hop e3 e4 e5 h0 k2 hm h3 h4;grind
   ·obtain rfl:=line_uniq D hg hop k0;rw[eR];have hX:X=x3:=by rw[eX,e3];clear o2 hl hop e3 e4 e5 h0 k0 hg eX eY eR;grind
    have hY:Y=y3:=by rw[eY,hX];have c:=hl.1;clear o2 hl hop e3 e4 e5 h0 k0 hg eX eY eR hX;grind
    rw[hX,hY]
theorem sum_assoc (D:Dom P) {A B:Fin P} (S:Smooth A B) {p1 p2 p3 p12 p23 r r':Option (Fin P × Fin P)} (o1:OnR A B p1) (o2:OnR A B p2) (o3:OnR A B p3) (h12:SumR A p1 p2 p12) (h123:SumR A p12 p3 r) (h23:SumR A p2 p3 p23) (h123':SumR A p1 p23 r'):r=r':=by
 match p1,p2,p3,o1,o2,o3,h12,h23 with
 | none,p2,p3,o1,o2,o3,h12,h23=>
  rw[show p12=p2 from h12]at h123;rw[show r'=p23 from h123'];exact sum_uniq D h123 h23
 | some p1,none,p3,o1,o2,o3,h12,h23=>
  rw[show p12=some p1 from h12]at h123;rw[show p23=p3 from h23]at h123';exact sum_uniq D h123 h123'
 | some p1,some p2,none,o1,o2,o3,h12,h23=>
  rw[show p23=some p2 from h23]at h123';have h4:=sum_comm h123;rw[show r=p12 from h4];exact sum_uniq D h12 h123'
 | some (x1, y1), some (x2, y2), some (x3, y3), o1, o2, o3, h12, h23 =>
  have h12c:=h12;have h23c:=h23;rcases h12 with⟨a1,a2,a3⟩|⟨n12,l,x12,y12,hl,e12,f12,rfl⟩
  ·subst a3;rw[show r=some (x3,y3) from h123];obtain rfl:=a1;obtain rfl:y1 = -y2:=by clear o1 o2 o3 h23 h23c h123 h123' h12c;grind
   exact(sum_back D S o2 h23c h123').symm
  rcases h23 with⟨a1,a2,a3⟩|⟨n23,m,x23,y23,hm,e23,f23,rfl⟩
  ·subst a3;rw[show r'=some (x1,y1) from h123'];obtain rfl:=a1;obtain rfl:y3 = -y2:=by clear o1 o2 o3 h12c h123 h123' h23c hl e12 f12;grind
   exact sum_back D S o2 (sum_comm h12c) (sum_comm h123)
  by_cases hlm:l-m=0
  ·have elm:l=m:=zero_of hlm;subst elm;have e0:=mid_eq hl hm;have e1:y1=y2+l*(x1-x2):=by have a:=hl.1;clear o1 o2 o3 hl hm e12 f12 e23 f23 e0 h123 h123' h12c h23c;grind
   have e3:y3=y2+l*(x3-x2):=eq_add hm.1;have hz:(x1-x3)*(x1+x2+x3-l*l)=0:=by clear o1 o2 o3 hl hm e12 f12 e23 f23 e1 e3 h123 h123' h12c h23c;grind
   rcases D.dom _ _ hz with hx|hu
   ·obtain rfl:x1=x3:=zero_of hx;obtain rfl:y1=y3:=by rw[e1,e3]
    have h5:=sum_uniq D (sum_comm h23c) h12c;rw[h5]at h123';exact sum_uniq D h123 (sum_comm h123')
   ·have hx3:x12=x3:=by rw[e12];clear o1 o2 o3 hl hm e12 f12 e23 f23 e0 e1 e3 h123 h123' hz hlm h12c h23c;grind
    have hx1:x1=x23:=by rw[e23];clear o1 o2 o3 hl hm e12 f12 e23 f23 e0 e1 e3 h123 h123' hz hlm hx3 h12c h23c;grind
    have hy3:y12+y3=0:=by rw[f12,hx3,e1,e3];clear o1 o2 o3 hl hm e12 f12 e23 f23 e0 e1 e3 h123 h123' hz hlm hx1 hu h12c h23c hx3;grind
    have hy1:y1+y23=0:=by rw[f23,←hx1,e1];clear o1 o2 o3 hl hm e12 f12 e23 f23 e0 e1 e3 h123 h123' hz hlm hx1 hu hx3 hy3 h12c h23c;grind
    rcases h123 with⟨_,_,b3⟩|⟨b0,_⟩
    ·rcases h123' with⟨_,_,c3⟩|⟨c0,_⟩
     ·rw[b3,c3]
     ·exact absurd ⟨hx1,hy1⟩ c0
    ·exact absurd ⟨hx3,hy3⟩ b0
  ·obtain⟨g,X,Y,hg,eX,eY,eR,hgt⟩:=claimG D o1 o3 hl hm hlm n23 e12 f12 h123;have f23':y23=m*(x3-x23)-y3:=by rw[f23];have c:=hm.1;clear o1 o2 o3 hl hm e12 f12 e23 f23 h123 h123' hg eX eY eR hgt h12c h23c;grind
   obtain⟨d,X',Y',hd,eX',eY',eR',hdt⟩:=claimG D (x1:=x3) (y1:=y3) (x3:=x1) (y3:=y1) (l:=m) (m:=l) o3 o1 (line_comm hm) (line_comm hl) (fun e=>hlm (by clear o1 o2 o3 hl hm e12 f12 e23 f23 h123 h123' hg eX eY eR hgt f23' h12c h23c;grind)) (fun e=>n12 ⟨e.1.symm,by rw[←e.2];clear o1 o2 o3 hl hm e12 f12 e23 f23 h123 h123' hg eX eY eR hgt f23' h12c h23c;grind⟩) (by rw[e23];clear o1 o2 o3 hl hm e12 f12 e23 f23 h123 h123' hg eX eY eR hgt f23' h12c h23c;grind) f23' (sum_comm h123');have ht:(g+l)*(l-m)=x1-x3:=by clear o1 o2 o3 hl hm e12 f12 e23 f23 h123 h123' hg eX eY eR f23' hd eX' eY' eR' hdt h12c h23c;grind
   have hdg:d+m=g+l:=by
    refine D.cancel (a:=l-m) ?_ hlm;clear o1 o2 o3 hl hm e12 f12 e23 f23 h123 h123' hg eX eY eR f23' hd eX' eY' eR' h12c h23c hgt
    grind
   obtain⟨t,htt⟩:∃t,g+l=t:=⟨_,rfl⟩
   rw[htt]at ht hdg;have hg':g=t-l:=by clear o1 o2 o3 hl hm e12 f12 e23 f23 h123 h123' hg eX eY eR f23' hd eX' eY' eR' h12c h23c hgt hdt ht hdg;grind
   have hd':d=t-m:=by clear o1 o2 o3 hl hm e12 f12 e23 f23 h123 h123' hg eX eY eR f23' hd eX' eY' eR' h12c h23c hgt hdt ht htt hg';grind
   have e1:y1=y2+l*(x1-x2):=by have a:=hl.1;clear o1 o2 o3 hl hm e12 f12 e23 f23 h123 h123' h12c h23c hg eX eY eR f23' hd eX' eY' eR' hgt hdt ht htt hg' hdg hd';grind
   have e3:y3=y2+m*(x3-x2):=eq_add hm.1;have hX:X=X':=by
    have:=fin_x (x2:=x2) ht;rw[eX,eX',hg',hd',e12,e23,this];clear o1 o2 o3 hl hm e12 f12 e23 f23 h123 h123' h12c h23c hg eX eY eR f23' hd eX' eY' eR' hgt hdt ht htt hg' hdg hd' e1 e3 this
    grind
   have hY:Y=Y':=by
    have h1:Y=g*(x3-X)-y3:=by rw[eY];have c:=hg.1;clear o1 o2 o3 hl hm e12 f12 e23 f23 h123 h123' h12c h23c hg eX eY eR f23' hd eX' eY' eR' hgt hdt ht htt hg' hdg hd' e1 e3 hX;grind
    have h2:Y'=d*(x1-X')-y1:=by rw[eY'];have c:=hd.1;clear o1 o2 o3 hl hm e12 f12 e23 f23 h123 h123' h12c h23c hg eX eY eR f23' hd eX' eY' eR' hgt hdt ht htt hg' hdg hd' e1 e3 hX h1;grind
    have h3:=fin_y (x2:=x2) (y2:=y2) ht;have h4:X'=(t-m)*(t-m)-x1-(m*m-x2-x3):=by rw[eX',hd',e23];clear o1 o2 o3 hl hm e12 f12 e23 f23 h123 h123' h12c h23c hg eX eY eR f23' hd eX' eY' eR' hgt hdt ht htt hg' hdg hd' e1 e3 hX h1 h2 h3;grind
    have h5:X=(t-l)*(t-l)-(l*l-x1-x2)-x3:=by rw[eX,hg',e12]
    rw[h1,h2,h4,h5,hg',hd',e1,e3];exact h3
   rw[eR,eR',hX,hY]
def fp (P:Nat) [NeZero P] (a:Int):Fin P:=⟨(a%(P:Int)).toNat,by
 have h0:(0:Int)<P:=by have:=Nat.pos_of_ne_zero (NeZero.ne P);omega
 have h1:=Int.emod_lt_of_pos a h0;have h2:=Int.emod_nonneg a (b:=(P:Int)) (by omega);omega⟩
theorem fp_val (P:Nat) [NeZero P] (a:Int):((fp P a).val:Int)=a%P:=by
 have h0:(0:Int)<P:=by have:=Nat.pos_of_ne_zero (NeZero.ne P);omega
 have h2:=Int.emod_nonneg a (b:=(P:Int)) (by omega);show(((a%(P:Int)).toNat:Nat):Int)=_;omega
theorem fp_eq (P:Nat) [NeZero P] {a b:Int}:fp P a=fp P b↔a%P=b%P:=by
 constructor
 ·intro h;rw[←fp_val,←fp_val,h]
 ·intro h;apply Fin.ext;have:=fp_val P a;have:=fp_val P b;omega
theorem fp_mod (P:Nat) [NeZero P] (a:Int):fp P (a%P)=fp P a:=by rw[fp_eq,Int.emod_emod]
theorem fp_add (P:Nat) [NeZero P] (a b:Int):fp P (a+b)=fp P a+fp P b:=by
 apply Fin.ext;have h1:=fp_val P (a+b);have h2:((fp P a+fp P b).val:Int)=((fp P a).val+(fp P b).val:Nat)%P:=by rw[Fin.val_add];simp
 have h3:=fp_val P a;have h4:=fp_val P b;have:((fp P (a+b)).val:Int)=((fp P a+fp P b).val:Int):=by rw[h1,h2,Int.natCast_add,h3,h4,←Int.add_emod]
 omega
theorem fp_mul (P:Nat) [NeZero P] (a b:Int):fp P (a*b)=fp P a*fp P b:=by
 apply Fin.ext;have h1:=fp_val P (a*b);have h2:((fp P a*fp P b).val:Int)=((fp P a).val*(fp P b).val:Nat)%P:=by rw[Fin.val_mul];simp
 have h3:=fp_val P a;have h4:=fp_val P b;have:((fp P (a*b)).val:Int)=((fp P a*fp P b).val:Int):=by rw[h1,h2,Int.natCast_mul,h3,h4,←Int.mul_emod]
 omega
theorem fp_zero (P:Nat) [NeZero P]:fp P 0=0:=by
 apply Fin.ext;have h1:=fp_val P 0;rw[Int.zero_emod]at h1;have:((0:Fin P).val:Int)=0:=by simp
 omega
theorem fp_sub (P:Nat) [NeZero P] (a b:Int):fp P (a-b)=fp P a-fp P b:=by
 have h:=fp_add P (a-b) b;rw[show a-b+b=a by omega]at h;rw[h]
 grind
theorem fp_self (P:Nat) [NeZero P] (x:Fin P):fp P (x.val:Int)=x:=by apply Fin.ext;have h1:=fp_val P (x.val:Int);rw[Int.emod_eq_of_lt (by omega) (by have:=x.isLt;omega)]at h1;omega
def PrimeN (P:Nat):Prop:=∀a b:Nat,P∣a*b→P∣a∨P∣b
theorem fin_zero {P:Nat} [NeZero P] {x:Fin P}:x=0↔P∣x.val:=by
 constructor
 ·intro h;rw[h];exact⟨0,by simp⟩
 ·intro h;apply Fin.ext;have h1:=x.isLt;have:x.val=0:=Nat.eq_zero_of_dvd_of_lt h h1;simpa using this
theorem dom_fin {P:Nat} [NeZero P] (hp:PrimeN P) (h2:P%2=1):Dom P:=by
 refine⟨fun a b h => ?_,fun a h => ?_⟩
 ·have h1:P∣a.val*b.val:=by
   have h3:=congrArg Fin.val h;rw[Fin.val_mul]at h3;exact Nat.dvd_of_mod_eq_zero (by simpa using h3)
  rcases hp _ _ h1 with h3|h3
  ·exact .inl (fin_zero.2 h3)
  ·exact .inr (fin_zero.2 h3)
 ·have h1:P∣a.val+a.val:=by
   have h3:=congrArg Fin.val h;rw[Fin.val_add]at h3;exact Nat.dvd_of_mod_eq_zero (by simpa using h3)
  refine fin_zero.2 ?_;obtain⟨k,hk⟩:=h1;have h5:=a.isLt;have:a.val=0:=by
   rcases k with _|_|k
   ·omega
   ·omega
   ·have h6:P*(k+1+1)=P*k+P+P:=by rw[Nat.mul_add,Nat.mul_add];omega
    omega
  rw[this];exact⟨0,by simp⟩
theorem prime_of {P:Nat} (h:∀a,a<P→a≠0→Nat.gcd P a=1):PrimeN P:=by
 intro a b hab;by_cases h0:a%P=0
 ·exact .inl (Nat.dvd_of_mod_eq_zero h0)
 ·right;rcases Nat.eq_zero_or_pos P with rfl|hP
  ·simp at h0;obtain⟨k,hk⟩:=hab;rw[Nat.zero_mul]at hk;rcases Nat.mul_eq_zero.1 hk with h1|h1
   ·exact absurd h1 h0
   ·rw[h1];exact⟨0,rfl⟩
  ·have hg:=h (a%P) (Nat.mod_lt _ hP) h0;have hc:Nat.gcd P a=1:=by rw[Nat.gcd_rec,Nat.gcd_comm];exact hg
   exact Nat.Coprime.dvd_of_dvd_mul_left hc hab
theorem smooth_of {P:Nat} [NeZero P] {A B:Fin P} (h:¬4*(A*A*A)+27*(B*B)=0):Smooth A B:=by
 intro x h1 h2;apply h;have hA:A = -(x*x+x*x+x*x):=by clear h h1;grind
 have hB:B=x*x*x+x*x*x:=by rw[hA]at h1;clear h h2 hA;grind
 rw[hA,hB];clear h h1 h2 hA hB
 grind
def Invs (P:Nat) [NeZero P]:Prop:=∀a:Fin P,¬a=0→∃b:Fin P,b*a=1
variable {P : Nat} [NeZero P]
theorem line_apart {A B x1 y1 x2 y2 l n:Fin P} (o1:y1*y1=x1*x1*x1+A*x1+B) (o2:y2*y2=x2*x2*x2+A*x2+B) (hn:n*(x2-x1)=1) (hl:l=(y2-y1)*n):LineR A x1 y1 x2 y2 l:=by
 subst hl;refine⟨?_,?_⟩
 ·have e:(y2-y1)*n*(x2-x1)=(y2-y1)*(n*(x2-x1)):=by clear o1 o2 hn;grind
  rw[e,hn];clear o1 o2 hn e
  grind
 ·have e:(y2-y1)*n*(y1+y2)=n*(y2*y2-y1*y1):=by clear o1 o2 hn;grind
  rw[e,o1,o2];have e2:n*(x2*x2*x2+A*x2+B-(x1*x1*x1+A*x1+B))=(n*(x2-x1))*(x1*x1+x1*x2+x2*x2+A):=by clear o1 o2 hn e;grind
  rw[e2,hn];clear o1 o2 hn e e2
  grind
theorem line_same (D:Dom P) {A B x1 y1 x2 y2 l n:Fin P} (o1:y1*y1=x1*x1*x1+A*x1+B) (o2:y2*y2=x2*x2*x2+A*x2+B) (hx:x1=x2) (hy:¬y1+y2=0) (hn:n*(y1+y2)=1) (hl:l=(x1*x1+x1*x1+x1*x1+A)*n):LineR A x1 y1 x2 y2 l:=by
 subst hx;have hd:(y1+y2)*(y2-y1)=(y1+y2)*0:=by
  have:(y1+y2)*(y2-y1)=y2*y2-y1*y1:=by clear o1 o2 hy hn hl;grind
  rw[this,o1,o2];clear o1 o2 hy hn hl this
  grind
 have h0:=D.cancel hd hy;subst hl;refine⟨?_,?_⟩
 ·rw[h0];clear o1 o2 hy hn hd h0
  grind
 ·have e:(x1*x1+x1*x1+x1*x1+A)*n*(y1+y2)=(x1*x1+x1*x1+x1*x1+A)*(n*(y1+y2)):=by clear o1 o2 hy hn hd h0;grind
  rw[e,hn];clear o1 o2 hy hn hd h0 e
  grind
theorem sum_ex (D:Dom P) (I:Invs P) {A B:Fin P}:∀ {p q:Option (Fin P × Fin P)},OnR A B p→OnR A B q→∃r,SumR A p q r
 | none,q,_,_=>⟨q,rfl⟩
 | some p,none,_,_=>⟨some p,rfl⟩
 | some (x1, y1), some (x2, y2), o1, o2 => by
  by_cases h:x1=x2∧y1+y2=0
  ·exact⟨none,.inl ⟨h.1,h.2,rfl⟩⟩
  ·by_cases hx:x1=x2
   ·have hy:¬y1+y2=0:=fun e=>h ⟨hx,e⟩;obtain⟨n,hn⟩:=I _ hy;exact⟨_,.inr ⟨h,_,_,_,line_same D o1 o2 hx hy hn rfl,rfl,rfl,rfl⟩⟩
   ·have hy:¬x2-x1=0:=fun e=>hx (zero_of e).symm;obtain⟨n,hn⟩:=I _ hy;exact⟨_,.inr ⟨h,_,_,_,line_apart o1 o2 hn rfl,rfl,rfl,rfl⟩⟩
def Tm (A:Fin P) (G:Option (Fin P × Fin P)):Nat→Option (Fin P × Fin P)→Prop
 | 0,q=>q=none
 | k+1,r=>∃q,Tm A G k q∧SumR A q G r
theorem Tm.on {A B:Fin P} {G:Option (Fin P × Fin P)} (hG:OnR A B G):∀(k:Nat) (q:Option (Fin P × Fin P)),Tm A G k q→OnR A B q
 | 0,q,h=>by rw[show q=none from h];trivial
 | k+1,r,⟨q,h,hs⟩=>sum_on (Tm.on hG k q h) hG hs
theorem Tm.ex (D:Dom P) (I:Invs P) {A B:Fin P} {G:Option (Fin P × Fin P)} (hG:OnR A B G):∀k,∃q,Tm A G k q
 | 0=>⟨none,rfl⟩
 | k+1=>by
  obtain⟨q,h⟩:=Tm.ex D I hG k;obtain⟨r,hr⟩:=sum_ex D I (Tm.on hG k q h) hG;exact⟨r,q,h,hr⟩
theorem Tm.uniq (D:Dom P) {A:Fin P} {G:Option (Fin P × Fin P)}:∀(k:Nat) (q r:Option (Fin P × Fin P)),Tm A G k q→Tm A G k r→q=r
 | 0,q,r,h,h'=>by rw[show q=none from h,show r=none from h']
 | k+1,q,r,⟨q',h,hs⟩,⟨r',h',hs'⟩=>by
  rw[Tm.uniq D k q' r' h h']at hs;exact sum_uniq D hs hs'
theorem sum_none {A:Fin P}:∀p:Option (Fin P × Fin P),SumR A p none p
 | none=>rfl
 | some _=>rfl
theorem Tm.add (D:Dom P) (I:Invs P) {A B:Fin P} (S:Smooth A B) {G:Option (Fin P × Fin P)} (hG:OnR A B G) (a:Nat) (p:Option (Fin P × Fin P)) (ha:Tm A G a p):∀(b:Nat) (q r:Option (Fin P × Fin P)),Tm A G b q→SumR A p q r→Tm A G (a+b) r
 | 0,q,r,h,hs=>by
  rw[show q=none from h]at hs;rw[←sum_uniq D (sum_none p) hs];exact ha
 | b+1,q,r,⟨q',h,hq⟩,hs=>by
  have o1:=Tm.on hG a p ha;have o2:=Tm.on hG b q' h;obtain⟨s,hs'⟩:=sum_ex D I o1 o2;have h1:=Tm.add D I S hG a p ha b q' s h hs';obtain⟨r',hr'⟩:=sum_ex D I (sum_on o1 o2 hs') hG;have:=sum_assoc D S o1 o2 hG hs' hr' hq hs;subst this;exact⟨s,h1,hr'⟩
theorem Tm.round (D:Dom P) (I:Invs P) {A B:Fin P} (S:Smooth A B) {G:Option (Fin P × Fin P)} (hG:OnR A B G) {N:Nat} (hN:Tm A G N none) {a:Nat} {p:Option (Fin P × Fin P)} (ha:Tm A G a p):Tm A G (a+N) p:=Tm.add D I S hG a p ha N none p hN (sum_none p)
theorem Tm.times (D:Dom P) (I:Invs P) {A B:Fin P} (S:Smooth A B) {G:Option (Fin P × Fin P)} (hG:OnR A B G) {N:Nat} (hN:Tm A G N none):∀k,Tm A G (k*N) none
 | 0=>by rw[Nat.zero_mul];rfl
 | k+1=>by rw[Nat.succ_mul];exact Tm.round D I S hG hN (Tm.times D I S hG hN k)
theorem bez (a b:Nat):∃x y:Int,(Nat.gcd a b:Int)=a*x+b*y:=by
 induction a,b using Nat.gcd.induction with
 | H0 n=>exact⟨0,1,by simp⟩
 | H1 m n hm ih =>
  obtain⟨x,y,h⟩:=ih;refine⟨y-(n/m:Nat)*x,x,?_⟩;rw[Nat.gcd_rec,h];have h1:((n%m:Nat):Int)=n-m*(n/m:Nat):=by
   have:=Nat.div_add_mod n m;have h2:((m*(n/m)+n%m:Nat):Int)=n:=by rw[this]
   rw[Int.natCast_add,Int.natCast_mul]at h2;omega
  rw[h1]
  grind
theorem prime_gcd {P a:Nat} (hp:PrimeN P) (h0:0<a) (ha:a<P):Nat.gcd P a=1:=by
 obtain⟨k,hk⟩:=Nat.gcd_dvd_left P a;have hg:Nat.gcd P a≤a:=Nat.le_of_dvd h0 (Nat.gcd_dvd_right P a);have hd:P∣Nat.gcd P a*k:=⟨1,by omega⟩
 rcases hp _ _ hd with h|h
 ·have h3:0<Nat.gcd P a:=Nat.gcd_pos_of_pos_right _ h0;have:=Nat.le_of_dvd h3 h;omega
 ·have hk0:0<k:=by
   rcases Nat.eq_zero_or_pos k with e|e
   ·rw[e,Nat.mul_zero]at hk;omega
   ·exact e
  have h4:=Nat.le_of_dvd hk0 h;have h5:0<Nat.gcd P a:=Nat.gcd_pos_of_pos_right _ h0;generalize Nat.gcd P a=g at *;rcases g with _|_|g
  ·omega
  ·rfl
  ·have h6:(g+1+1)*k=g*k+k+k:=by rw[Nat.add_mul,Nat.add_mul];omega
   have h7:0≤g*k:=Nat.zero_le _;omega
theorem fp_one (P:Nat) [NeZero P]:fp P 1=1:=by
 apply Fin.ext;have h1:=fp_val P 1;have h2:((1:Fin P).val:Int)=((1%P:Nat):Int):=rfl;rw[Int.natCast_emod]at h2;have:((fp P 1).val:Int)=((1:Fin P).val:Int):=by rw[h1,h2];rfl
 omega
theorem invs_fin {P:Nat} [NeZero P] (hp:PrimeN P):Invs P:=by
 intro a ha;have h0:0<a.val:=by
  rcases Nat.eq_zero_or_pos a.val with e|e
  ·exact absurd (Fin.ext (by simpa using e)) ha
  ·exact e
 have hg:=prime_gcd hp h0 a.isLt;obtain⟨x,y,h⟩:=bez P a.val;rw[hg]at h;refine⟨fp P y,?_⟩;have h1:fp P y*a=fp P (y*a.val):=by rw[fp_mul,fp_self]
 rw[h1,←fp_one P,fp_eq];have h2:y*(a.val:Int)=1+P*(-x):=by grind
 rw[h2,Int.add_mul_emod_self_left]
structure GoodK (K:Cz) (P:Nat) [NeZero P]:Prop where
 p:K.p=(P:Int)
 prime:PrimeN P
 odd:P%2=1
 smooth:Smooth (fp P K.a) (fp P K.b)
def ptR (P:Nat) [NeZero P] (p:Pz):Option (Fin P × Fin P):=if p.inf then none else some (fp P p.x,fp P p.y)
def RdP (P:Nat) (p:Pz):Prop:=if p.inf then p=noZ else 0≤p.x∧p.x<P∧0≤p.y∧p.y<P
def Gd (K:Cz) (P:Nat) [NeZero P] (p:Pz):Prop:=RdP P p∧OnR (fp P K.a) (fp P K.b) (ptR P p)
theorem RdP.own {P:Nat} {p:Pz} (h:RdP P p):ownZ p=p:=by
 unfold RdP at h;unfold ownZ
 cases hi:p.inf with
 | true=>rw[hi,if_pos rfl]at h;rw[if_pos rfl,h]
 | false=>rw[if_neg (by simp)]
theorem RdP.no {P:Nat}:RdP P noZ:=by unfold RdP noZ;rw[if_pos rfl]
theorem gd_prime {P:Nat} (hp:PrimeN P) (a:Int) (h0:0<a) (h1:a<P):gd P (a%P)=1:=by rw[Int.emod_eq_of_lt (by omega) h1];unfold gd;rw[show((P:Int)).toNat=P by omega,prime_gcd hp (by omega) (by omega)];rfl
section
variable {P : Nat} [NeZero P] {K : Cz}
theorem ppos (P:Nat) [NeZero P]:(0:Int)<P:=by have:=Nat.pos_of_ne_zero (NeZero.ne P);omega
theorem ptR_no:ptR P noZ=none:=by unfold ptR noZ;rw[if_pos rfl]
theorem ptR_inj {p q:Pz} (hp:RdP P p) (hq:RdP P q) (h:ptR P p=ptR P q):p=q:=by
 unfold RdP at hp hq;unfold ptR at h
 cases hpi:p.inf with
 | true=>
  rw[hpi,if_pos rfl]at hp
  cases hqi:q.inf with
  | true=>rw[hqi,if_pos rfl]at hq;rw[hp,hq]
  | false=>rw[hpi,hqi,if_pos rfl,if_neg (by simp)]at h;cases h
 | false =>
  cases hqi:q.inf with
  | true=>rw[hpi,hqi,if_pos rfl,if_neg (by simp)]at h;cases h
  | false=>
   rw[hpi,hqi,if_neg (by simp),if_neg (by simp)]at h;rw[hpi,if_neg (by simp)]at hp;rw[hqi,if_neg (by simp)]at hq;have h1:=congrArg (fun o=>o.map Prod.fst) h;have h2:=congrArg (fun o=>o.map Prod.snd) h;simp only[Option.map_some,Option.some.injEq]at h1 h2;rw[fp_eq,Int.emod_eq_of_lt hp.1 hp.2.1,Int.emod_eq_of_lt hq.1 hq.2.1]at h1;rw[fp_eq,Int.emod_eq_of_lt hp.2.2.1 hp.2.2.2,Int.emod_eq_of_lt hq.2.2.1 hq.2.2.2]at h2;obtain⟨px,py,pi⟩:=p;obtain⟨qx,qy,qi⟩:=q;simp only at h1 h2 hpi hqi;rw[h1,h2,hpi,hqi]
theorem sum_fp (g:GoodK K P) (p q:Pz) (s:Int):fp P (sumX K p q s)=fp P s*fp P s-fp P p.x-fp P q.x∧fp P (sumY K p q s)=fp P s*(fp P p.x-fp P (sumX K p q s))-fp P p.y:=by
 refine⟨?_,?_⟩
 ·unfold sumX;rw[g.p];simp only[fp_mod,fp_sub,fp_mul]
 ·unfold sumY;rw[g.p];simp only[fp_mod,fp_sub,fp_mul]
theorem sum_rd (g:GoodK K P) (p q:Pz) (s:Int):RdP P ⟨sumX K p q s,sumY K p q s,false⟩:=by have h:=ppos P;unfold RdP sumY;rw[if_neg (by simp)];simp only;unfold sumX;rw[g.p];exact⟨Int.emod_nonneg _ (by omega),Int.emod_lt_of_pos _ h,Int.emod_nonneg _ (by omega),Int.emod_lt_of_pos _ h⟩
theorem inv_fp {n a:Int} (h:Cg P (n*a) 1):fp P n*fp P a=1:=by rw[←fp_mul,←fp_one P,fp_eq];exact h.emod
theorem add_good (g:GoodK K P) {p q:Pz} {r:Option Pz} (h:AddZ K p q r) (hp:Gd K P p) (hq:Gd K P q):∃s,r=some s∧RdP P s∧SumR (fp P K.a) (ptR P p) (ptR P q) (ptR P s):=by
 have hP:=ppos P;have D:=dom_fin g.prime g.odd;obtain⟨rp,op⟩:=hp;obtain⟨rq,oq⟩:=hq;unfold AddZ at h;rw[if_neg (by rw[g.p];omega)]at h
 cases hpi:p.inf with
 | true=>
  rw[hpi,if_pos rfl,rq.own]at h;exact⟨q,h,rq,by rw[show ptR P p=none by unfold ptR;rw[if_pos hpi]];rfl⟩
 | false =>
  rw[hpi,if_neg (by simp)]at h
  cases hqi:q.inf with
  | true=>
   rw[hqi,if_pos rfl,rp.own]at h;exact⟨p,h,rp,by rw[show ptR P q=none by unfold ptR;rw[if_pos hqi]];exact sum_none _⟩
  | false =>
   rw[hqi,if_neg (by simp)]at h;have ep:ptR P p=some (fp P p.x,fp P p.y):=by unfold ptR;rw[hpi,if_neg (by simp)]
   have eq:ptR P q=some (fp P q.x,fp P q.y):=by unfold ptR;rw[hqi,if_neg (by simp)]
   have es:∀x y,ptR P ⟨x,y,false⟩=some (fp P x,fp P y):=fun x y=>by unfold ptR;rw[if_neg (by simp)]
   rw[ep]at op ⊢;rw[eq]at oq ⊢;unfold AddN at h;have ex:fp P q.x-fp P p.x=fp P ((q.x-p.x)%K.p):=by rw[g.p,fp_mod,fp_sub]
   have ey:fp P p.y+fp P q.y=fp P ((p.y+q.y)%K.p):=by rw[g.p,fp_mod,fp_add]
   by_cases hx:(q.x-p.x)%K.p=0
   ·have hru:runZ K p q=(p.y+q.y)%K.p:=by unfold runZ;rw[if_neg (by simp[hx])]
    have hri:riseZ K p q=((3*((p.x*p.x)%K.p))%K.p+K.a)%K.p:=by unfold riseZ;rw[if_neg (by simp[hx])]
    have hxx:fp P p.x=fp P q.x:=(zero_of (by rw[ex,hx,fp_zero])).symm;by_cases hy:runZ K p q=0
    ·rw[if_pos hy]at h;exact⟨noZ,h,RdP.no,by rw[ptR_no];exact .inl ⟨hxx,by rw[ey,←hru,hy,fp_zero],rfl⟩⟩
    ·rw[if_neg hy]at h;have h1:0≤runZ K p q:=by rw[hru,g.p];exact Int.emod_nonneg _ (by omega)
     have h2:runZ K p q<P:=by rw[hru,g.p];exact Int.emod_lt_of_pos _ hP
     rw[g.p,if_neg (by rw[gd_prime g.prime _ (by omega) h2];simp),←g.p]at h;obtain⟨n,hn0,hn1,hn,rfl⟩:=h;rw[g.p]at hn;have hnn:=inv_fp hn;have hy':¬fp P p.y+fp P q.y=0:=fun e=>by rw[ey,←hru,←fp_zero P,fp_eq,Int.zero_emod,Int.emod_eq_of_lt h1 h2]at e;exact hy e
     rw[hru,←ey]at hnn;have hl:=line_same D op oq hxx hy' hnn rfl;have el:fp P ((riseZ K p q*n)%K.p)=(fp P p.x*fp P p.x+fp P p.x*fp P p.x+fp P p.x*fp P p.x+fp P K.a)*fp P n:=by
      rw[hri,g.p];simp only[fp_mod,fp_mul,fp_add];have:fp P 3=1+1+1:=by rw[show(3:Int)=1+1+1 by rfl,fp_add,fp_add,fp_one]
      rw[this]
      grind
     rw[←el]at hl;obtain⟨e1,e2⟩:=sum_fp g p q ((riseZ K p q*n)%K.p);exact⟨_,rfl,sum_rd g p q _,by rw[es];exact .inr ⟨fun e=>hy' e.2,_,_,_,hl,e1,e2,rfl⟩⟩
   ·have hru:runZ K p q=(q.x-p.x)%K.p:=by unfold runZ;rw[if_pos hx]
    have hri:riseZ K p q=(q.y-p.y)%K.p:=by unfold riseZ;rw[if_pos hx]
    have hy:runZ K p q≠0:=by rw[hru];exact hx
    rw[if_neg hy]at h;have h1:0≤runZ K p q:=by rw[hru,g.p];exact Int.emod_nonneg _ (by omega)
    have h2:runZ K p q<P:=by rw[hru,g.p];exact Int.emod_lt_of_pos _ hP
    rw[g.p,if_neg (by rw[gd_prime g.prime _ (by omega) h2];simp),←g.p]at h;obtain⟨n,hn0,hn1,hn,rfl⟩:=h;rw[g.p]at hn;have hnn:=inv_fp hn;rw[hru,←ex]at hnn;have hx':¬fp P p.x=fp P q.x:=fun e=>by rw[fp_eq]at e;apply hx;rw[g.p,Int.sub_emod,e,Int.sub_self,Int.zero_emod]
    have hl:=line_apart op oq hnn rfl;have el:fp P ((riseZ K p q*n)%K.p)=(fp P q.y-fp P p.y)*fp P n:=by rw[hri,g.p];simp only[fp_mod,fp_mul,fp_sub]
    rw[←el]at hl;obtain⟨e1,e2⟩:=sum_fp g p q ((riseZ K p q*n)%K.p);exact⟨_,rfl,sum_rd g p q _,by rw[es];exact .inr ⟨fun e=>hx' e.1,_,_,_,hl,e1,e2,rfl⟩⟩
def Mt (K:Cz) (P:Nat) [NeZero P] (G:Pz) (m:Nat) (q:Pz):Prop:=RdP P q∧Tm (fp P K.a) (ptR P G) m (ptR P q)
theorem Mt.gd {G:Pz} (hG:Gd K P G) {m:Nat} {q:Pz} (h:Mt K P G m q):Gd K P q:=⟨h.1,Tm.on hG.2 m _ h.2⟩
theorem Mt.uniq (g:GoodK K P) {G:Pz} {m:Nat} {q q':Pz} (h:Mt K P G m q) (h':Mt K P G m q'):q=q':=ptR_inj h.1 h'.1 (Tm.uniq (dom_fin g.prime g.odd) m _ _ h.2 h'.2)
theorem Mt.zero {G:Pz}:Mt K P G 0 noZ:=⟨RdP.no,ptR_no⟩
theorem Mt.add (g:GoodK K P) {G:Pz} (hG:Gd K P G) {a b:Nat} {p q:Pz} {r:Option Pz} (ha:Mt K P G a p) (hb:Mt K P G b q) (h:AddZ K p q r):∃s,r=some s∧Mt K P G (a+b) s:=by obtain⟨s,hs,h1,h2⟩:=add_good g h (ha.gd hG) (hb.gd hG);exact⟨s,hs,h1,Tm.add (dom_fin g.prime g.odd) (invs_fin g.prime) g.smooth hG.2 a _ ha.2 b _ _ hb.2 h2⟩
theorem Mt.one (g:GoodK K P) {G:Pz} (hG:Gd K P G):Mt K P G 1 G:=⟨hG.1,none,rfl,rfl⟩
def nb (m:Nat) (x:Int × Bool):Nat:=2*m+if x.2 then 1 else 0
theorem step_good (g:GoodK K P) {G:Pz} (hG:Gd K P G) {m:Nat} {q:Pz} (hq:Mt K P G m q) (x:Int × Bool) {r:Option Pz} (h:stepR K G x.2 q r):∃s,r=some s∧Mt K P G (nb m x) s:=by
 obtain⟨d,hd,h⟩:=h;obtain⟨e,he,he2⟩:=Mt.add g hG hq hq hd;rcases h with⟨h1,_⟩|⟨e',h1,h2⟩
 ·rw[h1]at he;cases he
 ·rw[h1]at he
  cases he
  unfold nb
  cases hx:x.2 with
  | true=>
   rw[hx,if_pos rfl]at h2;rw[if_pos rfl,Nat.two_mul];exact Mt.add g hG he2 (Mt.one g hG) h2
  | false=>
   rw[hx,if_neg (by simp)]at h2;rw[if_neg (by simp),Nat.two_mul];exact⟨_,h2,he2⟩
theorem fold_good (g:GoodK K P) {G:Pz} (hG:Gd K P G):∀(l:List (Int × Bool)) (m:Nat) (S:Pz→Prop),(∀q,S q→Mt K P G m q)→∀q,l.foldl (fun S x=>fun q'=>∃q,S q∧stepR K G x.2 q (some q')) S q→Mt K P G (l.foldl nb m) q
 | [],m,S,hS,q,h=>hS q h
 | x::l,m,S,hS,q,h=>by
  refine fold_good g hG l (nb m x) _ ?_ q h;rintro q' ⟨q0,h0,h1⟩;obtain⟨s,e,hs⟩:=step_good g hG (hS q0 h0) x h1
  cases e
  exact hs
theorem mf_good (g:GoodK K P) {G:Pz} (hG:Gd K P G) (l:List (Int × Bool)) (q:Pz) (h:MF K G l q):Mt K P G (l.foldl nb 0) q:=fold_good g hG l 0 _ (by rintro q rfl;exact Mt.zero) q h
theorem nb_bits (V:Int) (h0:0≤V) (L:Nat) (hL:V<2^L):∀k,k≤L→(((bitsOf V L k).foldl nb 0:Nat):Int)=V/2^(L-k)
 | 0,_=>by
  rw[Nat.sub_zero,Int.ediv_eq_zero_of_lt h0 hL];rfl
 | k + 1, hk => by
  have ih:=nb_bits V h0 L hL k (by omega);rw[bitsOf_succ,List.foldl_append];have e:L-k=(L-(k+1))+1:=by omega
  have e2:L-1-k=L-(k+1):=by omega
  rw[e,Int.pow_succ,←Int.ediv_ediv_of_nonneg (by exact Int.le_of_lt (Int.pow_pos (by decide)))]at ih;show((nb _ (bitOf V L k):Nat):Int)=_;unfold nb bitOf;rw[e2];simp only;obtain⟨Y,hY⟩:∃Y,V/2^(L-(k+1))=Y:=⟨_,rfl⟩
  have hb:bitAt V (L-(k+1))=Y%2:=by unfold bitAt;rw[hY]
  rw[hY]at ih ⊢;rw[hb];obtain⟨m,hm⟩:∃m,List.foldl nb 0 (bitsOf V L k)=m:=⟨_,rfl⟩
  rw[hm]at ih;have hq:Y%2=0∨Y%2=1:=by omega
  rw[show List.foldl (fun m x=>2*m+if x.2=true then 1 else 0) 0 (bitsOf V L k)=m from hm];rcases hq with h|h
  ·rw[h,if_neg (by decide)];omega
  ·rw[h,if_pos (by decide)];omega
theorem mul_good (g:GoodK K P) {G:Pz} (hG:Gd K P G) {n:Nat} {r:Option Pz} (h:MulZ K G (bitsOf (n:Int) (blen n) (blen n)) r):∃s,r=some s∧Mt K P G n s:=by
 rcases h with⟨q,rfl,hq⟩|⟨rfl,pre,x,q,_,hq,hs⟩
 ·have h1:=mf_good g hG _ q hq;have h2:=nb_bits (n:Int) (by omega) (blen n) (by exact_mod_cast blen_lt n) (blen n) (Nat.le_refl _);rw[Nat.sub_self,Int.pow_zero,Int.ediv_one]at h2;rw[show(bitsOf (n:Int) (blen n) (blen n)).foldl nb 0=n by omega]at h1;exact⟨q,rfl,h1⟩
 ·obtain⟨s,e,_⟩:=step_good g hG (mf_good g hG pre q hq) x hs
  cases e
theorem Mt.round (g:GoodK K P) {G:Pz} (hG:Gd K P G) {N:Nat} (hN:Mt K P G N noZ) {a:Nat} {p:Pz} (h:Mt K P G a p):Mt K P G (a+N) p:=⟨h.1,Tm.round (dom_fin g.prime g.odd) (invs_fin g.prime) g.smooth hG.2 (by have:=hN.2;rw[ptR_no]at this;exact this) h.2⟩
theorem Mt.times (g:GoodK K P) {G:Pz} (hG:Gd K P G) {N:Nat} (hN:Mt K P G N noZ) (k:Nat):Mt K P G (k*N) noZ:=⟨RdP.no,by rw[ptR_no];exact Tm.times (dom_fin g.prime g.odd) (invs_fin g.prime) g.smooth hG.2 (by have:=hN.2;rw[ptR_no]at this;exact this) k⟩
end
end Go.Proofs.YtcgikjkpbpjgdabGreat
