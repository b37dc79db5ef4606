import Derived.Test.YtcgikjkpbpjgdabGreatK03
import Derived.Test.YtcgikjkpbpjgdabGreatK02
import Derived.Test.YtcgikjkpbpjgdabGreatK00
set_option maxRecDepth 100000
set_option maxHeartbeats 40000000
set_option linter.unusedVariables false
set_option linter.unusedSimpArgs false
namespace Go.Proofs.YtcgikjkpbpjgdabGreat
open Go.Shelf Go.RowKit
theorem pair_new (w:World) (cv pv:Array Value) (t t':TypeId):((w.alloc (.cells cv t)).alloc (.cells pv t')).heap[w.heap.size]?=some (.cells cv t (0,0))∧((w.alloc (.cells cv t)).alloc (.cells pv t')).heap[w.heap.size+1]?=some (.cells pv t' (0,0))∧Below w.heap.size w ((w.alloc (.cells cv t)).alloc (.cells pv t')):=by have z1:=alloc_sz7 w (.cells cv t);have n1:=heap_alloc_new w (.cells cv t);have n2:=heap_alloc_new (w.alloc (.cells cv t)) (.cells pv t');rw[z1]at n2;exact⟨heap_new n1 (by omega),n2,((Below.refl w.heap.size w).alloc (Nat.le_refl _) _).alloc (by omega) _⟩
theorem blk_old {W W':World} {k:Nat} {o:Obj} (h:W.heap[k]?=some o) (hb:Below W.heap.size W W'):W'.heap[k]?=some o:=(hb.block _ (Array.getElem?_eq_some_iff.1 h).1).trans h
def baseZ (K:Cz):Pz:=⟨K.gx,K.gy,false⟩
theorem Base_any (c:Value) (K:Cz) (L:Nat) (w:World) (hc:Cu w c K L):
  Calls Tryz.prog 114 #[c] w fun e w'=>∃v,e=.returned v∧Pv w' v (baseZ K) L∧Below w.heap.size w w':=by
 obtain⟨g1,g2,oo,lo,co,vp,va,vb,vx,vy,vn,rfl,c1,c2,c3,c4,c5,c6⟩:=hc;have HO:=fun W (hW:Below w.heap.size w W)=>own_any (.agg #[vx,vy,.bool false]) (baseZ K) L W ⟨vx,vy,rfl,c4.old hW,c5.old hW⟩;obtain⟨a1,a2,a3,a4,rfl,a5⟩:=c1;obtain⟨b1,b2,b3,b4,rfl,b5⟩:=c2;obtain⟨d1,d2,d3,d4,rfl,d5⟩:=c3;obtain⟨e1,e2,e3,e4,rfl,e5⟩:=c4;obtain⟨f1,f2,f3,f4,rfl,f5⟩:=c5;obtain⟨j1,j2,j3,j4,rfl,j5⟩:=c6;go_enter Tryz.func114,Tryz.ntmps114;go_wp2_with fail
 obtain⟨_,n2,hb⟩:=pair_new w #[.int .i64 g1,.int .i64 g2,.slice oo lo co,.slice a1 a2 a3,.slice b1 b2 b3,.slice d1 d2 d3,.slice e1 e2 e3,.slice f1 f2 f3,.slice j1 j2 j3] #[.slice none 0 0,.slice none 0 0,.bool false] 55 35;go_at_call 141;refine(HO _ hb).mono ?_;rintro e w2 ⟨v,rfl,hv,hb2⟩;have s2:PSl w2 (w.heap.size+1) (.slice none 0 0) (.slice none 0 0) (.bool false):=blk_old n2 hb2;obtain⟨y0,y1,y2,y3,y4,y5⟩:=s2.facts;obtain⟨ux,uy,rfl,⟨o1,o2,o3,o4,rfl,o5⟩,⟨r1,r2,r3,r4,rfl,r5⟩⟩:=hv;go_wp2;refine bodyPost_ret (ret_pt1 rfl _ _ (w.heap.size+1) _ _ _ rfl (s2.set3 (.slice o1 o2 o3) (.slice r1 r2 r3) (.bool (ownZ (baseZ K)).inf))) rfl ?_;have bt:=Bt.set3 w2 (w.heap.size+1) (.slice o1 o2 o3) (.slice r1 r2 r3) (.bool (ownZ (baseZ K)).inf);have B2:=hb.trans (hb2.mono hb.size);exact⟨_,rfl,⟨_,_,rfl,Nv.apart ⟨o1,o2,o3,o4,rfl,o5⟩ s2 bt,Nv.apart ⟨r1,r2,r3,r4,rfl,r5⟩ s2 bt⟩,B2.trans (bt.below (by omega) B2.size)⟩
def rightZ (K:Cz) (x:Int):Int:=((x*(((x*x)%K.p+K.a)%K.p))%K.p+K.b)%K.p
theorem right_any (c v:Value) (K:Cz) (x:Int) (L:Nat) (w:World) (hc:Cu w c K L) (hv:Nv w v x L) (h0:K.p≠0) (hL:1≤L∧L≤1000):
  Calls Tryz.prog 109 #[c,v] w fun e w'=>∃v,e=.returned v∧Na w w' v (rightZ K x) L:=by
 obtain⟨g1,g2,oo,lo,co,vp,va,vb,vx,vy,vn,rfl,c1,c2,c3,c4,c5,c6⟩:=hc;obtain⟨a1,a2,a3,a4,rfl,a5⟩:=c1;obtain⟨b1,b2,b3,b4,rfl,b5⟩:=c2;obtain⟨d1,d2,d3,d4,rfl,d5⟩:=c3;obtain⟨e1,e2,e3,e4,rfl,e5⟩:=c4;obtain⟨f1,f2,f3,f4,rfl,f5⟩:=c5;obtain⟨j1,j2,j3,j4,rfl,j5⟩:=c6;obtain⟨k1,k2,k3,k4,rfl,k5⟩:=hv;obtain⟨n1,n2,hb⟩:=pair_new w #[.int .i64 g1,.int .i64 g2,.slice oo lo co,.slice a1 a2 a3,.slice b1 b2 b3,.slice d1 d2 d3,.slice e1 e2 e3,.slice f1 f2 f3,.slice j1 j2 j3] #[.slice a1 a2 a3] 55 177;obtain⟨W,hW⟩:∃W,(w.alloc (.cells #[.int .i64 g1,.int .i64 g2,.slice oo lo co,.slice a1 a2 a3,.slice b1 b2 b3,.slice d1 d2 d3,.slice e1 e2 e3,.slice f1 f2 f3,.slice j1 j2 j3] 55)).alloc (.cells #[.slice a1 a2 a3] 177)=W:=⟨_,rfl⟩
 rw[hW]at n1 n2 hb;have HK:=fun(W':World) (hW':Below W.heap.size W W')=>(show W'.cell? ⟨w.heap.size+1,0,none⟩=some (.slice a1 a2 a3)∧W'.cell? ⟨w.heap.size,4,none⟩=some (.slice b1 b2 b3)∧W'.cell? ⟨w.heap.size,5,none⟩=some (.slice d1 d2 d3) from by
  refine⟨?_,?_,?_⟩
  ·rw[cell_of_row _ _ _ _ _ _ (blk_old n2 hW')];rfl
  ·rw[cell_of_row _ _ _ _ _ _ (blk_old n1 hW')];rfl
  ·rw[cell_of_row _ _ _ _ _ _ (blk_old n1 hW')];rfl)
 have VP:=fun(W':World) (hW':Below W.heap.size W W')=>(show Nv W' (.slice a1 a2 a3) K.p L∧Nv W' (.slice b1 b2 b3) K.a L∧Nv W' (.slice d1 d2 d3) K.b L∧Nv W' (.slice k1 k2 k3) x L from by have B:=hb.trans (hW'.mono hb.size);exact⟨Nv.old ⟨a1,a2,a3,a4,rfl,a5⟩ B,Nv.old ⟨b1,b2,b3,b4,rfl,b5⟩ B,Nv.old ⟨d1,d2,d3,d4,rfl,d5⟩ B,Nv.old ⟨k1,k2,k3,k4,rfl,k5⟩ B⟩)
 have K3:=HK W (Below.refl _ _);have K4:=HK W.drew (Below.refl _ _).drew;have V4:=VP W.drew (Below.refl _ _).drew;have H1:=product_any (.slice k1 k2 k3) (.slice k1 k2 k3) (.slice a1 a2 a3) x x K.p L L W.drew V4.2.2.2 V4.2.2.2 V4.1 h0 (by omega);have H2:=fun(W':World) (hW':Below W.heap.size W W') v n (hv:Nv W' v n L)=>plus_any v (.slice b1 b2 b3) (.slice a1 a2 a3) n K.a K.p L L W' hv (VP W' hW').2.1 (VP W' hW').1 h0 (by omega);have H3:=fun(W':World) (hW':Below W.heap.size W W') v n (hv:Nv W' v n L)=>product_any (.slice k1 k2 k3) v (.slice a1 a2 a3) x n K.p L L W' (VP W' hW').2.2.2 hv (VP W' hW').1 h0 (by omega);have H4:=fun(W':World) (hW':Below W.heap.size W W') v n (hv:Nv W' v n L)=>plus_any v (.slice d1 d2 d3) (.slice a1 a2 a3) n K.b K.p L L W' hv (VP W' hW').2.2.1 (VP W' hW').1 h0 (by omega);obtain⟨RZ,hRZ⟩:∃r,rightZ K x=r:=⟨_,rfl⟩
 have HRZ:Hid (rightZ K x=RZ):=hRZ;rw[hRZ];have HW:Hid (_=W):=hW;have T1:True:=trivial;have T2:True:=trivial;clear hW hRZ V4;go_enter Tryz.func109,Tryz.ntmps109;go_wp2_with fail
 rw[HW.out];go_region_held3 (fun W=>W.cell? ⟨w.heap.size+1,0,none⟩=some (.slice a1 a2 a3)∧W.cell? ⟨w.heap.size,4,none⟩=some (.slice b1 b2 b3)∧W.cell? ⟨w.heap.size,5,none⟩=some (.slice d1 d2 d3))
  (first|exact K3|exact K4|exact K5|exact K6|exact K7|exact K8) (first
  | (go_at_call 108;clear T1;refine H1.mono ?_;rintro e w5 ⟨v5,rfl,hv5,hb5⟩;have C5:=((Below.refl W.heap.size W).drew).trans (hb5.mono (Nat.le_refl _));have K5:=HK w5 C5;have H22:=H2 w5 C5 v5 _ hv5;obtain⟨o1,o2,o3,o4,rfl,o5⟩:=hv5)
  | (go_at_call 135;clear T2;refine H22.mono ?_;rintro e w6 ⟨v6,rfl,hv6,hb6⟩;have C6:=C5.trans (hb6.mono C5.size);have K6:=HK w6 C6;have H32:=H3 w6 C6 v6 _ hv6;obtain⟨u1,u2,u3,u4,rfl,u5⟩:=hv6)
  | (go_at_call 108;refine H32.mono ?_;rintro e w7 ⟨v7,rfl,hv7,hb7⟩;have C7:=C6.trans (hb7.mono C6.size);have K7:=HK w7 C7;have H42:=H4 w7 C7 v7 _ hv7;obtain⟨y1,y2,y3,y4,rfl,y5⟩:=hv7)
  | (go_at_call 135;refine H42.mono ?_;rintro e w8 ⟨v8,rfl,hv8,hb8⟩;have C8:=C7.trans (hb8.mono C7.size);have K8:=HK w8 C8;have hv8':=hv8;obtain⟨z1,z2,z3,z4,rfl,z5⟩:=hv8))
 go_wp2;go_ret;refine⟨_,rfl,?_,hb.trans (C8.mono hb.size)⟩;rw[←HRZ.out];exact hv8'
def onB (K:Cz) (P:Pz):Bool:=decide (K.p≠0)&&(P.inf||(decide (P.x<K.p)&&(decide (P.y<K.p)&&decide ((P.y*P.y)%K.p=rightZ K P.x))))
theorem cmp_nv (a b:Value) (x y:Int) (L:Nat) (w:World) (ha:Nv w a x L) (hb:Nv w b y L):Calls Tryz.prog 42 #[a,b] w fun e w'=>e=.returned (.int .i64 (cmpI x y))∧Below w.heap.size w w':=by obtain⟨ao,la,ca,xs,rfl,h1,rfl,h2⟩:=ha;obtain⟨bo,lb,cb,ys,rfl,k1,rfl,k2⟩:=hb;refine(Cmp_any ao bo la ca lb cb xs ys w h1 k1).mono ?_;rintro e w' ⟨rfl,k,rfl⟩;exact⟨rfl,drew7 _ _⟩
theorem On_any (c p:Value) (K:Cz) (P:Pz) (L:Nat) (w:World) (hc:Cu w c K L) (hp:Pv w p P L) (hL:1≤L∧L≤1000):
  Calls Tryz.prog 84 #[c,p] w fun e w'=>e=.returned (.bool (onB K P))∧Below w.heap.size w w':=by
 have HCU:=hc;obtain⟨g1,g2,oo,lo,co,vp,va,vb,vx,vy,vn,rfl,c1,c2,c3,c4,c5,c6⟩:=hc;obtain⟨px,py,rfl,p1,p2⟩:=hp;have HR:=fun(h0:K.p≠0) W (hW:Below w.heap.size w W)=>right_any _ px K P.x L W (HCU.old hW) (p1.old hW) h0 hL;have HM:=fun(h0:K.p≠0) W (hW:Below w.heap.size w W)=>product_any py py vp P.y P.y K.p L L W (p2.old hW) (p2.old hW) (c1.old hW) h0 (by omega);have HBX:=fun W (hW:Below w.heap.size w W)=>isBelow_any px vp P.x K.p L W (p1.old hW) (c1.old hW);have HBY:=fun W (hW:Below w.heap.size w W)=>isBelow_any py vp P.y K.p L W (p2.old hW) (c1.old hW);have HZ:=fun W (hW:Below w.heap.size w W)=>isZero_any vp K.p L W (c1.old hW);clear HCU;obtain⟨a1,a2,a3,a4,rfl,a5⟩:=c1;obtain⟨b1,b2,b3,b4,rfl,b5⟩:=c2;obtain⟨d1,d2,d3,d4,rfl,d5⟩:=c3;obtain⟨e1,e2,e3,e4,rfl,e5⟩:=c4;obtain⟨f1,f2,f3,f4,rfl,f5⟩:=c5;obtain⟨j1,j2,j3,j4,rfl,j5⟩:=c6;obtain⟨k1,k2,k3,k4,rfl,k5⟩:=p1;obtain⟨l1,l2,l3,l4,rfl,l5⟩:=p2;obtain⟨n1,n2,hb⟩:=pair_new w #[.int .i64 g1,.int .i64 g2,.slice oo lo co,.slice a1 a2 a3,.slice b1 b2 b3,.slice d1 d2 d3,.slice e1 e2 e3,.slice f1 f2 f3,.slice j1 j2 j3] #[.slice k1 k2 k3,.slice l1 l2 l3,.bool P.inf] 55 35;obtain⟨W,hW⟩:∃W,(w.alloc (.cells #[.int .i64 g1,.int .i64 g2,.slice oo lo co,.slice a1 a2 a3,.slice b1 b2 b3,.slice d1 d2 d3,.slice e1 e2 e3,.slice f1 f2 f3,.slice j1 j2 j3] 55)).alloc (.cells #[.slice k1 k2 k3,.slice l1 l2 l3,.bool P.inf] 35)=W:=⟨_,rfl⟩
 rw[hW]at n1 n2 hb;have HK:=fun(W':World) (hW':Below W.heap.size W W')=>(show(W'.cell? ⟨w.heap.size,0,none⟩=some (.int .i64 g1)∧W'.cell? ⟨w.heap.size,1,none⟩=some (.int .i64 g2)∧W'.cell? ⟨w.heap.size,2,none⟩=some (.slice oo lo co)∧W'.cell? ⟨w.heap.size,3,none⟩=some (.slice a1 a2 a3)∧W'.cell? ⟨w.heap.size,4,none⟩=some (.slice b1 b2 b3)∧W'.cell? ⟨w.heap.size,5,none⟩=some (.slice d1 d2 d3)∧W'.cell? ⟨w.heap.size,6,none⟩=some (.slice e1 e2 e3)∧W'.cell? ⟨w.heap.size,7,none⟩=some (.slice f1 f2 f3)∧W'.cell? ⟨w.heap.size,8,none⟩=some (.slice j1 j2 j3))∧W'.cell? ⟨w.heap.size+1,0,none⟩=some (.slice k1 k2 k3)∧W'.cell? ⟨w.heap.size+1,1,none⟩=some (.slice l1 l2 l3)∧W'.cell? ⟨w.heap.size+1,2,none⟩=some (.bool P.inf) from by
  refine⟨⟨?_,?_,?_,?_,?_,?_,?_,?_,?_⟩,?_,?_,?_⟩;all_goals first
   | (rw[cell_of_row _ _ _ _ _ _ (blk_old n1 hW')];rfl)
   | (rw[cell_of_row _ _ _ _ _ _ (blk_old n2 hW')];rfl))
 have HZW:=HZ W hb;have HW:Hid (_=W):=hW;have HBB:Hid (Below w.heap.size w W):=hb;clear hW HZ;unfold onB;by_cases h0:K.p=0
 ·have hd:decide (K.p=0)=true:=by simp[h0]
  have hd2:decide (K.p≠0)=false:=by simp[h0]
  rw[hd]at HZW;rw[hd2];go_enter Tryz.func84,Tryz.ntmps84;go_wp2_with (go_at_call 106;rw[HW.out];refine HZW.mono ?_;rintro e w2 ⟨rfl,rfl⟩)
  go_ret;exact⟨rfl,HBB.out⟩
 have hd:decide (K.p=0)=false:=by simp[h0]
 have hd2:decide (K.p≠0)=true:=by simp[h0]
 rw[hd]at HZW;rw[hd2];obtain⟨⟨x0,x1,x2,x3,x4,x5,x6,x7,x8⟩,x9,x10,x11⟩:=HK W (Below.refl _ _)
 cases hpi:P.inf with
 | true=>
  rw[hpi]at HW x11;go_enter Tryz.func84,Tryz.ntmps84;go_wp2_with (go_at_call 106;rw[HW.out];refine HZW.mono ?_;rintro e w2 ⟨rfl,rfl⟩)
  go_ret;exact⟨rfl,HBB.out⟩
 | false =>
  rw[hpi]at HW x11 HK;have HXW:=HBX W hb;obtain⟨BX,hBX⟩:∃b,decide (P.x<K.p)=b:=⟨_,rfl⟩
  obtain⟨BY,hBY⟩:∃b,decide (P.y<K.p)=b:=⟨_,rfl⟩
  rw[hBX]at HXW ⊢;rw[hBY]at HBY ⊢;have HKB:Hid (∀w3,Below W.heap.size W w3→Below w.heap.size w w3):=fun w3 h=>HBB.out.trans (h.mono HBB.out.size)
  cases BX with
  | false =>
   clear HR HM HBY HBX;go_enter Tryz.func84,Tryz.ntmps84;go_wp2_with (first
    | (go_at_call 106;rw[HW.out];refine HZW.mono ?_;rintro e w2 ⟨rfl,rfl⟩)
    | (go_at_call 107;refine HXW.mono ?_;rintro e w3 ⟨rfl,hb3⟩))
   go_ret;exact⟨rfl,HKB.out _ hb3⟩
  | true =>
   cases BY with
   | false =>
    clear HR HM HBX;have T1:True:=trivial;go_enter Tryz.func84,Tryz.ntmps84;go_wp2_with (first
     | (go_at_call 106;rw[HW.out];refine HZW.mono ?_;rintro e w2 ⟨rfl,rfl⟩)
     | (go_at_call 107;clear T1;refine HXW.mono ?_;rintro e w3 ⟨rfl,hb3⟩;obtain⟨⟨z0,z1,z2,z3,z4,z5,z6,z7,z8⟩,z9,z10,z11⟩:=HK w3 hb3)
     | (go_at_call 107;refine(HBY w3 (HKB.out _ hb3)).mono ?_;rintro e w4 ⟨rfl,hb4⟩))
    go_ret;have B3:=HKB.out _ hb3;exact⟨rfl,B3.trans (hb4.mono B3.size)⟩
   | true =>
    clear HBX;have T1:True:=trivial;go_enter Tryz.func84,Tryz.ntmps84;go_wp2_with (first
     | (go_at_call 106;rw[HW.out];refine HZW.mono ?_;rintro e w2 ⟨rfl,rfl⟩)
     | (go_at_call 107;clear T1;refine HXW.mono ?_;rintro e w3 ⟨rfl,hb3⟩;obtain⟨⟨z0,z1,z2,z3,z4,z5,z6,z7,z8⟩,z9,z10,z11⟩:=HK w3 hb3)
     | (go_at_call 107;refine(HBY w3 (HKB.out _ hb3)).mono ?_;rintro e w4 ⟨rfl,hb4⟩;have C4:=hb3.trans (hb4.mono hb3.size);clear x0 x1 x2 x3 x4 x5 x6 x7 x8 x9 x10 x11 z0 z1 z2 z3 z4 z5 z6 z7 z8 z9 z10 z11;obtain⟨⟨x0,x1,x2,x3,x4,x5,x6,x7,x8⟩,x9,x10,x11⟩:=HK w4 C4))
    have L3:=HK w4 C4;have D4:=C4.drew;have L4:=HK w4.drew D4;have H1:=HM h0 w4.drew (HKB.out _ D4);have H2:=fun W' hW'=>HR h0 W' (HKB.out W' hW');have B4:Hid (Below w2.heap.size w2 w4):=C4;obtain⟨YY,hYY⟩:∃y,(P.y*P.y)%K.p=y:=⟨_,rfl⟩
    obtain⟨RR,hRR⟩:∃y,rightZ K P.x=y:=⟨_,rfl⟩
    rw[hYY]at H1;simp only[hRR]at H2;have hcm:∀z,cmpI YY RR=z→decide (z=0)=decide (YY=RR):=by
     rintro z rfl;unfold cmpI;by_cases q:YY<RR
     ·have:YY≠RR:=by omega
      simp[q,this]
     ·rw[if_neg q];by_cases q2:RR<YY
      ·have:YY≠RR:=by omega
       simp[q2,this]
      ·have:YY=RR:=by omega
       simp[this]
    obtain⟨CZ,hCZ⟩:∃z,cmpI YY RR=z:=⟨_,rfl⟩
    have HF:Hid (decide (CZ=0)=decide ((P.y*P.y)%K.p=rightZ K P.x)):=by rw[hYY,hRR];exact hcm CZ hCZ
    clear hcm x0 x1 x2 x3 x4 x5 x6 x7 x8 x9 x10 x11 hYY hRR;go_region_held3 (fun W'=>(W'.cell? ⟨w.heap.size,0,none⟩=some (.int .i64 g1)∧W'.cell? ⟨w.heap.size,1,none⟩=some (.int .i64 g2)∧W'.cell? ⟨w.heap.size,2,none⟩=some (.slice oo lo co)∧W'.cell? ⟨w.heap.size,3,none⟩=some (.slice a1 a2 a3)∧W'.cell? ⟨w.heap.size,4,none⟩=some (.slice b1 b2 b3)∧W'.cell? ⟨w.heap.size,5,none⟩=some (.slice d1 d2 d3)∧W'.cell? ⟨w.heap.size,6,none⟩=some (.slice e1 e2 e3)∧W'.cell? ⟨w.heap.size,7,none⟩=some (.slice f1 f2 f3)∧W'.cell? ⟨w.heap.size,8,none⟩=some (.slice j1 j2 j3))∧W'.cell? ⟨w.heap.size+1,0,none⟩=some (.slice k1 k2 k3)∧W'.cell? ⟨w.heap.size+1,1,none⟩=some (.slice l1 l2 l3)∧W'.cell? ⟨w.heap.size+1,2,none⟩=some (.bool false))
     (first|exact L3|exact L4|exact L5|exact L6|exact L7) (first
     | (go_at_call 108;refine H1.mono ?_;rintro e w5 ⟨v5,rfl,hv5,hb5⟩;have C5:=D4.trans (hb5.mono D4.size);have L5:=HK w5 C5;have H22:=H2 w5 C5;have hv5':=hv5;obtain⟨o1,o2,o3,o4,rfl,o5⟩:=hv5)
     | (go_at_call 109;refine H22.mono ?_;rintro e w6 ⟨v6,rfl,hv6,hb6⟩;have C6:=C5.trans (hb6.mono C5.size);have L6:=HK w6 C6;have H33:=cmp_nv _ v6 YY RR L w6 (hv5'.old hb6) hv6;rw[hCZ]at H33;obtain⟨u1,u2,u3,u4,rfl,u5⟩:=hv6)
     | (go_at_call 42;refine H33.mono ?_;rintro e w7 ⟨rfl,hb7⟩;have C7:=C6.trans (hb7.mono C6.size);have L7:=HK w7 C7))
    go_wp2;go_ret;refine⟨?_,HKB.out _ C7⟩;rw[←HF.out];simp;rfl
theorem em_sub (a b m:Int):(a%m-b)%m=(a-b)%m:=((Cg.mod m a).sub (Cg.refl m b)).emod
def dX (m:Int) (p q:Pz) (s:Int):Int:=(s*s-p.x-q.x)%m
def dY (m:Int) (p q:Pz) (s:Int):Int:=(s*((p.x-dX m p q s)%m)-p.y)%m
theorem dX_sum (K:Cz) (p q:Pz) (s:Int):sumX K p q s=dX K.p p q s:=by unfold sumX dX;rw[em_sub,((((Cg.mod K.p (s*s)).sub (Cg.refl K.p p.x))).sub (Cg.refl K.p q.x)).emod]
theorem dY_sum (K:Cz) (p q:Pz) (s:Int):sumY K p q s=dY K.p p q s:=by unfold sumY dY;rw[dX_sum,em_sub]
section
variable {P : Nat} [NeZero P] {K : Cz}
theorem good_p0 (g:GoodK K P):K.p≠0:=by rw[g.p];have:=ppos P;omega
theorem gd_rng {p:Pz} (h:Gd K P p) (hi:p.inf=false):0≤p.x∧p.x<P∧0≤p.y∧p.y<P:=by
 have:=h.1;unfold RdP at this
 rwa [hi,if_neg (by simp)]at this
theorem gd_on {p:Pz} (h:Gd K P p) (hi:p.inf=false):fp P p.y*fp P p.y=fp P p.x*fp P p.x*fp P p.x+fp P K.a*fp P p.x+fp P K.b:=by have:=h.2;rw[show ptR P p=some (fp P p.x,fp P p.y) by unfold ptR;rw[hi,if_neg (by simp)]]at this;exact this
theorem same_x (g:GoodK K P) {p q:Pz} (hp:Gd K P p) (hq:Gd K P q) (hpi:p.inf=false) (hqi:q.inf=false) (hx:(p.x-q.x)%K.p=0):p.x=q.x∧(p.y=q.y∨(p.y+q.y)%K.p=0):=by
 have hP:=ppos P;have rp:=gd_rng hp hpi;have rq:=gd_rng hq hqi;rw[g.p]at hx ⊢;have hxx:p.x=q.x:=by
  have h1:=Int.emod_add_mul_ediv (p.x-q.x) P;rw[hx]at h1;obtain⟨k,hk⟩:∃k,(p.x-q.x)/(P:Int)=k:=⟨_,rfl⟩
  rw[hk]at h1;by_cases k0:k=0
  ·subst k0;omega
  ·exfalso;by_cases k1:1≤k
   ·have:(P:Int)*1≤P*k:=Int.mul_le_mul_of_nonneg_left k1 (by omega);omega
   ·have:(P:Int)*k≤P*(-1):=Int.mul_le_mul_of_nonneg_left (by omega) (by omega);omega
 refine⟨hxx,?_⟩;have o1:=gd_on hp hpi;have o2:=gd_on hq hqi;rw[hxx,←o2]at o1;by_cases h:fp P p.y+fp P q.y=0
 ·right;rw[←fp_add,←fp_zero P,fp_eq,Int.zero_emod]at h;exact h
 ·left;have D:=dom_fin g.prime g.odd;have e:fp P p.y=fp P q.y:=by
   have h2:(fp P p.y+fp P q.y)*fp P p.y=(fp P p.y+fp P q.y)*fp P q.y:=by
    clear hx hxx rp rq hP D o2 h hp hq;generalize fp P p.y=a at *;generalize fp P q.y=b at *
    grind
   exact D.cancel h2 h
  rw[fp_eq,Int.emod_eq_of_lt rp.2.2.1 rp.2.2.2,Int.emod_eq_of_lt rq.2.2.1 rq.2.2.2]at e;exact e
theorem gdP (g:GoodK K P) (a:Int) (h:a%K.p≠0):gd K.p (a%K.p)=1∧gd K.p (a%K.p%K.p)=1:=by have hP:=ppos P;rw[g.p]at h ⊢;have h1:=Int.emod_nonneg a (b:=(P:Int)) (by omega);have h2:=Int.emod_lt_of_pos a hP;rw[Int.emod_emod];have:=gd_prime g.prime (a%P) (by omega) h2;rw[Int.emod_emod]at this;exact⟨this,this⟩
theorem neg_zero_em {a b m:Int}:(a-b)%m=0↔(b-a)%m=0:=by rw[←Int.dvd_iff_emod_eq_zero,←Int.dvd_iff_emod_eq_zero];exact⟨fun⟨k,h⟩=>⟨-k,by rw[Int.mul_neg];omega⟩,fun⟨k,h⟩=>⟨-k,by rw[Int.mul_neg];omega⟩⟩
theorem add_apart (g:GoodK K P) {p q:Pz} (hpi:p.inf=false) (hqi:q.inf=false) (hx:(p.x-q.x)%K.p≠0) {i:Int} (h0:0≤i) (h1:i<K.p) (hc:Cg K.p (i*((q.x-p.x)%K.p)) 1):
  AddZ K p q (some ⟨dX K.p p q (((q.y-p.y)%K.p*i)%K.p),dY K.p p q (((q.y-p.y)%K.p*i)%K.p),false⟩):=by
 have hx':(q.x-p.x)%K.p≠0:=fun e=>hx (neg_zero_em.1 e);have er:runZ K p q=(q.x-p.x)%K.p:=by unfold runZ;rw[if_pos hx']
 have ei:riseZ K p q=(q.y-p.y)%K.p:=by unfold riseZ;rw[if_pos hx']
 unfold AddZ;rw[if_neg (good_p0 g),hpi,hqi,if_neg (by simp),if_neg (by simp)];unfold AddN;rw[er,if_neg hx',if_neg (by rw[(gdP g _ hx').2];simp),ei];exact⟨i,h0,h1,hc,by rw[dX_sum,dY_sum]⟩
theorem add_void (g:GoodK K P) {p q:Pz} (hpi:p.inf=false) (hqi:q.inf=false) (hx:(p.x-q.x)%K.p=0) (hy:(p.y+q.y)%K.p=0):AddZ K p q (some noZ):=by
 have hx':¬(q.x-p.x)%K.p≠0:=fun e=>e (neg_zero_em.1 hx);unfold AddZ;rw[if_neg (good_p0 g),hpi,hqi,if_neg (by simp),if_neg (by simp)];unfold AddN;have er:runZ K p q=(p.y+q.y)%K.p:=by unfold runZ;rw[if_neg hx']
 rw[er,if_pos hy]
theorem add_twice (g:GoodK K P) {p q:Pz} (hp:Gd K P p) (hq:Gd K P q) (hpi:p.inf=false) (hqi:q.inf=false) (hx:(p.x-q.x)%K.p=0) (hy:(p.y+q.y)%K.p≠0) {i u:Int} (h0:0≤i) (h1:i<K.p) (hc:Cg K.p (i*((p.y+p.y)%K.p)) 1) (hu:Cg K.p u (3*(p.x*p.x)+K.a)):
  (p.y+p.y)%K.p≠0∧AddZ K p q (some ⟨dX K.p p q ((u%K.p*i)%K.p),dY K.p p q ((u%K.p*i)%K.p),false⟩):=by
 have hx':¬(q.x-p.x)%K.p≠0:=fun e=>e (neg_zero_em.1 hx);obtain⟨hxx,hyy⟩:=same_x g hp hq hpi hqi hx;have hyy:p.y=q.y:=by rcases hyy with h|h;exact h;exact absurd h hy
 have ey:p.y+p.y=p.y+q.y:=by rw[←hyy]
 rw[ey]at hc ⊢;refine⟨hy,?_⟩;have er:runZ K p q=(p.y+q.y)%K.p:=by unfold runZ;rw[if_neg hx']
 have ei:riseZ K p q%K.p=u%K.p:=by unfold riseZ;rw[if_neg hx'];refine((?_:Cg K.p _ _).trans hu.symm).emod;exact(Cg.mod K.p _).trans (((Cg.mod K.p _).trans ((Cg.refl K.p 3).mul (Cg.mod K.p _))).add (Cg.refl K.p _))
 have ei2:riseZ K p q%K.p=riseZ K p q:=by unfold riseZ;rw[if_neg hx',Int.emod_emod]
 unfold AddZ;rw[if_neg (good_p0 g),hpi,hqi,if_neg (by simp),if_neg (by simp)];unfold AddN;rw[er,if_neg hy,if_neg (by rw[(gdP g _ hy).2];simp),←ei2,ei];exact⟨i,h0,h1,hc,by rw[dX_sum,dY_sum]⟩
theorem add_twice_ne (g:GoodK K P) {p q:Pz} (hp:Gd K P p) (hq:Gd K P q) (hpi:p.inf=false) (hqi:q.inf=false) (hx:(p.x-q.x)%K.p=0) (hy:(p.y+q.y)%K.p≠0):(p.y+p.y)%K.p≠0:=by
 obtain⟨hxx,hyy⟩:=same_x g hp hq hpi hqi hx;have hyy:p.y=q.y:=by rcases hyy with h|h;exact h;exact absurd h hy
 rw[show p.y+p.y=p.y+q.y by rw[←hyy]];exact hy
end
end Go.Proofs.YtcgikjkpbpjgdabGreat
namespace Go.Proofs.YtcgikjkpbpjgdabGreat
open Go.RowKit
def InvPost (w:World) (m A:Int) (e:Ending) (w':World):Prop:=w'=w∧((gd m A≠1∧e=.returned (.tuple #[.int .i64 0,.bool false]))∨(gd m A=1∧∃n,0≤n∧n<m∧Cg m (n*A) 1∧e=.returned (.tuple #[.int .i64 n,.bool true])))
theorem rInv_any (a m:Int) (w:World) (hm:0<m) (hm2:m<2147483648) (ha : -8589934592<a) (ha2:a<8589934592):
  Calls Tryz.prog 58 #[.int .i64 a,.int .i64 m] w (InvPost w m (a%m)):=by
 obtain⟨A,hA⟩:∃A,a%m=A:=⟨_,rfl⟩
 have hA0:0≤A:=by rw[←hA];exact Int.emod_nonneg _ (by omega)
 have hA1:A<m:=by rw[←hA];exact Int.emod_lt_of_pos _ hm
 have hg:=gm_eq (a:=a) hm;have ht1:=Int.lt_tmod_of_pos a hm;have ht2:=Int.tmod_lt_of_pos a hm;rw[hA]at hg ⊢;obtain⟨T,hT⟩:∃T,a.tmod m=T:=⟨_,rfl⟩
 rw[hT]at hg ht1 ht2;have hwT:IntKind.i64.wrap T=T:=IntWalk.i64_in _ (by omega);have hwS:IntKind.i64.wrap (T+m)=T+m:=IntWalk.i64_in _ (by omega);have hwA:IntKind.i64.wrap A=A:=IntWalk.i64_in _ (by omega);have hm0:m≠0:=by omega
 have hm1:(m==0)=false:=by simp;omega
 have HI:Hid (Iv m A m A 0 1∧0<m∧m<2147483648∧0≤A):=⟨Iv.start hm hA0 hA1,hm,hm2,hA0⟩
 have HA2:Hid (a%m=A):=hA;clear hA;go_enter Tryz.func58,Tryz.ntmps58;go_wp2_with fail
 clear hT hg ht1 ht2 hwT hwS hwA hA0 hA1 ha ha2;go_loopw [6,7,8,9] (fun vr vs vx vy wr=>∃(r s x y:Int),vr=.int .i64 r∧vs=.int .i64 s∧vx=.int .i64 x∧vy=.int .i64 y∧Iv m A r s x y∧wr=w) (fun _ vs _ _ _=>(intOf vs).toNat)
 case atStart=>exact⟨m,A,0,1,rfl,rfl,rfl,rfl,HI.out.1,rfl⟩
 case round=>
  obtain⟨r,s,x,y,rfl,rfl,rfl,rfl,hI,rfl⟩:=hrel;have HII:Hid (Iv m A r s x y):=hI;by_cases hs:s=0
  ·subst hs;obtain⟨hd,hn⟩:=iv_done hI hm HI.out.2.2.2;obtain⟨G,hG⟩:∃G,gd m A=G:=⟨_,rfl⟩
   have HG:Hid (gd m A=G):=hG;rw[hG]at hd hn;subst hd;have bx:=hI.bx;by_cases h1:r=1
   ·subst h1;obtain⟨n1,n2,n3⟩:=hn rfl;have hgx:=gm_eq (a:=x) hm;have ht1:=Int.lt_tmod_of_pos x hm;have ht2:=Int.tmod_lt_of_pos x hm;obtain⟨N,hN⟩:∃N,x%m=N:=⟨_,rfl⟩
    rw[hN]at hgx n1 n2 n3;obtain⟨T,hT⟩:∃T,x.tmod m=T:=⟨_,rfl⟩
    rw[hT]at hgx ht1 ht2;have hwT:IntKind.i64.wrap T=T:=IntWalk.i64_in _ (by omega);have hwS:IntKind.i64.wrap (T+m)=T+m:=IntWalk.i64_in _ (by omega);have hwA:IntKind.i64.wrap N=N:=IntWalk.i64_in _ (by omega);have HN:Hid (0≤N∧N<m∧Cg m (N*A) 1):=⟨n2,n3,n1⟩
    clear hn hI hN n1 n2 n3 hG ht1 ht2;go_wp2;go_ret2
    exact⟨rfl,.inr ⟨HG.out,N,HN.out.1,HN.out.2.1,HN.out.2.2,rfl⟩⟩
   ·have e1:(r != 1)=true:=by simp[h1]
    have e2:(r==1)=false:=by simp[h1]
    clear hn hI hG bx;go_wp2;go_ret2
    exact⟨rfl,.inl ⟨by rw[HG.out];exact h1,rfl⟩⟩
  ·obtain⟨hS,q0,qm,qy0,qy1,qs0,qs1,hlt⟩:=hI.step hm hs;have s0:=hI.s0;have r0:=hI.r0;have rm:=hI.rm;have sm:=hI.sm;have bx:=hI.bx;have hqt:r.tdiv s=r/s:=Int.tdiv_eq_ediv_of_nonneg r0;obtain⟨q,hq⟩:∃q,r/s=q:=⟨_,rfl⟩
   rw[hq]at hS q0 qm qy0 qy1 qs0 qs1 hlt hqt;obtain⟨V,hV⟩:∃V,q*s=V:=⟨_,rfl⟩
   obtain⟨U,hU⟩:∃U,q*y=U:=⟨_,rfl⟩
   rw[hV]at hS qs0 qs1 hlt;rw[hU]at hS qy0 qy1;have hwq:IntKind.i64.wrap q=q:=IntWalk.i64_in _ (by omega);have hwV:IntKind.i64.wrap V=V:=IntWalk.i64_in _ (by omega);have hwU:IntKind.i64.wrap U=U:=IntWalk.i64_in _ (by omega);have hwa:IntKind.i64.wrap (r-V)=r-V:=IntWalk.i64_in _ (by omega);have hwb:IntKind.i64.wrap (x-U)=x-U:=IntWalk.i64_in _ (by omega);have HS:Hid (Iv m A s (r-V) y (x-U)):=hS;have HM:Hid ((r-V).toNat<s.toNat):=by show _<_;omega
   have e1:(s != 0)=true:=by simp[hs]
   have e2:(s==0)=false:=by simp[hs]
   clear hI hS hq qy0 qy1 qs0 qs1 hlt q0 qm rm sm bx hm2;go_wp2;go_roundw
   case rel=>exact⟨s,r-V,y,x-U,rfl,rfl,rfl,rfl,HS.out,trivial⟩
   case measure=>simp only[intOf];exact HM.out
end Go.Proofs.YtcgikjkpbpjgdabGreat
namespace Go.Proofs.YtcgikjkpbpjgdabGreat
open Go.RowKit Go.Shelf
def rcv (K:Cz):Value:=.agg #[.int .i64 K.p,.int .i64 K.a,.int .i64 K.b,.int .i64 K.gx,.int .i64 K.gy,.int .i64 K.n]
def rpv (p:Pz):Value:=.agg #[.int .i64 p.x,.int .i64 p.y,.bool p.inf]
def S31 (a:Int):Prop:=0≤a∧a<2147483648
theorem mul62 {a b:Int} (ha:S31 a) (hb:S31 b):0≤a*b∧a*b≤4611686014132420609:=by have h1:a*b≤2147483647*b:=Int.mul_le_mul_of_nonneg_right (by have:=ha.2;omega) hb.1;have h2:2147483647*b≤2147483647*2147483647:=Int.mul_le_mul_of_nonneg_left (by have:=hb.2;omega) (by decide);exact⟨Int.mul_nonneg ha.1 hb.1,by omega⟩
theorem em31 {a m:Int} (hm:0<m) (h:S31 m):S31 (a%m):=⟨Int.emod_nonneg _ (by omega),by have:=Int.emod_lt_of_pos a hm;have:=h.2;omega⟩
theorem mr31 {a b m:Int} (hm:0<m) (h:S31 m) (ha:S31 a) (hb:S31 b):∃v r,a*b=v∧v.tmod m=r∧IntKind.i64.wrap v=v∧IntKind.i64.wrap r=r∧S31 r∧r=(a*b)%m:=by
 obtain⟨h1,h2⟩:=mul62 ha hb;have h3:=em31 (a:=a*b) hm h;refine⟨_,_,rfl,rfl,IntWalk.i64_in _ (by omega),?_,?_,?_⟩
 ·rw[Int.tmod_eq_emod_of_nonneg h1];exact IntWalk.i64_in _ (by have:=h3.1;have:=h3.2;omega)
 ·rw[Int.tmod_eq_emod_of_nonneg h1];exact h3
 ·rw[Int.tmod_eq_emod_of_nonneg h1]
theorem tr31 {a m:Int} (hm:0<m) (h:S31 m) (ha:0≤a):∃r,a.tmod m=r∧IntKind.i64.wrap r=r∧S31 r∧r=a%m:=by have h3:=em31 (a:=a) hm h;rw[Int.tmod_eq_emod_of_nonneg ha];exact⟨_,rfl,IntWalk.i64_in _ (by have:=h3.1;have:=h3.2;omega),h3,rfl⟩
end Go.Proofs.YtcgikjkpbpjgdabGreat
