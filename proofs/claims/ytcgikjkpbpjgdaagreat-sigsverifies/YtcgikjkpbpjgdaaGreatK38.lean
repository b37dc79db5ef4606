import Derived.Test.YtcgikjkpbpjgdaaGreatK37
import Derived.Test.YtcgikjkpbpjgdaaGreatK09
import Derived.Test.YtcgikjkpbpjgdaaGreatK36
import Derived.Test.YtcgikjkpbpjgdaaGreatK29
import Derived.Test.YtcgikjkpbpjgdaaGreatK26
import Derived.Test.YtcgikjkpbpjgdaaGreatK31
import Derived.Test.YtcgikjkpbpjgdaaGreatK35
import Derived.Test.YtcgikjkpbpjgdaaGreatK34
import Derived.Test.YtcgikjkpbpjgdaaGreatK30
set_option maxRecDepth 100000
set_option maxHeartbeats 40000000
set_option linter.unusedVariables false
set_option linter.unusedSimpArgs false
namespace Go.Proofs.YtcgikjkpbpjgdaaGreat
open Go.Shelf Go.RowKit
theorem word_u16 {x:Int} (h:(Lit.int .u16 x).wf=true):0≤x∧x<65536:=by simp[Lit.wf,IntKind.has,IntKind.min,IntKind.max,IntKind.bits,IntKind.signed]at h;omega
theorem numin_byv {w:World} {p:Option Addr} {n c:Nat} {zs:List Int} (h:NumIn .u8 256 w p n c zs):ByV w (fun _=>True) p c (toB zs)∧(toB zs).length=n:=by
 have hl:=h.lies.len;have hlt:(toB zs).length=n:=by rw[toB_len];exact hl
 refine⟨⟨by rw[hlt];exact h.lc,by have:=h.cm;unfold maxLen at this;omega,?_,fun _ _ _=>trivial⟩,hlt⟩;rw[hlt];intro h0;obtain⟨b,off,e,hlt2,hc⟩:=h.lies.at h0;refine⟨b,off,e,fun i hi => ?_⟩;rw[hc i hi];have hi':i<zs.length:=by omega
 have hz:=h.dg zs[i] (List.getElem_mem hi');simp[toB,List.getD,hi'];omega
theorem few_num {w:World} {base n c:Nat} {p:Option Addr} {bs:Bs} (h:w.ownsRow base 5 1 (.slice p n c) n (Lib.byteCells bs)) (hl:bs.length=n) (hn:n≤100000):NumIn .u8 256 w p n c (intsB bs):=by
 have e1:Lib.byteCells bs=(intsB bs).map (Value.int .u8):=by unfold Lib.byteCells intsB;rw[List.map_map];rfl
 have ho:Own 5 .u8 w base (.slice p n c) (intsB bs):=by unfold Own;rw[intsB_len,hl,←e1];exact h
 obtain⟨ao,cap,e,hn2⟩:=ho.num (intsB_dg bs) (by rw[intsB_len];omega);rw[intsB_len,hl]at e hn2;injection e with e2 e3 e4;subst e2 e4;exact hn2
theorem nc_one {w:World} {v:Value} {n:Int} {L:Nat} (h:Nc w v n L) (h0:0<n) (h1:n<18446744073709551616):∃b o c,v=.slice (some ⟨b,o,none⟩) 1 c∧1≤c∧w.cell? ⟨b,o,none⟩=some (.int .u64 n):=by obtain⟨ao,l,c,xs,rfl,hn,hc,hv,hl⟩:=h;have hx:xs=[n]:=canon_inj (B:=B64) (by decide) hn.dg (by intro x hx;simp at hx;subst hx;exact⟨by omega,by show x<18446744073709551616;omega⟩) hc (by unfold Canon;simp[top];omega) (by rw[hv];simp[val]);subst hx;have hl1:l=1:=hn.lies.len.symm;subst hl1;obtain⟨b,off,e,hlt,hcc⟩:=hn.lies.at (by omega);subst e;exact⟨b,off,c,rfl,hn.lc,by simpa using hcc 0 (by omega)⟩
theorem S12Awake_any (w:World):Calls Tryz.prog 26 #[] w fun e w'=>e=.returned (.bool true)∧Below w.heap.size w w':=by
 have hv:∀W:World,ByV (W.alloc (.cells #[.int .u8 48,.int .u8 6,.int .u8 2,.int .u8 1,.int .u8 5,.int .u8 2,.int .u8 1,.int .u8 9] 5)) (fun _=>True) (some ⟨W.heap.size,0,none⟩) 8 [48,6,2,1,5,2,1,9]:=fun W=>by refine⟨by decide,by decide,?_,fun _ _ _=>trivial⟩;exact row_bat (zs:=[48,6,2,1,5,2,1,9]) (heap_alloc_new W _) rfl (by intro x hx;simp at hx;omega)
 have hp:pairR [48,6,2,1,5,2,1,9]=some ([5],[9]):=by decide +kernel
 have HP:=sPair (some ⟨w.heap.size,0,none⟩) 8 8 [48,6,2,1,5,2,1,9] _ _ rfl (hv w) (by decide);rw[hp]at HP;have hb0:=balloc w (.cells #[.int .u8 48,.int .u8 6,.int .u8 2,.int .u8 1,.int .u8 5,.int .u8 2,.int .u8 1,.int .u8 9] 5);clear hv hp;go_enter Tryz.func26,Tryz.ntmps26;go_wp2_with fail
 refine HP.mono ?_;rintro e w2 ⟨hb2,(⟨hno,_⟩|⟨x,y,a1,l1,k1,a2,l2,k2,hs,rfl,n1,n2⟩)⟩
 ·cases hno
 cases hs
 obtain⟨c1,o1,d1,e1,f1,x1⟩:=nc_one n1 (by decide) (by decide);obtain⟨c2,o2,d2,e2,f2,x2⟩:=nc_one n2 (by decide) (by decide)
 cases e1
 cases e2
 have z1:nI [5]=5:=by decide
 have z2:nI [9]=9:=by decide
 rw[z1]at x1;rw[z2]at x2;have HB:Hid (Below w.heap.size w w2):=bstep hb0 hb2;clear HP hb0 hb2 n1 n2 z1 z2;go_wp2_with fail
 go_ret;exact⟨rfl,HB.out⟩
theorem word_i64 {x:Int} (h:(Lit.int .i64 x).wf=true) : -9223372036854775808≤x∧x≤9223372036854775807:=by simp[Lit.wf,IntKind.has,IntKind.min,IntKind.max,IntKind.bits,IntKind.signed]at h;omega
theorem came_cap {k:IntKind} {w:World} {a:Option Addr} {len cap:Nat} {zs:List Int} (h:Came k w a len cap zs):len≤cap∧cap≤maxLen:=by
 rcases h with⟨rfl,rfl,rfl,rfl⟩|⟨x,rfl,h1,h2,_⟩
 ·exact⟨Nat.le_refl _,Nat.zero_le _⟩
 ·exact⟨h1,h2⟩
theorem came_wf {k:IntKind} {w:World} {a:Option Addr} {len cap:Nat} {zs:List Int} (h:Came k w a len cap zs):∀n∈zs,(Lit.int k n).wf=true:=by
 rcases h with⟨rfl,rfl,rfl,rfl⟩|⟨x,rfl,_,_,_,_,h5⟩
 ·intro n hn;cases hn
 ·exact h5
theorem came_lies {k:IntKind} {w:World} {a:Option Addr} {len cap:Nat} {zs:List Int} (h:Came k w a len cap zs):Lies k w a len (zs.take len):=by
 rcases h with⟨rfl,rfl,rfl,rfl⟩|⟨x,rfl,h1,h2,h3,h4,h5⟩
 ·exact⟨rfl,.inl rfl⟩
 ·refine⟨by simp;omega,?_⟩;by_cases h0:len=0
  ·exact .inl h0
  ·right;obtain⟨b,off,spot⟩:=x;have hc:=h4 0 (by omega);have hspot:spot=none:=by simpa [Addr.add] using World.cell?_spot hc
   subst hspot;refine⟨b,off,rfl,?_,fun i hi => ?_⟩
   ·rw[add_none]at hc;exact World.block_lt_of_cell? w ⟨b,off+0,none⟩ hc
   ·have:=h4 i (by omega);rw[add_none]at this;rw[this];simp only[List.getD,List.getElem?_take];rw[if_pos hi]
theorem rdp_s31v {P:Nat} {p:Pz} (h:RdP P p) (hP:(P:Int)<2147483648):S31 p.x∧S31 p.y:=by
 unfold RdP at h
 cases hi:p.inf with
 | true=>
  rw[hi,if_pos rfl]at h;rw[h];exact⟨⟨by decide,by decide⟩,⟨by decide,by decide⟩⟩
 | false=>
  rw[hi,if_neg (by simp)]at h;exact⟨⟨h.1,by omega⟩,⟨h.2.2.1,by omega⟩⟩
theorem cuJ_ofV {W:World} {base:Nat} {v:Value} {xs:List Value} (ho:W.ownsRow base 52 9 v 3 xs) (hl:CuL W 3 xs):∃g cap,v=.slice (some ⟨g,0,none⟩) 3 cap∧3≤cap∧cap≤maxLen∧∀j,j<3→∃g1 g2 oo lo co b0 b1 b2 b3 b4 b5,CuJ W g j (curZ j) g1 g2 oo lo co b0 b1 b2 b3 b4 b5:=by
 have ho2:=ho;obtain⟨g,cap,rfl,h1,h2,hall⟩:=cur_at ho hl;refine⟨g,cap,rfl,h1,h2,fun j hj => ?_⟩;obtain⟨g1,g2,oo,lo,co,b0,b1,b2,b3,b4,b5,hA,hC⟩:=hall j hj;rw[Nat.mul_comm 9 j]at hA;refine⟨g1,g2,oo,lo,co,b0,b1,b2,b3,b4,b5,?_,hA,hC⟩;rcases ho2.2 with⟨h,_⟩|⟨g',cap',cur,h,_,hr,_,_,hs,_⟩
 ·cases h
 ·cases h
  exact⟨cur,_,_,hr,by omega⟩
def SgKey (W:World) (cs:Array Value):Prop:=∃(kd cu:Int) (x1:Option Addr) (x2 x3:Nat) (y1:Option Addr) (y2 y3:Nat) (n1:Option Addr) (n2 n3:Nat) (e1:Option Addr) (e2 e3:Nat),cs=#[.int .u8 kd,.int .i64 cu,.slice x1 x2 x3,.slice y1 y2 y3,.bool false,.slice n1 n2 n3,.slice e1 e2 e3] ∧
 ((kd=1∧∃(j:Nat) (X Y:Int),j<3∧cu=(j:Int)∧(S31 X∧S31 Y)∧Nv W (.slice x1 x2 x3) X 4∧Nv W (.slice y1 y2 y3) Y 4)∨(kd=2∧∃(n e:Int),0<n∧0<e∧Nv W (.slice n1 n2 n3) n 8∧Nv W (.slice e1 e2 e3) e 8))
theorem SgKey.old {W W':World} {cs:Array Value} (h:SgKey W cs) (hb:Below W.heap.size W W'):SgKey W' cs:=by
 obtain⟨kd,cu,x1,x2,x3,y1,y2,y3,n1,n2,n3,e1,e2,e3,rfl,h⟩:=h;refine⟨kd,cu,x1,x2,x3,y1,y2,y3,n1,n2,n3,e1,e2,e3,rfl,?_⟩;rcases h with⟨h1,j,X,Y,h2,h3,h4,h5,h6⟩|⟨h1,n,e,h2,h3,h4,h5⟩
 ·exact .inl ⟨h1,j,X,Y,h2,h3,h4,h5.old hb,h6.old hb⟩
 ·exact .inr ⟨h1,n,e,h2,h3,h4.old hb,h5.old hb⟩
theorem SgKey.apart {W W':World} {cs:Array Value} (h:SgKey W cs) {r:Nat} {a1 a2 a3 a4:Option Addr} {l1 k1 l2 k2 l3 k3 l4 k4:Nat} {k c:Int} {b:Bool} (hs:KyB W r (.slice a1 l1 k1) (.slice a2 l2 k2) (.slice a3 l3 k3) (.slice a4 l4 k4) k c b) (hb:Bt r W W'):SgKey W' cs:=by
 obtain⟨kd,cu,x1,x2,x3,y1,y2,y3,n1,n2,n3,e1,e2,e3,rfl,h⟩:=h;refine⟨kd,cu,x1,x2,x3,y1,y2,y3,n1,n2,n3,e1,e2,e3,rfl,?_⟩;rcases h with⟨h1,j,X,Y,h2,h3,h4,h5,h6⟩|⟨h1,n,e,h2,h3,h4,h5⟩
 ·exact .inl ⟨h1,j,X,Y,h2,h3,h4,h5.apartK hs hb,h6.apartK hs hb⟩
 ·exact .inr ⟨h1,n,e,h2,h3,h4.apartK hs hb,h5.apartK hs hb⟩
theorem sgC_no {k:Int} (hk:0≤k∧k<256) (h:¬k%16=15):∃j:Nat,j<3∧sgC k=(j:Int):=by unfold sgC;rw[if_neg h];exact⟨(k%3).toNat,by omega,by omega⟩
theorem sgKeyAll (k s:Int) (hk:0≤k∧k<256) (hs:0≤s∧s<256) (W:World):Calls Tryz.prog 11 #[.agg #[.int .u8 k,.int .u8 s]] W fun e w'=>∃cs,e=.returned (.agg cs)∧SgKey w' cs∧Below W.heap.size W w':=by
 by_cases h:k%16=15
 ·refine(skey_k k hk h s W hs.1 hs.2).mono ?_;rintro e w' ⟨vn,ve,rfl,h1,h2,hb⟩;have h1':=h1;have h2':=h2;obtain⟨a1,a2,a3,_,rfl,-⟩:=h1';obtain⟨b1,b2,b3,_,rfl,-⟩:=h2';have hsm:=rsa_small s;exact⟨_,rfl,⟨2,0,none,0,0,none,0,0,a1,a2,a3,b1,b2,b3,rfl,.inr ⟨rfl,_,_,hsm.1,hsm.2.2.1,h1,h2⟩⟩,hb⟩
 ·obtain⟨j,hj,hsg⟩:=sgC_no hk h;obtain⟨P,N,inst,hR,hpN,hN2,hN3,-⟩:=curRightN j hj;obtain⟨q,hq⟩:=mt_ex hR.good hR.base (1+s).toNat;refine(sgKey_any j hj hR hpN hN2 k s hk hs hsg q hq W).mono ?_;rintro e w' ⟨vx,vy,rfl,h1,h2,hb⟩;have h1':=h1;have h2':=h2;obtain⟨a1,a2,a3,_,rfl,-⟩:=h1';obtain⟨b1,b2,b3,_,rfl,-⟩:=h2';exact⟨_,rfl,⟨1,j,a1,a2,a3,b1,b2,b3,none,0,0,none,0,0,rfl,.inl ⟨rfl,j,q.x,q.y,hj,rfl,rdp_s31v hq.1 (by have h1:=hR.good.p;have h2:=(curS31 j).1.2;omega),h1.up (by decide),h2.up (by decide)⟩⟩,hb⟩
theorem sgSignAll (k s:Int) (hk:0≤k∧k<256) (hs:0≤s∧s<256) (ao:Option Addr) (m c:Nat) (bs:List Int) (draw:Int) (hdr:0≤draw∧draw<65536) (w:World) (hb:NumIn .u8 256 w ao m c bs) (hm:m≤1000):
  Calls Tryz.prog 27 #[.agg #[.int .u8 k,.int .u8 s],.slice ao m c,.int .u16 draw] w fun e w'=>∃p n d zs,e=.returned (.slice p n d)∧NumIn .u8 256 w' p n d zs∧n≤1000∧Below w.heap.size w w':=by
 by_cases h:k%16=15
 ·refine(sign_k k hk h draw s hs.1 hs.2 ao m c bs w hb hm).mono ?_;rintro e w' ⟨v,rfl,g,zs,rfl,hr,hl,hd,-,hbw⟩;have hn:=hr.num hd (by omega);rw[hl]at hn;exact⟨_,_,_,zs,rfl,hn,by decide,hbw⟩
 ·obtain⟨j,hj,hsg⟩:=sgC_no hk h;refine(hSign k s hk hs j hj hsg ao m c bs draw hdr w hb hm).mono ?_;rintro e w' ⟨hbw,p,n,d,zs,rfl,hl,hn,ho⟩;exact⟨p,n,d,_,rfl,few_num ho hl (by omega),by omega,hbw⟩
theorem sgVerify (g cap:Nat) (hcap:3≤cap) (hcm:cap≤maxLen) (cs:Array Value) (ao:Option Addr) (m c:Nat) (ms:List Int) (p:Option Addr) (np cp:Nat) (zs:List Int) (w:World) (hcu:∀j,j<3→∃g1 g2 oo lo co b0 b1 b2 b3 b4 b5,CuJ w g j (curZ j) g1 g2 oo lo co b0 b1 b2 b3 b4 b5) (hk:SgKey w cs) (hm:NumIn .u8 256 w ao m c ms) (hmm:m≤1000) (hz:NumIn .u8 256 w p np cp zs) (hn2:np≤2000):
  ∃r:Int,(∀W,Below w.heap.size w W→Calls Tryz.prog 28 #[.slice (some ⟨g,0,none⟩) 3 cap,.agg cs,.slice ao m c,.slice p np cp] W fun e w'=>e=.returned (.int .i64 r)∧Below W.heap.size W w')∧(∀W,Below w.heap.size w W→Calls Tryz.prog 29 #[.slice (some ⟨g,0,none⟩) 3 cap,.agg cs,.slice ao m c,.slice p np cp] W fun e w'=>e=.returned (.int .i64 r)∧Below W.heap.size W w'):=by
 obtain⟨kd,cu,x1,x2,x3,y1,y2,y3,n1,n2,n3,e1,e2,e3,rfl,h⟩:=hk;rcases h with⟨rfl,j,X,Y,hj,rfl,hXY,hX,hY⟩|⟨rfl,n,e,hn0,he0,hn,he⟩
 ·obtain⟨g1,g2,oo,lo,co,b0,b1,b2,b3,b4,b5,hJ⟩:=hcu j hj;obtain⟨P,N,inst,hR,hpN,hN2,hN3,-⟩:=curRightN j hj;have hcx:=curS31 j;have hcn:=curN j hj;obtain⟨bb,hbb⟩:=ptZ_ex hR.good hR.base hcn ⟨X,Y,false⟩ ⟨hXY.1.1,hXY.2.1⟩ (shaS ms) (pairR (toB zs));obtain⟨hv,hl⟩:=numin_byv hz;refine⟨erS bb,fun W hW => ?_,fun W hW => ?_⟩
  ·refine(sVerify_ec hR.good hR.base hcn (by have:=hcx.2.2.2.2.2.2;omega) g 3 cap j hj (by decide) hcap hcm g1 g2 oo lo co b0 b1 b2 b3 b4 b5 ⟨X,Y,false⟩ x1 x2 x3 y1 y2 y3 n1 n2 n3 e1 e2 e3 ao m c ms p np cp (toB zs) W (hJ.keep hW) (hX.old hW) (hY.old hW) (hm.old hW) hl (by omega) (hv.below hW)).mono ?_;rintro e w' ⟨b,hb,rfl,hbw⟩;rw[ptZ_uniq hR.good hR.base ⟨hXY.1.1,hXY.2.1⟩ hb hbb];exact⟨rfl,hbw⟩
  ·refine(rSigned_ec hR.good hR.base hcn hcx.1 hcx.2.1 hcx.2.2.1 hcx.2.2.2.1 hcx.2.2.2.2.1 hcx.2.2.2.2.2 g 3 cap j hj (by decide) hcap hcm g1 g2 oo lo co b0 b1 b2 b3 b4 b5 X Y hXY x1 x2 x3 y1 y2 y3 n1 n2 n3 e1 e2 e3 ao m c ms p np cp (toB zs) W (hJ.keep hW) (hX.old hW) (hY.old hW) (hm.old hW) hmm hl hn2 (hv.below hW)).mono ?_;rintro e w' ⟨b,hb,rfl,hbw⟩;rw[ptZ_uniq hR.good hR.base ⟨hXY.1.1,hXY.2.1⟩ hb hbb];exact⟨rfl,hbw⟩
 ·exact⟨erS (verB n e (shaS ms) np zs),fun W hW=>sVerify_rsa _ 3 cap cu x1 x2 x3 y1 y2 y3 false n1 n2 n3 e1 e2 e3 n e 8 (by decide) ao m c ms p np cp zs W (hn.old hW) (he.old hW) (hm.old hW) (hz.old hW),fun W hW=>rSigned_rsa _ 3 cap cu x1 x2 x3 y1 y2 y3 false n1 n2 n3 e1 e2 e3 n e 8 (by decide) hn0 he0 ao m c ms p np cp zs W (hn.old hW) (he.old hW) (hm.old hW) hmm (hz.old hW)⟩
end Go.Proofs.YtcgikjkpbpjgdaaGreat
