import Derived.Test.YtkhnnhbmchnajaaGreatK40
import Derived.Test.YtkhnnhbmchnajaaGreatK24
import Derived.Test.YtkhnnhbmchnajaaGreatK03
import Derived.Test.YtkhnnhbmchnajaaGreatK33
import Derived.BigRegion
import Derived.Test.YtkhnnhbmchnajaaGreatK09
import Derived.Test.YtkhnnhbmchnajaaGreatK34
import Derived.Test.YtkhnnhbmchnajaaGreatK29
import Derived.Test.YtkhnnhbmchnajaaGreatK37
import Derived.Test.YtkhnnhbmchnajaaGreatK31
import Derived.Test.YtkhnnhbmchnajaaGreatK39
import Derived.Test.YtkhnnhbmchnajaaGreatK30
import Derived.Test.YtkhnnhbmchnajaaGreatK38
import Derived.Test.YtkhnnhbmchnajaaGreatK36
import Derived.Test.YtkhnnhbmchnajaaGreatK32
import Derived.Test.YtkhnnhbmchnajaaGreatK23
set_option maxRecDepth 100000
set_option maxHeartbeats 40000000
set_option linter.unusedVariables false
set_option linter.unusedSimpArgs false
namespace Go.Proofs.YtkhnnhbmchnajaaGreat
section
open Go.Shelf Go.RowKit
theorem OwnAt.own{w:World}{g cap base:Nat}{xs:List Int}(h:OwnAt 5 .u8 w g cap xs)(hb:base≤g):Own 5 .u8 w base (.slice (some ⟨g,0,none⟩) xs.length cap) xs:=by obtain⟨cur,h1,h2,h3⟩:=h.blk;refine⟨by simp,.inr ⟨g,cap,cur,rfl,hb,h1,h.lc,h.cm,by simpa using h3,?_⟩⟩;simp only[Nat.mul_one];exact h2
theorem numin_byv{w:World}{p:Option Addr}{n c:Nat}{zs:List Int}(h:NumIn .u8 256 w p n c zs):ByV w (fun _=>True) p c (toB zs)∧(toB zs).length=n:=by
 have hl:=h.lies.len;have hlt:(toB zs).length=n:=by rw[toB_len];exact hl
 refine⟨⟨by rw[hlt];exact h.lc,by have:=h.cm;unfold maxLen at this;omega,?_,fun _ _ _=>trivial⟩,hlt⟩;rw[hlt];intro h0;obtain⟨b,off,e,hlt2,hc⟩:=h.lies.at h0;refine⟨b,off,e,fun i hi => ?_⟩;rw[hc i hi];have hi':i<zs.length:=by omega
 have hz:=h.dg zs[i] (List.getElem_mem hi');simp[toB,List.getD,hi'];omega
theorem few_num{w:World}{base n c:Nat}{p:Option Addr}{bs:Bs}(h:w.ownsRow base 5 1 (.slice p n c) n (Lib.byteCells bs))(hl:bs.length=n)(hn:n≤100000):NumIn .u8 256 w p n c (intsB bs):=by
 have e1:Lib.byteCells bs=(intsB bs).map (Value.int .u8):=by unfold Lib.byteCells intsB;rw[List.map_map];rfl
 have ho:Own 5 .u8 w base (.slice p n c) (intsB bs):=by unfold Own;rw[intsB_len,hl,←e1];exact h
 obtain⟨ao,cap,e,hn2⟩:=ho.num (intsB_dg bs) (by rw[intsB_len];omega);rw[intsB_len,hl]at e hn2;injection e with e2 e3 e4;subst e2 e4;exact hn2
theorem nc_one{w:World}{v:Value}{n:Int}{L:Nat}(h:Nc w v n L)(h0:0<n)(h1:n<18446744073709551616):∃b o c,v=.slice (some ⟨b,o,none⟩) 1 c∧1≤c∧w.cell? ⟨b,o,none⟩=some (.int .u64 n):=by obtain⟨ao,l,c,xs,rfl,hn,hc,hv,hl⟩:=h;have hx:xs=[n]:=canon_inj (B:=B64) (by decide) hn.dg (by intro x hx;simp at hx;subst hx;exact⟨by omega,by show x<18446744073709551616;omega⟩) hc (by unfold Canon;simp[top];omega) (by rw[hv];simp[val]);subst hx;have hl1:l=1:=hn.lies.len.symm;subst hl1;obtain⟨b,off,e,hlt,hcc⟩:=hn.lies.at (by omega);subst e;exact⟨b,off,c,rfl,hn.lc,by simpa using hcc 0 (by omega)⟩
theorem S12Awake_any(w:World):Calls Tryz.prog 4 #[] w fun e w'=>e=.returned (.bool true)∧Below w.heap.size w w':=by
 have hv:∀W:World,ByV (W.alloc (.cells #[.int .u8 48,.int .u8 6,.int .u8 2,.int .u8 1,.int .u8 5,.int .u8 2,.int .u8 1,.int .u8 9] 5)) (fun _=>True) (some ⟨W.heap.size,0,none⟩) 8 [48,6,2,1,5,2,1,9]:=fun W=>by refine⟨by decide,by decide,?_,fun _ _ _=>trivial⟩;exact row_bat (zs:=[48,6,2,1,5,2,1,9]) (heap_alloc_new W _) rfl (by intro x hx;simp at hx;omega)
 have hp:pairR [48,6,2,1,5,2,1,9]=some ([5],[9]):=by decide +kernel
 have HP:=sPair (some ⟨w.heap.size,0,none⟩) 8 8 [48,6,2,1,5,2,1,9] _ _ rfl (hv w) (by decide);rw[hp]at HP;have hb0:=balloc w (.cells #[.int .u8 48,.int .u8 6,.int .u8 2,.int .u8 1,.int .u8 5,.int .u8 2,.int .u8 1,.int .u8 9] 5);clear hv hp;go_enter Tryz.func4,Tryz.ntmps4;go_wp2_with fail
 refine HP.mono ?_;rintro e w2 ⟨hb2,(⟨hno,_⟩|⟨x,y,a1,l1,k1,a2,l2,k2,hs,rfl,n1,n2⟩)⟩
 ·cases hno
 cases hs
 obtain⟨c1,o1,d1,e1,f1,x1⟩:=nc_one n1 (by decide) (by decide);obtain⟨c2,o2,d2,e2,f2,x2⟩:=nc_one n2 (by decide) (by decide)
 cases e1
 cases e2
 have z1:nI [5]=5:=by decide
 have z2:nI [9]=9:=by decide
 rw[z1]at x1;rw[z2]at x2;have HB:Hid (Below w.heap.size w w2):=bstep hb0 hb2;clear HP hb0 hb2 n1 n2 z1 z2;go_wp2_with fail
 go_ret;exact⟨rfl,HB.out⟩
theorem word_i64{x:Int}(h:(Lit.int .i64 x).wf=true) : -9223372036854775808≤x∧x≤9223372036854775807:=by simp[Lit.wf,IntKind.has,IntKind.min,IntKind.max,IntKind.bits,IntKind.signed]at h;omega
theorem cuJ_ofV{W:World}{base:Nat}{v:Value}{xs:List Value}(ho:W.ownsRow base 52 9 v 3 xs)(hl:CuL W 3 xs):∃g cap,v=.slice (some ⟨g,0,none⟩) 3 cap∧3≤cap∧cap≤maxLen∧∀j,j<3→∃g1 g2 oo lo co b0 b1 b2 b3 b4 b5,CuJ W g j (curZ j) g1 g2 oo lo co b0 b1 b2 b3 b4 b5:=by
 have ho2:=ho;obtain⟨g,cap,rfl,h1,h2,hall⟩:=cur_at ho hl;refine⟨g,cap,rfl,h1,h2,fun j hj => ?_⟩;obtain⟨g1,g2,oo,lo,co,b0,b1,b2,b3,b4,b5,hA,hC⟩:=hall j hj;rw[Nat.mul_comm 9 j]at hA;refine⟨g1,g2,oo,lo,co,b0,b1,b2,b3,b4,b5,?_,hA,hC⟩;rcases ho2.2 with⟨h,_⟩|⟨g',cap',cur,h,_,hr,_,_,hs,_⟩
 ·cases h
 ·cases h
  exact⟨cur,_,_,hr,by omega⟩
theorem sgC_no{k:Int}(hk:0≤k∧k<256)(h:¬k%16=15):∃j:Nat,j<3∧sgC k=(j:Int):=by unfold sgC;rw[if_neg h];exact⟨(k%3).toNat,by omega,by omega⟩
set_option maxRecDepth 100000
def Cur3 (W:World)(g:Nat):Prop:=∀j,j<3→∃g1 g2 oo lo co b0 b1 b2 b3 b4 b5,CuJ W g j (curZ j) g1 g2 oo lo co b0 b1 b2 b3 b4 b5
theorem Cur3.keep{W W':World}{g:Nat}(h:Cur3 W g)(hb:Below W.heap.size W W'):Cur3 W' g:=fun j hj=>by obtain⟨g1,g2,oo,lo,co,b0,b1,b2,b3,b4,b5,hJ⟩:=h j hj;exact⟨g1,g2,oo,lo,co,b0,b1,b2,b3,b4,b5,hJ.keep hb⟩
def RawK (W:World)(vx vy vn ve:Value):Prop:=(∃X,Nv W vx X 4)∧(∃Y,Nv W vy Y 4)∧(∃n,Nv W vn n 9)∧∃e,Nv W ve e 9
theorem RawK.old{W W':World}{vx vy vn ve:Value}(h:RawK W vx vy vn ve)(hb:Below W.heap.size W W'):RawK W' vx vy vn ve:=by obtain⟨⟨X,h1⟩,⟨Y,h2⟩,⟨n,h3⟩,⟨e,h4⟩⟩:=h;exact⟨⟨X,h1.old hb⟩,⟨Y,h2.old hb⟩,⟨n,h3.old hb⟩,⟨e,h4.old hb⟩⟩
theorem verB_none(hs:List Int)(m:Nat)(bs:List Int):verB 0 0 hs m bs=false:=by unfold verB keyB;rw[show szZ 0=0 from rfl];simp
theorem rawBoth(kd cu:Int)(vx vy vn ve:Value)(b:Bool)(g cl cap:Nat)(hcl:cl≤3)(hcc:cl≤cap)(hcm:cap≤maxLen)(ao:Option Addr)(m c:Nat)(ms:List Int)(p:Option Addr)(np cp:Nat)(zs:List Int)(w:World)(hcu:Cur3 w g)(hk:RawK w vx vy vn ve)(hm:NumIn .u8 256 w ao m c ms)(hmm:m≤1000)(hz:NumIn .u8 256 w p np cp zs)(hn2:np≤2000):
  ∃r:Int,(∀W,Below w.heap.size w W→Calls Tryz.prog 7 #[.slice (some ⟨g,0,none⟩) cl cap,.agg #[.int .u8 kd,.int .i64 cu,vx,vy,.bool b,vn,ve],.slice ao m c,.slice p np cp] W fun e w'=>e=.returned (.int .i64 r)∧Below W.heap.size W w')∧(∀W,Below w.heap.size w W→Calls Tryz.prog 8 #[.slice (some ⟨g,0,none⟩) cl cap,.agg #[.int .u8 kd,.int .i64 cu,vx,vy,.bool b,vn,ve],.slice ao m c,.slice p np cp] W fun e w'=>e=.returned (.int .i64 r)∧Below W.heap.size W w'):=by
 obtain⟨⟨X,hX⟩,⟨Y,hY⟩,⟨n,hn⟩,⟨e,he⟩⟩:=hk;have hX':=hX;have hY':=hY;have hn':=hn;have he':=he;obtain⟨x1,x2,x3,_,rfl,-⟩:=hX';obtain⟨y1,y2,y3,_,rfl,-⟩:=hY';obtain⟨n1,n2,n3,_,rfl,-⟩:=hn';obtain⟨e1,e2,e3,_,rfl,-⟩:=he';by_cases h2:kd=2
 ·subst h2;exact⟨erS (verB n e (shaS ms) np zs),fun W hW=>sVerify_rsa _ cl cap cu x1 x2 x3 y1 y2 y3 b n1 n2 n3 e1 e2 e3 n e 9 (by decide) ao m c ms p np cp zs W (hn.old hW) (he.old hW) (hm.old hW) (hz.old hW),fun W hW=>rSigned_rsaF _ cl cap cu x1 x2 x3 y1 y2 y3 b n1 n2 n3 e1 e2 e3 n e 9 (by decide) ao m c ms p np cp zs W (hn.old hW) (he.old hW) (hm.old hW) hmm (hz.old hW)⟩
 ·by_cases h1:kd=1∧0≤cu∧cu<(cl:Int)
  ·obtain⟨rfl,h3,h4⟩:=h1;obtain⟨j,rfl⟩:∃j:Nat,cu=(j:Int):=⟨cu.toNat,by omega⟩
   have hjl:j<cl:=by omega
   have hj:j<3:=by omega
   obtain⟨g1,g2,oo,lo,co,b0,b1,b2,b3,b4,b5,hJ⟩:=hcu j hj;obtain⟨P,N,inst,hR,hpN,hN2,hN3,-⟩:=curRightN j hj;have hcx:=curS31 j;have hcn:=curN j hj;have hq0:0≤(⟨X,Y,b⟩:Pz).x∧0≤(⟨X,Y,b⟩:Pz).y:=⟨hX.nonneg,hY.nonneg⟩
   obtain⟨bb,hbb⟩:=ptZ_ex hR.good hR.base hcn ⟨X,Y,b⟩ hq0 (shaS ms) (pairR (toB zs));obtain⟨hv,hl⟩:=numin_byv hz;refine⟨erS bb,fun W hW => ?_,fun W hW => ?_⟩
   ·refine(sVerify_ec hR.good hR.base hcn (by have:=hcx.2.2.2.2.2.2;omega) g cl cap j hjl hcl hcc hcm g1 g2 oo lo co b0 b1 b2 b3 b4 b5 ⟨X,Y,b⟩ x1 x2 x3 y1 y2 y3 n1 n2 n3 e1 e2 e3 ao m c ms p np cp (toB zs) W (hJ.keep hW) (hX.old hW) (hY.old hW) (hm.old hW) hl (by omega) (hv.below hW)).mono ?_;rintro e w' ⟨b',hb,rfl,hbw⟩;rw[ptZ_uniq hR.good hR.base hq0 hb hbb];exact⟨rfl,hbw⟩
   ·refine(rSigned_pt hR.good hR.base hcn hcx.1 hcx.2.1 hcx.2.2.1 hcx.2.2.2.1 hcx.2.2.2.2.1 hcx.2.2.2.2.2 g cl cap j hjl hcl hcc hcm g1 g2 oo lo co b0 b1 b2 b3 b4 b5 ⟨X,Y,b⟩ x1 x2 x3 y1 y2 y3 n1 n2 n3 e1 e2 e3 ao m c ms p np cp (toB zs) W (hJ.keep hW) (hX.old hW) (hY.old hW) (hm.old hW) hmm hl hn2 (hv.below hW)).mono ?_;rintro e w' ⟨b',hb,rfl,hbw⟩;rw[ptZ_uniq hR.good hR.base hq0 hb hbb];exact⟨rfl,hbw⟩
  ·exact⟨41,fun W hW=>sVerify_no kd cu _ cl cap x1 x2 x3 y1 y2 y3 b n1 n2 n3 e1 e2 e3 ao m c p np cp W h2 h1,fun W hW=>rSigned_no kd cu _ cl cap x1 x2 x3 y1 y2 y3 b n1 n2 n3 e1 e2 e3 ao m c ms p np cp W (hm.old hW) hmm h2 h1⟩
theorem off_curve0{P:Nat}[NeZero P](hs:List Int)(R:Option (Bs × Bs)):PtZ (curZ 0) P ⟨0,0,false⟩ hs R false:=by
 match R with
 | none=>exact rfl
 | some (x,y)=>exact .inl ⟨.inr (.inl (by decide +kernel)),rfl⟩
def Says (r:Int)(g cl cap:Nat)(key:Value)(ao:Option Addr)(m c:Nat)(v1 v2:Value)(W:World):Prop:=
 (Calls Tryz.prog 7 #[.slice (some ⟨g,0,none⟩) cl cap,key,.slice ao m c,v1] W fun e w'=>e=.returned (.int .i64 r)∧Below W.heap.size W w')∧(Calls Tryz.prog 8 #[.slice (some ⟨g,0,none⟩) cl cap,key,.slice ao m c,v2] W fun e w'=>e=.returned (.int .i64 r)∧Below W.heap.size W w')
theorem sgRaw(k s:Int)(hk:0≤k∧k<256)(hs:0≤s∧s<256):∃(kd0 cu:Int) (KF:Value→Value→Value→Value→World→Prop) (SF:List Int→Value→World→Prop),(0≤kd0∧kd0<256)∧(∀a b c d W W',Below W.heap.size W W'→KF a b c d W→KF a b c d W')∧(∀bs v W W',Below W.heap.size W W'→SF bs v W→SF bs v W') ∧
  (∀W,Calls Tryz.prog 6 #[.agg #[.int .u8 k,.int .u8 s]] W fun e w'=>∃vx vy vn ve,e=.returned (.agg #[.int .u8 kd0,.int .i64 cu,vx,vy,.bool false,vn,ve])∧KF vx vy vn ve w'∧Below W.heap.size W w') ∧
  (∀a b c d W,KF a b c d W→RawK W a b c d) ∧
  (∀ao m c bs draw W,0≤draw∧draw<65536→NumIn .u8 256 W ao m c bs→m≤1000→Calls Tryz.prog 9 #[.agg #[.int .u8 k,.int .u8 s],.slice ao m c,.int .u16 draw] W fun e w'=>∃v,e=.returned v∧SF bs v w'∧Below W.heap.size W w') ∧
  (∀(kd:Int) (cl:Nat) (bs:List Int),cl≤3→∃r,∀g cap ao m c vx vy vn ve v1 v2 W,cl≤cap→cap≤maxLen→Cur3 W g→KF vx vy vn ve W→SF bs v1 W→SF bs v2 W→NumIn .u8 256 W ao m c bs→m≤1000→Says r g cl cap (.agg #[.int .u8 kd,.int .i64 cu,vx,vy,.bool false,vn,ve]) ao m c v1 v2 W):=by
 by_cases h:k%16=15
 ·refine⟨2,0,fun vx vy vn ve W=>∃a1 a2 a3 b1 b2 b3,vx=.slice none 0 0∧vy=.slice none 0 0∧vn=.slice a1 a2 a3∧ve=.slice b1 b2 b3∧Nv W (.slice a1 a2 a3) (rsaN s) 8∧Nv W (.slice b1 b2 b3) (rsaE s) 8,
   fun bs v W=>∃p zs,v=.slice p 64 64∧NumIn .u8 256 W p 64 64 zs∧zs.length=64∧val 256 zs.reverse=padZ (shaS bs)^(rsaD s).toNat%rsaN s,⟨by decide,by decide⟩,?_,?_,?_,?_,?_,?_⟩
  ·rintro vx vy vn ve W W' hb ⟨a1,a2,a3,b1,b2,b3,d1,d2,d3,d4,h1,h2⟩;exact⟨a1,a2,a3,b1,b2,b3,d1,d2,d3,d4,h1.old hb,h2.old hb⟩
  ·rintro bs v W W' hb ⟨p,zs,e,h1,h2⟩;exact⟨p,zs,e,h1.old hb,h2⟩
  ·intro W;refine(skey_k k hk h s W hs.1 hs.2).mono ?_;rintro e w' ⟨vn,ve,rfl,h1,h2,hb⟩;have h1':=h1;have h2':=h2;obtain⟨a1,a2,a3,_,rfl,-⟩:=h1';obtain⟨b1,b2,b3,_,rfl,-⟩:=h2';exact⟨_,_,_,_,rfl,⟨a1,a2,a3,b1,b2,b3,rfl,rfl,rfl,rfl,h1,h2⟩,hb⟩
  ·rintro vx vy vn ve W ⟨a1,a2,a3,b1,b2,b3,rfl,rfl,rfl,rfl,h1,h2⟩;exact⟨⟨0,nv_nil W 4⟩,⟨0,nv_nil W 4⟩,⟨_,h1.up (by decide)⟩,⟨_,h2.up (by decide)⟩⟩
  ·intro ao m c bs draw W hdr hb hm;refine(sign_k k hk h draw s hs.1 hs.2 ao m c bs W hb hm).mono ?_;rintro e w' ⟨v,rfl,g,zs,rfl,hr,hl,hd,hv,hbw⟩;have hn:=hr.num hd (by omega);rw[hl]at hn;exact⟨_,rfl,⟨_,zs,rfl,hn,hl,hv⟩,hbw⟩
  ·intro kd cl bs hcl;by_cases h2:kd=2
   ·subst h2;obtain⟨r,hr⟩:∃r:Int,∀zs:List Int,zs.length=64→Dg 256 zs→val 256 zs.reverse=padZ (shaS bs)^(rsaD s).toNat%rsaN s→erS (verB (rsaN s) (rsaE s) (shaS bs) 64 zs)=r:=by
     by_cases hex:∃zs:List Int,zs.length=64∧Dg 256 zs∧val 256 zs.reverse=padZ (shaS bs)^(rsaD s).toNat%rsaN s
     ·obtain⟨ys,a1,a2,a3⟩:=hex;refine⟨erS (verB (rsaN s) (rsaE s) (shaS bs) 64 ys),fun zs b1 b2 b3 => ?_⟩;have e0:=congrArg List.reverse (val_inj (B:=256) (by decide) (show zs.reverse.length=ys.reverse.length by rw[List.length_reverse,List.length_reverse,a1,b1]) (fun z hz=>b2 z (List.mem_reverse.1 hz)) (fun z hz=>a2 z (List.mem_reverse.1 hz)) (b3.trans a3.symm));rw[List.reverse_reverse,List.reverse_reverse]at e0;rw[e0]
     ·exact⟨0,fun zs b1 b2 b3=>absurd ⟨zs,b1,b2,b3⟩ hex⟩
    refine⟨r,?_⟩;rintro g cap ao m c vx vy vn ve v1 v2 W hcc hcm hcu ⟨a1,a2,a3,b1,b2,b3,rfl,rfl,rfl,rfl,h1,h2⟩ ⟨p,zs,rfl,h3,h4,h5⟩ ⟨p',zs',rfl,h3',h4',h5'⟩ hm hmm;constructor
    ·refine(sVerify_rsa _ cl cap 0 none 0 0 none 0 0 false a1 a2 a3 b1 b2 b3 (rsaN s) (rsaE s) 8 (by decide) ao m c bs p 64 64 zs W h1 h2 hm h3).mono ?_;rintro e w' ⟨rfl,hb⟩;rw[hr zs h4 h3.dg h5];exact⟨rfl,hb⟩
    ·refine(rSigned_rsaF _ cl cap 0 none 0 0 none 0 0 false a1 a2 a3 b1 b2 b3 (rsaN s) (rsaE s) 8 (by decide) ao m c bs p' 64 64 zs' W h1 h2 hm hmm h3').mono ?_;rintro e w' ⟨rfl,hb⟩;rw[hr zs' h4' h3'.dg h5'];exact⟨rfl,hb⟩
   ·by_cases h1:kd=1∧0≤(0:Int)∧(0:Int)<(cl:Int)
    ·obtain⟨rfl,-,h4⟩:=h1;refine⟨erS false,?_⟩;rintro g cap ao m c vx vy vn ve v1 v2 W hcc hcm hcu ⟨a1,a2,a3,b1,b2,b3,rfl,rfl,rfl,rfl,h1,h2⟩ ⟨p,zs,rfl,h3,h4',h5⟩ ⟨p',zs',rfl,h3',h4'',h5'⟩ hm hmm;obtain⟨g1,g2,oo,lo,co,z0,z1,z2,z3,z4,z5,hJ⟩:=hcu 0 (by decide);obtain⟨P,N,inst,hR,hpN,hN2,hN3,-⟩:=curRightN 0 (by decide);have hcx:=curS31 0;have hcn:=curN 0 (by decide);obtain⟨hv,hl⟩:=numin_byv h3;obtain⟨hv',hl'⟩:=numin_byv h3';constructor
     ·refine(sVerify_ec hR.good hR.base hcn (by have:=hcx.2.2.2.2.2.2;omega) g cl cap 0 (by omega) hcl hcc hcm g1 g2 oo lo co z0 z1 z2 z3 z4 z5 ⟨0,0,false⟩ none 0 0 none 0 0 a1 a2 a3 b1 b2 b3 ao m c bs p 64 64 (toB zs) W hJ (nv_nil W 4) (nv_nil W 4) hm hl (by omega) hv).mono ?_;rintro e w' ⟨b',hb,rfl,hbw⟩;rw[ptZ_uniq hR.good hR.base (q:=⟨0,0,false⟩) ⟨by decide,by decide⟩ hb (off_curve0 _ _)];exact⟨rfl,hbw⟩
     ·refine(rSigned_pt hR.good hR.base hcn hcx.1 hcx.2.1 hcx.2.2.1 hcx.2.2.2.1 hcx.2.2.2.2.1 hcx.2.2.2.2.2 g cl cap 0 (by omega) hcl hcc hcm g1 g2 oo lo co z0 z1 z2 z3 z4 z5 ⟨0,0,false⟩ none 0 0 none 0 0 a1 a2 a3 b1 b2 b3 ao m c bs p' 64 64 (toB zs') W hJ (nv_nil W 4) (nv_nil W 4) hm hmm hl' (by omega) hv').mono ?_;rintro e w' ⟨b',hb,rfl,hbw⟩;rw[ptZ_uniq hR.good hR.base (q:=⟨0,0,false⟩) ⟨by decide,by decide⟩ hb (off_curve0 _ _)];exact⟨rfl,hbw⟩
    ·refine⟨41,?_⟩;rintro g cap ao m c vx vy vn ve v1 v2 W hcc hcm hcu ⟨a1,a2,a3,b1,b2,b3,rfl,rfl,rfl,rfl,h3,h4⟩ ⟨p,zs,rfl,-⟩ ⟨p',zs',rfl,-⟩ hm hmm;exact⟨sVerify_no kd 0 _ cl cap none 0 0 none 0 0 false a1 a2 a3 b1 b2 b3 ao m c p 64 64 W h2 h1,rSigned_no kd 0 _ cl cap none 0 0 none 0 0 false a1 a2 a3 b1 b2 b3 ao m c bs p' 64 64 W hm hmm h2 h1⟩
 ·obtain⟨j,hj,hsg⟩:=sgC_no hk h;obtain⟨P,N,inst,hR,hpN,hN2,hN3,-⟩:=curRightN j hj;obtain⟨q,hq⟩:=mt_ex hR.good hR.base (1+s).toNat;have hn:=hR.n;have hqi:=mt_fin hR hpN rfl (by omega) (by omega) hq;refine⟨1,(j:Int),fun vx vy vn ve W=>∃a1 a2 a3 b1 b2 b3,vx=.slice a1 a2 a3∧vy=.slice b1 b2 b3∧vn=.slice none 0 0∧ve=.slice none 0 0∧Nv W (.slice a1 a2 a3) q.x 4∧Nv W (.slice b1 b2 b3) q.y 4,
   fun bs v W=>∃p m c B r x d X Y,v=.slice p m c∧B.length=m∧m≤100∧ByV W (fun _=>True) p c B∧NumIn .u8 256 W p m c (intsB B)∧0≤d∧d<(curZ j).n-1∧SgnZ (curZ j) P (digZ (curZ j).n 32 (shaS bs)) (1+s) (1+d) r x∧pairR B=some (X,Y)∧nI X=r∧nI Y=x,⟨by decide,by decide⟩,?_,?_,?_,?_,?_,?_⟩
  ·rintro vx vy vn ve W W' hb ⟨a1,a2,a3,b1,b2,b3,d1,d2,d3,d4,h1,h2⟩;exact⟨a1,a2,a3,b1,b2,b3,d1,d2,d3,d4,h1.old hb,h2.old hb⟩
  ·rintro bs v W W' hb ⟨p,m,c,B,r,x,d,X,Y,e,h1,h2,h3,h3n,h4⟩;exact⟨p,m,c,B,r,x,d,X,Y,e,h1,h2,h3.below hb,h3n.old hb,h4⟩
  ·intro W;refine(sgKey_any j hj hR hpN hN2 k s hk hs hsg q hq W).mono ?_;rintro e w' ⟨vx,vy,rfl,h1,h2,hb⟩;have h1':=h1;have h2':=h2;obtain⟨a1,a2,a3,_,rfl,-⟩:=h1';obtain⟨b1,b2,b3,_,rfl,-⟩:=h2';exact⟨_,_,_,_,rfl,⟨a1,a2,a3,b1,b2,b3,rfl,rfl,rfl,rfl,h1.up (by decide),h2.up (by decide)⟩,hb⟩
  ·rintro vx vy vn ve W ⟨a1,a2,a3,b1,b2,b3,rfl,rfl,rfl,rfl,h1,h2⟩;exact⟨⟨_,h1⟩,⟨_,h2⟩,⟨0,nv_nil W 9⟩,⟨0,nv_nil W 9⟩⟩
  ·intro ao m c bs draw W hdr hb hm;refine(hSignX k s hk hs j hj hsg hR hpN hN2 hN3 ao m c bs draw hdr W hb hm).mono ?_;rintro e w' ⟨B,r,x,d,X,Y,⟨hbw,p,n,c',rfl,hl,ho⟩,g1,g2⟩;have hfn:=few_num ho hl (by omega);obtain⟨p',c2,e2,hv⟩:=own_byv (l:=B) (by rw[hl];exact ho);rw[hl]at e2
   cases e2
   exact⟨_,rfl,⟨p,n,c',B,r,x,d,X,Y,rfl,hl,by omega,hv.mono (fun _ _ _=>trivial),hfn,g2⟩,hbw⟩
  ·intro kd cl bs hcl;have hcx:=curS31 j;have hcn:=curN j hj;by_cases h2:kd=2
   ·subst h2;refine⟨erS false,?_⟩;rintro g cap ao m c vx vy vn ve v1 v2 W hcc hcm hcu ⟨a1,a2,a3,b1,b2,b3,rfl,rfl,rfl,rfl,h1,h2⟩ ⟨p,n,c',B,r,x,d,X,Y,rfl,h3,h4,h5,h5n,-⟩ ⟨p',n',c'',B',r',x',d',X',Y',rfl,h3',h4',h5',h5n',-⟩ hm hmm;constructor
    ·refine(sVerify_rsa _ cl cap j a1 a2 a3 b1 b2 b3 false none 0 0 none 0 0 0 0 8 (by decide) ao m c bs p n c' _ W (nv_nil W 8) (nv_nil W 8) hm h5n).mono ?_;rintro e w' ⟨rfl,hb⟩;rw[verB_none];exact⟨rfl,hb⟩
    ·refine(rSigned_rsaF _ cl cap j a1 a2 a3 b1 b2 b3 false none 0 0 none 0 0 0 0 8 (by decide) ao m c bs p' n' c'' _ W (nv_nil W 8) (nv_nil W 8) hm hmm h5n').mono ?_;rintro e w' ⟨rfl,hb⟩;rw[verB_none];exact⟨rfl,hb⟩
   ·by_cases h1:kd=1∧0≤(j:Int)∧(j:Int)<(cl:Int)
    ·obtain⟨rfl,-,h4⟩:=h1;have hjl:j<cl:=by omega
     refine⟨0,?_⟩;rintro g cap ao m c vx vy vn ve v1 v2 W hcc hcm hcu ⟨a1,a2,a3,b1,b2,b3,rfl,rfl,rfl,rfl,h1,h2⟩ ⟨p,n,c',B,r,x,d,X,Y,rfl,h3,h4,h5,h5n,h6,h7,h8,h9,rfl,rfl⟩ ⟨p',n',c'',B',r',x',d',X',Y',rfl,h3',h4',h5',h5n',h6',h7',h8',h9',rfl,rfl⟩ hm hmm;obtain⟨g1,g2,oo,lo,co,z0,z1,z2,z3,z4,z5,hJ⟩:=hcu j hj;have hver:=sgn_ver hR hpN (secret:=1+s) (draw:=1+d) (by omega) (by omega) (by omega) hq h8;have hver':=sgn_ver hR hpN (secret:=1+s) (draw:=1+d') (by omega) (by omega) (by omega) hq h8';have hpt:PtZ (curZ j) P q (shaS bs) (pairR B) true:=by rw[h9];exact hver
     have hpt':PtZ (curZ j) P q (shaS bs) (pairR B') true:=by rw[h9'];exact hver'
     rw[←hqi];constructor
     ·refine(sVerify_ec hR.good hR.base hcn (by have:=hcx.2.2.2.2.2.2;omega) g cl cap j hjl hcl hcc hcm g1 g2 oo lo co z0 z1 z2 z3 z4 z5 q a1 a2 a3 b1 b2 b3 none 0 0 none 0 0 ao m c bs p n c' B W hJ h1 h2 hm h3 (by omega) h5).mono ?_;rintro e w' ⟨b,hb,rfl,hbw⟩;rw[ptZ_uniq hR.good hR.base ⟨h1.nonneg,h2.nonneg⟩ hb hpt];exact⟨rfl,hbw⟩
     ·refine(rSigned_pt hR.good hR.base hcn hcx.1 hcx.2.1 hcx.2.2.1 hcx.2.2.2.1 hcx.2.2.2.2.1 hcx.2.2.2.2.2 g cl cap j hjl hcl hcc hcm g1 g2 oo lo co z0 z1 z2 z3 z4 z5 q a1 a2 a3 b1 b2 b3 none 0 0 none 0 0 ao m c bs p' n' c'' B' W hJ h1 h2 hm hmm h3' (by omega) h5').mono ?_;rintro e w' ⟨b,hb,rfl,hbw⟩;rw[ptZ_uniq hR.good hR.base ⟨h1.nonneg,h2.nonneg⟩ hb hpt'];exact⟨rfl,hbw⟩
    ·refine⟨41,?_⟩;rintro g cap ao m c vx vy vn ve v1 v2 W hcc hcm hcu ⟨a1,a2,a3,b1,b2,b3,rfl,rfl,rfl,rfl,h3,h4⟩ ⟨p,n,c',B,r,x,d,X,Y,rfl,-⟩ ⟨p',n',c'',B',r',x',d',X',Y',rfl,-⟩ hm hmm;exact⟨sVerify_no kd j _ cl cap a1 a2 a3 b1 b2 b3 false none 0 0 none 0 0 ao m c p n c' W h2 h1,rSigned_no kd j _ cl cap a1 a2 a3 b1 b2 b3 false none 0 0 none 0 0 ao m c bs p' n' c'' W hm hmm h2 h1⟩
end
section
open Go.RowKit Go.ChangeShapes Go.WideShapes Go.ChangeShapes
theorem trod_struct4{H:Type}{enc:TypeId × Value→H}{P:Program}{w:World}{base:Nat}{spare:Nat→Bool}{held:Bool}{t:TypeId}{f0 f1 f2 f3:Field}{fuel:Nat}{cs:List Value}{x:DataW H × List MemPlace}(ht:P.underlying t=some (.struct #[f0,f1,f2,f3]))(h:DataW.trod enc P w base spare held fuel t cs=some x):
  ∃y0 y1 y2 y3 n,cs.length=P.cellsOf t∧DataW.trod enc P w base spare held n f0.type ((cs.drop f0.offset).take (P.cellsOf f0.type))=some y0 ∧
   DataW.trod enc P w base spare held n f1.type ((cs.drop f1.offset).take (P.cellsOf f1.type))=some y1∧DataW.trod enc P w base spare held n f2.type ((cs.drop f2.offset).take (P.cellsOf f2.type))=some y2∧DataW.trod enc P w base spare held n f3.type ((cs.drop f3.offset).take (P.cellsOf f3.type))=some y3:=by
 obtain⟨xs,n,_,rfl,hl,hlen,hf⟩:=DataW.trod_struct ht h;match xs,hlen with
 | [y0,y1,y2,y3],_=>exact⟨y0,y1,y2,y3,n,hl,by simpa using hf 0 f0 rfl,by simpa using hf 1 f1 rfl,by simpa using hf 2 f2 rfl,by simpa using hf 3 f3 rfl⟩
theorem kyFields:∃f0 f1 f2 f3:Field,Tryz.prog.underlying 30=some (.struct #[f0,f1,f2,f3])∧f0.offset=0∧f1.offset=1∧f2.offset=2∧f3.offset=5∧f0.type=22∧f1.type=3∧f2.type=26∧f3.type=28:=⟨_,_,_,_,Tryz.underlying30,rfl,rfl,rfl,rfl,rfl,rfl,rfl,rfl⟩
theorem open_ky{H:Type}{enc:TypeId × Value→H}{w:World}{held:Bool}{fuel:Nat}{cs:Array Value}{x:DataW H × List MemPlace}(h:DataW.trod enc Tryz.prog w 0 (fun _=>true) held fuel 30 cs.toList=some x):
  ∃(kd cu:Int) (a1:Option Addr) (l1 c1:Nat) (z1:List Int) (a2:Option Addr) (l2 c2:Nat) (z2:List Int) (b:Bool) (a3:Option Addr) (l3 c3:Nat) (z3:List Int) (a4:Option Addr) (l4 c4:Nat) (z4:List Int),cs=#[.int .u8 kd,.int .i64 cu,.slice a1 l1 c1,.slice a2 l2 c2,.bool b,.slice a3 l3 c3,.slice a4 l4 c4]∧(0≤kd∧kd<256)∧(-9223372036854775808≤cu∧cu≤9223372036854775807)∧Came .u64 w a1 l1 c1 z1∧Came .u64 w a2 l2 c2 z2∧Came .u64 w a3 l3 c3 z3∧Came .u64 w a4 l4 c4 z4:=by
 obtain⟨f0,f1,f2,f3,hu,o0,o1,o2,o3,t0,t1,t2,t3⟩:=kyFields;have hk1:Tryz.prog.cellsOf 22=1:=by kernel_rfl
 have hi1:Tryz.prog.cellsOf 3=1:=by kernel_rfl
 have hp3:Tryz.prog.cellsOf 26=3:=by kernel_rfl
 have hr2:Tryz.prog.cellsOf 28=2:=by kernel_rfl
 have hc7:Tryz.prog.cellsOf 30=7:=by kernel_rfl
 obtain⟨y0,y1,y2,y3,n,hl,g0,g1,g2,g3⟩:=trod_struct4 hu h;rw[hc7]at hl;rw[o0,t0,hk1]at g0;rw[o1,t1,hi1]at g1;rw[o2,t2,hp3]at g2;rw[o3,t3,hr2]at g3;obtain⟨v0,v1,v2,v3,v4,v5,v6,hcs⟩:∃v0 v1 v2 v3 v4 v5 v6,cs.toList=[v0,v1,v2,v3,v4,v5,v6]:=by
  match hh:cs.toList,hl with
  | [v0,v1,v2,v3,v4,v5,v6],_=>exact⟨v0,v1,v2,v3,v4,v5,v6,rfl⟩
 rw[hcs]at g0 g1 g2 g3;simp only[List.drop_zero,List.drop_succ_cons,List.take_succ_cons,List.take_zero]at g0 g1 g2 g3;obtain⟨kd,rfl,hkd⟩:∃t,v0=.int .u8 t∧(0≤t∧t<256):=by
  obtain⟨z,e0,_,hz⟩:=DataW.trod_int (k:=.u8) Tryz.underlying22 g0
  cases e0
  exact⟨z,rfl,word_u8 hz⟩
 obtain⟨cu,rfl,hcu⟩:∃t,v1=.int .i64 t∧(-9223372036854775808≤t∧t≤9223372036854775807):=by
  obtain⟨z,e0,_,hz⟩:=DataW.trod_int (k:=.i64) Tryz.underlying3 g1
  cases e0
  exact⟨z,rfl,word_i64 hz⟩
 obtain⟨a1,l1,c1,z1,a2,l2,c2,z2,b,e1,w1,w2⟩:=open_pt (cs:=#[v2,v3,v4]) g2;obtain⟨a3,l3,c3,z3,a4,l4,c4,z4,e2,w3,w4⟩:=open_key (cs:=#[v5,v6]) g3;injection e1 with e1;injection e2 with e2
 cases e1
 cases e2
 exact⟨kd,cu,a1,l1,c1,z1,a2,l2,c2,z2,b,a3,l3,c3,z3,a4,l4,c4,z4,Array.ext' hcs,hkd,hcu,w1,w2,w3,w4⟩
end
end Go.Proofs.YtkhnnhbmchnajaaGreat
