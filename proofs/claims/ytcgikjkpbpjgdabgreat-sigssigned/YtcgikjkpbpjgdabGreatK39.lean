import Derived.Test.YtcgikjkpbpjgdabGreatK38
import Derived.Test.YtcgikjkpbpjgdabGreatK19
import Derived.Test.YtcgikjkpbpjgdabGreatK15
import Derived.BigRegion
import Derived.Test.YtcgikjkpbpjgdabGreatK29
import Derived.Test.YtcgikjkpbpjgdabGreatK24
import Derived.Test.YtcgikjkpbpjgdabGreatK32
import Derived.Test.YtcgikjkpbpjgdabGreatK34
import Derived.Test.YtcgikjkpbpjgdabGreatK37
import Derived.Test.YtcgikjkpbpjgdabGreatK33
import Derived.Test.YtcgikjkpbpjgdabGreatK36
import Derived.Test.YtcgikjkpbpjgdabGreatK28
set_option maxRecDepth 100000
set_option maxHeartbeats 40000000
set_option linter.unusedVariables false
set_option linter.unusedSimpArgs false
namespace Go.Proofs.YtcgikjkpbpjgdabGreat
open Go.Shelf Go.RowKit
theorem OwnAt.own {w:World} {g cap base:Nat} {xs:List Int} (h:OwnAt 5 .u8 w g cap xs) (hb:base≤g):Own 5 .u8 w base (.slice (some ⟨g,0,none⟩) xs.length cap) xs:=by obtain⟨cur,h1,h2,h3⟩:=h.blk;refine⟨by simp,.inr ⟨g,cap,cur,rfl,hb,h1,h.lc,h.cm,by simpa using h3,?_⟩⟩;simp only[Nat.mul_one];exact h2
theorem word_u16 {x:Int} (h:(Lit.int .u16 x).wf=true):0≤x∧x<65536:=by simp[Lit.wf,IntKind.has,IntKind.min,IntKind.max,IntKind.bits,IntKind.signed]at h;omega
theorem nc_one {w:World} {v:Value} {n:Int} {L:Nat} (h:Nc w v n L) (h0:0<n) (h1:n<18446744073709551616):∃b o c,v=.slice (some ⟨b,o,none⟩) 1 c∧1≤c∧w.cell? ⟨b,o,none⟩=some (.int .u64 n):=by obtain⟨ao,l,c,xs,rfl,hn,hc,hv,hl⟩:=h;have hx:xs=[n]:=canon_inj (B:=B64) (by decide) hn.dg (by intro x hx;simp at hx;subst hx;exact⟨by omega,by show x<18446744073709551616;omega⟩) hc (by unfold Canon;simp[top];omega) (by rw[hv];simp[val]);subst hx;have hl1:l=1:=hn.lies.len.symm;subst hl1;obtain⟨b,off,e,hlt,hcc⟩:=hn.lies.at (by omega);subst e;exact⟨b,off,c,rfl,hn.lc,by simpa using hcc 0 (by omega)⟩
theorem S12Awake_any (w:World):Calls Tryz.prog 5 #[] w fun e w'=>e=.returned (.bool true)∧Below w.heap.size w w':=by
 have hv:∀W:World,ByV (W.alloc (.cells #[.int .u8 48,.int .u8 6,.int .u8 2,.int .u8 1,.int .u8 5,.int .u8 2,.int .u8 1,.int .u8 9] 5)) (fun _=>True) (some ⟨W.heap.size,0,none⟩) 8 [48,6,2,1,5,2,1,9]:=fun W=>by refine⟨by decide,by decide,?_,fun _ _ _=>trivial⟩;exact row_bat (zs:=[48,6,2,1,5,2,1,9]) (heap_alloc_new W _) rfl (by intro x hx;simp at hx;omega)
 have hp:pairR [48,6,2,1,5,2,1,9]=some ([5],[9]):=by decide +kernel
 have HP:=sPair (some ⟨w.heap.size,0,none⟩) 8 8 [48,6,2,1,5,2,1,9] _ _ rfl (hv w) (by decide);rw[hp]at HP;have hb0:=balloc w (.cells #[.int .u8 48,.int .u8 6,.int .u8 2,.int .u8 1,.int .u8 5,.int .u8 2,.int .u8 1,.int .u8 9] 5);clear hv hp;go_enter Tryz.func5,Tryz.ntmps5;go_wp2_with fail
 refine HP.mono ?_;rintro e w2 ⟨hb2,(⟨hno,_⟩|⟨x,y,a1,l1,k1,a2,l2,k2,hs,rfl,n1,n2⟩)⟩
 ·cases hno
 cases hs
 obtain⟨c1,o1,d1,e1,f1,x1⟩:=nc_one n1 (by decide) (by decide);obtain⟨c2,o2,d2,e2,f2,x2⟩:=nc_one n2 (by decide) (by decide)
 cases e1
 cases e2
 have z1:nI [5]=5:=by decide
 have z2:nI [9]=9:=by decide
 rw[z1]at x1;rw[z2]at x2;have HB:Hid (Below w.heap.size w w2):=bstep hb0 hb2;clear HP hb0 hb2 n1 n2 z1 z2;go_wp2_with fail
 go_ret;exact⟨rfl,HB.out⟩
theorem cuJ_ofV {W:World} {base:Nat} {v:Value} {xs:List Value} (ho:W.ownsRow base 55 9 v 3 xs) (hl:CuL W 3 xs):∃g cap,v=.slice (some ⟨g,0,none⟩) 3 cap∧3≤cap∧cap≤maxLen∧∀j,j<3→∃g1 g2 oo lo co b0 b1 b2 b3 b4 b5,CuJ W g j (curZ j) g1 g2 oo lo co b0 b1 b2 b3 b4 b5:=by
 have ho2:=ho;obtain⟨g,cap,rfl,h1,h2,hall⟩:=cur_at ho hl;refine⟨g,cap,rfl,h1,h2,fun j hj => ?_⟩;obtain⟨g1,g2,oo,lo,co,b0,b1,b2,b3,b4,b5,hA,hC⟩:=hall j hj;rw[Nat.mul_comm 9 j]at hA;refine⟨g1,g2,oo,lo,co,b0,b1,b2,b3,b4,b5,?_,hA,hC⟩;rcases ho2.2 with⟨h,_⟩|⟨g',cap',cur,h,_,hr,_,_,hs,_⟩
 ·cases h
 ·cases h
  exact⟨cur,_,_,hr,by omega⟩
theorem sgC_no {k:Int} (hk:0≤k∧k<256) (h:¬k%16=15):∃j:Nat,j<3∧sgC k=(j:Int):=by unfold sgC;rw[if_neg h];exact⟨(k%3).toNat,by omega,by omega⟩
theorem cast_back {x d e N:Nat} (h:(x^d%N)^e%N=x):((x:Int)^d%(N:Int))^e%(N:Int)=(x:Int):=by
 have:=congrArg (Nat.cast (R:=Int)) h
 exact_mod_cast this
theorem rsa_back (i:Int) (x:Int) (h0:0≤x) (hx:x<rsaN i):(x^(rsaD i).toNat%rsaN i)^(rsaE i).toNat%rsaN i=x:=by
 obtain⟨n,rfl⟩:=Int.eq_ofNat_of_zero_le h0;by_cases h:i%2=0
 ·have e1:rsaN i=((8478774692950686948931691623231886540506061736060197768102464703086314338576516908251073744980808318024178470791773212721119574061960704473384495341337591:Nat):Int):=by unfold rsaN;rw[if_pos h];decide
  have e2:(rsaD i).toNat=2383713378970908144011267194989815058803793086148422171861512003209871396131481888572373782155166885376097174023812513049970796133554954105071126847058473:=by unfold rsaD;rw[if_pos h];decide +kernel
  have e3:(rsaE i).toNat=65537:=by unfold rsaE;rw[if_pos h];decide
  rw[e1]at hx;rw[e1,e2,e3];exact cast_back (back0 n (Int.ofNat_lt.1 hx))
 ·have e1:rsaN i=((10946859011210766630761700678456930657619854580716871171759543806720678760030654918172574107507588800923464901969980427984494337629330413913164793052846871:Nat):Int):=by unfold rsaN;rw[if_neg h];decide
  have e2:(rsaD i).toNat=7297906007473844420507800452304620438413236387144580781173029204480452506686963438357913577234804839559658985100037650548491023180987702123054674724834667:=by unfold rsaD;rw[if_neg h];decide +kernel
  have e3:(rsaE i).toNat=3:=by unfold rsaE;rw[if_neg h];decide
  rw[e1]at hx;rw[e1,e2,e3];exact cast_back (back1 n (Int.ofNat_lt.1 hx))
set_option maxRecDepth 100000
theorem back0s (x:Nat) (hx:x<8478774692950686948931691623231886540506061736060197768102464703086314338576516908251073744980808318024178470791773212721119574061960704473384495341337591):(x^65537%8478774692950686948931691623231886540506061736060197768102464703086314338576516908251073744980808318024178470791773212721119574061960704473384495341337591)^2383713378970908144011267194989815058803793086148422171861512003209871396131481888572373782155166885376097174023812513049970796133554954105071126847058473%8478774692950686948931691623231886540506061736060197768102464703086314338576516908251073744980808318024178470791773212721119574061960704473384495341337591=x:=by have h:=rsa_backN (p:=88719611872649329952513991566286235520218913748764956406943566279012192949221) (q:=95568212191024491931941514659376198119986059423125729445699730223722487564971) (e:=2383713378970908144011267194989815058803793086148422171861512003209871396131481888572373782155166885376097174023812513049970796133554954105071126847058473) (d:=65537) (k:=1760844309619626263846022407599006450360743144871091565037017529372086833384572250) (l:=1634658848753563904375070294608823889460033485820994321797935208690799655089378500) rp10 rp18 (by decide) (by decide) (by decide +kernel) (by decide +kernel) (by decide +kernel) x;rw[show 88719611872649329952513991566286235520218913748764956406943566279012192949221*95568212191024491931941514659376198119986059423125729445699730223722487564971=8478774692950686948931691623231886540506061736060197768102464703086314338576516908251073744980808318024178470791773212721119574061960704473384495341337591 by decide +kernel]at h;exact h hx
theorem back1s (x:Nat) (hx:x<10946859011210766630761700678456930657619854580716871171759543806720678760030654918172574107507588800923464901969980427984494337629330413913164793052846871):(x^3%10946859011210766630761700678456930657619854580716871171759543806720678760030654918172574107507588800923464901969980427984494337629330413913164793052846871)^7297906007473844420507800452304620438413236387144580781173029204480452506686963438357913577234804839559658985100037650548491023180987702123054674724834667%10946859011210766630761700678456930657619854580716871171759543806720678760030654918172574107507588800923464901969980427984494337629330413913164793052846871=x:=by have h:=rsa_backN (p:=97598692930283064568214715830273728601041630315902629291465192316678958387271) (q:=112161942773458590813326868146150591322910531441900228557395536266102007207601) (e:=7297906007473844420507800452304620438413236387144580781173029204480452506686963438357913577234804839559658985100037650548491023180987702123054674724834667) (d:=3) (k:=224323885546917181626653736292301182645821062883800457114791072532204014415200) (l:=195197385860566129136429431660547457202083260631805258582930384633357916774540) rp27 rp33 (by decide) (by decide) (by decide +kernel) (by decide +kernel) (by decide +kernel) x;rw[show 97598692930283064568214715830273728601041630315902629291465192316678958387271*112161942773458590813326868146150591322910531441900228557395536266102007207601=10946859011210766630761700678456930657619854580716871171759543806720678760030654918172574107507588800923464901969980427984494337629330413913164793052846871 by decide +kernel]at h;exact h hx
theorem rsa_backs (i:Int) (x:Int) (h0:0≤x) (hx:x<rsaN i):(x^(rsaE i).toNat%rsaN i)^(rsaD i).toNat%rsaN i=x:=by
 obtain⟨n,rfl⟩:=Int.eq_ofNat_of_zero_le h0;by_cases h:i%2=0
 ·have e1:rsaN i=((8478774692950686948931691623231886540506061736060197768102464703086314338576516908251073744980808318024178470791773212721119574061960704473384495341337591:Nat):Int):=by unfold rsaN;rw[if_pos h];decide
  have e2:(rsaD i).toNat=2383713378970908144011267194989815058803793086148422171861512003209871396131481888572373782155166885376097174023812513049970796133554954105071126847058473:=by unfold rsaD;rw[if_pos h];decide +kernel
  have e3:(rsaE i).toNat=65537:=by unfold rsaE;rw[if_pos h];decide
  rw[e1]at hx;rw[e1,e2,e3];exact cast_back (back0s n (Int.ofNat_lt.1 hx))
 ·have e1:rsaN i=((10946859011210766630761700678456930657619854580716871171759543806720678760030654918172574107507588800923464901969980427984494337629330413913164793052846871:Nat):Int):=by unfold rsaN;rw[if_neg h];decide
  have e2:(rsaD i).toNat=7297906007473844420507800452304620438413236387144580781173029204480452506686963438357913577234804839559658985100037650548491023180987702123054674724834667:=by unfold rsaD;rw[if_neg h];decide +kernel
  have e3:(rsaE i).toNat=3:=by unfold rsaE;rw[if_neg h];decide
  rw[e1]at hx;rw[e1,e2,e3];exact cast_back (back1s n (Int.ofNat_lt.1 hx))
theorem rsa_key (i:Int):keyB (rsaN i) (rsaE i)=true:=by unfold rsaN rsaE;split<;>decide +kernel
theorem ver_sig (i:Int) (hs:List Int) (hl:hs.length=32) (hd:Dg 256 hs) (bs:List Int) (bl:bs.length=64) (bd:Dg 256 bs):verB (rsaN i) (rsaE i) hs 64 bs=decide (val 256 bs.reverse=padZ hs^(rsaD i).toNat%rsaN i):=by
 have hk:=rsa_key i;have h5:=rsa_512 i;have hp:=padZ_lt hs hl hd;have hN:0<rsaN i:=by omega
 have hv0:0≤val 256 bs.reverse:=val_nonneg (by decide) (fun x m=>bd x (List.mem_reverse.1 m));unfold verB;rw[hk,h5.2.2.2];have e1:val 256 (padA ((64:Nat):Int) hs).reverse=padZ hs:=rfl;rw[e1];generalize val 256 bs.reverse=V at *;by_cases hV:V=padZ hs^(rsaD i).toNat%rsaN i
 ·have h6:=Int.emod_lt_of_pos (padZ hs^(rsaD i).toNat) hN;have h7:=rsa_back i (padZ hs) hp.1 (by omega);rw[←hV]at h6 h7;rw[decide_eq_true hV,decide_eq_true h6,decide_eq_true h7];rfl
 ·rw[decide_eq_false hV];by_cases hlt:V<rsaN i
  ·have h7:=rsa_backs i V hv0 hlt;have h8:¬V^(rsaE i).toNat%rsaN i=padZ hs:=fun h=>hV (by rw[←h];exact h7.symm);rw[decide_eq_false h8];simp
  ·rw[decide_eq_false hlt];simp
def Cur3 (W:World) (g:Nat):Prop:=∀j,j<3→∃g1 g2 oo lo co b0 b1 b2 b3 b4 b5,CuJ W g j (curZ j) g1 g2 oo lo co b0 b1 b2 b3 b4 b5
theorem Cur3.keep {W W':World} {g:Nat} (h:Cur3 W g) (hb:Below W.heap.size W W'):Cur3 W' g:=fun j hj=>by obtain⟨g1,g2,oo,lo,co,b0,b1,b2,b3,b4,b5,hJ⟩:=h j hj;exact⟨g1,g2,oo,lo,co,b0,b1,b2,b3,b4,b5,hJ.keep hb⟩
theorem sgOwn (k s:Int) (hk:0≤k∧k<256) (hs:0≤s∧s<256):∃(KF:Value→World→Prop) (SF:List Int→Value→World→Prop),(∀v W W',Below W.heap.size W W'→KF v W→KF v W')∧(∀bs v W W',Below W.heap.size W W'→SF bs v W→SF bs v W') ∧
  (∀W,Calls Tryz.prog 8 #[.agg #[.int .u8 k,.int .u8 s]] W fun e w'=>∃v,e=.returned v∧KF v w'∧Below W.heap.size W w') ∧
  (∀ao m c bs draw W,0≤draw∧draw<65536→NumIn .u8 256 W ao m c bs→m≤1000→Calls Tryz.prog 9 #[.agg #[.int .u8 k,.int .u8 s],.slice ao m c,.int .u16 draw] W fun e w'=>∃v,e=.returned v∧SF bs v w'∧Below W.heap.size W w') ∧
  (∀g cap ao m c bs v1 v2 W,3≤cap→cap≤maxLen→Cur3 W g→KF v1 W→SF bs v2 W→NumIn .u8 256 W ao m c bs→Calls Tryz.prog 6 #[.slice (some ⟨g,0,none⟩) 3 cap,v1,.slice ao m c,v2] W fun e w'=>e=.returned (.int .i64 0)∧Below W.heap.size W w'):=by
 by_cases h:k%16=15
 ·refine⟨fun v W=>∃a1 a2 a3 b1 b2 b3,v=.agg #[.int .u8 2,.int .i64 0,.slice none 0 0,.slice none 0 0,.bool false,.slice a1 a2 a3,.slice b1 b2 b3]∧Nv W (.slice a1 a2 a3) (rsaN s) 8∧Nv W (.slice b1 b2 b3) (rsaE s) 8,
   fun bs v W=>∃p zs,v=.slice p 64 64∧NumIn .u8 256 W p 64 64 zs∧zs.length=64∧val 256 zs.reverse=padZ (shaS bs)^(rsaD s).toNat%rsaN s,?_,?_,?_,?_,?_⟩
  ·rintro v W W' hb ⟨a1,a2,a3,b1,b2,b3,e,h1,h2⟩;exact⟨a1,a2,a3,b1,b2,b3,e,h1.old hb,h2.old hb⟩
  ·rintro bs v W W' hb ⟨p,zs,e,h1,h2⟩;exact⟨p,zs,e,h1.old hb,h2⟩
  ·intro W;refine(skey_k k hk h s W hs.1 hs.2).mono ?_;rintro e w' ⟨vn,ve,rfl,h1,h2,hb⟩;have h1':=h1;have h2':=h2;obtain⟨a1,a2,a3,_,rfl,-⟩:=h1';obtain⟨b1,b2,b3,_,rfl,-⟩:=h2';exact⟨_,rfl,⟨a1,a2,a3,b1,b2,b3,rfl,h1,h2⟩,hb⟩
  ·intro ao m c bs draw W hdr hb hm;refine(sign_k k hk h draw s hs.1 hs.2 ao m c bs W hb hm).mono ?_;rintro e w' ⟨v,rfl,g,zs,rfl,hr,hl,hd,hv,hbw⟩;have hn:=hr.num hd (by omega);rw[hl]at hn;exact⟨_,rfl,⟨_,zs,rfl,hn,hl,hv⟩,hbw⟩
  ·rintro g cap ao m c bs v1 v2 W hcap hcm hcu ⟨a1,a2,a3,b1,b2,b3,rfl,h1,h2⟩ ⟨p,zs,rfl,h3,h4,h5⟩ hm;have hv:verB (rsaN s) (rsaE s) (shaS bs) 64 zs=true:=by
    rw[ver_sig s _ (shaS_length bs) (sha_bytes bs) zs h4 h3.dg];exact decide_eq_true h5
   refine(sVerify_rsa _ 3 cap 0 none 0 0 none 0 0 false a1 a2 a3 b1 b2 b3 (rsaN s) (rsaE s) 8 (by decide) ao m c bs p 64 64 zs W h1 h2 hm h3).mono ?_;rintro e w' ⟨rfl,hb⟩;rw[hv];exact⟨rfl,hb⟩
 ·obtain⟨j,hj,hsg⟩:=sgC_no hk h;obtain⟨P,N,inst,hR,hpN,hN2,hN3,-⟩:=curRightN j hj;obtain⟨q,hq⟩:=mt_ex hR.good hR.base (1+s).toNat;have hn:=hR.n;have hqi:=mt_fin hR hpN rfl (by omega) (by omega) hq;refine⟨fun v W=>∃a1 a2 a3 b1 b2 b3,v=.agg #[.int .u8 1,.int .i64 (j:Int),.slice a1 a2 a3,.slice b1 b2 b3,.bool q.inf,.slice none 0 0,.slice none 0 0]∧Nv W (.slice a1 a2 a3) q.x 4∧Nv W (.slice b1 b2 b3) q.y 4,
   fun bs v W=>∃p m c B r x d X Y,v=.slice p m c∧B.length=m∧m≤100∧ByV W (fun _=>True) p c B∧0≤d∧d<(curZ j).n-1∧SgnZ (curZ j) P (digZ (curZ j).n 32 (shaS bs)) (1+s) (1+d) r x∧pairR B=some (X,Y)∧nI X=r∧nI Y=x,?_,?_,?_,?_,?_⟩
  ·rintro v W W' hb ⟨a1,a2,a3,b1,b2,b3,e,h1,h2⟩;exact⟨a1,a2,a3,b1,b2,b3,e,h1.old hb,h2.old hb⟩
  ·rintro bs v W W' hb ⟨p,m,c,B,r,x,d,X,Y,e,h1,h2,h3,h4⟩;exact⟨p,m,c,B,r,x,d,X,Y,e,h1,h2,h3.below hb,h4⟩
  ·intro W;refine(sgKey_any j hj hR hpN hN2 k s hk hs hsg q hq W).mono ?_;rintro e w' ⟨vx,vy,rfl,h1,h2,hb⟩;have h1':=h1;have h2':=h2;obtain⟨a1,a2,a3,_,rfl,-⟩:=h1';obtain⟨b1,b2,b3,_,rfl,-⟩:=h2';exact⟨_,rfl,⟨a1,a2,a3,b1,b2,b3,by rw[hqi],h1.up (by decide),h2.up (by decide)⟩,hb⟩
  ·intro ao m c bs draw W hdr hb hm;refine(hSignX k s hk hs j hj hsg hR hpN hN2 hN3 ao m c bs draw hdr W hb hm).mono ?_;rintro e w' ⟨B,r,x,d,X,Y,⟨hbw,p,n,c',rfl,hl,ho⟩,g1,g2⟩;obtain⟨p',c2,e2,hv⟩:=own_byv (l:=B) (by rw[hl];exact ho);rw[hl]at e2
   cases e2
   exact⟨_,rfl,⟨p,n,c',B,r,x,d,X,Y,rfl,hl,by omega,hv.mono (fun _ _ _=>trivial),g2⟩,hbw⟩
  ·rintro g cap ao m c bs v1 v2 W hcap hcm hcu ⟨a1,a2,a3,b1,b2,b3,rfl,h1,h2⟩ ⟨p,n,c',B,r,x,d,X,Y,rfl,h3,h4,h5,h6,h7,h8,h9,rfl,rfl⟩ hm;obtain⟨g1,g2,oo,lo,co,z0,z1,z2,z3,z4,z5,hJ⟩:=hcu j hj;have hcx:=curS31 j;refine(sVerify_ec hR.good hR.base (curN j hj) (by have:=hcx.2.2.2.2.2.2;omega) g 3 cap j hj (by decide) hcap hcm g1 g2 oo lo co z0 z1 z2 z3 z4 z5 q a1 a2 a3 b1 b2 b3 none 0 0 none 0 0 ao m c bs p n c' B W hJ h1 h2 hm h3 (by omega) h5).mono ?_;rintro e w' ⟨b,hb,rfl,hbw⟩;have hver:=sgn_ver hR hpN (secret:=1+s) (draw:=1+d) (by omega) (by omega) (by omega) hq h8;have hpt:PtZ (curZ j) P q (shaS bs) (pairR B) true:=by rw[h9];exact hver
   rw[ptZ_uniq hR.good hR.base ⟨h1.nonneg,h2.nonneg⟩ hb hpt];exact⟨rfl,hbw⟩
end Go.Proofs.YtcgikjkpbpjgdabGreat
