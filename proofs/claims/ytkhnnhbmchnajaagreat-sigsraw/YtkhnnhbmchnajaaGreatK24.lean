import Derived.Test.YtkhnnhbmchnajaaGreatK23
import Derived.Test.YtkhnnhbmchnajaaGreatK02
import Derived.Test.YtkhnnhbmchnajaaGreatK01
import Derived.Test.YtkhnnhbmchnajaaGreatK20
import Derived.Laws.ResultCell
set_option maxRecDepth 100000
set_option maxHeartbeats 40000000
set_option linter.unusedVariables false
set_option linter.unusedSimpArgs false
namespace Go.Proofs.YtkhnnhbmchnajaaGreat
section
open Go.Shelf Go.RowKit
theorem Rv.first{w:World}{v:Value}{n:Int}{L:Nat}(h:Rv w v n L)(hn:0<n):∃b o l c x,v=.slice (some ⟨b,o,none⟩) l c∧0<l∧l≤L∧w.cell? ⟨b,o,none⟩=some (.int .i64 x)∧0≤x∧x%2=n%2∧b<w.heap.size:=by
 obtain⟨a1,a2,a3,a4,rfl,a5,a6,a7,a8⟩:=h;have hlen:=a5.len;have h0:0<a2:=by
  rcases Nat.eq_zero_or_pos a2 with h|h
  ·exfalso;have:a4=[]:=List.eq_nil_of_length_eq_zero (by omega);rw[this]at a7;simp[val]at a7;omega
  ·exact h
 obtain⟨b',off,rfl,hlt,hc⟩:=a5.lies.at h0;match a4,hlen,a7,hc,a5 with
 | [],hlen,_,_,_=>simp at hlen;omega
 | x :: xs, hlen, a7, hc, a5 =>
  have hc0:w.cell? ⟨b',off,none⟩=some (.int .i64 x):=by have:=hc 0 h0;simpa using this
  have hx:=a5.dg x (by simp);refine⟨b',off,a2,a3,x,rfl,h0,a8,hc0,hx.1,?_,hlt⟩;rw[←a7,val_cons,show D16=2*32768 by decide,Int.mul_assoc,Int.add_mul_emod_self_left]
theorem rrsa_full(k:Value)(n e:Int)(L:Nat)(w:World)(hk:Kv w k n e L)(hL:L≤1000):
  Calls Tryz.prog 54 #[k] w fun r w'=>r=.returned (.bool (keyB n e))∧Below w.heap.size w w':=by
 have H1:=fun W (hb:Below w.heap.size w W)=>rsize_any k n e L W (hk.old hb) hL;have hk2:=hk;obtain⟨vn,ve,rfl,hn,he⟩:=hk2;have H2:=fun W (hb:Below w.heap.size w W)=>rOf_rv vn n L W (hn.old hb) hL;have H3:=fun W (hb:Below w.heap.size w W)=>rOf_rv ve e L W (he.old hb) hL;obtain⟨a1,a2,a3,a4,rfl,-⟩:=hn;obtain⟨e1,e2,e3,e4,rfl,-⟩:=he;obtain⟨W0,hW0⟩:∃W0,w.alloc (.cells #[.slice a1 a2 a3,.slice e1 e2 e3] 28)=W0:=⟨_,rfl⟩
 have b0:Below w.heap.size w W0:=by rw[←hW0];exact(Below.refl w.heap.size w).alloc (Nat.le_refl _) _
 have HC:Hid (W0.heap[w.heap.size]?=some (.cells #[.slice a1 a2 a3,.slice e1 e2 e3] 28 (0,0))):=by unfold Hid;rw[←hW0];exact heap_alloc_new w _
 have HLT:Hid (w.heap.size<W0.heap.size):=(Array.getElem?_eq_some_iff.1 HC.out).1;have HW0:Hid (Below w.heap.size w W0):=b0;clear b0 hk;obtain⟨BB,hBB⟩:∃BB,keyB n e=BB:=⟨_,rfl⟩
 rw[hBB];unfold keyB expB at hBB;have HKB:Hid (((decide (62≤szZ n)&&decide (szZ n≤256))&&(decide (n%2=1)&&(decide (e%2=1)&&(decide (3≤e)&&decide (e<n)))))=BB):=hBB;clear hBB;go_enter Tryz.func54,Tryz.ntmps54;go_wp2_with fail
 clear hW0;refine wp_region_frames 15 [[5],[6],[7],[8],[9],[10],[3,7],[4,10]] (([.eq (.pointer (some ⟨w.heap.size,0,none⟩)),.eq (.slice a1 a2 a3),.rv n (4*L),.eq (.pointer (some ⟨w.heap.size,1,none⟩)),.eq (.slice e1 e2 e3),.rv e (4*L),.same,.same]:List Fk).map Fk.sem) [0,1,2,3,4,5,6,7] (by kernel_rfl) (by kernel_rfl) (by kernel_rfl) ?step ?done
 case step=>
  intro i o ho listed a wx hI hli hne KK hK;have hlt:i<8:=(Array.getElem?_eq_some_iff.1 ho).1;have hsz:Hid (a.tmps.size=50):=hI.slots;have hbw:Below W0.heap.size W0 wx:=(Below.refl _ _).drew.trans hI.below;obtain rfl|rfl|rfl|rfl|rfl|rfl|rfl|rfl:i=0∨i=1∨i=2∨i=3∨i=4∨i=5∨i=6∨i=7:=by omega
  ·obtain rfl:=op_is ho rfl;rw[if_pos (by rfl)];have eH1:a.tmps.getD 1 undef=.pointer (some ⟨w.heap.size,0,none⟩):=hI.stays hli 15 1 (by decide +kernel);go_simp;exact hI.grow hK _ _ (Below.refl _ _) (pz hsz (by rfl))
  ·obtain rfl:=op_is ho rfl;rw[if_pos (by rfl)];have eH5:a.tmps.getD 5 undef=(.pointer (some ⟨w.heap.size,0,none⟩)):=hI.deep hne 0 0 (by decide +kernel);obtain⟨x0,x1⟩:=cells2 (by rw[hbw.block _ HLT.out];exact HC.out);go_simp;exact hI.grow hK _ _ (Below.refl _ _) (pz hsz (by rfl))
  ·obtain rfl:=op_is ho rfl;rw[if_pos (by rfl)];have eH6:a.tmps.getD 6 undef=(.slice a1 a2 a3):=hI.deep hne 0 1 (by decide +kernel);go_simp;go_at_call 56;refine(H2 wx (HW0.out.trans (hbw.mono HW0.out.size))).mono ?_;rintro r w5 ⟨v5,rfl,hv5,hb5⟩;exact hI.grow hK _ _ hb5 (by have hp:=put_self a 7 v5 (by rw[hsz.out];decide);show Rv w5 ((a.put (some 7) v5).tmps.getD 7 undef) _ _;rw[hp];exact hv5)
  ·obtain rfl:=op_is ho rfl;rw[if_pos (by rfl)];have eH1:a.tmps.getD 1 undef=.pointer (some ⟨w.heap.size,0,none⟩):=hI.stays hli 15 1 (by decide +kernel);go_simp;exact hI.grow hK _ _ (Below.refl _ _) (pz hsz (by rfl))
  ·obtain rfl:=op_is ho rfl;rw[if_pos (by rfl)];have eH8:a.tmps.getD 8 undef=(.pointer (some ⟨w.heap.size,1,none⟩)):=hI.deep hne 0 3 (by decide +kernel);obtain⟨x0,x1⟩:=cells2 (by rw[hbw.block _ HLT.out];exact HC.out);go_simp;exact hI.grow hK _ _ (Below.refl _ _) (pz hsz (by rfl))
  ·obtain rfl:=op_is ho rfl;rw[if_pos (by rfl)];have eH9:a.tmps.getD 9 undef=(.slice e1 e2 e3):=hI.deep hne 0 4 (by decide +kernel);go_simp;go_at_call 56;refine(H3 wx (HW0.out.trans (hbw.mono HW0.out.size))).mono ?_;rintro r w5 ⟨v5,rfl,hv5,hb5⟩;exact hI.grow hK _ _ hb5 (by have hp:=put_self a 10 v5 (by rw[hsz.out];decide);show Rv w5 ((a.put (some 10) v5).tmps.getD 10 undef) _ _;rw[hp];exact hv5)
  ·obtain rfl:=op_is ho rfl;rw[if_pos (by rfl)];have fA2:Fk.sem (.rv n (4*L)) [a.tmps.getD 7 undef] wx:=hI.deep hne 0 2 (by decide +kernel);obtain⟨zX7,eH7⟩:∃x,a.tmps.getD 7 undef=x:=⟨_,rfl⟩
   simp only[eH7]at fA2;have eK7:=eH7;rw[Array.getD_eq_getD_getElem?]at eK7;go_simp;exact hI.grow hK _ _ (Below.refl _ _) ((pz hsz (by rfl)).trans ((put_get _ _ _ _ (by decide)).trans eH7).symm)
  ·obtain rfl:=op_is ho rfl;rw[if_pos (by rfl)];have fA5:Fk.sem (.rv e (4*L)) [a.tmps.getD 10 undef] wx:=hI.deep hne 0 5 (by decide +kernel);obtain⟨zX10,eH10⟩:∃x,a.tmps.getD 10 undef=x:=⟨_,rfl⟩
   simp only[eH10]at fA5;have eK10:=eH10;rw[Array.getD_eq_getD_getElem?]at eK10;go_simp;exact hI.grow hK _ _ (Below.refl _ _) ((pz hsz (by rfl)).trans ((put_get _ _ _ _ (by decide)).trans eH10).symm)
 case done =>
  intro listed a W hI hall;obtain⟨tm,df⟩:=a;have hdf:df=[]:=hI.defers;subst hdf;have hTM:=hI.frame _ rfl [false,false,false,true,true,true,true,true,true,true,true,false,false,false,false,false,false,false,false,false,false,false,false,false,false,false,false,false,false,false,false,false,false,false,false,false,false,false,false,false,false,false,false,false,false,false,false,false,false,false] 50 rfl rfl (by decide +kernel);have fA2:Fk.sem (.rv n (4*L)) [tm.getD 7 undef] W:=hI.facts 2 (hall 2 (by decide));have fA5:Fk.sem (.rv e (4*L)) [tm.getD 10 undef] W:=hI.facts 5 (hall 5 (by decide));have fA6:Fk.sem (.same) [tm.getD 3 undef,tm.getD 7 undef] W:=hI.facts 6 (hall 6 (by decide));have fA7:Fk.sem (.same) [tm.getD 4 undef,tm.getD 10 undef] W:=hI.facts 7 (hall 7 (by decide));have fA0:tm.getD 5 undef=(.pointer (some ⟨w.heap.size,0,none⟩)):=hI.facts 0 (hall 0 (by decide));have fA1:tm.getD 6 undef=(.slice a1 a2 a3):=hI.facts 1 (hall 1 (by decide));have fA3:tm.getD 8 undef=(.pointer (some ⟨w.heap.size,1,none⟩)):=hI.facts 3 (hall 3 (by decide));have fA4:tm.getD 9 undef=(.slice e1 e2 e3):=hI.facts 4 (hall 4 (by decide));have hbw:Below W0.heap.size W0 W:=(Below.refl _ _).drew.trans hI.below;clear hI hall listed;simp only[frameV,cond_true,cond_false,Nat.reduceAdd,Nat.zero_add,fA0,fA1,fA3,fA4]at hTM;clear fA0 fA1 fA3 fA4;generalize tm.getD 3 undef=zX3 at hTM fA6;generalize tm.getD 4 undef=zX4 at hTM fA7;generalize tm.getD 7 undef=zX7 at hTM fA2 fA6;generalize tm.getD 10 undef=zX10 at hTM fA5 fA7;subst hTM;have g3:zX3=zX7:=fA6;have g4:zX4=zX10:=fA7;have r7:Rv W zX7 n (4*L):=fA2;have r10:Rv W zX10 e (4*L):=fA5;clear fA2 fA5 fA6 fA7;subst g3;subst g4;have HN:Hid (Rv W zX3 n (4*L)∧Rv W zX4 e (4*L)∧Below w.heap.size w W∧Below W0.heap.size W0 W):=⟨r7,r10,HW0.out.trans (hbw.mono HW0.out.size),hbw⟩
  have h35:=fun W'=>rSmall_any 3 W' (by decide) (by decide);have hc4:=cmpI_ge e 3;have hc6:=cmpI_ltz e n;have HCM:=fun(W':World) (v':Value) (hb':Below W.heap.size W W') (hv:Rv W' v' 3 4)=>rCmp_rv zX4 v' e 3 (4*L) 4 W' (HN.out.2.1.old hb') hv (by omega) (by omega);have HCN:=fun(W':World) (hb':Below W.heap.size W W')=>rCmp_rv zX4 zX3 e n (4*L) (4*L) W' (HN.out.2.1.old hb') (HN.out.1.old hb') (by omega) (by omega);have HX:Hid (∀W',Below W.heap.size W W'→W'.cell? ⟨w.heap.size,0,none⟩=some (.slice a1 a2 a3)∧W'.cell? ⟨w.heap.size,1,none⟩=some (.slice e1 e2 e3)):=fun W' hb'=>cells2 (t:=28) (by rw[hb'.block _ (Nat.lt_of_lt_of_le HLT.out hbw.size),hbw.block _ HLT.out];exact HC.out);by_cases hpos:0<n∧0<e
  rotate_left
  ·have hze:n=0→szZ n=0:=fun h=>by rw[h];rfl
   have hn0:=r7.nonneg;have he0:=r10.nonneg;obtain⟨na,nl,nc,nxs,rfl,-⟩:=r7;obtain⟨ea,el,ec,exs,rfl,q1,q2,q3,-⟩:=r10;have hel:e=0→(el:Int)=0:=fun h=>by have:=canon_inj (B:=D16) (by decide) q1.dg (fun x hx=>by cases hx) q2 Canon.nil (by rw[q3,h];rfl);rw[this]at q1;have:=q1.len;simp at this;omega
   have HB:Hid (Below w.heap.size w W):=HN.out.2.2.1;have hsz0:0≤szZ n:=by unfold szZ;omega
   generalize szZ n=s at *;clear hbw q1 q2 q3 HCM HCN h35 hc4 hc6 HN HC HLT HW0 H2 H3;obtain⟨x0,x1⟩:=HX.out W (Below.refl _ _);by_cases c1:s<62
   ·have hB':BB=false:=by rw[←HKB.out];simp;omega
    clear HKB hze hel;subst hB';go_wp2_with fail
    refine(H1 W HB.out).mono ?_;rintro r w1 ⟨rfl,d1⟩;have D1:=d1;clear x0 x1;obtain⟨x0,x1⟩:=HX.out w1 D1;go_wp2;go_ret;refine⟨?_,HB.out.trans (D1.mono HB.out.size)⟩;first|rfl|(simp;omega)|(simp)
   have c1':62≤s:=by omega
   by_cases c2:256<s
   ·have hB':BB=false:=by rw[←HKB.out];simp;omega
    clear HKB hze hel;subst hB';go_wp2_with fail
    refine(H1 W HB.out).mono ?_;rintro r w1 ⟨rfl,d1⟩;have D1:=d1;clear x0 x1;obtain⟨x0,x1⟩:=HX.out w1 D1;go_wp2_with fail
    refine(H1 w1 (HB.out.trans (D1.mono HB.out.size))).mono ?_;rintro r w2 ⟨rfl,d2⟩;have D2:=D1.trans (d2.mono D1.size);clear x0 x1;obtain⟨x0,x1⟩:=HX.out w2 D2;go_wp2;go_ret;refine⟨?_,HB.out.trans (D2.mono HB.out.size)⟩;first|rfl|(simp;omega)|(simp)
   have c2':s≤256:=by omega
   have e0:e=0:=by
    by_cases h1:n=0
    ·have:=hze h1;omega
    ·by_cases h2:e=0
     ·exact h2
     ·exact absurd ⟨by omega,by omega⟩ hpos
   have el0:=hel e0;have hB':BB=false:=by rw[←HKB.out,e0];simp
   clear HKB hze hel;subst hB';go_wp2_with fail
   refine(H1 W HB.out).mono ?_;rintro r w1 ⟨rfl,d1⟩;have D1:=d1;clear x0 x1;obtain⟨x0,x1⟩:=HX.out w1 D1;go_wp2_with fail
   refine(H1 w1 (HB.out.trans (D1.mono HB.out.size))).mono ?_;rintro r w2 ⟨rfl,d2⟩;have D2:=D1.trans (d2.mono D1.size);clear x0 x1;obtain⟨x0,x1⟩:=HX.out w2 D2;go_wp2;go_ret;refine⟨?_,HB.out.trans (D2.mono HB.out.size)⟩;first|rfl|(simp;omega)|(simp)
  obtain⟨hn0,he0⟩:=hpos;obtain⟨nb,no,nl,nc,nx,rfl,nl0,nlL,ncell,nx0,nx2,nlt⟩:=r7.first hn0;obtain⟨eb,eo,el,ec,ex,rfl,el0,elL,ecell,ex0,ex2,elt⟩:=r10.first he0;have HCL:Hid (∀W',Below W.heap.size W W'→W'.cell? ⟨nb,no,none⟩=some (.int .i64 nx)∧W'.cell? ⟨eb,eo,none⟩=some (.int .i64 ex)):=fun W' hb'=>⟨by rw[hb'.cell nlt];exact ncell,by rw[hb'.cell elt];exact ecell⟩
  have hpn:(0:Int)<(nl:Int):=by omega
  have hpe:(0:Int)<(el:Int):=by omega
  have hnt:nx.tmod 2=n%2:=by rw[Int.tmod_eq_emod_of_nonneg nx0,nx2]
  have het:ex.tmod 2=e%2:=by rw[Int.tmod_eq_emod_of_nonneg ex0,ex2]
  have hsz0:0≤szZ n:=by unfold szZ;omega
  have HB:Hid (Below w.heap.size w W):=HN.out.2.2.1;have hn2:n%2=0∨n%2=1:=Int.emod_two_eq n;have he2:e%2=0∨e%2=1:=Int.emod_two_eq e;generalize szZ n=s at *;generalize n%2=n2 at *;generalize e%2=ee2 at *;generalize cmpI e 3=k1 at *;generalize cmpI e n=k2 at *;clear hbw r7 r10 ncell ecell nx0 ex0 nx2 ex2 HN HC HLT HW0 H2 H3 nlt elt;obtain⟨x0,x1⟩:=HX.out W (Below.refl _ _);by_cases c1:s<62
  ·have hB':BB=false:=by rw[←HKB.out];simp;omega
   clear HKB;subst hB';go_wp2_with fail
   refine(H1 W HB.out).mono ?_;rintro r w1 ⟨rfl,d1⟩;have D1:=d1;clear x0 x1;obtain⟨x0,x1⟩:=HX.out w1 D1;go_wp2;go_ret;refine⟨?_,HB.out.trans (D1.mono HB.out.size)⟩;first|rfl|(simp;omega)|(simp)
  have c1':62≤s:=by omega
  by_cases c2:256<s
  ·have hB':BB=false:=by rw[←HKB.out];simp;omega
   clear HKB;subst hB';go_wp2_with fail
   refine(H1 W HB.out).mono ?_;rintro r w1 ⟨rfl,d1⟩;have D1:=d1;clear x0 x1;obtain⟨x0,x1⟩:=HX.out w1 D1;go_wp2_with fail
   refine(H1 w1 (HB.out.trans (D1.mono HB.out.size))).mono ?_;rintro r w2 ⟨rfl,d2⟩;have D2:=D1.trans (d2.mono D1.size);clear x0 x1;obtain⟨x0,x1⟩:=HX.out w2 D2;obtain⟨y0,y1⟩:=HCL.out w2 D2;go_wp2;go_ret;refine⟨?_,HB.out.trans (D2.mono HB.out.size)⟩;first|rfl|(simp;omega)|(simp)
  have c2':s≤256:=by omega
  rcases hn2 with rfl|rfl
  ·have hB':BB=false:=by rw[←HKB.out];simp
   clear HKB;subst hB';go_wp2_with fail
   refine(H1 W HB.out).mono ?_;rintro r w1 ⟨rfl,d1⟩;have D1:=d1;clear x0 x1;obtain⟨x0,x1⟩:=HX.out w1 D1;go_wp2_with fail
   refine(H1 w1 (HB.out.trans (D1.mono HB.out.size))).mono ?_;rintro r w2 ⟨rfl,d2⟩;have D2:=D1.trans (d2.mono D1.size);clear x0 x1;obtain⟨x0,x1⟩:=HX.out w2 D2;obtain⟨y0,y1⟩:=HCL.out w2 D2;go_wp2;go_ret;refine⟨?_,HB.out.trans (D2.mono HB.out.size)⟩;first|rfl|(simp;omega)|(simp)
  by_cases c4:3≤e
  rotate_left
  ·have hB':BB=false:=by rw[←HKB.out];simp[c4]
   clear HKB;subst hB';have c4':¬0≤k1:=fun h=>c4 (hc4.1 h);clear hc4 hc6;go_wp2_with fail
   refine(H1 W HB.out).mono ?_;rintro r w1 ⟨rfl,d1⟩;have D1:=d1;clear x0 x1;obtain⟨x0,x1⟩:=HX.out w1 D1;go_wp2_with fail
   refine(H1 w1 (HB.out.trans (D1.mono HB.out.size))).mono ?_;rintro r w2 ⟨rfl,d2⟩;have D2:=D1.trans (d2.mono D1.size);clear x0 x1;obtain⟨x0,x1⟩:=HX.out w2 D2;obtain⟨y0,y1⟩:=HCL.out w2 D2;go_wp2_with fail
   refine(h35 w2).mono ?_;rintro r w3 ⟨v3,rfl,hv3⟩;obtain⟨hv3,d3⟩:=rv_of hv3;have D3:=D2.trans (d3.mono D2.size);have H7:=HCM w3 v3 D3 hv3;obtain⟨s1,s2,s3,s4,rfl,-⟩:=hv3;clear x0 x1 y0 y1;obtain⟨y0,y1⟩:=HCL.out w3 D3;go_wp2_with fail
   refine H7.mono ?_;rintro r w4 ⟨rfl,d4⟩;have D4:=D3.trans (d4.mono D3.size);clear y0 y1;obtain⟨y0,y1⟩:=HCL.out w4 D4;go_wp2;go_ret;refine⟨?_,HB.out.trans (D4.mono HB.out.size)⟩;first|rfl|(simp;omega)|(simp)
  have c4':=hc4.2 c4;rcases he2 with rfl|rfl
  ·have hB':BB=false:=by rw[←HKB.out];simp
   clear HKB;subst hB';clear hc4 hc6;go_wp2_with fail
   refine(H1 W HB.out).mono ?_;rintro r w1 ⟨rfl,d1⟩;have D1:=d1;clear x0 x1;obtain⟨x0,x1⟩:=HX.out w1 D1;go_wp2_with fail
   refine(H1 w1 (HB.out.trans (D1.mono HB.out.size))).mono ?_;rintro r w2 ⟨rfl,d2⟩;have D2:=D1.trans (d2.mono D1.size);clear x0 x1;obtain⟨x0,x1⟩:=HX.out w2 D2;obtain⟨y0,y1⟩:=HCL.out w2 D2;go_wp2_with fail
   refine(h35 w2).mono ?_;rintro r w3 ⟨v3,rfl,hv3⟩;obtain⟨hv3,d3⟩:=rv_of hv3;have D3:=D2.trans (d3.mono D2.size);have H7:=HCM w3 v3 D3 hv3;obtain⟨s1,s2,s3,s4,rfl,-⟩:=hv3;clear x0 x1 y0 y1;obtain⟨y0,y1⟩:=HCL.out w3 D3;go_wp2_with fail
   refine H7.mono ?_;rintro r w4 ⟨rfl,d4⟩;have D4:=D3.trans (d4.mono D3.size);clear y0 y1;obtain⟨y0,y1⟩:=HCL.out w4 D4;go_wp2;go_ret;refine⟨?_,HB.out.trans (D4.mono HB.out.size)⟩;first|rfl|(simp;omega)|(simp)
  by_cases c6:e<n
  ·have hB':BB=true:=by rw[←HKB.out];simp[c1',c2',c4,c6]
   clear HKB;subst hB';have c6':=hc6.2 c6;clear hc4 hc6 c6;go_wp2_with fail
   refine(H1 W HB.out).mono ?_;rintro r w1 ⟨rfl,d1⟩;have D1:=d1;clear x0 x1;obtain⟨x0,x1⟩:=HX.out w1 D1;go_wp2_with fail
   refine(H1 w1 (HB.out.trans (D1.mono HB.out.size))).mono ?_;rintro r w2 ⟨rfl,d2⟩;have D2:=D1.trans (d2.mono D1.size);clear x0 x1;obtain⟨x0,x1⟩:=HX.out w2 D2;obtain⟨y0,y1⟩:=HCL.out w2 D2;go_wp2_with fail
   refine(h35 w2).mono ?_;rintro r w3 ⟨v3,rfl,hv3⟩;obtain⟨hv3,d3⟩:=rv_of hv3;have D3:=D2.trans (d3.mono D2.size);have H7:=HCM w3 v3 D3 hv3;obtain⟨s1,s2,s3,s4,rfl,-⟩:=hv3;clear x0 x1 y0 y1;obtain⟨y0,y1⟩:=HCL.out w3 D3;go_wp2_with fail
   refine H7.mono ?_;rintro r w4 ⟨rfl,d4⟩;have D4:=D3.trans (d4.mono D3.size);clear y0 y1;obtain⟨y0,y1⟩:=HCL.out w4 D4;go_wp2_with fail
   refine(HCN w4 D4).mono ?_;rintro r w5 ⟨rfl,d5⟩;have D5:=D4.trans (d5.mono D4.size);go_wp2;go_ret;refine⟨?_,HB.out.trans (D5.mono HB.out.size)⟩;first|rfl|(simp;omega)|(simp)
  ·have hB':BB=false:=by rw[←HKB.out];simp[c6]
   clear HKB;subst hB';have c6':¬k2<0:=fun h=>c6 (hc6.1 h);clear hc4 hc6 c6;go_wp2_with fail
   refine(H1 W HB.out).mono ?_;rintro r w1 ⟨rfl,d1⟩;have D1:=d1;clear x0 x1;obtain⟨x0,x1⟩:=HX.out w1 D1;go_wp2_with fail
   refine(H1 w1 (HB.out.trans (D1.mono HB.out.size))).mono ?_;rintro r w2 ⟨rfl,d2⟩;have D2:=D1.trans (d2.mono D1.size);clear x0 x1;obtain⟨x0,x1⟩:=HX.out w2 D2;obtain⟨y0,y1⟩:=HCL.out w2 D2;go_wp2_with fail
   refine(h35 w2).mono ?_;rintro r w3 ⟨v3,rfl,hv3⟩;obtain⟨hv3,d3⟩:=rv_of hv3;have D3:=D2.trans (d3.mono D2.size);have H7:=HCM w3 v3 D3 hv3;obtain⟨s1,s2,s3,s4,rfl,-⟩:=hv3;clear x0 x1 y0 y1;obtain⟨y0,y1⟩:=HCL.out w3 D3;go_wp2_with fail
   refine H7.mono ?_;rintro r w4 ⟨rfl,d4⟩;have D4:=D3.trans (d4.mono D3.size);clear y0 y1;obtain⟨y0,y1⟩:=HCL.out w4 D4;go_wp2_with fail
   refine(HCN w4 D4).mono ?_;rintro r w5 ⟨rfl,d5⟩;have D5:=D4.trans (d5.mono D4.size);go_wp2;go_ret;refine⟨?_,HB.out.trans (D5.mono HB.out.size)⟩;first|rfl|(simp;omega)|(simp)
structure OwnAt(e:TypeId)(k:IntKind)(w:World)(g cap:Nat)(xs:List Int):Prop where
 blk:∃cur:Array Value,w.heap[g]?=some (.cells cur e (0,0))∧cur.toList.take xs.length=xs.map (Value.int k)∧cur.size=cap
 lc:xs.length≤cap
 cm:cap≤maxLen
theorem OwnAt.lt{e:TypeId}{k:IntKind}{w:World}{g cap:Nat}{xs:List Int}(h:OwnAt e k w g cap xs):g<w.heap.size:=by obtain⟨cur,h1,_⟩:=h.blk;exact(Array.getElem?_eq_some_iff.1 h1).1
theorem OwnAt.kept{e:TypeId}{k:IntKind}{w w':World}{g cap:Nat}{xs:List Int}(h:OwnAt e k w g cap xs)(hk:w'.heap[g]?=w.heap[g]?):OwnAt e k w' g cap xs:=⟨by rw[hk];exact h.blk,h.lc,h.cm⟩
theorem OwnAt.below{e:TypeId}{k:IntKind}{w w':World}{g cap B:Nat}{xs:List Int}(h:OwnAt e k w g cap xs)(hb:Below B w w')(hg:g<B):OwnAt e k w' g cap xs:=h.kept (hb.block g hg)
theorem OwnAt.cell{e:TypeId}{k:IntKind}{w:World}{g cap:Nat}{xs:List Int}(h:OwnAt e k w g cap xs)(j:Nat)(hj:j<xs.length):w.cell? ⟨g,j,none⟩=some (.int k (xs.getD j 0)):=by
 obtain⟨cur,h1,h2,h3⟩:=h.blk;rw[cell_of_row w g j cur e (0,0) h1];have:(cur.toList.take xs.length)[j]?=(xs.map (Value.int k))[j]?:=by rw[h2]
 rw[List.getElem?_take,if_pos hj]at this;rw[←Array.getElem?_toList,this];simp[List.getD,hj]
theorem OwnAt.frozen{e:TypeId}{k:IntKind}{w:World}{g cap:Nat}{xs:List Int}(h:OwnAt e k w g cap xs)(j:Nat):w.frozen? ⟨g,j,none⟩=false:=by obtain⟨cur,h1,_⟩:=h.blk;exact frozen_of_row w g j cur e h1
theorem OwnAt.lies{e:TypeId}{k:IntKind}{w:World}{g cap:Nat}{xs:List Int}(h:OwnAt e k w g cap xs){n:Nat}(hn:xs.length=n):Lies k w (some ⟨g,0,none⟩) n xs:=
 ⟨hn,.inr ⟨g,0,rfl,h.lt,fun i hi=>by rw[Nat.zero_add];exact h.cell i (by omega)⟩⟩
theorem OwnAt.set{e:TypeId}{k:IntKind}{w:World}{g cap:Nat}{xs:List Int}(h:OwnAt e k w g cap xs)(j:Nat)(hj:j<xs.length)(y:Int):OwnAt e k (w.setCell ⟨g,j,none⟩ (.int k y)) g cap (xs.set j y):=by obtain⟨cur,h1,h2,h3⟩:=h.blk;refine⟨⟨cur.setIfInBounds j (.int k y),heap_setCell_same w g j cur e _ h1,?_,by simpa using h3⟩,by simpa using h.lc,h.cm⟩;rw[List.length_set,Array.toList_setIfInBounds,List.take_set,h2,List.map_set]
theorem Own.at{e:TypeId}{k:IntKind}{w:World}{base:Nat}{v:Value}{xs:List Int}(h:Own e k w base v xs)(hx:0<xs.length):∃g cap,v=.slice (some ⟨g,0,none⟩) xs.length cap∧OwnAt e k w g cap xs∧base≤g:=by
 rcases h.2 with⟨rfl,h0⟩|⟨g,cap,cur,rfl,hg,hrow,h1,h2,h3,h4⟩
 ·omega
 ·exact⟨g,cap,rfl,⟨⟨cur,hrow,by simpa using h4,by simpa using h3⟩,h1,h2⟩,hg⟩
end
section
open Go.RowKit
def Zr (m:Nat)(cur:List Int):Prop:=∀j,m≤j→cur.getD j 0=0
theorem Zr.zero(n:Nat)(m:Nat):Zr m (List.replicate n 0):=fun j _=>getD_zeros n j
theorem Zr.set{m j:Nat}{cur:List Int}(h:Zr m cur)(hj:j<m)(y:Int):Zr m (cur.set j y):=fun i hi=>by
 have:(cur.set j y).getD i 0=cur.getD i 0:=by simp[List.getD,List.getElem?_set_ne (show j≠i by omega)]
 rw[this];exact h i hi
theorem Zr.up{m:Nat}{cur:List Int}(h:Zr m cur)(y:Int):Zr (m+1) (cur.set m y):=fun i hi=>by
 have:(cur.set m y).getD i 0=cur.getD i 0:=by simp[List.getD,List.getElem?_set_ne (show m≠i by omega)]
 rw[this];exact h i (by omega)
theorem sMul_any(ao bo:Option Addr)(la ca lb cb:Nat)(xs ys:List Int)(w:World)(h:NumIn .i64 D16 w ao la ca xs)(h':NumIn .i64 D16 w bo lb cb ys)(hla:la≤1000)(hlb:lb≤1000):
  Calls Tryz.prog 116 #[.slice ao la ca,.slice bo lb cb] w fun e w'=>∃v,e=.returned v∧NbS w w' v (val D16 xs*val D16 ys) (la+lb):=by
 have hl:=h.len;have hl':=h'.len;obtain⟨N,hN⟩:∃N,la+lb=N:=⟨_,rfl⟩
 have hNI:(la:Int)+(lb:Int)=(N:Int):=by omega
 have hN2:N≤2000:=by omega
 rw[hN];go_enter Tryz.func116,Tryz.ntmps116;go_wp2_with (at_make;refine wpList_make_row _ rfl _ _ 54 rfl 3 .i64 8 Tryz.underlying54 Tryz.infoI _ _ _ _ N rfl rfl (by omega) (by omega) (by omega) (by unfold maxLen;omega) ?_;intro w3 hrow hbel)
 have HH:Hid (NumIn .i64 D16 w ao la ca xs∧NumIn .i64 D16 w bo lb cb ys∧xs.length=la∧ys.length=lb):=⟨h,h',hl,hl'⟩
 clear h h' hl hl';go_loopw [6] (fun vi wr=>∃(i:Nat) (cur:List Int),i≤la∧vi=.int .i64 i∧Row 3 .i64 wr w.heap.size cur∧RMuls xs ys N i 0 cur 0∧Zr (i+lb) cur∧Below w.heap.size w wr) (fun vi _=>la-(intOf vi).toNat)
 case atStart=>exact⟨0,_,Nat.zero_le _,rfl,hrow,RMuls.zero _ _ _,Zr.zero _ _,hbel⟩
 case round =>
  obtain⟨i,cur0,hi,rfl,hrw0,hm0,hz0,hb0⟩:=hrel;clear hrow hbel;by_cases hlt:i<la
  ·have H0:Hid (Row 3 .i64 wr w.heap.size cur0∧RMuls xs ys N i 0 cur0 0∧Zr (i+lb) cur0∧Below w.heap.size w wr):=⟨hrw0,hm0,hz0,hb0⟩
   clear hrw0 hm0 hz0 hb0;go_wp2;go_loopw [7,8] (fun vc vk wr=>∃(k:Nat) (c:Int) (cur:List Int),k≤lb∧vk=.int .i64 k∧vc=.int .i64 c∧Row 3 .i64 wr w.heap.size cur∧RMuls xs ys N i k cur c∧Zr (i+lb) cur∧Below w.heap.size w wr) (fun _ vk _=>lb-(intOf vk).toNat)
   case atStart=>exact⟨0,0,cur0,by omega,rfl,rfl,H0.out⟩
   case round=>
    obtain⟨k,c,cur,hk,rfl,rfl,hrw,hm,hz,hb⟩:=hrel;clear H0;have hc0:=hm.2.2.1;have hc1:=hm.2.2.2.1;by_cases hkl:k<lb
    ·have hlen:=hm.1;obtain⟨b,off,rfl,hblk,hcs⟩:=(HH.out.1.lies.old hb).at (by omega);have hcx:=hcs i hlt;obtain⟨b2,off2,rfl,hblk2,hcs2⟩:=(HH.out.2.1.lies.old hb).at (by omega);have hcy:=hcs2 k hkl;have hfr:=hrw.frozen (i+k);have hcl:=hrw.cell (i+k) (by omega);have gx:=HH.out.1.dg.getD D16_pos i;have gy:=HH.out.2.1.dg.getD D16_pos k;have gz:=hm.2.1.getD D16_pos (i+k);have HS:Hid (RMuls xs ys N i (k+1) (cur.set (i+k) ((cur.getD (i+k) 0+xs.getD i 0*ys.getD k 0+c)%65536)) ((cur.getD (i+k) 0+xs.getD i 0*ys.getD k 0+c)/65536)):=by
      have:=hm.step HH.out.1.dg HH.out.2.1.dg (by omega);rw[show cur.getD (i+k) 0+c+xs.getD i 0*ys.getD k 0=cur.getD (i+k) 0+xs.getD i 0*ys.getD k 0+c by omega]at this;exact this
     have HZ:Hid (∀y,Zr (i+lb) (cur.set (i+k) y)):=fun y=>hz.set (by omega) y;have HB:Hid (Row 3 .i64 wr w.heap.size cur∧Below w.heap.size w wr):=⟨hrw,hb⟩
     have hp:=prod16 (xs.getD i 0) (ys.getD k 0) gx gy;have hp1:=hp.1;have hp2:=hp.2;have gz1:=gz.1;have gz2:cur.getD (i+k) 0<65536:=gz.2;generalize cur.getD (i+k) 0=z at *;generalize xs.getD i 0=x at *;generalize ys.getD k 0=y at *;have hmul:IntKind.i64.wrap (x*y)=x*y:=IntWalk.i64_in _ (by omega);clear hrw hm hb hcs hcs2 gx gy gz hp hz;go_wp2;go_quiet (fail)
     go_wp2;go_roundw
     case rel=>exact⟨k+1,_,_,by omega,by go_num,rfl,(HB.out.1.drewN _).set _ _,HS.out,HZ.out _,(HB.out.2.trans (Drew.below ⟨_,rfl⟩ _)).setCell (Nat.le_refl _) _⟩
     case measure=>simp[intOf]<;>omega
    ·obtain rfl:k=lb:=by omega
     have hlen:=hm.1;have hfr:=hrw.frozen (i+k);have hcl:=hrw.cell (i+k) (by omega);have HS:Hid (RMuls xs ys N (i+1) 0 (cur.set (i+k) c) 0):=by have:=hm.step HH.out.1.dg HH.out.2.1.dg (by omega);rw[hz (i+k) (Nat.le_refl _),getD_over ys k (by have:=HH.out;omega)]at this;rw[show(0+c+xs.getD i 0*0)%65536=c by omega,show(0+c+xs.getD i 0*0)/65536=0 by omega]at this;exact this.next (by have:=HH.out;omega)
     have HZ:Hid (Zr (i+1+k) (cur.set (i+k) c)):=by have:=hz.up c;rw[show i+1+k=i+k+1 by omega];exact this
     have HB:Hid (Row 3 .i64 wr w.heap.size cur∧Below w.heap.size w wr):=⟨hrw,hb⟩
     clear hrw hm hb hz;go_wp2;go_roundw
     case rel=>exact⟨i+1,_,by omega,by go_num,HB.out.1.set _ _,HS.out,HZ.out,HB.out.2.setCell (Nat.le_refl _) _⟩
     case measure=>simp[intOf]<;>omega
  ·obtain rfl:i=la:=by omega
   have hlen:=hm0.1;have HV:Hid (val D16 cur0=val D16 xs*val D16 ys):=by have:=hm0;rw[←HH.out.2.2.1]at this;exact this.done (k:=0)
   have HR:Hid (NumIn .i64 D16 wr (some ⟨w.heap.size,0,none⟩) N N cur0∧Below w.heap.size w wr):=⟨by have:=hrw0.num hm0.2.1 (by omega);rw[hlen]at this;exact this,hb0⟩
   clear hm0 hb0 hrw0 hz0;go_wp2;go_ret;exact⟨_,rfl,_,_,_,cur0,rfl,HR.out.1,HV.out,Nat.le_refl _,HR.out.2⟩
def rtAt (p:Int)(t:Nat):Nat→Int
 | 0=>0
 | i+1=>if (rtAt p t i+2^(40-i))^t≤p*D16^(2*t) then rtAt p t i+2^(40-i) else rtAt p t i
theorem rtAt_mult(p:Int)(t:Nat):∀i,i≤41→rtAt p t i%2^(41-i)=0
 | 0,_=>by simp[rtAt]
 | i + 1, h => by
  have ih:=rtAt_mult p t i (by omega);have e:(2:Int)^(41-i)=2^(41-(i+1))*2:=by rw[←Int.pow_succ];congr 1;omega
  have e2:(2:Int)^(40-i)=2^(41-(i+1)):=by congr 1;omega
  rw[e]at ih;have hp:(0:Int)<2^(41-(i+1)):=Int.pow_pos (by decide);have ih2:rtAt p t i%2^(41-(i+1))=0:=by have:=Int.emod_emod_of_dvd (rtAt p t i) (Int.dvd_mul_right (2^(41-(i+1))) 2);rw[ih]at this;simpa using this.symm
  rw[rtAt];split
  ·rw[e2,Int.add_emod,ih2];simp
  ·exact ih2
theorem NbS.more{w w1 w2:World}{v:Value}{n:Int}{L:Nat}(h:NbS w w1 v n L)(hb:Below w1.heap.size w1 w2):NbS w w2 v n L:=by obtain⟨ao,len,cap,xs,rfl,h1,h2,h3,h4⟩:=h;exact⟨ao,len,cap,xs,rfl,h1.old hb,h2,h3,h4.trans (hb.mono h4.size)⟩
theorem NbS.base{w w1 w2:World}{v:Value}{n:Int}{L:Nat}(h:NbS w1 w2 v n L)(hb:Below w.heap.size w w1):NbS w w2 v n L:=by obtain⟨ao,len,cap,xs,rfl,h1,h2,h3,h4⟩:=h;exact⟨ao,len,cap,xs,rfl,h1,h2,h3,hb.trans (h4.mono hb.size)⟩
theorem NbS.below{w w1:World}{v:Value}{n:Int}{L:Nat}(h:NbS w w1 v n L):Below w.heap.size w w1:=by obtain⟨ao,len,cap,xs,rfl,h1,h2,h3,h4⟩:=h;exact h4
theorem NbS.wide{w w1:World}{v:Value}{n:Int}{L L':Nat}(h:NbS w w1 v n L)(hL:L≤L'):NbS w w1 v n L':=by obtain⟨ao,len,cap,xs,rfl,h1,h2,h3,h4⟩:=h;exact⟨ao,len,cap,xs,rfl,h1,h2,by omega,h4⟩
theorem sMul_nb{w wr:World}{v u:Value}{n m:Int}{L M:Nat}(h:NbS w wr v n L)(h':NbS w wr u m M)(hL:L≤1000)(hM:M≤1000):
  Calls Tryz.prog 116 #[v,u] wr fun e w'=>∃x,e=.returned x∧NbS w w' x (n*m) (L+M)∧Below wr.heap.size wr w':=by
 obtain⟨ao,la,ca,xs,rfl,h1,rfl,h3,h4⟩:=h;obtain⟨bo,lb,cb,ys,rfl,g1,rfl,g3,g4⟩:=h';refine(sMul_any ao bo la ca lb cb xs ys wr h1 g1 (by omega) (by omega)).mono ?_;rintro e w' ⟨x,rfl,hx⟩;exact⟨x,rfl,(hx.base h4).wide (by omega),hx.below⟩
theorem sAdd_nb{w wr:World}{v:Value}{n:Int}(bit:Nat)(h:NbS w wr v n 3)(hbit:bit≤40)(hm:n%2^(bit+1)=0):
  Calls Tryz.prog 115 #[v,.int .i64 bit] wr fun e w'=>∃x,e=.returned x∧NbS w w' x (n+2^bit) 3∧Below wr.heap.size wr w':=by
 obtain⟨ao,la,ca,xs,rfl,h1,rfl,h3,h4⟩:=h;refine(sAdd_any ao la ca xs bit wr h1 hbit h3 hm).mono ?_;rintro e w' ⟨x,rfl,hx⟩;exact⟨x,rfl,hx.base h4,hx.below⟩
theorem sCmp_nb{w wr:World}{v u:Value}{n m:Int}{L M:Nat}(h:NbS w wr v n L)(h':NbS w wr u m M)(hL:L≤1000)(hM:M≤1000):
  Calls Tryz.prog 117 #[v,u] wr fun e w'=>e=.returned (.int .i64 (cmpI n m))∧w'=wr:=by
 obtain⟨ao,la,ca,xs,rfl,h1,rfl,h3,h4⟩:=h;obtain⟨bo,lb,cb,ys,rfl,g1,rfl,g3,g4⟩:=h';exact sCmp_any ao bo la ca lb cb xs ys wr h1 g1 (by omega) (by omega)
theorem low_two(xs:List Int)(hd:Dg D16 xs):xs.getD 1 0*65536+xs.getD 0 0=val D16 xs%4294967296:=by
 match xs,hd with
 | [],_=>simp[val]
 | [x],hd=>have:=hd x (by simp);have hD:D16=65536:=rfl;rw[hD]at this;simp[val];omega
 | x::y::l,hd=>
  have hx:=hd x (by simp);have hy:=hd y (by simp);have hD:D16=65536:=rfl;rw[hD]at hx hy;simp only[val,hD,List.getD,List.getElem?_cons_succ,List.getElem?_cons_zero,Option.getD_some];omega
theorem cmpI_le(a b:Int):cmpI a b≤0↔a≤b:=by
 unfold cmpI;split
 ·omega
 ·split<;>omega
theorem sRoot_any(p:Int)(t:Nat)(w:World)(hp0:0≤p)(hp1:p<65536)(ht1:1≤t)(ht:t≤3):
  Calls Tryz.prog 89 #[.int .i64 p,.int .i64 t] w fun e w'=>e=.returned (.int .u32 (rtAt p t 41%4294967296))∧Below w.heap.size w w':=by
 go_enter Tryz.func89,Tryz.ntmps89;go_wp2;go_loopw [5,6] (fun vx vb wr=>∃(i:Nat),i≤41∧vb=.int .i64 (40-(i:Int))∧NbS w wr vx (rtAt p t i) 3) (fun _ vb _=>(intOf vb+1).toNat)
 case atStart=>exact⟨0,by omega,rfl,some ⟨w.heap.size,0,none⟩,0,0,[],rfl,⟨Lies.empty _ _ _,Nat.le_refl _,by simp[maxLen],(fun h=>by cases h),Dg.nil _,by omega⟩,rfl,by omega,below_alloc w _⟩
 case round =>
  obtain⟨i,hi,rfl,hx⟩:=hrel;by_cases hlt:i<41
  ·obtain⟨bit,hbit⟩:∃bit,40-i=bit:=⟨_,rfl⟩
   have hbI:(40:Int)-(i:Int)=(bit:Int):=by omega
   have hb40:bit≤40:=by omega
   have hmul:=rtAt_mult p t i hi;rw[show 41-i=bit+1 by omega]at hmul;have HNX:Hid (rtAt p t (i+1)=if (rtAt p t i+2^bit)^t≤p*D16^(2*t) then rtAt p t i+2^bit else rtAt p t i):=by unfold Hid;rw[←hbit];rfl
   have HA:=sAdd_nb bit hx hb40 hmul;have HX:Hid (NbS w wr u5 (rtAt p t i) 3):=hx;generalize rtAt p t i=X at *;clear hmul hx hbit;rw[hbI];go_wp2_with fail
   refine HA.mono ?_;rintro e w1 ⟨vy,rfl,hy,hb1⟩;have HY:Hid (NbS w w1 vy (X+2^bit) 3∧NbS w w1 u5 X 3):=⟨hy,HX.out.more hb1⟩
   clear HA HX hy hb1;go_wp2;go_loopw [8,9] (fun vz vi wr=>∃(j:Nat),1≤j∧j≤t∧vi=.int .i64 j∧NbS w wr vz ((X+2^bit)^j) (3*j)∧NbS w wr vy (X+2^bit) 3∧NbS w wr u5 X 3) (fun _ vi _=>t-(intOf vi).toNat)
   case atStart=>exact⟨1,by omega,ht1,rfl,by rw[Int.pow_one];exact HY.out.1,HY.out⟩
   case round=>
    obtain⟨j,hj1,hjt,rfl,hz,hy,hx⟩:=hrel;clear HY;by_cases hjl:j<t
    ·have HM:=sMul_nb hz hy (by omega) (by omega);have HK:Hid (NbS w wr vy (X+2^bit) 3∧NbS w wr u5 X 3):=⟨hy,hx⟩
     have HE:Hid ((X+2^bit)^j*(X+2^bit)=(X+2^bit)^(j+1)):=(Int.pow_succ _ _).symm;rw[HE.out]at HM;clear hz hy hx;go_wp2_with (go_at_call 116;refine HM.mono ?_;rintro e w2 ⟨v2,rfl,hv2,hb2⟩)
     go_roundw
     case rel=>exact⟨j+1,by omega,by omega,by go_num,hv2.wide (by omega),HK.out.1.more hb2,HK.out.2.more hb2⟩
     case measure=>simp[intOf]<;>omega
    ·obtain rfl:j=t:=by omega
     have HSH:=sShifted_any p (2*j) wr hp0 hp1 (by omega);obtain⟨m,hm⟩:∃m,16*(2*j)=m:=⟨_,rfl⟩
     rw[hm]at HSH;have hmI:32*(j:Int)=(m:Int):=by omega
     have HZ:Hid (NbS w wr u8 ((X+2^bit)^j) (3*j)∧NbS w wr vy (X+2^bit) 3∧NbS w wr u5 X 3):=⟨hz,hy,hx⟩
     clear hz hy hx hm;go_wp2_with fail
     refine HSH.mono ?_;rintro e w2 ⟨vs,rfl,hs⟩;have hb2:=hs.below;have HC:=sCmp_nb (HZ.out.1.more hb2) (hs.base HZ.out.1.below) (by omega) (by omega);have HW2:Hid (NbS w w2 vy (X+2^bit) 3∧NbS w w2 u5 X 3):=⟨HZ.out.2.1.more hb2,HZ.out.2.2.more hb2⟩
     clear HSH HZ hs hb2;by_cases hle:(X+2^bit)^j≤p*D16^(2*j)
     ·rw[if_pos hle]at HNX;have hcc:=(cmpI_le ((X+2^bit)^j) (p*D16^(2*j))).2 hle;generalize cmpI ((X+2^bit)^j) (p*D16^(2*j))=cc at *;clear hle;go_wp2_with (go_at_call 117;refine HC.mono ?_;rintro e w3 ⟨rfl,rfl⟩)
      go_roundw
      case rel=>exact⟨i+1,by omega,int_eq' (by omega),by rw[HNX.out];exact HW2.out.1⟩
      case measure=>simp[intOf]<;>omega
     ·rw[if_neg hle]at HNX;have hcc:¬cmpI ((X+2^bit)^j) (p*D16^(2*j))≤0:=fun h=>hle ((cmpI_le _ _).1 h);generalize cmpI ((X+2^bit)^j) (p*D16^(2*j))=cc at *;clear hle;go_wp2_with (go_at_call 117;refine HC.mono ?_;rintro e w3 ⟨rfl,rfl⟩)
      go_roundw
      case rel=>exact⟨i+1,by omega,int_eq' (by omega),by rw[HNX.out];exact HW2.out.2⟩
      case measure=>simp[intOf]<;>omega
  ·have hge:¬((0:Int)≤40-(i:Int)):=by omega
   have HI:Hid (i=41):=by unfold Hid;omega
   obtain⟨ao,len,cap,xs,rfl,hnum,hv,hl3,hb⟩:=hx;have hlen:=hnum.len;have HF:Hid (rtAt p t 41%4294967296=xs.getD 1 0*65536+xs.getD 0 0∧NumIn .i64 D16 wr ao len cap xs∧Below w.heap.size w wr):=⟨by rw[low_two xs hnum.dg,hv,HI.out],hnum,hb⟩
   have g0:=hnum.dg.getD D16_pos 0;have g1:=hnum.dg.getD D16_pos 1;have hD:D16=65536:=rfl;rw[hD]at g0 g1;clear hv hnum hb hD;go_wp2;go_loop [10,11] (fun vo vi=>∃(j:Nat),j≤2∧vi=.int .i64 (1-(j:Int))∧vo=.int .u32 (if j=0 then 0 else if j=1 then xs.getD 1 0 else xs.getD 1 0*65536+xs.getD 0 0)) (fun _ vi=>(intOf vi+1).toNat)
   case atStart=>exact⟨0,by omega,rfl,rfl⟩
   case round=>
    obtain⟨j,hj,rfl,rfl⟩:=hrel;have:j=0∨j=1∨j=2:=by omega
    rcases this with rfl|rfl|rfl
    ·simp only[if_true];by_cases h1:1<len
     ·obtain⟨b,off,rfl,_,hcs⟩:=HF.out.2.1.lies.at (by omega);have hc:=hcs 1 h1;have h1I:(1:Int)<(len:Int):=by omega
      generalize xs.getD 1 0=x1 at *;clear hcs;go_wp2;exact⟨⟨1,by omega,rfl,rfl⟩,by simp[intOf]⟩
     ·have h0:=getD_over xs 1 (by omega);have h1I:¬(1:Int)<(len:Int):=by omega
      generalize xs.getD 1 0=x1 at *;subst h0;go_wp2;exact⟨⟨1,by omega,rfl,rfl⟩,by simp[intOf]⟩
    ·simp only[Nat.one_ne_zero,if_false,if_true];by_cases h1:0<len
     ·obtain⟨b,off,rfl,_,hcs⟩:=HF.out.2.1.lies.at (by omega);have hc:=hcs 0 h1;rw[Nat.add_zero]at hc;have h1I:(0:Int)<(len:Int):=by omega
      have hw1:(xs.getD 1 0*65536+xs.getD 0 0)%4294967296=xs.getD 1 0*65536+xs.getD 0 0:=by omega
      have HW1:Hid ((xs.getD 1 0*65536+xs.getD 0 0)%4294967296=xs.getD 1 0*65536+xs.getD 0 0):=hw1;generalize xs.getD 1 0=x1 at *;generalize xs.getD 0 0=x0 at *;clear hcs hw1;go_wp2;exact⟨⟨2,by omega,rfl,int_eq' (by simp)⟩,by simp[intOf]⟩
     ·have h0:=getD_over xs 0 (by omega);have h1I:¬(0:Int)<(len:Int):=by omega
      generalize xs.getD 1 0=x1 at *;generalize xs.getD 0 0=x0 at *;subst h0;go_wp2;exact⟨⟨2,by omega,rfl,int_eq' (by simp)⟩,by simp[intOf]⟩
    ·have HE:Hid ((if (2:Nat)=0 then (0:Int) else if (2:Nat)=1 then xs.getD 1 0 else xs.getD 1 0*65536+xs.getD 0 0)=rtAt p t 41%4294967296):=by unfold Hid;rw[HF.out.1];rfl
     rw[HE.out];obtain⟨R,hR⟩:∃R,rtAt p t 41%4294967296=R:=⟨_,rfl⟩
     rw[hR];have HRR:Hid (rtAt p t 41%4294967296=R):=hR;clear hR HE;go_wp2;go_ret;exact⟨by rw[HRR.out];rfl,HF.out.2.2⟩
theorem Tryz.infoI':(Tryz.prog.info? 3).map (fun i=>(i.zero,i.size,i.bytes))=some (some (.int .i64 0),1,8):=by kernel_rfl
theorem rprimes_any(c N : Nat)(w : World)(hc : c ≤ 64)(hN1 : (pl N).length = c)(hN2 : ∀ n, 2 ≤ n → n < N → (pl n).length < c)(hN3 : 2 ≤ N)(hN4 : N ≤ 1000) :
  Calls Tryz.prog 88 #[.int .i64 c] w fun e w'=>∃ao cap,e=.returned (.slice ao c cap)∧Lies .i64 w' ao c (plI N)∧Below w.heap.size w w'∧c≤cap:=by
 have HN1:Hid ((pl N).length=c):=hN1;have HN2:Hid (∀n,2≤n→n<N→(pl n).length<c):=hN2;clear hN1 hN2;go_enter Tryz.func88,Tryz.ntmps88;go_wp2;go_loopw [3,4] (fun vf vn wr=>∃(n:Nat),2≤n∧n≤N∧vn=.int .i64 n∧Own 3 .i64 wr w.heap.size vf (plI n)∧Below w.heap.size w wr) (fun _ vn _=>N-(intOf vn).toNat)
 case atStart=>exact⟨2,by omega,by omega,rfl,Own.nil _ _ _ _,Below.refl _ _⟩
 case round =>
  obtain⟨n,h2n,hnN,rfl,hown,hb⟩:=hrel;have hlen:(pl n).length≤64:=by
   by_cases h:n<N
   ·have:=HN2.out n h2n h;omega
   ·have:=HN1.out;rw[show n=N by omega];omega
  obtain⟨ao,cap,rfl,hnum⟩:=hown.num (B:=18446744073709551616) (fun x hx=>by obtain⟨y,hy,rfl⟩:=List.mem_map.1 hx;have:=pl_small n y hy;omega) (by rw[plI_length];omega)
  have HL:Hid (Lies .i64 wr ao (plI n).length (plI n)):=hnum.lies;have hcp:=hnum.lc;obtain⟨L,hL⟩:∃L,(plI n).length=L:=⟨_,rfl⟩
  rw[hL]at hown HL hcp ⊢;rw[plI_length]at hL;have HLL:Hid ((pl n).length=L):=hL;rw[hL]at hlen;have HO:Hid (Own 3 .i64 wr w.heap.size (.slice ao L cap) (plI n)∧Below w.heap.size w wr):=⟨hown,hb⟩
  clear hown hb hL hnum;by_cases hlt:n<N
  ·have hLc:L<c:=by have:=HN2.out n h2n hlt;have:=HLL.out;omega
   have hltI:((L:Int)<(c:Int)):=by omega
   go_wp2;go_loop [5,6] (fun vs vk=>∃(j:Nat) (s:Bool),j≤L∧vk=.int .i64 j∧vs=.bool s∧(s=true↔∀i,i<j→n%(pl n).getD i 0≠0)) (fun _ vk=>L-(intOf vk).toNat)
   case atStart=>exact⟨0,true,by omega,rfl,rfl,by simp⟩
   case round =>
    obtain⟨j,s,hj,rfl,rfl,hs⟩:=hrel;have HS:Hid (s=true↔∀i,i<j→n%(pl n).getD i 0≠0):=hs;clear hs;by_cases hjl:j<L
    ·have hjI:((j:Int)<(L:Int)):=by omega
     obtain⟨b,off,rfl,hblk,hcs⟩:=HL.out.at (by omega);have hcl:=hcs j (by omega);rw[plI_get n j (by have:=HLL.out;omega)]at hcl;have hpb:=pl_get n j (by have:=HLL.out;omega);obtain⟨q,hq⟩:∃q,(pl n).getD j 0=q:=⟨_,rfl⟩
     rw[hq]at hcl hpb;have HQ:Hid ((pl n).getD j 0=q):=hq;have hq0:¬((q:Int)=0):=by omega
     clear hcs hq;have HNEXT:Hid (∀s2:Bool,(s2=true↔s=true∧n%q≠0)→(s2=true↔∀i,i<j+1→n%(pl n).getD i 0≠0)):=fun s2 h2=>by
      rw[h2,HS.out];constructor
      ·rintro⟨h3,h4⟩ i hi;by_cases e:i=j
       ·rw[e,HQ.out];exact h4
       ·exact h3 i (by omega)
      ·intro h3;exact⟨fun i hi=>h3 i (by omega),by have:=h3 j (by omega);rw[HQ.out]at this;exact this⟩
     cases s with
     | false=>
      go_wp2;go_round
      case rel=>exact⟨j+1,false,by omega,by go_num,rfl,HNEXT.out false (by simp)⟩
      case measure=>simp[intOf]<;>omega
     | true =>
      by_cases hz:n%q=0
      ·have HZ:Hid (n%q=0):=hz;have hzI:((n:Int)%(q:Int))=0:=by omega
       clear hz;go_wp2;go_round
       case rel=>exact⟨j+1,false,by omega,by go_num,rfl,HNEXT.out false (by simp[HZ.out])⟩
       case measure=>simp[intOf]<;>omega
      ·have HZ:Hid (n%q≠0):=hz;have hzI:¬((n:Int)%(q:Int))=0:=by omega
       clear hz;go_wp2;go_round
       case rel=>exact⟨j+1,true,by omega,by go_num,by rw[show((n:Int)%(q:Int) != 0)=true from by simpa using hzI],HNEXT.out true (by simp[HZ.out])⟩
       case measure=>simp[intOf]<;>omega
    ·have hjI:¬((j:Int)<(L:Int)):=by omega
     cases s with
     | true =>
      have HY:Hid (plI (n+1)=plI n++[(n:Int)]∧(plI n).length<1073741824):=by refine⟨?_,by rw[plI_length];have:=HLL.out;omega⟩;unfold plI;rw[pl_yes n h2n (fun i hi=>HS.out.1 rfl i (by have:=HLL.out;omega))];simp
      go_wp2_with (at_builtin;refine wpList_append_one rfl _ _ 54 rfl 3 .i64 8 Tryz.underlying54 Tryz.infoI' w.heap.size (.slice ao L cap) (plI n) (n:Int) (by rfl) HO.out.1 (by rfl) HY.out.2 (by decide) w HO.out.2 HO.out.2.size ?_;intro v' w' hown' hb')
      go_roundw
      case rel=>exact⟨n+1,by omega,by omega,by go_num,by rw[HY.out.1];exact hown',hb'⟩
      case measure=>simp[intOf]<;>omega
     | false =>
      have HY:Hid (plI (n+1)=plI n):=by
       unfold Hid plI;by_cases h:∃i,i<(pl n).length∧n%(pl n).getD i 0=0
       ·obtain⟨i,hi,h0⟩:=h;rw[pl_no n i hi h0]
       ·exfalso;have:=HS.out.2 (fun i hi h0=>h ⟨i,by have:=HLL.out;omega,h0⟩)
        cases this
      go_wp2;go_roundw
      case rel=>exact⟨n+1,by omega,by omega,by go_num,by rw[HY.out];exact HO.out.1,HO.out.2⟩
      case measure=>simp[intOf]<;>omega
  ·have hLc:L=c:=by have:=HN1.out;have:=HLL.out;rw[show n=N by omega]at this;omega
   have HNN:Hid (n=N):=by unfold Hid;omega
   clear HN1 HN2;have hltI:¬((L:Int)<(c:Int)):=by omega
   go_wp2;go_ret;have e:=HNN.out;subst e;subst hLc;exact⟨ao,cap,rfl,HL.out,HO.out.2,hcp⟩
def g2 (p:Int):Int:=rtAt p 2 41%4294967296
def g3 (p:Int):Int:=rtAt p 3 41%4294967296
theorem K_ref':((plI 312).take 64).map g3=KS:=by decide +kernel
theorem H_ref':((plI 312).take 8).map g2=HS:=by decide +kernel
theorem take_map_succ(l:List Int)(g:Int→Int)(i:Nat)(h:i<l.length):(l.take (i+1)).map g=(l.take i).map g++[g (l.getD i 0)]:=by
 rw[List.take_succ_eq_append_getElem h,List.map_append];have:l.getD i 0=l[i]:=by simp[List.getD,h]
 rw[this];rfl
theorem Words_any(w:World):Calls Tryz.prog 52 #[] w fun e w'=>∃gh ch gk ck,e=.returned (.tuple #[.slice (some ⟨gh,0,none⟩) 8 ch,.slice (some ⟨gk,0,none⟩) 64 ck])∧OwnAt 114 .u32 w' gh ch HS∧OwnAt 114 .u32 w' gk ck KS∧gh≠gk∧w.heap.size≤gh∧w.heap.size≤gk∧Below w.heap.size w w':=by
 have HP:=rprimes_any 64 312 w (by omega) pl312 (fun n _ h=>by have:=pl_mono (show n≤311 by omega);rw[pl311]at this;omega) (by omega) (by omega);have HT:Hid (((plI 312).take 64).map g3=KS∧((plI 312).take 8).map g2=HS∧(plI 312).length=64∧∀j,0≤(plI 312).getD j 0∧(plI 312).getD j 0<65536):=by
  refine⟨K_ref',H_ref',by rw[plI_length];exact pl312,fun j => ?_⟩;by_cases h:j<(pl 312).length
  ·rw[plI_get _ _ h];have:=pl_get 312 j h;omega
  ·rw[getD_over _ _ (by rw[plI_length];omega)];omega
 generalize plI 312=l at *;go_enter Tryz.func52,Tryz.ntmps52;go_wp2_with fail
 refine HP.mono ?_;rintro e w1 ⟨ao,cap,rfl,hlies,hb1,hcap⟩;obtain⟨b,off,rfl,hblk,_⟩:=hlies.at (by omega);have HL:Hid (Lies .i64 w1 (some ⟨b,off,none⟩) 64 l∧Below w.heap.size w w1∧b<w1.heap.size):=⟨hlies,hb1,hblk⟩
 clear hlies hb1 HP;go_wp2;go_loopw [3,5] (fun vh vi wr=>∃(i:Nat),i≤8∧vi=.int .i64 i∧Own 114 .u32 wr w1.heap.size vh ((l.take i).map g2)∧Below w1.heap.size w1 wr) (fun _ vi _=>8-(intOf vi).toNat)
 case atStart=>exact⟨0,by omega,rfl,Own.nil _ _ _ _,Below.refl _ _⟩
 case round =>
  obtain⟨i,hi,rfl,hown,hb⟩:=hrel;by_cases hlt:i<8
  ·have hc:wr.cell? ⟨b,off+i,none⟩=some (.int .i64 (l.getD i 0)):=by
    obtain⟨b',off',e,_,hcs⟩:=(HL.out.1.old hb).at (by omega)
    cases e
    exact hcs i (by omega)
   have HR:=fun w=>sRoot_any (l.getD i 0) 2 w (HT.out.2.2.2 i).1 (HT.out.2.2.2 i).2 (by omega) (by omega);have HE:Hid ((l.take (i+1)).map g2=(l.take i).map g2++[rtAt (l.getD i 0) 2 41%4294967296]∧((l.take i).map g2).length<1073741824):=⟨take_map_succ l g2 i (by have:=HT.out;omega),by simp;omega⟩
   have HO:Hid (Own 114 .u32 wr w1.heap.size u3 ((l.take i).map g2)∧Below w1.heap.size w1 wr):=⟨hown,hb⟩
   generalize rtAt (l.getD i 0) 2 41%4294967296=y at *;generalize l.getD i 0=p at *;generalize (l.take i).map g2=xs at *;clear hown hb;go_wp2_with fail
   refine(HR _).mono ?_;rintro e w2 ⟨rfl,hb2⟩;have HO2:Hid (Own 114 .u32 w2 w1.heap.size u3 xs∧Below w1.heap.size w1 w2):=⟨HO.out.1.below hb2,HO.out.2.trans (hb2.mono HO.out.2.size)⟩
   clear HO hb2 hc HR;go_wp2_with (at_builtin;refine wpList_append_one rfl _ _ 111 rfl 114 .u32 4 Tryz.underlying111 Tryz.infoW w1.heap.size u3 xs y (by rfl) HO2.out.1 (by rfl) HE.out.2 (by decide) w1 HO2.out.2 HO2.out.2.size ?_;intro v' w' hown' hb')
   go_roundw
   case rel=>exact⟨i+1,by omega,by go_num,by rw[HE.out.1];exact hown',hb'⟩
   case measure=>simp[intOf]<;>omega
  ·have hown8:Own 114 .u32 wr w1.heap.size u3 HS:=by
    have:=hown;rw[show i=8 by omega,HT.out.2.1]at this;exact this
   obtain⟨gh,ch,rfl,hat,hgh⟩:=hown8.at (by decide);have HW2:Hid (OwnAt 114 .u32 wr gh ch HS∧w1.heap.size≤gh∧Below w1.heap.size w1 wr):=⟨hat,hgh,hb⟩
   clear hown hown8 hat hgh hb;generalize hw2:wr=w2 at *;clear hw2;have hlenH:HS.length=8:=rfl;rw[hlenH];go_wp2;go_loopw [4,6] (fun vh vi wr=>∃(i:Nat),i≤64∧vi=.int .i64 i∧Own 114 .u32 wr w2.heap.size vh ((l.take i).map g3)∧Below w2.heap.size w2 wr) (fun _ vi _=>64-(intOf vi).toNat)
   case atStart=>exact⟨0,by omega,rfl,Own.nil _ _ _ _,Below.refl _ _⟩
   case round=>
    obtain⟨i,hi,rfl,hown,hb⟩:=hrel;by_cases hlt:i<64
    ·have hc:wr.cell? ⟨b,off+i,none⟩=some (.int .i64 (l.getD i 0)):=by
      obtain⟨b',off',e,_,hcs⟩:=((HL.out.1.old HW2.out.2.2).old hb).at (by omega)
      cases e
      exact hcs i (by omega)
     have HR:=fun w=>sRoot_any (l.getD i 0) 3 w (HT.out.2.2.2 i).1 (HT.out.2.2.2 i).2 (by omega) (by omega);have HE:Hid ((l.take (i+1)).map g3=(l.take i).map g3++[rtAt (l.getD i 0) 3 41%4294967296]∧((l.take i).map g3).length<1073741824):=⟨take_map_succ l g3 i (by have:=HT.out;omega),by simp;omega⟩
     have HO:Hid (Own 114 .u32 wr w2.heap.size u4 ((l.take i).map g3)∧Below w2.heap.size w2 wr):=⟨hown,hb⟩
     generalize rtAt (l.getD i 0) 3 41%4294967296=y at *;generalize l.getD i 0=p at *;generalize (l.take i).map g3=xs at *;clear hown hb;go_wp2_with fail
     refine(HR _).mono ?_;rintro e w3 ⟨rfl,hb3⟩;have HO2:Hid (Own 114 .u32 w3 w2.heap.size u4 xs∧Below w2.heap.size w2 w3):=⟨HO.out.1.below hb3,HO.out.2.trans (hb3.mono HO.out.2.size)⟩
     clear HO hb3 hc HR;go_wp2_with (at_builtin;refine wpList_append_one rfl _ _ 111 rfl 114 .u32 4 Tryz.underlying111 Tryz.infoW w2.heap.size u4 xs y (by rfl) HO2.out.1 (by rfl) HE.out.2 (by decide) w2 HO2.out.2 HO2.out.2.size ?_;intro v' w' hown' hb')
     go_roundw
     case rel=>exact⟨i+1,by omega,by go_num,by rw[HE.out.1];exact hown',hb'⟩
     case measure=>simp[intOf]<;>omega
    ·have hown8:Own 114 .u32 wr w2.heap.size u4 KS:=by
      have:=hown;rw[show i=64 by omega,HT.out.1]at this;exact this
     obtain⟨gk,ck,rfl,hat,hgk⟩:=hown8.at (by decide);have hlenK:KS.length=64:=rfl;rw[hlenK];have HF:Hid (OwnAt 114 .u32 wr gh ch HS∧OwnAt 114 .u32 wr gk ck KS∧gh≠gk∧w.heap.size≤gh∧w.heap.size≤gk∧Below w.heap.size w wr):=by obtain⟨a1,a2,a3⟩:=HW2.out;have hlt2:=a1.lt;have hs1:=HL.out.2.1.size;have hs2:=a3.size;exact⟨a1.below hb hlt2,hat,by omega,by omega,by omega,HL.out.2.1.trans ((a3.mono hs1).trans (hb.mono (by omega)))⟩
     clear hown hown8 hat hb HW2;go_wp2;go_ret2
     exact⟨gh,ch,gk,ck,rfl,HF.out⟩
end
section
open Go.Shelf Go.RowKit
def hcods(s:ByteArray):List Nat:=s.data.toList.map fun x=>x.toNat
theorem hcods_at(s:ByteArray)(i:Nat)(h:i<s.size):(hcods s).getD i 0=(s[i]'h).toNat:=by
 have h':i<s.data.toList.length:=by simpa using h
 simp[hcods,List.getD,h'];rw[Array.getElem?_eq_getElem (by simpa using h)];rfl
def hexT:ByteArray:=⟨#[48,49,50,51,52,53,54,55,56,57,97,98,99,100,101,102]⟩
def hgt (k:Nat):Nat:=if k<10 then 48+k else 87+k
theorem hexT_size:hexT.size=16:=rfl
theorem hexT_at:∀x,(h:x<hexT.size)→(hexT[x]'h).toNat=hgt x:=by decide
def hv (c:Nat):Nat→Int
 | 0=>0
 | k+1=>if hgt k=c then (k:Int) else hv c k
theorem hv_range(c:Nat):∀k,0≤hv c k∧(hv c k=0∨hv c k<k)
 | 0=>by simp[hv]
 | k+1=>by
  have:=hv_range c k;unfold hv;split<;>omega
def hstep(L i:Nat)(v:Int)(b:List Int):List Int:=if (L-i)%2=0∨(i=0∧L%2=1) then b++[v] else b.set (b.length-1) ((b.getD (b.length-1) 0*16%256+v)%256)
def hexB (cs:List Nat)(L:Nat):Nat→List Int
 | 0=>[]
 | i+1=>hstep L i (hv (cs.getD i 0) 16) (hexB cs L i)
theorem hexB_facts(cs:List Nat)(L:Nat):∀i,i≤L→(hexB cs L i).length≤i∧(0<i→0<(hexB cs L i).length)∧Dg 256 (hexB cs L i)
 | 0,_=>⟨by simp[hexB],fun h=>by omega,by simp[hexB,Dg.nil]⟩
 | i + 1, hi => by
  obtain⟨h1,h2,h3⟩:=hexB_facts cs L i (by omega);have hr:=hv_range (cs.getD i 0) 16;unfold hexB hstep;split
  ·exact⟨by simp;omega,fun _=>by simp,h3.append (Dg.cons (by omega) (Dg.nil _))⟩
  ·rename_i hc;have:0<i:=by
    rcases Nat.eq_zero_or_pos i with h|h
    ·exfalso;apply hc;subst h;omega
    ·exact h
   exact⟨by simp;omega,fun _=>by simpa using h2 this,h3.set _ (by omega)⟩
theorem OwnAt.ownR{e:TypeId}{k:IntKind}{w:World}{g cap base:Nat}{xs:List Int}(h:OwnAt e k w g cap xs)(hb:base≤g):Own e k w base (.slice (some ⟨g,0,none⟩) xs.length cap) xs:=by obtain⟨cur,h1,h2,h3⟩:=h.blk;exact⟨by simp,.inr ⟨g,cap,cur,rfl,hb,h1,h.lc,h.cm,by rw[h3,Nat.mul_one],by rw[Nat.mul_one];exact h2⟩⟩
theorem Own.drewN{e:TypeId}{k:IntKind}{w:World}{base:Nat}{v:Value}{xs:List Int}(h:Own e k w base v xs)(n:Nat):Own e k (w.drewN n) base v xs:=h.below (Drew.below ⟨n,rfl⟩ _)
theorem hex_any(s : ByteArray)(w : World)(hl : s.size ≤ 1000) :
  Calls Tryz.prog 38 #[.string s] w fun e w'=>∃v,e=.returned v∧NumOut .i64 D16 w w' v (val 256 (hexB (hcods s) s.size s.size).reverse) 1001:=by
 obtain⟨cs,hcs⟩:∃cs,hcods s=cs:=⟨_,rfl⟩
 have HC:Hid (∀i (h:i<s.size),cs.getD i 0=(s[i]'h).toNat):=by rw[←hcs];exact hcods_at s
 rw[hcs];clear hcs;have HF:=hexB_facts cs s.size;go_enter Tryz.func38,Tryz.ntmps38;go_wp2;rw[show(⟨#[48,49,50,51,52,53,54,55,56,57,97,98,99,100,101,102]⟩:ByteArray)=hexT from rfl];have hS:=hexT_size;have HSA:Hid (∀x:Nat,(h:x<hexT.size)→(hexT[x]'h).toNat=hgt x):=fun x h=>hexT_at x h;generalize hexT=S at *;go_loopw [3,5] (fun vb vi wr=>∃i:Nat,i≤s.size∧vi=.int .i64 i∧Own 5 .u8 wr w.heap.size vb (hexB cs s.size i)∧Below w.heap.size w wr) (fun _ vi _=>s.size-(intOf vi).toNat)
 case atStart=>exact⟨0,by omega,rfl,Own.nil _ _ _ _,Below.refl _ _⟩
 case round =>
  obtain⟨i,hi,rfl,hown,hbw⟩:=hrel;by_cases hlt:i<s.size
  ·have hltI:(i:Int)<(s.size:Int):=by omega
   obtain⟨c,hc⟩:∃c,cs.getD i 0=c:=⟨_,rfl⟩
   have hcp:(s[i]'hlt).toNat=c:=by rw[←hc];exact(HC.out i hlt).symm
   have HCC:Hid (hexB cs s.size (i+1)=hstep s.size i (hv c 16) (hexB cs s.size i)):=by rw[←hc];rfl
   have HI:=HF i (by omega);have hx:=hv_range c 16;generalize hexB cs s.size i=bs at *;obtain⟨ao,cap,hv5,hlc,hcm⟩:=hown.openR;have HW:Hid (Own 5 .u8 wr w.heap.size u3 bs∧Below w.heap.size w wr):=⟨hown,hbw⟩
   subst hv5;have HII:Hid (bs.length≤i∧(0<i→0<bs.length)∧Dg 256 bs):=HI;unfold maxLen at hcm;clear hown hbw hc HF HI;go_wp2;generalize wr=wo at *;go_loopw [6,7] (fun vv vk wr=>∃k:Nat,k≤16∧vk=.int .i64 k∧vv=.int .i64 (hv c k)∧Drew wo wr) (fun _ vk _=>16-(intOf vk).toNat)
   case atStart=>exact⟨0,by omega,rfl,rfl,Drew.refl _⟩
   case round =>
    obtain⟨k,hk,rfl,rfl,hdr⟩:=hrel;by_cases hk16:k<16
    ·have hkI:(k:Int)<16:=by omega
     have hsat:=HSA.out k (by rw[hS];exact hk16);by_cases he:hgt k=c
     ·have HH:Hid (hv c (k+1)=(k:Int)):=by unfold Hid hv;rw[if_pos he]
      rw[he]at hsat;have HDR:Hid (Drew wo wr):=hdr;generalize hv c k=z at *;clear he hdr;go_wp2;go_quiet (fail)
      go_wp2;go_roundw
      case rel=>exact⟨k+1,by omega,by go_num,by rw[HH.out],HDR.out.more _⟩
      case measure=>simp[intOf]<;>omega
     ·have HH:Hid (hv c (k+1)=hv c k):=by unfold Hid;rw[hv,if_neg he]
      obtain⟨y,hy⟩:∃y,hgt k=y:=⟨_,rfl⟩
      rw[hy]at hsat he;have heb:((y:Int)==(c:Int))=false:=by simp;omega
      have HDR:Hid (Drew wo wr):=hdr;clear hy hdr;go_wp2;go_quiet (fail)
      go_wp2;go_roundw
      case rel=>exact⟨k+1,by omega,by go_num,by rw[HH.out],HDR.out.more _⟩
      case measure=>simp[intOf]<;>omega
    ·obtain rfl:k=16:=by omega
     have HWr:Hid (Own 5 .u8 wr w.heap.size (.slice ao bs.length cap) bs∧Below w.heap.size w wr):=by obtain⟨nq,rfl⟩:=hdr;exact⟨HW.out.1.drewN _,HW.out.2.trans (Drew.below ⟨_,rfl⟩ _)⟩
     clear HW hdr;obtain⟨x,hxx⟩:∃x,hv c 16=x:=⟨_,rfl⟩
     rw[hxx]at hx HCC;rw[hxx];clear hxx;have hx0:0≤x:=hx.1;have hx1:x<16:=by omega
     have hxw:IntKind.u8.wrap x=x:=by simp[IntKind.wrap,IntKind.bits,IntKind.signed];omega
     obtain⟨M,hM⟩:∃M,s.size=M:=⟨_,rfl⟩
     by_cases hp:(s.size-i)%2=0
     ·have hpI:((s.size:Int)-(i:Int)).tmod 2=0:=by rw[Int.tmod_eq_emod_of_nonneg (by omega)];omega
      have HN:Hid (hexB cs s.size (i+1)=bs++[x]):=by unfold Hid;rw[HCC.out,hstep,if_pos (.inl hp)]
      have HLB:Hid (bs.length<1073741824):=by have:=HII.out.1;unfold Hid;omega
      clear hp hx HCC hM;go_wp2_with (at_builtin;refine wpList_append_one rfl _ _ 33 rfl 5 .u8 1 Tryz.underlying33 Tryz.infoB w.heap.size (.slice ao bs.length cap) bs x (by rfl) HWr.out.1 (by rfl) HLB.out (by decide) w HWr.out.2 HWr.out.2.size ?_;intro v6 w6 hown6 hb6)
      go_roundw
      case rel=>exact⟨i+1,by omega,by go_num,by rw[HN.out];exact hown6,hb6⟩
      case measure=>simp[intOf]<;>omega
     ·have hpI:((s.size:Int)-(i:Int)).tmod 2=1:=by rw[Int.tmod_eq_emod_of_nonneg (by omega)];omega
      by_cases hi0:i=0
      ·have hqI:((s.size:Int)).tmod 2=1:=by rw[Int.tmod_eq_emod_of_nonneg (by omega)];omega
       have HN:Hid (hexB cs s.size (i+1)=bs++[x]):=by unfold Hid;rw[HCC.out,hstep,if_pos (.inr ⟨hi0,by omega⟩)]
       have HLB:Hid (bs.length<1073741824):=by have:=HII.out.1;unfold Hid;omega
       have hi0I:(i:Int)=0:=by omega
       have hi0B:((i:Int)==0)=true:=by simp[hi0]
       clear hp hx HCC hM;go_wp2_with (at_builtin;refine wpList_append_one rfl _ _ 33 rfl 5 .u8 1 Tryz.underlying33 Tryz.infoB w.heap.size (.slice ao bs.length cap) bs x (by rfl) HWr.out.1 (by rfl) HLB.out (by decide) w HWr.out.2 HWr.out.2.size ?_;intro v6 w6 hown6 hb6)
       go_roundw
       case rel=>exact⟨i+1,by omega,by go_num,by rw[HN.out];exact hown6,hb6⟩
       case measure=>simp[intOf]<;>omega
      ·obtain⟨g,cap',hv',hat,hgb⟩:=HWr.out.1.at (HII.out.2.1 (by omega));injection hv' with e1 e2 e3;subst e1;subst e3;have hi0B:((i:Int)==0)=false:=by simp[hi0]
       have hl0:0<bs.length:=HII.out.2.1 (by omega);have hc5:=hat.cell (bs.length-1) (by omega);have hf5:=hat.frozen (bs.length-1);have hyd:=HII.out.2.2.getD (by decide) (bs.length-1);have HN:Hid (hexB cs s.size (i+1)=bs.set (bs.length-1) ((bs.getD (bs.length-1) 0*16%256+x)%256)):=by unfold Hid;rw[HCC.out,hstep,if_neg (fun h=>by rcases h with h|h<;>omega)]
       have HAT:Hid (OwnAt 5 .u8 wr g cap bs∧w.heap.size≤g∧Below w.heap.size w wr):=⟨hat,hgb,HWr.out.2⟩
       generalize bs.getD (bs.length-1) 0=y at *;obtain⟨m,hm⟩:∃m,bs.length=m+1:=⟨bs.length-1,by omega⟩
       have hmI:((bs.length:Nat):Int)-1=(m:Int):=by omega
       have hmN:bs.length-1=m:=by omega
       rw[hmN]at hc5 hf5 HN;have hw1:IntKind.u8.wrap (y*16)=y*16%256:=by simp[IntKind.wrap,IntKind.bits,IntKind.signed]
       have hw2:IntKind.u8.wrap (y*16%256+x)=(y*16%256+x)%256:=by simp[IntKind.wrap,IntKind.bits,IntKind.signed]
       have hmL:(m:Int)<(bs.length:Int):=by omega
       have HLen:Hid (bs.length=m+1):=hm;clear hp hx HCC hM hat hm HWr hmN;go_wp2;go_roundw
       case rel=> refine⟨i+1,by omega,by go_num,?_,HAT.out.2.2.setCell HAT.out.2.1 _⟩;have h9:=(HAT.out.1.set m (by have:=HLen.out;omega) ((y*16+x)%256)).ownR HAT.out.2.1;rw[List.length_set]at h9;rw[HN.out,show(y*16%256+x)%256=(y*16+x)%256 by omega];exact h9
       case measure=>simp[intOf]<;>omega
  ·obtain rfl:i=s.size:=by omega
   have HI:=HF s.size (by omega);obtain⟨ao,cap,rfl,hnum⟩:=hown.num HI.2.2 (by omega);have HR:=rRead_any ao _ cap _ wr hnum (by omega);have HBW:Hid (Below w.heap.size w wr):=hbw;clear hown hbw HF HI hnum;go_wp2_with fail
   refine HR.mono ?_;rintro e w2 ⟨v,rfl,hout⟩;obtain⟨q1,q2,q3,q4,rfl,p1,p2,p3,p4,p5⟩:=hout;go_wp2;go_ret;exact⟨_,rfl,q1,q2,q3,q4,rfl,p1,p2,p3,p4,HBW.out.trans (p5.mono HBW.out.size)⟩
def rsaN (i:Int):Int:=if i%2=0 then 8478774692950686948931691623231886540506061736060197768102464703086314338576516908251073744980808318024178470791773212721119574061960704473384495341337591 else 10946859011210766630761700678456930657619854580716871171759543806720678760030654918172574107507588800923464901969980427984494337629330413913164793052846871
def rsaE (i:Int):Int:=if i%2=0 then 65537 else 3
def rsaD (i:Int):Int:=if i%2=0 then 2383713378970908144011267194989815058803793086148422171861512003209871396131481888572373782155166885376097174023812513049970796133554954105071126847058473 else 7297906007473844420507800452304620438413236387144580781173029204480452506686963438357913577234804839559658985100037650548491023180987702123054674724834667
theorem rsa12_any(i:Int)(w:World)(h0:0≤i)(h1:i<256):
  Calls Tryz.prog 12 #[.int .i64 i] w fun e w'=>∃v1 v2 v3,e=.returned (.tuple #[v1,v2,v3])∧Rv w' v1 (rsaN i) 32∧Rv w' v2 (rsaE i) 32∧Rv w' v3 (rsaD i) 32∧Below w.heap.size w w':=by
 unfold rsaN rsaE rsaD;rcases Int.emod_two_eq i with hj|hj
 ·have hjt:i.tmod 2=0:=by rw[Int.tmod_eq_emod_of_nonneg h0];exact hj
  rw[if_pos hj,if_pos hj,if_pos hj];clear hj;go_enter Tryz.func12,Tryz.ntmps12;go_wp2_with fail
  refine(hex_any _ w (by decide +kernel)).mono ?_;rintro e w1 ⟨v1,rfl,ho1⟩;obtain⟨r1,b1⟩:=rv_eq (n':=8478774692950686948931691623231886540506061736060197768102464703086314338576516908251073744980808318024178470791773212721119574061960704473384495341337591) (d:=32) ho1 (by decide +kernel) (by decide +kernel);clear ho1;go_wp2_with fail
  refine(hex_any _ w1 (by decide +kernel)).mono ?_;rintro e w2 ⟨v2,rfl,ho2⟩;obtain⟨r2,b2⟩:=rv_eq (n':=65537) (d:=32) ho2 (by decide +kernel) (by decide +kernel);clear ho2;go_wp2_with fail
  refine(hex_any _ w2 (by decide +kernel)).mono ?_;rintro e w3 ⟨v3,rfl,ho3⟩;obtain⟨r3,b3⟩:=rv_eq (n':=2383713378970908144011267194989815058803793086148422171861512003209871396131481888572373782155166885376097174023812513049970796133554954105071126847058473) (d:=32) ho3 (by decide +kernel) (by decide +kernel);clear ho3;have c2:=b2.trans (b3.mono b2.size);have HR:Hid (Rv w3 v1 8478774692950686948931691623231886540506061736060197768102464703086314338576516908251073744980808318024178470791773212721119574061960704473384495341337591 32∧Rv w3 v2 65537 32∧Rv w3 v3 2383713378970908144011267194989815058803793086148422171861512003209871396131481888572373782155166885376097174023812513049970796133554954105071126847058473 32∧Below w.heap.size w w3):=⟨r1.old c2,r2.old b3,r3,b1.trans (c2.mono b1.size)⟩
  clear r1 r2 r3 b1 b2 b3 c2;go_wp2;go_ret3
  exact⟨_,_,_,rfl,HR.out⟩
 ·have hjt:i.tmod 2=1:=by rw[Int.tmod_eq_emod_of_nonneg h0];exact hj
  rw[if_neg (by omega),if_neg (by omega),if_neg (by omega)];clear hj;go_enter Tryz.func12,Tryz.ntmps12;go_wp2_with fail
  refine(hex_any _ w (by decide +kernel)).mono ?_;rintro e w1 ⟨v1,rfl,ho1⟩;obtain⟨r1,b1⟩:=rv_eq (n':=10946859011210766630761700678456930657619854580716871171759543806720678760030654918172574107507588800923464901969980427984494337629330413913164793052846871) (d:=32) ho1 (by decide +kernel) (by decide +kernel);clear ho1;go_wp2_with fail
  refine(hex_any _ w1 (by decide +kernel)).mono ?_;rintro e w2 ⟨v2,rfl,ho2⟩;obtain⟨r2,b2⟩:=rv_eq (n':=3) (d:=32) ho2 (by decide +kernel) (by decide +kernel);clear ho2;go_wp2_with fail
  refine(hex_any _ w2 (by decide +kernel)).mono ?_;rintro e w3 ⟨v3,rfl,ho3⟩;obtain⟨r3,b3⟩:=rv_eq (n':=7297906007473844420507800452304620438413236387144580781173029204480452506686963438357913577234804839559658985100037650548491023180987702123054674724834667) (d:=32) ho3 (by decide +kernel) (by decide +kernel);clear ho3;have c2:=b2.trans (b3.mono b2.size);have HR:Hid (Rv w3 v1 10946859011210766630761700678456930657619854580716871171759543806720678760030654918172574107507588800923464901969980427984494337629330413913164793052846871 32∧Rv w3 v2 3 32∧Rv w3 v3 7297906007473844420507800452304620438413236387144580781173029204480452506686963438357913577234804839559658985100037650548491023180987702123054674724834667 32∧Below w.heap.size w w3):=⟨r1.old c2,r2.old b3,r3,b1.trans (c2.mono b1.size)⟩
  clear r1 r2 r3 b1 b2 b3 c2;go_wp2;go_ret3
  exact⟨_,_,_,rfl,HR.out⟩
end
end Go.Proofs.YtkhnnhbmchnajaaGreat
