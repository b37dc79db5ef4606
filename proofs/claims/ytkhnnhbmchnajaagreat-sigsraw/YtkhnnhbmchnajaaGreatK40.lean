import Derived.Test.YtkhnnhbmchnajaaGreatK39
import Derived.Test.YtkhnnhbmchnajaaGreatK02
import Derived.Test.YtkhnnhbmchnajaaGreatK38
set_option maxRecDepth 100000
set_option maxHeartbeats 40000000
set_option linter.unusedVariables false
set_option linter.unusedSimpArgs false
namespace Go.Proofs.YtkhnnhbmchnajaaGreat
section
open Go.Shelf Go.RowKit
attribute [local go_sem ↓] keep_l32
theorem sign_k(kd:Int)(hkd:0≤kd∧kd<256)(hkd2:kd%16=15)(dr:Int)(i:Int)(h0:0≤i)(h1:i<256)(ao:Option Addr)(m c:Nat)(bs:List Int)(w:World)(hb:NumIn .u8 256 w ao m c bs)(hm:m≤1000):
  Calls Tryz.prog 9 #[.agg #[.int .u8 kd,.int .u8 i],.slice ao m c,.int .u16 dr] w fun e w'=>∃v,e=.returned v∧BytesOut w w' v 64 (padZ (shaS bs)^(rsaD i).toNat%rsaN i):=by
 have HRS:=fun W=>rsa12_any i W h0 h1;have hiw:IntKind.i64.wrap i=i:=by simp[IntKind.wrap,IntKind.bits,IntKind.signed];omega
 obtain⟨hz1,hz2,hz3,-⟩:=rsa_512 i;have hl32:=shaS_length bs;have HSD:Hid (Dg 256 (shaS bs)):=sha_bytes bs;have HBS:Hid (NumIn .u8 256 w ao m c bs):=hb;obtain⟨W0,hW0⟩:∃W0,w.alloc (.cells #[.int .u8 kd,.int .u8 i] 32)=W0:=⟨_,rfl⟩
 have b0:Below w.heap.size w W0:=by rw[←hW0];exact(Below.refl w.heap.size w).alloc (Nat.le_refl _) _
 have HS0:Hid (W0.heap[w.heap.size]?=some (.cells #[.int .u8 kd,.int .u8 i] 32 (0,0))):=by unfold Hid;rw[←hW0];exact heap_alloc_new w _
 have hz0:W0.heap.size=w.heap.size+1:=by rw[←hW0];exact alloc_sz7 w _
 have HW0:Hid (w.alloc (.cells #[.int .u8 kd,.int .u8 i] 32)=W0):=hW0;have hsum:=rSum_any bs ao m c W0 hb.dg (hb.old b0).lies hb.nn (by omega);have HB0:Hid (Below w.heap.size w W0∧W0.heap.size=w.heap.size+1):=⟨b0,hz0⟩
 generalize shaS bs=hs at *;have hml:=hb.sm;clear hb b0 hW0;go_enter Tryz.func9,Tryz.ntmps9;go_wp2_with fail
 rw[HW0.out];clear HW0;refine hsum.mono ?_;rintro r w1 ⟨rfl,d1⟩;have HS1:Hid (w1.heap[w.heap.size]?=some (.cells #[.int .u8 kd,.int .u8 i] 32 (0,0))∧Below w.heap.size w w1):=⟨by rw[d1.block _ (by omega)];exact HS0.out,HB0.out.1.trans (d1.mono (by omega))⟩
 clear HS0 d1 hsum;go_wp2_with (first
  | ((with_reducible show wpList _ _ _ (Oper.mk _ (Op.alloc 71) _ _ _ _::_) _ _);refine wpList_alloc_row (w:=w1) (by with_reducible rfl) 71 (by with_reducible rfl) .u8 32 Tryz.infoB32 ?_;intro w2 hr2 hb2 hs2)
  | ((with_reducible show wpList _ _ _ (Oper.mk _ (Op.store 71 _ _) _ _ _ _::_) _ _);refine wpList_store_nums (w:=w2) (by with_reducible rfl) 71 _ _ (by with_reducible rfl) .u8 71 32 Tryz.sizeB32 w1.heap.size (List.replicate 32 0) hs (by rfl) (by rfl) hr2 (by simp) hl32 ?_;intro w3 hr3 hb3 hs3 ho3;obtain⟨x0,x1⟩:=cells2 (W:=w3) (g:=w.heap.size) (t:=32) ((ho3 _ (by have:=(Array.getElem?_eq_some_iff.1 HS1.out.1).1;omega)).trans ((hb2.block _ (Array.getElem?_eq_some_iff.1 HS1.out.1).1).trans HS1.out.1))))
 have B3:Below w1.heap.size w1 w3:=hb2.trans hb3;have HS3:Hid (w3.heap[w.heap.size]?=some (.cells #[.int .u8 kd,.int .u8 i] 32 (0,0))∧Below w.heap.size w w3∧Row 71 .u8 w3 w1.heap.size hs∧w.heap.size<w3.heap.size):=⟨by rw[B3.block _ (Array.getElem?_eq_some_iff.1 HS1.out.1).1];exact HS1.out.1,HS1.out.2.trans (B3.mono HS1.out.2.size),hr3,by have:=(Array.getElem?_eq_some_iff.1 HS1.out.1).1;omega⟩
 clear hr2 hb2 hs2 hr3 hb3 hs3 ho3 B3 HS1 x0 x1;refine(scurve_k kd hkd hkd2 i w3).mono ?_;rintro r w4 ⟨rfl,d4⟩;obtain⟨x0,x1⟩:=cells2 (by rw[d4.block _ HS3.out.2.2.2];exact HS3.out.1:w4.heap[w.heap.size]?=_);have D4:Hid (Below w3.heap.size w3 w4):=d4;clear d4;go_wp2_with fail
 refine(HRS w4).mono ?_;rintro e w5 ⟨v1,v2,v3,rfl,r1,r2,r3,d5⟩;have D5:Hid (Below w3.heap.size w3 w5):=D4.out.trans (d5.mono D4.out.size);have HR:Hid (Rv w5 v1 (rsaN i) 32∧Rv w5 v3 (rsaD i) 32):=⟨r1,r3⟩
 obtain⟨q1,q2,q3,q4,rfl,-⟩:=r1;obtain⟨s1,s2,s3,s4,rfl,-⟩:=r2;obtain⟨t1,t2,t3,t4,rfl,-⟩:=r3;have HRW:Hid (Row 71 .u8 w5 w1.heap.size hs∧w1.heap.size<w5.heap.size∧Below w.heap.size w w5):=⟨HS3.out.2.2.1.below D5.out HS3.out.2.2.1.lt,Nat.lt_of_lt_of_le HS3.out.2.2.1.lt D5.out.size,HS3.out.2.1.trans (D5.out.mono HS3.out.2.1.size)⟩
 clear x0 x1 d5 HRS D4 D5 HS3;go_wp2_with fail
 refine wp_region_frames 15 [[33],[34],[35],[36],[37],[38],[39],[12,39]] (([.eq (.slice q1 q2 q3),.eq (.int .i64 512),.eq (.int .i64 519),.eq (.int .i64 64),.eq (ag IntKind.u8 hs),.by (padA 64 hs),.rv (val 256 (padA 64 hs).reverse) 256,.same]:List Fk).map Fk.sem) [0,1,2,3,4,5,6,7] (by kernel_rfl) (by kernel_rfl) (by kernel_rfl) ?step ?done
 case step=>
  intro i o ho listed a wx hI hli hne KK hK;have hlt:i<8:=(Array.getElem?_eq_some_iff.1 ho).1;have hsz:Hid (a.tmps.size=90):=hI.slots;have hbw:Below w5.heap.size w5 wx:=(Below.refl _ _).drew.trans hI.below;obtain rfl|rfl|rfl|rfl|rfl|rfl|rfl|rfl:i=0∨i=1∨i=2∨i=3∨i=4∨i=5∨i=6∨i=7:=by omega
  ·obtain rfl:=op_is ho rfl;rw[if_pos (by rfl)];have eH9:a.tmps.getD 9 undef=.slice q1 q2 q3:=hI.stays hli 15 9 (by decide +kernel);go_simp;exact hI.grow hK _ _ (Below.refl _ _) (pz hsz (by rfl))
  ·obtain rfl:=op_is ho rfl;rw[if_pos (by rfl)];have eH33:a.tmps.getD 33 undef=(.slice q1 q2 q3):=hI.deep hne 0 0 (by decide +kernel);have HL:=rlen_rvO (.slice q1 q2 q3) (rsaN i) 32 wx (HR.out.1.old hbw) (by decide);rw[hz1]at HL;go_simp;go_at_call 30;refine HL.mono ?_;rintro r w6 ⟨rfl,rfl⟩;exact hI.grow hK _ _ (Below.refl _ _) (pz hsz (by rfl))
  ·obtain rfl:=op_is ho rfl;rw[if_pos (by rfl)];have eH34:a.tmps.getD 34 undef=(.int .i64 512):=hI.deep hne 0 1 (by decide +kernel);go_simp;exact hI.grow hK _ _ (Below.refl _ _) (pz hsz (by rfl))
  ·obtain rfl:=op_is ho rfl;rw[if_pos (by rfl)];have eH35:a.tmps.getD 35 undef=(.int .i64 519):=hI.deep hne 0 2 (by decide +kernel);go_simp;exact hI.grow hK _ _ (Below.refl _ _) (pz hsz (by rfl))
  ·obtain rfl:=op_is ho rfl;rw[if_pos (by rfl)];have eH7:a.tmps.getD 7 undef=.pointer (some ⟨w1.heap.size,0,none⟩):=hI.stays hli 15 7 (by decide +kernel);have hld:=row_ld32 (HRW.out.1.below hbw HRW.out.2.1) hl32;go_simp;exact hI.grow hK _ _ (Below.refl _ _) (pz hsz (by rfl))
  ·obtain rfl:=op_is ho rfl;rw[if_pos (by rfl)];have eH36:a.tmps.getD 36 undef=(.int .i64 64):=hI.deep hne 0 3 (by decide +kernel);have eH37:a.tmps.getD 37 undef=(ag IntKind.u8 hs):=hI.deep hne 0 4 (by decide +kernel);go_simp;go_at_call 29;refine(rPad_any 64 hs wx hl32 HSD.out).mono ?_;rintro r w6 ⟨v6,rfl,hv6,hb6⟩;exact hI.grow hK _ _ hb6 (by have hp:=put_self a 38 v6 (by rw[hsz.out];decide);show By8 w6 ((a.put (some 38) v6).tmps.getD 38 undef) _;rw[hp];exact hv6)
  ·obtain rfl:=op_is ho rfl;rw[if_pos (by rfl)];have fA5:Fk.sem (.by (padA 64 hs)) [a.tmps.getD 38 undef] wx:=hI.deep hne 0 5 (by decide +kernel);obtain⟨zX38,eH38⟩:∃x,a.tmps.getD 38 undef=x:=⟨_,rfl⟩
   simp only[eH38]at fA5;have hby:By8 wx zX38 (padA 64 hs):=fA5;have HRD:=rread_rv zX38 _ 256 wx hby (padA_len _ _ hl32) (by decide)
   obtain⟨b1,b2,b3,rfl,-⟩:=hby
   have eK:=eH38;rw[Array.getD_eq_getD_getElem?]at eK;go_simp;go_at_call 28;refine HRD.mono ?_;rintro r w6 ⟨v6,rfl,hv6,hb6⟩;exact hI.grow hK _ _ hb6 (by have hp:=put_self a 39 v6 (by rw[hsz.out];decide);show Rv w6 ((a.put (some 39) v6).tmps.getD 39 undef) _ _;rw[hp];exact hv6)
  ·obtain rfl:=op_is ho rfl;rw[if_pos (by rfl)];have fA6:Fk.sem (.rv (val 256 (padA 64 hs).reverse) 256) [a.tmps.getD 39 undef] wx:=hI.deep hne 0 6 (by decide +kernel);obtain⟨zX39,eH39⟩:∃x,a.tmps.getD 39 undef=x:=⟨_,rfl⟩
   simp only[eH39]at fA6;have eK39:=eH39;rw[Array.getD_eq_getD_getElem?]at eK39;go_simp;exact hI.grow hK _ _ (Below.refl _ _) ((pz hsz (by rfl)).trans ((put_get _ _ _ _ (by decide)).trans eH39).symm)
 case done=>
  intro listed a W hI hall;obtain⟨tm,df⟩:=a;have hdf:df=[]:=hI.defers;subst hdf;have hTM:=hI.frame _ rfl [false,false,false,false,false,false,false,false,false,false,false,false,true,false,false,false,false,false,false,false,false,false,false,false,false,false,false,false,false,false,false,false,false,true,true,true,true,true,true,true,false,false,false,false,false,false,false,false,false,false,false,false,false,false,false,false,false,false,false,false,false,false,false,false,false,false,false,false,false,false,false,false,false,false,false,false,false,false,false,false,false,false,false,false,false,false,false,false,false,false] 90 rfl rfl (by decide +kernel);have fA6:Fk.sem (.rv (val 256 (padA 64 hs).reverse) 256) [tm.getD 39 undef] W:=hI.facts 6 (hall 6 (by decide));have fA7:Fk.sem (.same) [tm.getD 12 undef,tm.getD 39 undef] W:=hI.facts 7 (hall 7 (by decide));have fA0:tm.getD 33 undef=(.slice q1 q2 q3):=hI.facts 0 (hall 0 (by decide));have fA1:tm.getD 34 undef=(.int .i64 512):=hI.facts 1 (hall 1 (by decide));have fA2:tm.getD 35 undef=(.int .i64 519):=hI.facts 2 (hall 2 (by decide));have fA3:tm.getD 36 undef=(.int .i64 64):=hI.facts 3 (hall 3 (by decide));have fA4:tm.getD 37 undef=(ag IntKind.u8 hs):=hI.facts 4 (hall 4 (by decide));have hbw:Below w5.heap.size w5 W:=(Below.refl _ _).drew.trans hI.below;clear hI hall listed;simp only[frameV,cond_true,cond_false,Nat.reduceAdd,Nat.zero_add,fA0,fA1,fA2,fA3,fA4]at hTM;clear fA0 fA1 fA2 fA3 fA4;generalize tm.getD 12 undef=zX12 at hTM fA7;generalize tm.getD 38 undef=zX38 at hTM;generalize tm.getD 39 undef=zX39 at hTM fA6 fA7;subst hTM;have g7:zX12=zX39:=fA7;have rM:Rv W zX39 (val 256 (padA 64 hs).reverse) 256:=fA6;clear fA6 fA7;subst g7;rw[padA_64]at rM;have rM':Rv W zX12 (padZ hs) 256:=rM;have hpz:=padZ_lt hs hl32 HSD.out;have HPW:=rpow_rv zX12 (.slice t1 t2 t3) (.slice q1 q2 q3) (padZ hs) (rsaD i) (rsaN i) 256 32 32 W rM' (HR.out.2.old hbw) (HR.out.1.old hbw) (by omega) (by decide) (by decide) (by decide);have HL:=fun W' (hb:Below W.heap.size W W')=>rlen_rvO (.slice q1 q2 q3) (rsaN i) 32 W' ((HR.out.1.old hbw).old hb) (by decide);simp only[hz1]at HL;have HBW:Hid (Below w.heap.size w W):=HRW.out.2.2.trans (hbw.mono HRW.out.2.2.size);have hN0:0<rsaN i:=by omega
  have hmlt:=Int.emod_lt_of_pos (padZ hs^(rsaD i).toNat) hN0;obtain⟨m1,m2,m3,m4,rfl,-⟩:=rM';clear rM hbw HRW;have HVV:Hid (∃V,padZ hs^(rsaD i).toNat%rsaN i=V):=⟨_,rfl⟩
  obtain⟨V,hV⟩:=HVV.out;rw[hV]at HPW hmlt;have HV:Hid (padZ hs^(rsaD i).toNat%rsaN i=V):=hV;clear HVV hV;go_wp2_with fail
  refine HPW.mono ?_;rintro r y1 ⟨vP,rfl,hvP,d1⟩;have hvP2:=hvP;obtain⟨p1,p2,p3,p4,rfl,p5,p6,p7,p8⟩:=hvP2;have HBY:=fun W' (hb:Below y1.heap.size y1 W')=>rBytes_any p1 p2 p3 p4 64 W' (p5.old hb) (by decide) (by rw[p7];omega);rw[p7]at HBY;have D1:Hid (Below W.heap.size W y1):=d1;clear HPW hvP p5 p6 p7 p8 d1;go_wp2_with fail
  refine(HL y1 D1.out).mono ?_;rintro r y2 ⟨rfl,rfl⟩;go_wp2_with fail
  refine(HBY y2 (Below.refl _ _)).mono ?_;rintro r y3 ⟨vO,rfl,g,bb,rfl,o1,o2,o3,o4,o5⟩;have E:=HBW.out.trans (D1.out.mono HBW.out.size);go_wp2;go_ret;exact⟨_,rfl,g,bb,rfl,o1,o2,o3,o4.trans HV.out.symm,E.trans (o5.mono E.size)⟩
end
end Go.Proofs.YtkhnnhbmchnajaaGreat
