import Derived.Test.YtkhnnhbmchnajaaGreatK31
set_option maxRecDepth 100000
set_option maxHeartbeats 40000000
set_option linter.unusedVariables false
set_option linter.unusedSimpArgs false
namespace Go.Proofs.YtkhnnhbmchnajaaGreat
section
open Go.Shelf Go.RowKit
theorem rSigned_pt{P:Nat}[NeZero P]{K:Cz}(gK:GoodK K P)(hbs:Gd K P (baseZ K))(hN:0<K.n)(hS1:S31 K.p)(hS2:S31 K.a)(hS3:S31 K.b)(hS4:S31 K.gx)(hS5:S31 K.gy)(hS6:S31 K.n)(gc cl cap j:Nat)(hj:j<cl)(hcl:cl≤3)(hcc:cl≤cap)(hcm:cap≤maxLen)(g1 g2:Int)(oo:Option Addr)(lo co b0 b1 b2 b3 b4 b5:Nat)(q:Pz)(x1:Option Addr)(x2 x3:Nat)(y1:Option Addr)(y2 y3:Nat)(n1:Option Addr)(n2 n3:Nat)(e1:Option Addr)(e2 e3:Nat)(ao:Option Addr)(m c:Nat)(ms:List Int)(p:Option Addr)(n cs:Nat)(sb:Bs)(w:World)(hA:CuJ w gc j K g1 g2 oo lo co b0 b1 b2 b3 b4 b5)(hx:Nv w (.slice x1 x2 x3) q.x 4)(hy:Nv w (.slice y1 y2 y3) q.y 4)(hm:NumIn .u8 256 w ao m c ms)(hmm:m≤1000)(hn:sb.length=n)(hn2:n≤2000)(hv:ByV w (fun _=>True) p cs sb):
  Calls Tryz.prog 8 #[.slice (some ⟨gc,0,none⟩) cl cap,.agg #[.int .u8 1,.int .i64 (j:Int),.slice x1 x2 x3,.slice y1 y2 y3,.bool q.inf,.slice n1 n2 n3,.slice e1 e2 e3],.slice ao m c,.slice p n cs] w fun e w'=>∃b,PtZ K P q (shaS ms) (pairR sb) b∧e=.returned (.int .i64 (erS b))∧Below w.heap.size w w':=by
 have hq0:0≤q.x∧0≤q.y:=⟨hx.nonneg,hy.nonneg⟩
 obtain⟨bb,hbb⟩:=ptZ_ex gK hbs hN q hq0 (shaS ms) (pairR sb);have HPT:Hid (PtZ K P q (shaS ms) (pairR sb) bb):=hbb;obtain⟨q0,hq⟩:∃q0,ofZ q=q0:=⟨_,rfl⟩
 obtain⟨ob,hok⟩:∃b,ofB q=b:=⟨_,rfl⟩
 have sqx:S31 q0.x∧S31 q0.y:=by
  rw[←hq];unfold ofZ;split
  ·exact⟨⟨by decide,by decide⟩,⟨by decide,by decide⟩⟩
  ·exact⟨n31_s hq0.1,n31_s hq0.2⟩
 have HUX:ob=true→∀b,PtZ K P q0 (shaS ms) (pairR sb) b→b=bb:=fun h b hb=>by
  refine ptZ_uniq gK hbs hq0 ?_ hbb
  cases hR:pairR sb with
  | none=>rw[hR]at hb;exact hb
  | some xy=>rw[hR]at hb;exact verZ_of (by rw[hok];exact h) (by rw[hq];exact hb)
 have HUB:ob=false→PtZ K P q (shaS ms) (pairR sb) false:=fun h=>by
  have h1:bb=false:=by
   cases hR:pairR sb with
   | none=>rw[hR]at hbb;exact hbb
   | some xy=>rw[hR]at hbb;exact verZ_big hS1.2 (by rw[hok];exact h) hbb
  rw[h1]at hbb;exact hbb
 have hl32:(shaS ms).length=32:=by unfold shaS;exact spreadS_length _
 have HSD:Hid (Dg 256 (shaS ms)):=sha_dg ms;have hsum:=fun W (hW:Below w.heap.size w W)=>rSum_any ms ao m c W hm.dg (hm.old hW).lies hm.nn (by omega);generalize shaS ms=hh at *;have HSM:=fun W (hW:Below w.heap.size w W)=>rSmallC_any _ K 1 W (hA.cu.old hW) hS1 hS2 hS3 hS4 hS5 hS6;have HOF:∀W,Below w.heap.size w W→Calls Tryz.prog 25 #[.agg #[.slice x1 x2 x3,.slice y1 y2 y3,.bool q.inf]] W fun e w'=>e=.returned (.tuple #[rpv q0,.bool ob])∧Below W.heap.size W w':=fun W hW=>by rw[←hq,←hok];exact rPof_any (.agg #[.slice x1 x2 x3,.slice y1 y2 y3,.bool q.inf]) q 4 W ⟨_,_,rfl,hx.old hW,hy.old hW⟩
 have HPR:=fun W (hW:Below w.heap.size w W)=>(rPair p n cs sb _ W hn (hv.below hW) hn2).mono (fun e w' h=>rPair_fit h);have HVD:=fun(W:World) (a:Option Addr) (ca:Nat) (bs:List Int) (r s:Value) (x y:Int) hh' hr hs=>rVerify_any gK hbs hS1 hS2 hS3 hS6 q0 sqx.1 sqx.2 a 32 ca bs r s x y 256 W hh' (by decide) hr hs (by decide);have HC:Hid (CuJ w gc j K g1 g2 oo lo co b0 b1 b2 b3 b4 b5):=hA;have hb0:=balloc w (.cells #[.int .u8 1,.int .i64 (j:Int),.slice x1 x2 x3,.slice y1 y2 y3,.bool q.inf,.slice n1 n2 n3,.slice e1 e2 e3] 30);have hc0:=heap_alloc_new w (.cells #[.int .u8 1,.int .i64 (j:Int),.slice x1 x2 x3,.slice y1 y2 y3,.bool q.inf,.slice n1 n2 n3,.slice e1 e2 e3] 30);obtain⟨W,hW⟩:∃W,w.alloc (.cells #[.int .u8 1,.int .i64 (j:Int),.slice x1 x2 x3,.slice y1 y2 y3,.bool q.inf,.slice n1 n2 n3,.slice e1 e2 e3] 30)=W:=⟨_,rfl⟩
 rw[hW]at hb0 hc0;have HW:Hid (_=W):=hW;have HS:Hid (W.heap[w.heap.size]?=some (.cells #[.int .u8 1,.int .i64 (j:Int),.slice x1 x2 x3,.slice y1 y2 y3,.bool q.inf,.slice n1 n2 n3,.slice e1 e2 e3] 30 (0,0))∧Below w.heap.size w W):=⟨hc0,hb0⟩
 have hjI:(j:Int)<(cl:Int):=by omega
 have hj0:(0:Int)≤(j:Int):=by omega
 have hclI:(cl:Int)≤(cap:Int):=by omega
 unfold maxLen at hcm;have hsum0:=hsum W hb0;clear hb0 hc0 hW hA hx hy hm hv hbb hsum;obtain⟨kp,ka,kb,kx,ky,kn⟩:=K;unfold rcv at HSM HVD;clear hq hok sqx;obtain⟨X,Y,I⟩:=q0;unfold rpv at HVD HOF;simp only at HSM HVD HOF;go_enter Tryz.func8,Tryz.ntmps8;go_wp2_with fail
 rw[HW.out];clear HW;refine hsum0.mono ?_;rintro r w1 ⟨rfl,d1⟩;have HS1:Hid (w1.heap[w.heap.size]?=some (.cells #[.int .u8 1,.int .i64 (j:Int),.slice x1 x2 x3,.slice y1 y2 y3,.bool q.inf,.slice n1 n2 n3,.slice e1 e2 e3] 30 (0,0))∧Below w.heap.size w w1):=⟨blk_old HS.out.1 d1,bstep HS.out.2 d1⟩
 clear HS d1 hsum0;obtain⟨gh,hgh⟩:∃g,w1.heap.size=g:=⟨_,rfl⟩
 go_wp2_with (first
  | ((with_reducible show wpList _ _ _ (Oper.mk _ (Op.alloc 71) _ _ _ _::_) _ _);refine wpList_alloc_row (w:=w1) (by with_reducible rfl) 71 (by with_reducible rfl) .u8 32 Tryz.infoB32 ?_;intro w2 hr2 hb2 hs2)
  | ((with_reducible show wpList _ _ _ (Oper.mk _ (Op.store 71 _ _) _ _ _ _::_) _ _);refine wpList_store_nums (w:=w2) (by with_reducible rfl) 71 _ _ (by with_reducible rfl) .u8 71 32 Tryz.sizeB32 w1.heap.size (List.replicate 32 0) hh (by rfl) (by rfl) hr2 (by simp) hl32 ?_;intro w3 hr3 hb3 hs3 ho3;have B3:Below w1.heap.size w1 w3:=hb2.trans hb3;obtain⟨k0,k1,k2,k3,k4,k5,k6⟩:=cells7k (blk_old HS1.out.1 B3);obtain⟨x0,x1',x2',x3',x4,x5,x6,x7,x8⟩:=(HC.out.keep (bstep HS1.out.2 B3)).at'))
 have HS3:Hid (w3.heap[w.heap.size]?=some (.cells #[.int .u8 1,.int .i64 (j:Int),.slice x1 x2 x3,.slice y1 y2 y3,.bool q.inf,.slice n1 n2 n3,.slice e1 e2 e3] 30 (0,0))∧Below w.heap.size w w3∧Row 71 .u8 w3 gh hh):=⟨blk_old HS1.out.1 B3,bstep HS1.out.2 B3,by rw[←hgh];exact hr3⟩
 have HSM3:=HSM w3 HS3.out.2.1;clear hr2 hb2 hs2 hr3 hb3 hs3 ho3 B3 HS1 HSM hgh k0 k1 k2 k3 k4 k5 k6 x0 x1' x2' x3' x4 x5 x6 x7 x8;refine HSM3.mono ?_;rintro e w4 ⟨rfl,hb4⟩;obtain⟨w5,hw5⟩:∃W,w4.alloc (.cells #[.int .i64 kp,.int .i64 ka,.int .i64 kb,.int .i64 kx,.int .i64 ky,.int .i64 kn] 60)=W:=⟨_,rfl⟩
 have B5:Below w3.heap.size w3 w5:=by rw[←hw5];exact bstep hb4 (balloc _ _)
 have HS5:Hid (w5.heap[w.heap.size]?=some (.cells #[.int .u8 1,.int .i64 (j:Int),.slice x1 x2 x3,.slice y1 y2 y3,.bool q.inf,.slice n1 n2 n3,.slice e1 e2 e3] 30 (0,0))∧Below w.heap.size w w5∧Row 71 .u8 w5 gh hh∧w5.heap[w4.heap.size]?=some (.cells #[.int .i64 kp,.int .i64 ka,.int .i64 kb,.int .i64 kx,.int .i64 ky,.int .i64 kn] 60 (0,0))):=⟨blk_old HS3.out.1 B5,bstep HS3.out.2.1 B5,HS3.out.2.2.below B5 HS3.out.2.2.lt,by rw[←hw5];exact heap_alloc_new w4 _⟩
 obtain⟨k0,k1,k2,k3,k4,k5,k6⟩:=cells7k HS5.out.1;rw[←hw5]at k0 k1 k2 k3 k4 k5 k6;have HW5:Hid (_=w5):=hw5;have HOF5:=HOF w5 HS5.out.2.1;clear hw5 B5 hb4 HS3 HSM3 HOF;go_wp2_with fail
 rw[HW5.out];clear HW5 k0 k1 k2 k3 k4 k5 k6;refine HOF5.mono ?_;rintro e w6 ⟨rfl,hb6⟩;obtain⟨w7,hw7⟩:∃W,w6.alloc (.cells #[.int .i64 X,.int .i64 Y,.bool I] 64)=W:=⟨_,rfl⟩
 have B7:Below w5.heap.size w5 w7:=by rw[←hw7];exact bstep hb6 (balloc _ _)
 have HS7:Hid (Below w.heap.size w w7∧Row 71 .u8 w7 gh hh∧w7.heap[w4.heap.size]?=some (.cells #[.int .i64 kp,.int .i64 ka,.int .i64 kb,.int .i64 kx,.int .i64 ky,.int .i64 kn] 60 (0,0))∧PSd w7 w6.heap.size (.int .i64 X) (.int .i64 Y) (.bool I)):=⟨bstep HS5.out.2.1 B7,HS5.out.2.2.1.below B7 HS5.out.2.2.1.lt,blk_old HS5.out.2.2.2 B7,by rw[←hw7];exact heap_alloc_new w6 _⟩
 have HW7:Hid (_=w7):=hw7;have HPR7:=HPR w7 HS7.out.1;clear hw7 B7 hb6 HS5 HOF5 HPR;go_wp2_with fail
 rw[HW7.out];clear HW7;refine HPR7.mono ?_;rintro e w8 ⟨hb8,r1,r2,r3,r4,r5,r6,b9,rfl,hcase⟩;have HS8:Hid (Below w.heap.size w w8∧Row 71 .u8 w8 gh hh∧w8.heap[w4.heap.size]?=some (.cells #[.int .i64 kp,.int .i64 ka,.int .i64 kb,.int .i64 kx,.int .i64 ky,.int .i64 kn] 60 (0,0))∧PSd w8 w6.heap.size (.int .i64 X) (.int .i64 Y) (.bool I)):=⟨bstep HS7.out.1 hb8,HS7.out.2.1.below hb8 HS7.out.2.1.lt,blk_old HS7.out.2.2.1 hb8,HS7.out.2.2.2.keep hb8⟩
 clear HPR7 hb8 HS7;by_cases hob:ob=false
 ·have HF8:Hid (PtZ ⟨kp,ka,kb,kx,ky,kn⟩ P q hh (pairR sb) false∧∀k,Below w.heap.size w (w8.drewN k)):=⟨HUB hob,fun k=>below_drews HS8.out.1 k⟩
  subst hob;clear HUX HPT HVD HUB;rcases hcase with⟨hR,rfl⟩|⟨x,y,hR,rfl,rX,rY⟩
  ·clear hR;go_wp2_with fail
   go_quiet (fail)
   go_wp2_with fail
   go_ret;exact⟨false,HF8.out.1,rfl,HF8.out.2 _⟩
  ·clear hR rX rY;go_wp2_with fail
   go_quiet (fail)
   go_wp2_with fail
   go_ret;exact⟨false,HF8.out.1,rfl,HF8.out.2 _⟩
 obtain rfl:ob=true:=by simpa using hob
 clear hob HUB;rcases hcase with⟨hR,rfl⟩|⟨x,y,hR,rfl,rX,rY⟩
 ·have HF8:Hid (PtZ ⟨kp,ka,kb,kx,ky,kn⟩ P q hh (pairR sb) false∧∀k,Below w.heap.size w (w8.drewN k)):=⟨by rw[hR];exact rfl,fun k=>below_drews HS8.out.1 k⟩
  clear hR HUX HPT HVD;go_wp2_with fail
  go_quiet (fail)
  go_wp2_with fail
  go_ret;exact⟨false,HF8.out.1,rfl,HF8.out.2 _⟩
 have HRX:Hid (Rv w8 (.slice r1 r2 r3) (nI x) 256∧Rv w8 (.slice r4 r5 r6) (nI y) 256):=⟨rX,rY⟩
 have HVE:=fun W (hW:Below w8.heap.size w8 W)=>HVD W (some ⟨gh,0,none⟩) 32 hh (.slice r1 r2 r3) (.slice r4 r5 r6) (nI x) (nI y) (row_num32 (HS8.out.2.1.below hW HS8.out.2.1.lt) hl32 HSD.out) (HRX.out.1.old hW) (HRX.out.2.old hW);have HUV:∀b,VerZ ⟨kp,ka,kb,kx,ky,kn⟩ P ⟨X,Y,I⟩ (digZ kn 32 hh) (nI x) (nI y) b→b=bb:=fun b h=>HUX rfl b (by rw[hR];exact h);clear HUX HVD rX rY hR;go_wp2_with fail
 refine wp_region_frames 1 [[65],[66],[67],[68],[69],[70],[71],[72],[73],[74],[75],[76],[77],[78],[79]] (([.eq (.bool true),.eq (.bool true),.eq (.bool true),.eq (.bool true),.eq (.bool true),.eq (.bool true),.eq (.bool true),.eq (.bool true),.eq (.agg #[.int .i64 kp,.int .i64 ka,.int .i64 kb,.int .i64 kx,.int .i64 ky,.int .i64 kn]),.eq (.agg #[.int .i64 X,.int .i64 Y,.bool I]),.eq (.slice (some ⟨gh,0,none⟩) 32 32),.eq (.slice r1 r2 r3),.eq (.slice r4 r5 r6),.eq (.bool bb),.eq (.bool bb)]:List Fh).map Fh.sem) [0,1,2,3,4,5,6,7,8,9,10,11,12,13,14] (by kernel_rfl) (by kernel_rfl) (by kernel_rfl) ?step ?done
 case step=>
  intro i o ho listed a wx hI hli hne KK hK;have hlt:i<15:=(Array.getElem?_eq_some_iff.1 ho).1;have hsz:Hid (a.tmps.size=80):=hI.slots;have hbw:Below w8.heap.size w8 wx:=(Below.refl _ _).drew.trans hI.below;obtain rfl|rfl|rfl|rfl|rfl|rfl|rfl|rfl|rfl|rfl|rfl|rfl|rfl|rfl|rfl:i=0∨i=1∨i=2∨i=3∨i=4∨i=5∨i=6∨i=7∨i=8∨i=9∨i=10∨i=11∨i=12∨i=13∨i=14:=by omega
  ·obtain rfl:=op_is ho rfl;rw[if_pos (by rfl)];have eH11:a.tmps.getD 11 undef=.bool true:=hI.stays hli 1 11 (by decide +kernel);go_simp;exact hI.growH hK _ _ (Below.refl _ _) (pz hsz (by rfl))
  ·obtain rfl:=op_is ho rfl;rw[if_pos (by rfl)];have eH65:a.tmps.getD 65 undef=(.bool true):=hI.deep hne 0 0 (by decide +kernel);go_simp;exact hI.growH hK _ _ (Below.refl _ _) (pz hsz (by rfl))
  ·obtain rfl:=op_is ho rfl;have eGd:a.tmps.getD 66 undef=(.bool true):=hI.deep hne 0 1 (by decide +kernel);rw[if_pos (by simp only[Region.wanted];exact wanted_at rfl rfl eGd)];clear eGd;have eH13:a.tmps.getD 13 undef=.bool true:=hI.stays hli 1 13 (by decide +kernel);go_simp;exact hI.growH hK _ _ (Below.refl _ _) (pz hsz (by rfl))
  ·obtain rfl:=op_is ho rfl;rw[if_pos (by rfl)];have eH66:a.tmps.getD 66 undef=(.bool true):=hI.deep hne 0 1 (by decide +kernel);have eH67:a.tmps.getD 67 undef=(.bool true):=hI.deep hne 0 2 (by decide +kernel);go_simp;exact hI.growH hK _ _ (Below.refl _ _) (pz hsz (by rfl))
  ·obtain rfl:=op_is ho rfl;rw[if_pos (by rfl)];have eH68:a.tmps.getD 68 undef=(.bool true):=hI.deep hne 0 3 (by decide +kernel);go_simp;exact hI.growH hK _ _ (Below.refl _ _) (pz hsz (by rfl))
  ·obtain rfl:=op_is ho rfl;have eGd:a.tmps.getD 69 undef=(.bool true):=hI.deep hne 0 4 (by decide +kernel);rw[if_pos (by simp only[Region.wanted];exact wanted_at rfl rfl eGd)];clear eGd;have eH16:a.tmps.getD 16 undef=.bool true:=hI.stays hli 1 16 (by decide +kernel);go_simp;exact hI.growH hK _ _ (Below.refl _ _) (pz hsz (by rfl))
  ·obtain rfl:=op_is ho rfl;rw[if_pos (by rfl)];have eH69:a.tmps.getD 69 undef=(.bool true):=hI.deep hne 0 4 (by decide +kernel);have eH70:a.tmps.getD 70 undef=(.bool true):=hI.deep hne 0 5 (by decide +kernel);go_simp;exact hI.growH hK _ _ (Below.refl _ _) (pz hsz (by rfl))
  ·obtain rfl:=op_is ho rfl;rw[if_pos (by rfl)];have eH71:a.tmps.getD 71 undef=(.bool true):=hI.deep hne 0 6 (by decide +kernel);go_simp;exact hI.growH hK _ _ (Below.refl _ _) (pz hsz (by rfl))
  ·obtain rfl:=op_is ho rfl;have eGd:a.tmps.getD 72 undef=(.bool true):=hI.deep hne 0 7 (by decide +kernel);rw[if_pos (by simp only[Region.wanted];exact wanted_at rfl rfl eGd)];clear eGd;have eH10:a.tmps.getD 10 undef=.pointer (some { block:=w4.heap.size,off:=0 }):=hI.stays hli 1 10 (by decide +kernel);obtain⟨cC0,cC1,cC2,cC3,cC4,cC5⟩:=cells6 (blk_old HS8.out.2.2.1 hbw);go_simp;exact hI.growH hK _ _ (Below.refl _ _) (pz hsz (by rfl))
  ·obtain rfl:=op_is ho rfl;have eGd:a.tmps.getD 72 undef=(.bool true):=hI.deep hne 0 7 (by decide +kernel);rw[if_pos (by simp only[Region.wanted];exact wanted_at rfl rfl eGd)];clear eGd;have eH12:a.tmps.getD 12 undef=.pointer (some { block:=w6.heap.size,off:=0 }):=hI.stays hli 1 12 (by decide +kernel);obtain⟨yB0,yB1,yB2,_,_,_⟩:=(HS8.out.2.2.2.keep hbw).facts;go_simp;exact hI.growH hK _ _ (Below.refl _ _) (pz hsz (by rfl))
  ·obtain rfl:=op_is ho rfl;have eGd:a.tmps.getD 72 undef=(.bool true):=hI.deep hne 0 7 (by decide +kernel);rw[if_pos (by simp only[Region.wanted];exact wanted_at rfl rfl eGd)];clear eGd;have eH9:a.tmps.getD 9 undef=.pointer (some { block:=gh,off:=0 }):=hI.stays hli 1 9 (by decide +kernel);go_simp;exact hI.growH hK _ _ (Below.refl _ _) (pz hsz (by rfl))
  ·obtain rfl:=op_is ho rfl;have eGd:a.tmps.getD 72 undef=(.bool true):=hI.deep hne 0 7 (by decide +kernel);rw[if_pos (by simp only[Region.wanted];exact wanted_at rfl rfl eGd)];clear eGd;have eH14:a.tmps.getD 14 undef=.slice r1 r2 r3:=hI.stays hli 1 14 (by decide +kernel);go_simp;exact hI.growH hK _ _ (Below.refl _ _) (pz hsz (by rfl))
  ·obtain rfl:=op_is ho rfl;have eGd:a.tmps.getD 72 undef=(.bool true):=hI.deep hne 0 7 (by decide +kernel);rw[if_pos (by simp only[Region.wanted];exact wanted_at rfl rfl eGd)];clear eGd;have eH15:a.tmps.getD 15 undef=.slice r4 r5 r6:=hI.stays hli 1 15 (by decide +kernel);go_simp;exact hI.growH hK _ _ (Below.refl _ _) (pz hsz (by rfl))
  ·obtain rfl:=op_is ho rfl;have eGd:a.tmps.getD 72 undef=(.bool true):=hI.deep hne 0 7 (by decide +kernel);rw[if_pos (by simp only[Region.wanted];exact wanted_at rfl rfl eGd)];clear eGd;have eH73:a.tmps.getD 73 undef=(.agg #[.int .i64 kp,.int .i64 ka,.int .i64 kb,.int .i64 kx,.int .i64 ky,.int .i64 kn]):=hI.deep hne 0 8 (by decide +kernel);have eH74:a.tmps.getD 74 undef=(.agg #[.int .i64 X,.int .i64 Y,.bool I]):=hI.deep hne 0 9 (by decide +kernel);have eH75:a.tmps.getD 75 undef=(.slice (some ⟨gh,0,none⟩) 32 32):=hI.deep hne 0 10 (by decide +kernel);have eH76:a.tmps.getD 76 undef=(.slice r1 r2 r3):=hI.deep hne 0 11 (by decide +kernel);have eH77:a.tmps.getD 77 undef=(.slice r4 r5 r6):=hI.deep hne 0 12 (by decide +kernel);go_simp;go_at_call 27;refine(HVE wx hbw).mono ?_;rintro e w6' ⟨b6,h6,rfl,hb5⟩;rw[HUV b6 h6];exact hI.growH hK _ _ hb5 (pz hsz (by rfl))
  ·obtain rfl:=op_is ho rfl;rw[if_pos (by rfl)];have eH72:a.tmps.getD 72 undef=(.bool true):=hI.deep hne 0 7 (by decide +kernel);have eH78:a.tmps.getD 78 undef=(.bool bb):=hI.deep hne 0 13 (by decide +kernel);go_simp;exact hI.growH hK _ _ (Below.refl _ _) (pz hsz (by rfl))
 case done=>
  intro listed a W9 hI hall;obtain⟨tm,df⟩:=a;have hdf:df=[]:=hI.defers;subst hdf;have hTM:=hI.frame _ rfl [false,false,false,false,false,false,false,false,false,false,false,false,false,false,false,false,false,false,false,false,false,false,false,false,false,false,false,false,false,false,false,false,false,false,false,false,false,false,false,false,false,false,false,false,false,false,false,false,false,false,false,false,false,false,false,false,false,false,false,false,false,false,false,false,false,true,true,true,true,true,true,true,true,true,true,true,true,true,true,true] 80 rfl rfl (by decide +kernel);have fA0:tm.getD 65 undef=(.bool true):=hI.facts 0 (hall 0 (by decide));have fA1:tm.getD 66 undef=(.bool true):=hI.facts 1 (hall 1 (by decide));have fA2:tm.getD 67 undef=(.bool true):=hI.facts 2 (hall 2 (by decide));have fA3:tm.getD 68 undef=(.bool true):=hI.facts 3 (hall 3 (by decide));have fA4:tm.getD 69 undef=(.bool true):=hI.facts 4 (hall 4 (by decide));have fA5:tm.getD 70 undef=(.bool true):=hI.facts 5 (hall 5 (by decide));have fA6:tm.getD 71 undef=(.bool true):=hI.facts 6 (hall 6 (by decide));have fA7:tm.getD 72 undef=(.bool true):=hI.facts 7 (hall 7 (by decide));have fA8:tm.getD 73 undef=(.agg #[.int .i64 kp,.int .i64 ka,.int .i64 kb,.int .i64 kx,.int .i64 ky,.int .i64 kn]):=hI.facts 8 (hall 8 (by decide));have fA9:tm.getD 74 undef=(.agg #[.int .i64 X,.int .i64 Y,.bool I]):=hI.facts 9 (hall 9 (by decide));have fA10:tm.getD 75 undef=(.slice (some ⟨gh,0,none⟩) 32 32):=hI.facts 10 (hall 10 (by decide));have fA11:tm.getD 76 undef=(.slice r1 r2 r3):=hI.facts 11 (hall 11 (by decide));have fA12:tm.getD 77 undef=(.slice r4 r5 r6):=hI.facts 12 (hall 12 (by decide));have fA13:tm.getD 78 undef=(.bool bb):=hI.facts 13 (hall 13 (by decide));have fA14:tm.getD 79 undef=(.bool bb):=hI.facts 14 (hall 14 (by decide));have hbw:Below w8.heap.size w8 W9:=(Below.refl _ _).drew.trans hI.below;clear hI hall listed;simp only[frameV,cond_true,cond_false,Nat.reduceAdd,Nat.zero_add,fA0,fA1,fA2,fA3,fA4,fA5,fA6,fA7,fA8,fA9,fA10,fA11,fA12,fA13,fA14]at hTM;clear fA0 fA1 fA2 fA3 fA4 fA5 fA6 fA7 fA8 fA9 fA10 fA11 fA12 fA13 fA14;subst hTM;have HF:Hid (Below w.heap.size w W9):=bstep HS8.out.1 hbw;clear hbw HVE HUV
  cases bb with
  | true=>
   go_wp2_with fail
   go_ret;exact⟨true,HPT.out,rfl,HF.out⟩
  | false=>
   go_wp2_with fail
   go_ret;exact⟨false,HPT.out,rfl,HF.out⟩
end
end Go.Proofs.YtkhnnhbmchnajaaGreat
