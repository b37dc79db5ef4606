import Derived.Test.YtcgikjkpbpjgdabGreatK31
import Derived.Test.YtcgikjkpbpjgdabGreatK02
import Derived.Test.YtcgikjkpbpjgdabGreatK29
import Derived.Test.YtcgikjkpbpjgdabGreatK15
import Derived.Test.YtcgikjkpbpjgdabGreatK22
import Derived.Test.YtcgikjkpbpjgdabGreatK30
import Derived.Test.YtcgikjkpbpjgdabGreatK06
import Derived.Test.YtcgikjkpbpjgdabGreatK01
import Derived.WideShapes
import Derived.OpenShut
import Derived.ChangeSame
set_option maxRecDepth 100000
set_option maxHeartbeats 40000000
set_option linter.unusedVariables false
set_option linter.unusedSimpArgs false
namespace Go.Proofs.YtcgikjkpbpjgdabGreat
open Go.Shelf Go.RowKit
theorem cells7k {w:World} {b:Nat} {c0 c1 c2 c3 c4 c5 c6:Value} (h:w.heap[b]?=some (.cells #[c0,c1,c2,c3,c4,c5,c6] 39 (0,0))):w.cell? ⟨b,0,none⟩=some c0∧w.cell? ⟨b,1,none⟩=some c1∧w.cell? ⟨b,2,none⟩=some c2∧w.cell? ⟨b,3,none⟩=some c3∧w.cell? ⟨b,4,none⟩=some c4∧w.cell? ⟨b,5,none⟩=some c5∧w.cell? ⟨b,6,none⟩=some c6:=
 ⟨cell_of_row _ _ 0 _ _ _ h,cell_of_row _ _ 1 _ _ _ h,cell_of_row _ _ 2 _ _ _ h,cell_of_row _ _ 3 _ _ _ h,cell_of_row _ _ 4 _ _ _ h,cell_of_row _ _ 5 _ _ _ h,cell_of_row _ _ 6 _ _ _ h⟩
def erS (b:Bool):Int:=if b then 0 else 43
theorem sVerify_ec {P:Nat} [NeZero P] {K:Cz} (gK:GoodK K P) (hbs:Gd K P (baseZ K)) (hN:0<K.n) (hN2:K.n<18446744073709551616) (gc cl cap j:Nat) (hj:j<cl) (hcl:cl≤3) (hcc:cl≤cap) (hcm:cap≤maxLen) (g1 g2:Int) (oo:Option Addr) (lo co b0 b1 b2 b3 b4 b5:Nat) (q:Pz) (x1:Option Addr) (x2 x3:Nat) (y1:Option Addr) (y2 y3:Nat) (n1:Option Addr) (n2 n3:Nat) (e1:Option Addr) (e2 e3:Nat) (ao:Option Addr) (m c:Nat) (ms:List Int) (p:Option Addr) (n cs:Nat) (sb:Bs) (w:World) (hA:CuJ w gc j K g1 g2 oo lo co b0 b1 b2 b3 b4 b5) (hx:Nv w (.slice x1 x2 x3) q.x 4) (hy:Nv w (.slice y1 y2 y3) q.y 4) (hm:NumIn .u8 256 w ao m c ms) (hn:sb.length=n) (hn2:n≤100000) (hv:ByV w (fun _=>True) p cs sb):
  Calls Tryz.prog 6 #[.slice (some ⟨gc,0,none⟩) cl cap,.agg #[.int .u8 1,.int .i64 (j:Int),.slice x1 x2 x3,.slice y1 y2 y3,.bool q.inf,.slice n1 n2 n3,.slice e1 e2 e3],.slice ao m c,.slice p n cs] w fun e w'=>∃b,PtZ K P q (shaS ms) (pairR sb) b∧e=.returned (.int .i64 (erS b))∧Below w.heap.size w w':=by
 have hq0:0≤q.x∧0≤q.y:=⟨hx.nonneg,hy.nonneg⟩
 obtain⟨bb,hbb⟩:=ptZ_ex gK hbs hN q hq0 (shaS ms) (pairR sb);have HPT:Hid (PtZ K P q (shaS ms) (pairR sb) bb):=hbb;have HBP:=fun W (hW:Below w.heap.size w W)=>sByPoint gK hbs hN hN2 q (curV g1 g2 oo lo co b0 b1 b2 b3 b4 b5) (.agg #[.slice x1 x2 x3,.slice y1 y2 y3,.bool q.inf]) ao m c ms p n cs sb W ((hA.cu.up (by decide)).old hW) ⟨_,_,rfl,hx.old hW,hy.old hW⟩ (hm.old hW) hn hn2 (hv.below hW);have HUX:∀b,PtZ K P q (shaS ms) (pairR sb) b→b=bb:=fun b h=>ptZ_uniq gK hbs hq0 h hbb;have HC:Hid (CuJ w gc j K g1 g2 oo lo co b0 b1 b2 b3 b4 b5):=hA;have hb0:=balloc w (.cells #[.int .u8 1,.int .i64 (j:Int),.slice x1 x2 x3,.slice y1 y2 y3,.bool q.inf,.slice n1 n2 n3,.slice e1 e2 e3] 39);have hc0:=heap_alloc_new w (.cells #[.int .u8 1,.int .i64 (j:Int),.slice x1 x2 x3,.slice y1 y2 y3,.bool q.inf,.slice n1 n2 n3,.slice e1 e2 e3] 39);obtain⟨W,hW⟩:∃W,w.alloc (.cells #[.int .u8 1,.int .i64 (j:Int),.slice x1 x2 x3,.slice y1 y2 y3,.bool q.inf,.slice n1 n2 n3,.slice e1 e2 e3] 39)=W:=⟨_,rfl⟩
 rw[hW]at hb0 hc0;have HW:Hid (_=W):=hW;have HS:Hid (W.heap[w.heap.size]?=some (.cells #[.int .u8 1,.int .i64 (j:Int),.slice x1 x2 x3,.slice y1 y2 y3,.bool q.inf,.slice n1 n2 n3,.slice e1 e2 e3] 39 (0,0))∧Below w.heap.size w W):=⟨hc0,hb0⟩
 obtain⟨k0,k1,k2,k3,k4,k5,k6⟩:=cells7k hc0;rw[←hW]at k0 k1 k2 k3 k4 k5 k6;have hjI:(j:Int)<(cl:Int):=by omega
 have hj0:(0:Int)≤(j:Int):=by omega
 have hclI:(cl:Int)≤(cap:Int):=by omega
 unfold maxLen at hcm;obtain⟨qi,hqi⟩:∃b,q.inf=b:=⟨_,rfl⟩
 rw[hqi]at HS HW HBP k0 k1 k2 k3 k4 k5 k6 ⊢;generalize shaS ms=hh at *;clear hqi hb0 hc0 hW hA hx hy hm hv hbb;go_enter Tryz.func6,Tryz.ntmps6;go_wp2_with fail
 rw[HW.out];clear HW k0 k1 k2 k3 k4 k5 k6;refine wp_region_frames 1 [[36],[37],[38],[39],[40],[41],[42],[43],[44],[45],[46],[8]] (([.eq (Value.slice (some { block:=gc,off:=0 }) cl cap),.eq (Value.pointer (some ⟨w.heap.size,1,none⟩)),.eq (Value.int IntKind.i64 (j:Int)),.eq (Value.pointer (some ⟨gc,j*9,none⟩)),.eq (curV g1 g2 oo lo co b0 b1 b2 b3 b4 b5),.eq (Value.pointer (some ⟨w.heap.size,2,none⟩)),.eq (Value.agg #[Value.slice x1 x2 x3,Value.slice y1 y2 y3,Value.bool qi]),.eq (Value.slice ao m c),.eq (Value.slice p n cs),.eq (Value.bool bb),.eq (Value.int IntKind.i64 (erS bb)),.eq (Value.int IntKind.i64 (erS bb))]:List Fh).map Fh.sem) [0,1,2,3,4,5,6,7,8,9,10,11] (by kernel_rfl) (by kernel_rfl) (by kernel_rfl) ?step ?done
 case step=>
  intro i o ho listed a wx hI hli hne KK hK;have hlt:i<12:=(Array.getElem?_eq_some_iff.1 ho).1;have hsz:Hid (a.tmps.size=47):=hI.slots;have hbw:Below W.heap.size W wx:=(Below.refl _ _).drew.trans hI.below;obtain rfl|rfl|rfl|rfl|rfl|rfl|rfl|rfl|rfl|rfl|rfl|rfl:i=0∨i=1∨i=2∨i=3∨i=4∨i=5∨i=6∨i=7∨i=8∨i=9∨i=10∨i=11:=by omega
  ·obtain rfl:=op_is ho rfl;rw[if_pos (by rfl)];have eH0:a.tmps.getD 0 undef=Value.slice (some { block:=gc,off:=0 }) cl cap:=hI.stays hli 1 0 (by decide +kernel);go_simp;exact hI.growH hK _ _ (Below.refl _ _) (put_self _ _ _ (by rw[hsz.out];decide))
  ·obtain rfl:=op_is ho rfl;rw[if_pos (by rfl)];have eH5:a.tmps.getD 5 undef=Value.pointer (some { block:=w.heap.size,off:=0 }):=hI.stays hli 1 5 (by decide +kernel);go_simp;exact hI.growH hK _ _ (Below.refl _ _) (put_self _ _ _ (by rw[hsz.out];decide))
  ·obtain rfl:=op_is ho rfl;rw[if_pos (by rfl)];have eH37:a.tmps.getD 37 undef=(Value.pointer (some ⟨w.heap.size,1,none⟩)):=hI.deep hne 0 1 (by decide +kernel);obtain⟨k0,k1,k2,k3,k4,k5,k6⟩:=cells7k (blk_old HS.out.1 hbw);go_simp;exact hI.growH hK _ _ (Below.refl _ _) (put_self _ _ _ (by rw[hsz.out];decide))
  ·obtain rfl:=op_is ho rfl;rw[if_pos (by rfl)];have eH36:a.tmps.getD 36 undef=(Value.slice (some { block:=gc,off:=0 }) cl cap):=hI.deep hne 0 0 (by decide +kernel);have eH38:a.tmps.getD 38 undef=(Value.int IntKind.i64 (j:Int)):=hI.deep hne 0 2 (by decide +kernel);go_simp;exact hI.growH hK _ _ (Below.refl _ _) (put_self _ _ _ (by rw[hsz.out];decide))
  ·obtain rfl:=op_is ho rfl;rw[if_pos (by rfl)];have eH39:a.tmps.getD 39 undef=(Value.pointer (some ⟨gc,j*9,none⟩)):=hI.deep hne 0 3 (by decide +kernel);obtain⟨x0,x1',x2',x3',x4,x5,x6,x7,x8⟩:=(HC.out.keep (bstep HS.out.2 hbw)).at';go_simp;exact hI.growH hK _ _ (Below.refl _ _) (put_self _ _ _ (by rw[hsz.out];decide))
  ·obtain rfl:=op_is ho rfl;rw[if_pos (by rfl)];have eH5:a.tmps.getD 5 undef=Value.pointer (some { block:=w.heap.size,off:=0 }):=hI.stays hli 1 5 (by decide +kernel);go_simp;exact hI.growH hK _ _ (Below.refl _ _) (put_self _ _ _ (by rw[hsz.out];decide))
  ·obtain rfl:=op_is ho rfl;rw[if_pos (by rfl)];have eH41:a.tmps.getD 41 undef=(Value.pointer (some ⟨w.heap.size,2,none⟩)):=hI.deep hne 0 5 (by decide +kernel);obtain⟨k0,k1,k2,k3,k4,k5,k6⟩:=cells7k (blk_old HS.out.1 hbw);go_simp;exact hI.growH hK _ _ (Below.refl _ _) (put_self _ _ _ (by rw[hsz.out];decide))
  ·obtain rfl:=op_is ho rfl;rw[if_pos (by rfl)];have eH2:a.tmps.getD 2 undef=Value.slice ao m c:=hI.stays hli 1 2 (by decide +kernel);go_simp;exact hI.growH hK _ _ (Below.refl _ _) (put_self _ _ _ (by rw[hsz.out];decide))
  ·obtain rfl:=op_is ho rfl;rw[if_pos (by rfl)];have eH3:a.tmps.getD 3 undef=Value.slice p n cs:=hI.stays hli 1 3 (by decide +kernel);go_simp;exact hI.growH hK _ _ (Below.refl _ _) (put_self _ _ _ (by rw[hsz.out];decide))
  ·obtain rfl:=op_is ho rfl;rw[if_pos (by rfl)];have eH40:a.tmps.getD 40 undef=(curV g1 g2 oo lo co b0 b1 b2 b3 b4 b5):=hI.deep hne 0 4 (by decide +kernel);have eH42:a.tmps.getD 42 undef=(Value.agg #[Value.slice x1 x2 x3,Value.slice y1 y2 y3,Value.bool qi]):=hI.deep hne 0 6 (by decide +kernel);have eH43:a.tmps.getD 43 undef=(Value.slice ao m c):=hI.deep hne 0 7 (by decide +kernel);have eH44:a.tmps.getD 44 undef=(Value.slice p n cs):=hI.deep hne 0 8 (by decide +kernel);go_simp;go_at_call 15;refine(HBP wx (bstep HS.out.2 hbw)).mono ?_;rintro e w6 ⟨b6,h6,rfl,hb5⟩;rw[HUX b6 h6];exact hI.growH hK _ _ hb5 (put_self _ _ _ (by rw[hsz.out];decide))
  ·obtain rfl:=op_is ho rfl;rw[if_pos (by rfl)];have eH45:a.tmps.getD 45 undef=(Value.bool bb):=hI.deep hne 0 9 (by decide +kernel);go_simp;go_at_call 12;refine(sJudged bb wx).mono ?_;rintro e w5 ⟨rfl,hb5⟩;exact hI.growH hK _ _ hb5 (put_self _ _ _ (by rw[hsz.out];decide))
  ·obtain rfl:=op_is ho rfl;rw[if_pos (by rfl)];have eH46:a.tmps.getD 46 undef=(Value.int IntKind.i64 (erS bb)):=hI.deep hne 0 10 (by decide +kernel);go_simp;exact hI.growH hK _ _ (Below.refl _ _) (put_self _ _ _ (by rw[hsz.out];decide))
 case done=>
  intro listed a W6 hI hall;obtain⟨tm,df⟩:=a;have hdf:df=[]:=hI.defers;subst hdf;have hTM:=hI.frame _ rfl [false,false,false,false,false,false,false,false,true,false,false,false,false,false,false,false,false,false,false,false,false,false,false,false,false,false,false,false,false,false,false,false,false,false,false,false,true,true,true,true,true,true,true,true,true,true,true] 47 rfl rfl (by decide +kernel);have fA0:tm.getD 36 undef=(Value.slice (some { block:=gc,off:=0 }) cl cap):=hI.facts 0 (hall 0 (by decide));have fA1:tm.getD 37 undef=(Value.pointer (some ⟨w.heap.size,1,none⟩)):=hI.facts 1 (hall 1 (by decide));have fA2:tm.getD 38 undef=(Value.int IntKind.i64 (j:Int)):=hI.facts 2 (hall 2 (by decide));have fA3:tm.getD 39 undef=(Value.pointer (some ⟨gc,j*9,none⟩)):=hI.facts 3 (hall 3 (by decide));have fA4:tm.getD 40 undef=(curV g1 g2 oo lo co b0 b1 b2 b3 b4 b5):=hI.facts 4 (hall 4 (by decide));have fA5:tm.getD 41 undef=(Value.pointer (some ⟨w.heap.size,2,none⟩)):=hI.facts 5 (hall 5 (by decide));have fA6:tm.getD 42 undef=(Value.agg #[Value.slice x1 x2 x3,Value.slice y1 y2 y3,Value.bool qi]):=hI.facts 6 (hall 6 (by decide));have fA7:tm.getD 43 undef=(Value.slice ao m c):=hI.facts 7 (hall 7 (by decide));have fA8:tm.getD 44 undef=(Value.slice p n cs):=hI.facts 8 (hall 8 (by decide));have fA9:tm.getD 45 undef=(Value.bool bb):=hI.facts 9 (hall 9 (by decide));have fA10:tm.getD 46 undef=(Value.int IntKind.i64 (erS bb)):=hI.facts 10 (hall 10 (by decide));have fA11:tm.getD 8 undef=(Value.int IntKind.i64 (erS bb)):=hI.facts 11 (hall 11 (by decide));have hbw:Below W.heap.size W W6:=(Below.refl _ _).drew.trans hI.below;clear hI hall listed;simp only[frameV,cond_true,cond_false,Nat.reduceAdd,Nat.zero_add,fA0,fA1,fA2,fA3,fA4,fA5,fA6,fA7,fA8,fA9,fA10,fA11]at hTM;clear fA0 fA1 fA2 fA3 fA4 fA5 fA6 fA7 fA8 fA9 fA10 fA11;subst hTM;have HF:Hid (Below w.heap.size w W6):=bstep HS.out.2 hbw;clear hbw HBP HUX;go_wp2_with fail
  go_ret;exact⟨bb,HPT.out,rfl,HF.out⟩
theorem sVerify_rsa (ca:Option Addr) (cl cc:Nat) (cu:Int) (x1:Option Addr) (x2 x3:Nat) (y1:Option Addr) (y2 y3:Nat) (qi:Bool) (n1:Option Addr) (n2 n3:Nat) (e1:Option Addr) (e2 e3:Nat) (n e:Int) (L:Nat) (hL:L≤64) (ao:Option Addr) (m c:Nat) (ms:List Int) (p:Option Addr) (np cp:Nat) (zs:List Int) (w:World) (hn:Nv w (.slice n1 n2 n3) n L) (he:Nv w (.slice e1 e2 e3) e L) (hm:NumIn .u8 256 w ao m c ms) (hz:NumIn .u8 256 w p np cp zs):
  Calls Tryz.prog 6 #[.slice ca cl cc,.agg #[.int .u8 2,.int .i64 cu,.slice x1 x2 x3,.slice y1 y2 y3,.bool qi,.slice n1 n2 n3,.slice e1 e2 e3],.slice ao m c,.slice p np cp] w fun r w'=>r=.returned (.int .i64 (erS (verB n e (shaS ms) np zs)))∧Below w.heap.size w w':=by
 have HM:=fun W (hW:Below w.heap.size w W)=>HOf_num ms ao m c W (hm.old hW);have HRV:=fun W (hW:Below w.heap.size w W)=>verify_any (.agg #[.slice n1 n2 n3,.slice e1 e2 e3]) n e L (shaS ms) p np cp zs W ⟨_,_,rfl,hn.old hW,he.old hW⟩ hL (by unfold shaS;exact spreadS_length _) (sha_dg ms) (hz.old hW);obtain⟨bb,hbb⟩:∃b,verB n e (shaS ms) np zs=b:=⟨_,rfl⟩
 rw[hbb]at HRV ⊢;generalize shaS ms=hh at *;have hb0:=balloc w (.cells #[.int .u8 2,.int .i64 cu,.slice x1 x2 x3,.slice y1 y2 y3,.bool qi,.slice n1 n2 n3,.slice e1 e2 e3] 39);have hc0:=heap_alloc_new w (.cells #[.int .u8 2,.int .i64 cu,.slice x1 x2 x3,.slice y1 y2 y3,.bool qi,.slice n1 n2 n3,.slice e1 e2 e3] 39);obtain⟨W,hW⟩:∃W,w.alloc (.cells #[.int .u8 2,.int .i64 cu,.slice x1 x2 x3,.slice y1 y2 y3,.bool qi,.slice n1 n2 n3,.slice e1 e2 e3] 39)=W:=⟨_,rfl⟩
 rw[hW]at hb0 hc0;have HW:Hid (_=W):=hW;have HS:Hid (W.heap[w.heap.size]?=some (.cells #[.int .u8 2,.int .i64 cu,.slice x1 x2 x3,.slice y1 y2 y3,.bool qi,.slice n1 n2 n3,.slice e1 e2 e3] 39 (0,0))∧Below w.heap.size w W):=⟨hc0,hb0⟩
 obtain⟨k0,k1,k2,k3,k4,k5,k6⟩:=cells7k hc0;rw[←hW]at k0 k1 k2 k3 k4 k5 k6;clear hb0 hc0 hW hn he hm hz hbb;go_enter Tryz.func6,Tryz.ntmps6;go_wp2_with fail
 rw[HW.out];clear HW k0 k1 k2 k3 k4 k5 k6;refine wp_region_frames 1 [[13],[14],[15],[16],[17],[18],[19],[8]] (([.eq (Value.pointer (some ⟨w.heap.size,5,none⟩)),.eq (Value.agg #[Value.slice n1 n2 n3,Value.slice e1 e2 e3]),.eq (Value.slice ao m c),.eq (ag IntKind.u8 hh),.eq (Value.slice p np cp),.eq (Value.bool bb),.eq (Value.int IntKind.i64 (erS bb)),.eq (Value.int IntKind.i64 (erS bb))]:List Fh).map Fh.sem) [0,1,2,3,4,5,6,7] (by kernel_rfl) (by kernel_rfl) (by kernel_rfl) ?step ?done
 case step=>
  intro i o ho listed a wx hI hli hne KK hK;have hlt:i<8:=(Array.getElem?_eq_some_iff.1 ho).1;have hsz:Hid (a.tmps.size=47):=hI.slots;have hbw:Below W.heap.size W wx:=(Below.refl _ _).drew.trans hI.below;obtain rfl|rfl|rfl|rfl|rfl|rfl|rfl|rfl:i=0∨i=1∨i=2∨i=3∨i=4∨i=5∨i=6∨i=7:=by omega
  ·obtain rfl:=op_is ho rfl;rw[if_pos (by rfl)];have eH5:a.tmps.getD 5 undef=Value.pointer (some { block:=w.heap.size,off:=0 }):=hI.stays hli 1 5 (by decide +kernel);go_simp;exact hI.growH hK _ _ (Below.refl _ _) (put_self _ _ _ (by rw[hsz.out];decide))
  ·obtain rfl:=op_is ho rfl;rw[if_pos (by rfl)];have eH13:a.tmps.getD 13 undef=(Value.pointer (some ⟨w.heap.size,5,none⟩)):=hI.deep hne 0 0 (by decide +kernel);obtain⟨k0,k1,k2,k3,k4,k5,k6⟩:=cells7k (blk_old HS.out.1 hbw);go_simp;exact hI.growH hK _ _ (Below.refl _ _) (put_self _ _ _ (by rw[hsz.out];decide))
  ·obtain rfl:=op_is ho rfl;rw[if_pos (by rfl)];have eH2:a.tmps.getD 2 undef=Value.slice ao m c:=hI.stays hli 1 2 (by decide +kernel);go_simp;exact hI.growH hK _ _ (Below.refl _ _) (put_self _ _ _ (by rw[hsz.out];decide))
  ·obtain rfl:=op_is ho rfl;rw[if_pos (by rfl)];have eH15:a.tmps.getD 15 undef=(Value.slice ao m c):=hI.deep hne 0 2 (by decide +kernel);go_simp;go_at_call 14;refine(HM wx (bstep HS.out.2 hbw)).mono ?_;rintro e w5 ⟨rfl,hb5⟩;exact hI.growH hK _ _ hb5 (put_self _ _ _ (by rw[hsz.out];decide))
  ·obtain rfl:=op_is ho rfl;rw[if_pos (by rfl)];have eH3:a.tmps.getD 3 undef=Value.slice p np cp:=hI.stays hli 1 3 (by decide +kernel);go_simp;exact hI.growH hK _ _ (Below.refl _ _) (put_self _ _ _ (by rw[hsz.out];decide))
  ·obtain rfl:=op_is ho rfl;rw[if_pos (by rfl)];have eH14:a.tmps.getD 14 undef=(Value.agg #[Value.slice n1 n2 n3,Value.slice e1 e2 e3]):=hI.deep hne 0 1 (by decide +kernel);have eH16:a.tmps.getD 16 undef=(ag IntKind.u8 hh):=hI.deep hne 0 3 (by decide +kernel);have eH17:a.tmps.getD 17 undef=(Value.slice p np cp):=hI.deep hne 0 4 (by decide +kernel);go_simp;go_at_call 13;refine(HRV wx (bstep HS.out.2 hbw)).mono ?_;rintro e w5 ⟨rfl,hb5⟩;exact hI.growH hK _ _ hb5 (put_self _ _ _ (by rw[hsz.out];decide))
  ·obtain rfl:=op_is ho rfl;rw[if_pos (by rfl)];have eH18:a.tmps.getD 18 undef=(Value.bool bb):=hI.deep hne 0 5 (by decide +kernel);go_simp;go_at_call 12;refine(sJudged bb wx).mono ?_;rintro e w5 ⟨rfl,hb5⟩;exact hI.growH hK _ _ hb5 (put_self _ _ _ (by rw[hsz.out];decide))
  ·obtain rfl:=op_is ho rfl;rw[if_pos (by rfl)];have eH19:a.tmps.getD 19 undef=(Value.int IntKind.i64 (erS bb)):=hI.deep hne 0 6 (by decide +kernel);go_simp;exact hI.growH hK _ _ (Below.refl _ _) (put_self _ _ _ (by rw[hsz.out];decide))
 case done=>
  intro listed a W6 hI hall;obtain⟨tm,df⟩:=a;have hdf:df=[]:=hI.defers;subst hdf;have hTM:=hI.frame _ rfl [false,false,false,false,false,false,false,false,true,false,false,false,false,true,true,true,true,true,true,true,false,false,false,false,false,false,false,false,false,false,false,false,false,false,false,false,false,false,false,false,false,false,false,false,false,false,false] 47 rfl rfl (by decide +kernel);have fA0:tm.getD 13 undef=(Value.pointer (some ⟨w.heap.size,5,none⟩)):=hI.facts 0 (hall 0 (by decide));have fA1:tm.getD 14 undef=(Value.agg #[Value.slice n1 n2 n3,Value.slice e1 e2 e3]):=hI.facts 1 (hall 1 (by decide));have fA2:tm.getD 15 undef=(Value.slice ao m c):=hI.facts 2 (hall 2 (by decide));have fA3:tm.getD 16 undef=(ag IntKind.u8 hh):=hI.facts 3 (hall 3 (by decide));have fA4:tm.getD 17 undef=(Value.slice p np cp):=hI.facts 4 (hall 4 (by decide));have fA5:tm.getD 18 undef=(Value.bool bb):=hI.facts 5 (hall 5 (by decide));have fA6:tm.getD 19 undef=(Value.int IntKind.i64 (erS bb)):=hI.facts 6 (hall 6 (by decide));have fA7:tm.getD 8 undef=(Value.int IntKind.i64 (erS bb)):=hI.facts 7 (hall 7 (by decide));have hbw:Below W.heap.size W W6:=(Below.refl _ _).drew.trans hI.below;clear hI hall listed;simp only[frameV,cond_true,cond_false,Nat.reduceAdd,Nat.zero_add,fA0,fA1,fA2,fA3,fA4,fA5,fA6,fA7]at hTM;clear fA0 fA1 fA2 fA3 fA4 fA5 fA6 fA7;subst hTM;have HF:Hid (Below w.heap.size w W6):=bstep HS.out.2 hbw;clear hbw HM HRV;go_wp2_with fail
  go_ret;exact⟨rfl,HF.out⟩
attribute [local go_sem ↓] keep_l32
end Go.Proofs.YtcgikjkpbpjgdabGreat
namespace Go.Proofs.YtcgikjkpbpjgdabGreat
open Go.Shelf Go.RowKit
section
variable {P : Program} {ops : Array Oper} {Q : Exit → Act → World → Prop} {md : Region.Mode}
structure GV (md:Region.Mode) (ops:Array Oper) (rd:List (List Nat)) (Fs:List (List Value→World→Prop)) (a0:Act) (V:Array Bool→World→Prop) (listed:Array Bool) (a:Act) (w:World):Prop where
 size:listed.size=ops.size
 defers:a.defers=a0.defers
 slots:a.tmps.size=a0.tmps.size
 old:∀s,(∀j,listed.getD j false=true→dstIs ops j s=false)→a.tmps.getD s undef=a0.tmps.getD s undef
 inv:V listed w
 facts:∀j,listed.getD j false=true→Fs.getD j (fun _ _=>True) ((rd.getD j []).map fun s=>a.tmps.getD s undef) w
 down:∀j,listed.getD j false=true→∀e∈needsOf md ops j,listed.getD e false=true
theorem GV.deep {rd:List (List Nat)} {Fs:List (List Value→World→Prop)} {a0:Act} {V:Array Bool→World→Prop} {listed:Array Bool} {a:Act} {w:World} (h:GV md ops rd Fs a0 V listed a w) {i:Nat} (hr:∀e∈needsOf md ops i,listed.getD e false=true) (n e:Nat) (he:e∈reachOf md ops n i):Fs.getD e (fun _ _=>True) ((rd.getD e []).map fun s=>a.tmps.getD s undef) w:=
 h.facts e (reachN_sound (T:=fun j=>listed.getD j false=true) (fun x hx j hj=>h.down x hx j hj) n _ hr e he)
theorem GV.stays {rd:List (List Nat)} {Fs:List (List Value→World→Prop)} {a0:Act} {V:Array Bool→World→Prop} {listed:Array Bool} {a:Act} {w:World} (h:GV md ops rd Fs a0 V listed a w) {i:Nat} (hi:listed.getD i false=false) (n s:Nat) (hs:(List.range ops.size).all (fun j => !dstIs ops j s||(reachOf md ops n j).contains i||decide (i=j))=true):a.tmps.getD s undef=a0.tmps.getD s undef:=by
 refine h.old s fun j hj => ?_;rw[List.all_eq_true]at hs;by_cases hjs:j<ops.size
 ·have:=hs j (List.mem_range.2 hjs);rw[Bool.or_eq_true,Bool.or_eq_true]at this;rcases this with(this|this)|this
  ·simpa using this
  ·have hm:i∈reachOf md ops n j:=by simpa using this
   have:=reachN_sound (md:=md) (ops:=ops) (T:=fun j=>listed.getD j false=true) (fun x hx j hj=>h.down x hx j hj) n _ (h.down j hj) i hm;rw[hi]at this
   cases this
  ·have:i=j:=by simpa using this
   rw[this,hj]at hi
   cases hi
 ·unfold dstIs;rw[Array.getElem?_eq_none (by omega)]
def GVStep (P:Program) (Q:Exit→Act→World→Prop) (ops:Array Oper) (rd:List (List Nat)) (Fs:List (List Value→World→Prop)) (V:Array Bool→World→Prop) (i:Nat) (o:Oper) (listed:Array Bool) (a:Act) (w:World):Prop:=
 ∀KK:Act→World→Prop,
  (∀v w',V (listed.setIfInBounds i true) w'→(∀j vs,listed.getD j false=true→Fs.getD j (fun _ _=>True) vs w→Fs.getD j (fun _ _=>True) vs w')→Fs.getD i (fun _ _=>True) ((rd.getD i []).map fun s=>(a.put o.dst v).tmps.getD s undef) w'→KK (a.put o.dst v) w') →
  if Region.wanted o (yielded ops a.tmps)=true then o.wp P a w KK Q else KK (a.put o.dst undef) w
theorem wpAny_inv (n : Nat) (rd : List (List Nat)) (Fs : List (List Value → World → Prop)) (ord : List Nat) (a0 : Act) (V : Array Bool → World → Prop) (hok : framesOk md ops n rd = true) (hord : orderOk md ops ord [] = true)
  (step:∀i o,ops[i]?=some o→∀listed a w,GV md ops rd Fs a0 V listed a w→listed.getD i false=false→(∀e∈needsOf md ops i,listed.getD e false=true)→GVStep P Q ops rd Fs V i o listed a w)
  (done:∀listed a w,GV md ops rd Fs a0 V listed a w→(∀i,i<ops.size→listed.getD i false=true)→Q .normal a w):
  ∀k listed a w,GV md ops rd Fs a0 V listed a w→unl ops.size listed=k→wpAny P md ops Q k listed a w
 | 0, listed, a, w, h, hk => by
  have hall:∀i,i<ops.size→listed.getD i false=true:=fun i hi=>by have h1:(List.range ops.size).filter (fun j => !listed.getD j false)=[]:=List.length_eq_zero_iff.1 hk;rw[List.filter_eq_nil_iff]at h1;have:=h1 i (List.mem_range.2 hi);simpa using this
  refine⟨?_,done listed a w h hall⟩
  cases hr:Region.ready md ops listed with
  | nil=>rfl
  | cons i l=>
   obtain⟨h1,h2,_⟩:=ready_mem (md:=md) (ops:=ops) (listed:=listed) (i:=i) (by rw[hr];exact List.mem_cons_self);rw[getD_or _ _ (by rw[h.size];exact h1),hall i h1]at h2
   cases h2
 | k + 1, listed, a, w, h, hk => by
  refine⟨fun hr => ?_,fun i hi => ?_⟩
  ·rcases order_all ord [] listed hord (fun i hi=>by cases hi) h.size with h1|⟨i,hi⟩
   ·exact done listed a w h h1
   ·rw[hr]at hi;cases hi
  ·obtain⟨hi1,hi2,o,ho,hd⟩:=ready_mem hi;rw[getD_or _ _ (by rw[h.size];omega)]at hi2;have hneed:∀e∈needsOf md ops i,listed.getD e false=true:=fun e he=>by
    obtain⟨e',h1,h2,rfl⟩:=(needs_mem i o ho e).1 he;exact hd e' h1 h2
   unfold wpOp;rw[ho];simp only
   have hs := step i o ho listed a w h hi2 hneed (wpAny P md ops Q k (listed.setIfInBounds i true)) (by
    intro v w' hb hkeep hnew;refine wpAny_inv n rd Fs ord a0 V hok hord step done k _ _ _ ?_ ?_
    ·have hput:∀s,dstIs ops i s=false→(a.put o.dst v).tmps.getD s undef=a.tmps.getD s undef:=fun s hs=>by
      unfold dstIs at hs;rw[ho]at hs
      cases hdst:o.dst with
      | none=>rfl
      | some d=>
       refine put_get _ _ _ _ ?_;rintro rfl;simp[hdst]at hs
     refine⟨by simp[h.size],?_,?_,?_,hb,?_,?_⟩
     ·cases hdst:o.dst<;>exact h.defers
     ·rw[←h.slots]
      cases hdst:o.dst with
      | none=>rfl
      | some d=>simp[Act.put]
     ·intro s hs;have h1:=hs i (by rw[lget_set _ _ _ (by rw[h.size];omega),if_pos rfl]);rw[hput s h1];refine h.old s fun j hj=>hs j ?_;rw[lget_set _ _ _ (by rw[h.size];omega)];split
      ·rfl
      ·exact hj
     ·intro j hj;rw[lget_set _ _ _ (by rw[h.size];omega)]at hj;by_cases hij:i=j
      ·subst hij;exact hnew
      ·rw[if_neg hij]at hj;have h5:=hkeep j _ hj (h.facts j hj);have e:((rd.getD j []).map fun s=>(a.put o.dst v).tmps.getD s undef)=((rd.getD j []).map fun s=>a.tmps.getD s undef):=by
        apply List.map_congr_left;intro s hs;refine hput s ?_;unfold framesOk at hok;rw[List.all_eq_true]at hok;have h6:=hok i (List.mem_range.2 hi1);rw[Bool.and_eq_true,List.all_eq_true,List.all_eq_true]at h6;by_cases hjs:j<ops.size
        ·have h7:=h6.2 j (List.mem_range.2 hjs);rw[List.all_eq_true]at h7;have h8:=h7 s hs;rw[Bool.or_eq_true,Bool.or_eq_true]at h8;rcases h8 with(h8|h8)|h8
         ·simpa using h8
         ·exact absurd (by simpa using h8) hij
         ·have hm:i∈reachOf md ops n j:=by simpa using h8
          have:=reachN_sound (md:=md) (ops:=ops) (T:=fun j=>listed.getD j false=true) (fun x hx j hj=>h.down x hx j hj) n _ (h.down j hj) i hm;rw[hi2]at this
          cases this
        ·have:listed.getD j false=false:=by
          simp only[Array.getD_eq_getD_getElem?];rw[Array.getElem?_eq_none (by rw[h.size];omega)];rfl
         rw[this]at hj
         cases hj
       rw[e];exact h5
     ·intro j hj e he;rw[lget_set _ _ _ (by rw[h.size];omega)]at hj ⊢;by_cases hie:i=e
      ·rw[if_pos hie]
      ·rw[if_neg hie];by_cases hij:i=j
       ·subst hij;exact hneed e he
       ·rw[if_neg hij]at hj;exact h.down j hj e he
    ·have:=unl_set ops.size listed i hi1 (by rw[h.size];omega) hi2;omega)
   by_cases hw:Region.wanted o (yielded ops a.tmps)=true
   ·rw[if_pos hw]at hs ⊢;exact .inl hs
   ·rw[if_neg hw]at hs ⊢;exact hs
theorem wp_region_inv {id:Nat} {a0:Act} {w0:World} (V:Array Bool→World→Prop) (hV0:V (Array.replicate ops.size false) w0.drew) (n:Nat) (rd:List (List Nat)) (Fs:List (List Value→World→Prop)) (ord:List Nat) (hmx:P.follows .mixedOrders=true) (hok:framesOk .any ops n rd=true) (hord:orderOk .any ops ord []=true)
  (step:∀i o,ops[i]?=some o→∀listed a w,GV .any ops rd Fs a0 V listed a w→listed.getD i false=false→(∀e∈needsOf .any ops i,listed.getD e false=true)→GVStep P Q ops rd Fs V i o listed a w)
  (done:∀listed a w,GV .any ops rd Fs a0 V listed a w→(∀i,i<ops.size→listed.getD i false=true)→Q .normal a w):(Code.region id ops true).wp P Q a0 w0:=by
 have hrep:∀i,(Array.replicate ops.size false).getD i false=false:=fun i=>by
  simp only[Array.getD_eq_getD_getElem?];by_cases h:i<ops.size
  ·rw[Array.getElem?_eq_getElem (by simpa using h)];simp
  ·rw[Array.getElem?_eq_none (by simpa using Nat.le_of_not_lt h)];rfl
 refine wp_region_any hmx ?_;have hu:unl ops.size (Array.replicate ops.size false)=ops.size:=by
  unfold unl;have:(List.range ops.size).filter (fun j => !(Array.replicate ops.size false).getD j false)=List.range ops.size:=by rw[List.filter_eq_self];intro j _;rw[hrep];rfl
  rw[this,List.length_range]
 exact wpAny_inv (P:=P) (Q:=Q) (md:=.any) n rd Fs ord a0 V hok hord step done ops.size (Array.replicate ops.size false) a0 w0.drew ⟨by simp,rfl,rfl,fun _ _=>rfl,hV0,fun i hl=>(by rw[hrep]at hl;cases hl),fun i hl=>(by rw[hrep]at hl;cases hl)⟩ hu
theorem GV.keptQ {md:Region.Mode} {rd:List (List Nat)} {Fs:List (List Value→World→Prop)} {a0:Act} {V:Array Bool→World→Prop} {listed:Array Bool} {a:Act} {w:World} (h:GV md ops rd Fs a0 V listed a w) (s:Nat) (hs:(List.range ops.size).all (fun j => !dstIs ops j s)=true):a.tmps.getD s undef=a0.tmps.getD s undef:=by
 refine h.old s fun j _ => ?_;rw[List.all_eq_true]at hs;by_cases hjs:j<ops.size
 ·simpa using hs j (List.mem_range.2 hjs)
 ·unfold dstIs;rw[Array.getElem?_eq_none (by omega)]
end
end Go.Proofs.YtcgikjkpbpjgdabGreat
namespace Go.Proofs.YtcgikjkpbpjgdabGreat
open Go.RowKit Go.Shelf
theorem own_storeK {w w':World} {B:Nat} {v:Value} {xs:List Int} {r:Nat} {x3 x4 x5 x6:Value} {k c:Int} {b:Bool} (h:Own 3 .i64 w B v xs) (hs:KyB w r x3 x4 x5 x6 k c b) (hb:Bt r w w'):Own 3 .i64 w' B v xs:=by
 refine⟨h.1,?_⟩;rcases h.2 with h0|⟨g,cap,cur,rfl,hg,hrow,q⟩
 ·exact .inl h0
 ·refine .inr ⟨g,cap,cur,rfl,hg,?_,q⟩;rw[hb.block g (Array.getElem?_eq_some_iff.1 hrow).1 (fun e=>by
   subst e;unfold KyB at hs;rw[hrow]at hs;injection hs with hs;injection hs with _ ht _;exact absurd ht (by decide))]
  exact hrow
def KyS (r:Nat) (w w':World):Prop:=KyB w r (.slice none 0 0) (.slice none 0 0) (.slice none 0 0) (.slice none 0 0) 0 0 false∧Bt r w w'
def Fg.num (r:Nat) (n:Int):Fg (KyS r):=⟨fun vs W=>RvO W (vs.getD 0 undef) n,fun vs w w' hb h=>by
 obtain⟨B,xs,h1,h2⟩:=h;exact⟨B,xs,h1.below hb,h2⟩,fun vs w w' hs h=>by
 obtain⟨B,xs,h1,h2⟩:=h;exact⟨B,xs,own_storeK h1 hs.1 hs.2,h2⟩⟩
def Fg.nv (r:Nat) (n:Int) (L:Nat):Fg (KyS r):=⟨fun vs W=>Nv W (vs.getD 0 undef) n L,fun vs w w' hb h=>h.old hb,fun vs w w' hs h=>h.apartK hs.1 hs.2⟩
def Fg.pa (r:Nat) (x y:Int) (L:Nat):Fg (KyS r):=⟨fun vs W=>∃vx vy,vs.getD 0 undef=.agg #[vx,vy,.bool false]∧Nv W vx x L∧Nv W vy y L,fun vs w w' hb h=>by
 obtain⟨vx,vy,h1,h2,h3⟩:=h;exact⟨vx,vy,h1,h2.old hb,h3.old hb⟩,fun vs w w' hs h=>by
 obtain⟨vx,vy,h1,h2,h3⟩:=h;exact⟨vx,vy,h1,h2.apartK hs.1 hs.2,h3.apartK hs.1 hs.2⟩⟩
def Fg.ka (r:Nat) (j x y:Int) (L:Nat):Fg (KyS r):=⟨fun vs W=>∃vx vy,vs.getD 0 undef=.agg #[.int .u8 1,.int .i64 j,vx,vy,.bool false,.slice none 0 0,.slice none 0 0]∧Nv W vx x L∧Nv W vy y L,fun vs w w' hb h=>by
 obtain⟨vx,vy,h1,h2,h3⟩:=h;exact⟨vx,vy,h1,h2.old hb,h3.old hb⟩,fun vs w w' hs h=>by
 obtain⟨vx,vy,h1,h2,h3⟩:=h;exact⟨vx,vy,h1,h2.apartK hs.1 hs.2,h3.apartK hs.1 hs.2⟩⟩
def Fg.st (r:Nat) (j x y:Int) (L:Nat):Fg (KyS r):=⟨fun vs W=>∃vx vy,KyB W r vx vy (.slice none 0 0) (.slice none 0 0) 1 j false∧Nv W vx x L∧Nv W vy y L,fun vs w w' hb h=>by
 obtain⟨vx,vy,h1,h2,h3⟩:=h;exact⟨vx,vy,blk_old h1 hb,h2.old hb,h3.old hb⟩,fun vs w w' hs h=>by
 obtain⟨vx,vy,h1,h2,h3⟩:=h;have h4:=hs.1;unfold KyB at h1 h4;rw[h1]at h4;injection h4 with h4;injection h4 with h4;exact absurd (congrArg (fun a=>a[0]?) h4) (by simp)⟩
def VK (w W1:World) (m:Nat) (listed:Array Bool) (W:World):Prop:=Below w.heap.size w W∧(listed.getD m false=false→Below W1.heap.size W1 W)
section
variable {ops : Array Oper} {rd : List (List Nat)} {a0 : Act} {w0 W1 : World} {m : Nat} {listed : Array Bool} {a : Act} {w : World}
theorem GV.yet {Fs:List (List Value→World→Prop)} (h:GV .any ops rd Fs a0 (VK w0 W1 m) listed a w) {i:Nat} (hi:listed.getD i false=false) (hm:i∈needsOf .any ops m):listed.getD m false=false:=by
 cases hc:listed.getD m false with
 | false=>rfl
 | true=>have:=h.down m hc i hm;rw[hi]at this;cases this
theorem GV.growK {r:Nat} {fs:List (Fg (KyS r))} (h:GV .any ops rd (fs.map Fg.sem) a0 (VK w0 W1 m) listed a w) {i:Nat} (him:i≠m) {dst:Option Tmp} {KK:Act→World→Prop}
  (hK:∀v w',VK w0 W1 m (listed.setIfInBounds i true) w'→(∀j vs,listed.getD j false=true→(fs.map Fg.sem).getD j (fun _ _=>True) vs w→(fs.map Fg.sem).getD j (fun _ _=>True) vs w')→(fs.map Fg.sem).getD i (fun _ _=>True) ((rd.getD i []).map fun s=>(a.put dst v).tmps.getD s undef) w'→KK (a.put dst v) w') (v:Value) (w':World) (hb:Below w.heap.size w w') (hf:(fs.map Fg.sem).getD i (fun _ _=>True) ((rd.getD i []).map fun s=>(a.put dst v).tmps.getD s undef) w'):KK (a.put dst v) w':=
 hK v w' ⟨bstep h.inv.1 hb,fun hl=>by
  have e:(listed.setIfInBounds i true).getD m false=listed.getD m false:=by simp only[Array.getD_eq_getD_getElem?];rw[Array.getElem?_setIfInBounds_ne him]
  rw[e]at hl;exact bstep (h.inv.2 hl) hb⟩ (fun j vs _ hj=>fg_keep fs j vs hb hj) hf
theorem GV.fillK {r:Nat} {fs:List (Fg (KyS r))} (h:GV .any ops rd (fs.map Fg.sem) a0 (VK w0 W1 m) listed a w) (hms:m<listed.size) {dst:Option Tmp} {KK:Act→World→Prop}
  (hK:∀v w',VK w0 W1 m (listed.setIfInBounds m true) w'→(∀j vs,listed.getD j false=true→(fs.map Fg.sem).getD j (fun _ _=>True) vs w→(fs.map Fg.sem).getD j (fun _ _=>True) vs w')→(fs.map Fg.sem).getD m (fun _ _=>True) ((rd.getD m []).map fun s=>(a.put dst v).tmps.getD s undef) w'→KK (a.put dst v) w') (v:Value) (w':World) (hr:w0.heap.size≤r) (hs:KyS r w w') (hf:(fs.map Fg.sem).getD m (fun _ _=>True) ((rd.getD m []).map fun s=>(a.put dst v).tmps.getD s undef) w'):KK (a.put dst v) w':=
 hK v w' ⟨h.inv.1.trans (hs.2.below hr h.inv.1.size),fun hl=>by
  have e:(listed.setIfInBounds m true).getD m false=true:=by simp only[Array.getD_eq_getD_getElem?];rw[Array.getElem?_setIfInBounds_self_of_lt hms];rfl
  rw[e]at hl
  cases hl⟩ (fun j vs _ hj=>fg_store fs j vs hs hj) hf
end
end Go.Proofs.YtcgikjkpbpjgdabGreat
namespace Go.Proofs.YtcgikjkpbpjgdabGreat
open Go.RowKit
end Go.Proofs.YtcgikjkpbpjgdabGreat
namespace Go.Proofs.YtcgikjkpbpjgdabGreat
open Go.Shelf Go.RowKit
end Go.Proofs.YtcgikjkpbpjgdabGreat
namespace Go.Proofs.YtcgikjkpbpjgdabGreat
open Go.RowKit Go.ChangeShapes Go.WideShapes Go.ChangeShapes
theorem sgFields:∃f0 f1:Field,Tryz.prog.underlying 23=some (.struct #[f0,f1])∧f0.offset=0∧f1.offset=1∧f0.type=5∧f1.type=5:=⟨_,_,Tryz.underlying23,rfl,rfl,rfl,rfl⟩
theorem open_sg {H:Type} {enc:TypeId × Value→H} {w:World} {held:Bool} {fuel:Nat} {cs:Array Value} {x:DataW H × List MemPlace} (h:DataW.trod enc Tryz.prog w 0 (fun _=>true) held fuel 23 cs.toList=some x):
  ∃(k s:Int),cs=#[.int .u8 k,.int .u8 s]∧(0≤k∧k<256)∧(0≤s∧s<256):=by
 obtain⟨f0,f1,hu,o0,o1,t0,t1⟩:=sgFields;have hc:Tryz.prog.cellsOf 5=1:=by kernel_rfl
 have hc2:Tryz.prog.cellsOf 23=2:=by kernel_rfl
 obtain⟨y0,y1,n,_,hl,g0,g1⟩:=trod_struct2 hu h;rw[hc2]at hl;rw[o0,t0,hc]at g0;rw[o1,t1,hc]at g1;obtain⟨v0,v1,hcs⟩:∃v0 v1,cs.toList=[v0,v1]:=by
  match hh:cs.toList,hl with
  | [v0,v1],_=>exact⟨v0,v1,rfl⟩
 rw[hcs]at g0 g1;simp only[List.drop_zero,List.drop_succ_cons,List.take_succ_cons,List.take_zero]at g0 g1;have one:∀(v:Value) (y:DataW H × List MemPlace),DataW.trod enc Tryz.prog w 0 (fun _=>true) held n 5 [v]=some y→∃t,v=.int .u8 t∧(0≤t∧t<256):=fun v y g=>by
  obtain⟨z,e0,_,hz⟩:=DataW.trod_int (k:=.u8) Tryz.underlying5 g
  cases e0
  exact⟨z,rfl,word_u8 hz⟩
 obtain⟨k,rfl,hk⟩:=one _ _ g0;obtain⟨s,rfl,hs⟩:=one _ _ g1;exact⟨k,s,Array.ext' hcs,hk,hs⟩
end Go.Proofs.YtcgikjkpbpjgdabGreat
