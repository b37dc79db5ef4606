import Derived.Test.YtkhnnhbmchnajaaGreatK36
import Derived.Test.YtkhnnhbmchnajaaGreatK26
import Derived.Test.YtkhnnhbmchnajaaGreatK02
import Derived.Test.YtkhnnhbmchnajaaGreatK24
import Derived.Test.YtkhnnhbmchnajaaGreatK10
set_option maxRecDepth 100000
set_option maxHeartbeats 40000000
set_option linter.unusedVariables false
set_option linter.unusedSimpArgs false
namespace Go.Proofs.YtkhnnhbmchnajaaGreat
section
open Go.Shelf Go.RowKit
theorem sVerify_rsa(ca:Option Addr)(cl cc:Nat)(cu:Int)(x1:Option Addr)(x2 x3:Nat)(y1:Option Addr)(y2 y3:Nat)(qi:Bool)(n1:Option Addr)(n2 n3:Nat)(e1:Option Addr)(e2 e3:Nat)(n e:Int)(L:Nat)(hL:L≤64)(ao:Option Addr)(m c:Nat)(ms:List Int)(p:Option Addr)(np cp:Nat)(zs:List Int)(w:World)(hn:Nv w (.slice n1 n2 n3) n L)(he:Nv w (.slice e1 e2 e3) e L)(hm:NumIn .u8 256 w ao m c ms)(hz:NumIn .u8 256 w p np cp zs):
  Calls Tryz.prog 7 #[.slice ca cl cc,.agg #[.int .u8 2,.int .i64 cu,.slice x1 x2 x3,.slice y1 y2 y3,.bool qi,.slice n1 n2 n3,.slice e1 e2 e3],.slice ao m c,.slice p np cp] w fun r w'=>r=.returned (.int .i64 (erS (verB n e (shaS ms) np zs)))∧Below w.heap.size w w':=by
 have HM:=fun W (hW:Below w.heap.size w W)=>HOf_num ms ao m c W (hm.old hW);have HRV:=fun W (hW:Below w.heap.size w W)=>verify_any (.agg #[.slice n1 n2 n3,.slice e1 e2 e3]) n e L (shaS ms) p np cp zs W ⟨_,_,rfl,hn.old hW,he.old hW⟩ hL (by unfold shaS;exact spreadS_length _) (sha_dg ms) (hz.old hW);obtain⟨bb,hbb⟩:∃b,verB n e (shaS ms) np zs=b:=⟨_,rfl⟩
 rw[hbb]at HRV ⊢;generalize shaS ms=hh at *;have hb0:=balloc w (.cells #[.int .u8 2,.int .i64 cu,.slice x1 x2 x3,.slice y1 y2 y3,.bool qi,.slice n1 n2 n3,.slice e1 e2 e3] 30);have hc0:=heap_alloc_new w (.cells #[.int .u8 2,.int .i64 cu,.slice x1 x2 x3,.slice y1 y2 y3,.bool qi,.slice n1 n2 n3,.slice e1 e2 e3] 30);obtain⟨W,hW⟩:∃W,w.alloc (.cells #[.int .u8 2,.int .i64 cu,.slice x1 x2 x3,.slice y1 y2 y3,.bool qi,.slice n1 n2 n3,.slice e1 e2 e3] 30)=W:=⟨_,rfl⟩
 rw[hW]at hb0 hc0;have HW:Hid (_=W):=hW;have HS:Hid (W.heap[w.heap.size]?=some (.cells #[.int .u8 2,.int .i64 cu,.slice x1 x2 x3,.slice y1 y2 y3,.bool qi,.slice n1 n2 n3,.slice e1 e2 e3] 30 (0,0))∧Below w.heap.size w W):=⟨hc0,hb0⟩
 obtain⟨k0,k1,k2,k3,k4,k5,k6⟩:=cells7k hc0;rw[←hW]at k0 k1 k2 k3 k4 k5 k6;clear hb0 hc0 hW hn he hm hz hbb;go_enter Tryz.func7,Tryz.ntmps7;go_wp2_with fail
 rw[HW.out];clear HW k0 k1 k2 k3 k4 k5 k6;refine wp_region_frames 1 [[13],[14],[15],[16],[17],[18],[19],[8]] (([.eq (.pointer (some ⟨w.heap.size,5,none⟩)),.eq (.agg #[.slice n1 n2 n3,.slice e1 e2 e3]),.eq (.slice ao m c),.eq (ag IntKind.u8 hh),.eq (.slice p np cp),.eq (.bool bb),.eq (.int .i64 (erS bb)),.eq (.int .i64 (erS bb))]:List Fh).map Fh.sem) [0,1,2,3,4,5,6,7] (by kernel_rfl) (by kernel_rfl) (by kernel_rfl) ?step ?done
 case step=>
  intro i o ho listed a wx hI hli hne KK hK;have hlt:i<8:=(Array.getElem?_eq_some_iff.1 ho).1;have hsz:Hid (a.tmps.size=47):=hI.slots;have hbw:Below W.heap.size W wx:=(Below.refl _ _).drew.trans hI.below;obtain rfl|rfl|rfl|rfl|rfl|rfl|rfl|rfl:i=0∨i=1∨i=2∨i=3∨i=4∨i=5∨i=6∨i=7:=by omega
  ·obtain rfl:=op_is ho rfl;rw[if_pos (by rfl)];have eH5:a.tmps.getD 5 undef=.pointer (some { block:=w.heap.size,off:=0 }):=hI.stays hli 1 5 (by decide +kernel);go_simp;exact hI.growH hK _ _ (Below.refl _ _) (pz hsz (by rfl))
  ·obtain rfl:=op_is ho rfl;rw[if_pos (by rfl)];have eH13:a.tmps.getD 13 undef=(.pointer (some ⟨w.heap.size,5,none⟩)):=hI.deep hne 0 0 (by decide +kernel);obtain⟨k0,k1,k2,k3,k4,k5,k6⟩:=cells7k (blk_old HS.out.1 hbw);go_simp;exact hI.growH hK _ _ (Below.refl _ _) (pz hsz (by rfl))
  ·obtain rfl:=op_is ho rfl;rw[if_pos (by rfl)];have eH2:a.tmps.getD 2 undef=.slice ao m c:=hI.stays hli 1 2 (by decide +kernel);go_simp;exact hI.growH hK _ _ (Below.refl _ _) (pz hsz (by rfl))
  ·obtain rfl:=op_is ho rfl;rw[if_pos (by rfl)];have eH15:a.tmps.getD 15 undef=(.slice ao m c):=hI.deep hne 0 2 (by decide +kernel);go_simp;go_at_call 21;refine(HM wx (bstep HS.out.2 hbw)).mono ?_;rintro e w5 ⟨rfl,hb5⟩;exact hI.growH hK _ _ hb5 (pz hsz (by rfl))
  ·obtain rfl:=op_is ho rfl;rw[if_pos (by rfl)];have eH3:a.tmps.getD 3 undef=.slice p np cp:=hI.stays hli 1 3 (by decide +kernel);go_simp;exact hI.growH hK _ _ (Below.refl _ _) (pz hsz (by rfl))
  ·obtain rfl:=op_is ho rfl;rw[if_pos (by rfl)];have eH14:a.tmps.getD 14 undef=(.agg #[.slice n1 n2 n3,.slice e1 e2 e3]):=hI.deep hne 0 1 (by decide +kernel);have eH16:a.tmps.getD 16 undef=(ag IntKind.u8 hh):=hI.deep hne 0 3 (by decide +kernel);have eH17:a.tmps.getD 17 undef=(.slice p np cp):=hI.deep hne 0 4 (by decide +kernel);go_simp;go_at_call 20;refine(HRV wx (bstep HS.out.2 hbw)).mono ?_;rintro e w5 ⟨rfl,hb5⟩;exact hI.growH hK _ _ hb5 (pz hsz (by rfl))
  ·obtain rfl:=op_is ho rfl;rw[if_pos (by rfl)];have eH18:a.tmps.getD 18 undef=(.bool bb):=hI.deep hne 0 5 (by decide +kernel);go_simp;go_at_call 19;refine(sJudged bb wx).mono ?_;rintro e w5 ⟨rfl,hb5⟩;exact hI.growH hK _ _ hb5 (pz hsz (by rfl))
  ·obtain rfl:=op_is ho rfl;rw[if_pos (by rfl)];have eH19:a.tmps.getD 19 undef=(.int .i64 (erS bb)):=hI.deep hne 0 6 (by decide +kernel);go_simp;exact hI.growH hK _ _ (Below.refl _ _) (pz hsz (by rfl))
 case done=>
  intro listed a W6 hI hall;obtain⟨tm,df⟩:=a;have hdf:df=[]:=hI.defers;subst hdf;have hTM:=hI.frame _ rfl [false,false,false,false,false,false,false,false,true,false,false,false,false,true,true,true,true,true,true,true,false,false,false,false,false,false,false,false,false,false,false,false,false,false,false,false,false,false,false,false,false,false,false,false,false,false,false] 47 rfl rfl (by decide +kernel);have fA0:tm.getD 13 undef=(.pointer (some ⟨w.heap.size,5,none⟩)):=hI.facts 0 (hall 0 (by decide));have fA1:tm.getD 14 undef=(.agg #[.slice n1 n2 n3,.slice e1 e2 e3]):=hI.facts 1 (hall 1 (by decide));have fA2:tm.getD 15 undef=(.slice ao m c):=hI.facts 2 (hall 2 (by decide));have fA3:tm.getD 16 undef=(ag IntKind.u8 hh):=hI.facts 3 (hall 3 (by decide));have fA4:tm.getD 17 undef=(.slice p np cp):=hI.facts 4 (hall 4 (by decide));have fA5:tm.getD 18 undef=(.bool bb):=hI.facts 5 (hall 5 (by decide));have fA6:tm.getD 19 undef=(.int .i64 (erS bb)):=hI.facts 6 (hall 6 (by decide));have fA7:tm.getD 8 undef=(.int .i64 (erS bb)):=hI.facts 7 (hall 7 (by decide));have hbw:Below W.heap.size W W6:=(Below.refl _ _).drew.trans hI.below;clear hI hall listed;simp only[frameV,cond_true,cond_false,Nat.reduceAdd,Nat.zero_add,fA0,fA1,fA2,fA3,fA4,fA5,fA6,fA7]at hTM;clear fA0 fA1 fA2 fA3 fA4 fA5 fA6 fA7;subst hTM;have HF:Hid (Below w.heap.size w W6):=bstep HS.out.2 hbw;clear hbw HM HRV;go_wp2_with fail
  go_ret;exact⟨rfl,HF.out⟩
theorem sizeKey:(Tryz.prog.info? 30).map (·.size)=some 7:=by kernel_rfl
theorem ret_key{fn:Func}{p:Tmp}(h:fn.results=#[.cell p 30])(tmps:Array Value)(w:World)(g:Nat)(c0 c1 c2 c3 c4 c5 c6:Value)(hp:tmps.getD p undef=.pointer (some ⟨g,0,none⟩))(hg:w.heap[g]?=some (.cells #[c0,c1,c2,c3,c4,c5,c6] 30 (0,0))):
  (results fn tmps).run Tryz.prog w=.ok (.agg #[c0,c1,c2,c3,c4,c5,c6]) w:=
 results_cell_row h tmps w g 30 _ (0,0) _ hp hg Tryz.underlying30 rfl sizeKey
theorem num_kept{w w':World}{ao:Option Addr}{l c:Nat}{xs:List Int}{g:Nat}(h:NumIn .u64 B64 w ao l c xs)(hne:∀off x,w.cell? ⟨g,off,none⟩≠some (.int .u64 x))(hk:∀j,j≠g→w'.heap[j]?=w.heap[j]?)(hs:w.heap.size≤w'.heap.size):NumIn .u64 B64 w' ao l c xs:=by
 refine⟨⟨h.lies.1,?_⟩,h.lc,h.cm,h.nn,h.dg,h.sm⟩;rcases h.lies.2 with h0|⟨b,off,e,hb,hc⟩
 ·exact .inl h0
 ·rcases Nat.eq_zero_or_pos l with h0|h0
  ·exact .inl h0
  ·have hbg:b≠g:=by
    rintro rfl;have:=hc 0 h0;exact hne _ _ this
   refine .inr ⟨b,off,e,Nat.lt_of_lt_of_le hb hs,fun i hi => ?_⟩;rw[←hc i hi];unfold World.cell?;simp only[hk b hbg]
theorem key_ne{w:World}{g:Nat}{n1 n2:Int}{v1 v2:Option Addr}{b:Bool}{l1 c1 l2 c2 l3 c3 l4 c4:Nat}{v3 v4:Option Addr}(h:w.heap[g]?=some (.cells #[.int .u8 n1,.int .i64 n2,.slice v1 l1 c1,.slice v2 l2 c2,.bool b,.slice v3 l3 c3,.slice v4 l4 c4] 30 (0,0)))(off:Nat)(x:Int):w.cell? ⟨g,off,none⟩≠some (.int .u64 x):=by
 rw[cell_of_row _ _ _ _ _ _ h];match off with
 | 0=>simp
 | 1=>simp
 | 2=>simp
 | 3=>simp
 | 4=>simp
 | 5=>simp
 | 6=>simp
 | n+7=>simp
theorem rsa_small(i:Int):0<rsaN i∧rsaN i<B64^8∧0<rsaE i∧rsaE i<B64^8:=by unfold rsaN rsaE;split<;>decide +kernel
set_option maxRecDepth 100000
end
end Go.Proofs.YtkhnnhbmchnajaaGreat
