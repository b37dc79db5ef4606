import Derived.Test.YtkhnnhbmchnajaaGreatK25
import Derived.Test.YtkhnnhbmchnajaaGreatK02
import Derived.Test.YtkhnnhbmchnajaaGreatK23
import Derived.Test.YtkhnnhbmchnajaaGreatK21
import Derived.Test.YtkhnnhbmchnajaaGreatK24
import Derived.BigRegion
import Derived.RangeFuncRecord
set_option maxRecDepth 100000
set_option maxHeartbeats 40000000
set_option linter.unusedVariables false
set_option linter.unusedSimpArgs false
namespace Go.Proofs.YtkhnnhbmchnajaaGreat
section
open Go.Shelf Go.RowKit
theorem cells7k{w:World}{b:Nat}{c0 c1 c2 c3 c4 c5 c6:Value}(h:w.heap[b]?=some (.cells #[c0,c1,c2,c3,c4,c5,c6] 30 (0,0))):w.cell? ⟨b,0,none⟩=some c0∧w.cell? ⟨b,1,none⟩=some c1∧w.cell? ⟨b,2,none⟩=some c2∧w.cell? ⟨b,3,none⟩=some c3∧w.cell? ⟨b,4,none⟩=some c4∧w.cell? ⟨b,5,none⟩=some c5∧w.cell? ⟨b,6,none⟩=some c6:=
 ⟨cell_of_row _ _ 0 _ _ _ h,cell_of_row _ _ 1 _ _ _ h,cell_of_row _ _ 2 _ _ _ h,cell_of_row _ _ 3 _ _ _ h,cell_of_row _ _ 4 _ _ _ h,cell_of_row _ _ 5 _ _ _ h,cell_of_row _ _ 6 _ _ _ h⟩
def erS (b:Bool):Int:=if b then 0 else 43
theorem sVerify_ec{P:Nat}[NeZero P]{K:Cz}(gK:GoodK K P)(hbs:Gd K P (baseZ K))(hN:0<K.n)(hN2:K.n<18446744073709551616)(gc cl cap j:Nat)(hj:j<cl)(hcl:cl≤3)(hcc:cl≤cap)(hcm:cap≤maxLen)(g1 g2:Int)(oo:Option Addr)(lo co b0 b1 b2 b3 b4 b5:Nat)(q:Pz)(x1:Option Addr)(x2 x3:Nat)(y1:Option Addr)(y2 y3:Nat)(n1:Option Addr)(n2 n3:Nat)(e1:Option Addr)(e2 e3:Nat)(ao:Option Addr)(m c:Nat)(ms:List Int)(p:Option Addr)(n cs:Nat)(sb:Bs)(w:World)(hA:CuJ w gc j K g1 g2 oo lo co b0 b1 b2 b3 b4 b5)(hx:Nv w (.slice x1 x2 x3) q.x 4)(hy:Nv w (.slice y1 y2 y3) q.y 4)(hm:NumIn .u8 256 w ao m c ms)(hn:sb.length=n)(hn2:n≤100000)(hv:ByV w (fun _=>True) p cs sb):
  Calls Tryz.prog 7 #[.slice (some ⟨gc,0,none⟩) cl cap,.agg #[.int .u8 1,.int .i64 (j:Int),.slice x1 x2 x3,.slice y1 y2 y3,.bool q.inf,.slice n1 n2 n3,.slice e1 e2 e3],.slice ao m c,.slice p n cs] w fun e w'=>∃b,PtZ K P q (shaS ms) (pairR sb) b∧e=.returned (.int .i64 (erS b))∧Below w.heap.size w w':=by
 have hq0:0≤q.x∧0≤q.y:=⟨hx.nonneg,hy.nonneg⟩
 obtain⟨bb,hbb⟩:=ptZ_ex gK hbs hN q hq0 (shaS ms) (pairR sb);have HPT:Hid (PtZ K P q (shaS ms) (pairR sb) bb):=hbb;have HBP:=fun W (hW:Below w.heap.size w W)=>sByPoint gK hbs hN hN2 q (curV g1 g2 oo lo co b0 b1 b2 b3 b4 b5) (.agg #[.slice x1 x2 x3,.slice y1 y2 y3,.bool q.inf]) ao m c ms p n cs sb W ((hA.cu.up (by decide)).old hW) ⟨_,_,rfl,hx.old hW,hy.old hW⟩ (hm.old hW) hn hn2 (hv.below hW);have HUX:∀b,PtZ K P q (shaS ms) (pairR sb) b→b=bb:=fun b h=>ptZ_uniq gK hbs hq0 h hbb;have HC:Hid (CuJ w gc j K g1 g2 oo lo co b0 b1 b2 b3 b4 b5):=hA;have hb0:=balloc w (.cells #[.int .u8 1,.int .i64 (j:Int),.slice x1 x2 x3,.slice y1 y2 y3,.bool q.inf,.slice n1 n2 n3,.slice e1 e2 e3] 30);have hc0:=heap_alloc_new w (.cells #[.int .u8 1,.int .i64 (j:Int),.slice x1 x2 x3,.slice y1 y2 y3,.bool q.inf,.slice n1 n2 n3,.slice e1 e2 e3] 30);obtain⟨W,hW⟩:∃W,w.alloc (.cells #[.int .u8 1,.int .i64 (j:Int),.slice x1 x2 x3,.slice y1 y2 y3,.bool q.inf,.slice n1 n2 n3,.slice e1 e2 e3] 30)=W:=⟨_,rfl⟩
 rw[hW]at hb0 hc0;have HW:Hid (_=W):=hW;have HS:Hid (W.heap[w.heap.size]?=some (.cells #[.int .u8 1,.int .i64 (j:Int),.slice x1 x2 x3,.slice y1 y2 y3,.bool q.inf,.slice n1 n2 n3,.slice e1 e2 e3] 30 (0,0))∧Below w.heap.size w W):=⟨hc0,hb0⟩
 obtain⟨k0,k1,k2,k3,k4,k5,k6⟩:=cells7k hc0;rw[←hW]at k0 k1 k2 k3 k4 k5 k6;have hjI:(j:Int)<(cl:Int):=by omega
 have hj0:(0:Int)≤(j:Int):=by omega
 have hclI:(cl:Int)≤(cap:Int):=by omega
 unfold maxLen at hcm;obtain⟨qi,hqi⟩:∃b,q.inf=b:=⟨_,rfl⟩
 rw[hqi]at HS HW HBP k0 k1 k2 k3 k4 k5 k6 ⊢;generalize shaS ms=hh at *;clear hqi hb0 hc0 hW hA hx hy hm hv hbb;go_enter Tryz.func7,Tryz.ntmps7;go_wp2_with fail
 rw[HW.out];clear HW k0 k1 k2 k3 k4 k5 k6;refine wp_region_frames 1 [[36],[37],[38],[39],[40],[41],[42],[43],[44],[45],[46],[8]] (([.eq (.slice (some { block:=gc,off:=0 }) cl cap),.eq (.pointer (some ⟨w.heap.size,1,none⟩)),.eq (.int .i64 (j:Int)),.eq (.pointer (some ⟨gc,j*9,none⟩)),.eq (curV g1 g2 oo lo co b0 b1 b2 b3 b4 b5),.eq (.pointer (some ⟨w.heap.size,2,none⟩)),.eq (.agg #[.slice x1 x2 x3,.slice y1 y2 y3,.bool qi]),.eq (.slice ao m c),.eq (.slice p n cs),.eq (.bool bb),.eq (.int .i64 (erS bb)),.eq (.int .i64 (erS bb))]:List Fh).map Fh.sem) [0,1,2,3,4,5,6,7,8,9,10,11] (by kernel_rfl) (by kernel_rfl) (by kernel_rfl) ?step ?done
 case step=>
  intro i o ho listed a wx hI hli hne KK hK;have hlt:i<12:=(Array.getElem?_eq_some_iff.1 ho).1;have hsz:Hid (a.tmps.size=47):=hI.slots;have hbw:Below W.heap.size W wx:=(Below.refl _ _).drew.trans hI.below;obtain rfl|rfl|rfl|rfl|rfl|rfl|rfl|rfl|rfl|rfl|rfl|rfl:i=0∨i=1∨i=2∨i=3∨i=4∨i=5∨i=6∨i=7∨i=8∨i=9∨i=10∨i=11:=by omega
  ·obtain rfl:=op_is ho rfl;rw[if_pos (by rfl)];have eH0:a.tmps.getD 0 undef=.slice (some { block:=gc,off:=0 }) cl cap:=hI.stays hli 1 0 (by decide +kernel);go_simp;exact hI.growH hK _ _ (Below.refl _ _) (pz hsz (by rfl))
  ·obtain rfl:=op_is ho rfl;rw[if_pos (by rfl)];have eH5:a.tmps.getD 5 undef=.pointer (some { block:=w.heap.size,off:=0 }):=hI.stays hli 1 5 (by decide +kernel);go_simp;exact hI.growH hK _ _ (Below.refl _ _) (pz hsz (by rfl))
  ·obtain rfl:=op_is ho rfl;rw[if_pos (by rfl)];have eH37:a.tmps.getD 37 undef=(.pointer (some ⟨w.heap.size,1,none⟩)):=hI.deep hne 0 1 (by decide +kernel);obtain⟨k0,k1,k2,k3,k4,k5,k6⟩:=cells7k (blk_old HS.out.1 hbw);go_simp;exact hI.growH hK _ _ (Below.refl _ _) (pz hsz (by rfl))
  ·obtain rfl:=op_is ho rfl;rw[if_pos (by rfl)];have eH36:a.tmps.getD 36 undef=(.slice (some { block:=gc,off:=0 }) cl cap):=hI.deep hne 0 0 (by decide +kernel);have eH38:a.tmps.getD 38 undef=(.int .i64 (j:Int)):=hI.deep hne 0 2 (by decide +kernel);go_simp;exact hI.growH hK _ _ (Below.refl _ _) (pz hsz (by rfl))
  ·obtain rfl:=op_is ho rfl;rw[if_pos (by rfl)];have eH39:a.tmps.getD 39 undef=(.pointer (some ⟨gc,j*9,none⟩)):=hI.deep hne 0 3 (by decide +kernel);obtain⟨x0,x1',x2',x3',x4,x5,x6,x7,x8⟩:=(HC.out.keep (bstep HS.out.2 hbw)).at';go_simp;exact hI.growH hK _ _ (Below.refl _ _) (pz hsz (by rfl))
  ·obtain rfl:=op_is ho rfl;rw[if_pos (by rfl)];have eH5:a.tmps.getD 5 undef=.pointer (some { block:=w.heap.size,off:=0 }):=hI.stays hli 1 5 (by decide +kernel);go_simp;exact hI.growH hK _ _ (Below.refl _ _) (pz hsz (by rfl))
  ·obtain rfl:=op_is ho rfl;rw[if_pos (by rfl)];have eH41:a.tmps.getD 41 undef=(.pointer (some ⟨w.heap.size,2,none⟩)):=hI.deep hne 0 5 (by decide +kernel);obtain⟨k0,k1,k2,k3,k4,k5,k6⟩:=cells7k (blk_old HS.out.1 hbw);go_simp;exact hI.growH hK _ _ (Below.refl _ _) (pz hsz (by rfl))
  ·obtain rfl:=op_is ho rfl;rw[if_pos (by rfl)];have eH2:a.tmps.getD 2 undef=.slice ao m c:=hI.stays hli 1 2 (by decide +kernel);go_simp;exact hI.growH hK _ _ (Below.refl _ _) (pz hsz (by rfl))
  ·obtain rfl:=op_is ho rfl;rw[if_pos (by rfl)];have eH3:a.tmps.getD 3 undef=.slice p n cs:=hI.stays hli 1 3 (by decide +kernel);go_simp;exact hI.growH hK _ _ (Below.refl _ _) (pz hsz (by rfl))
  ·obtain rfl:=op_is ho rfl;rw[if_pos (by rfl)];have eH40:a.tmps.getD 40 undef=(curV g1 g2 oo lo co b0 b1 b2 b3 b4 b5):=hI.deep hne 0 4 (by decide +kernel);have eH42:a.tmps.getD 42 undef=(.agg #[.slice x1 x2 x3,.slice y1 y2 y3,.bool qi]):=hI.deep hne 0 6 (by decide +kernel);have eH43:a.tmps.getD 43 undef=(.slice ao m c):=hI.deep hne 0 7 (by decide +kernel);have eH44:a.tmps.getD 44 undef=(.slice p n cs):=hI.deep hne 0 8 (by decide +kernel);go_simp;go_at_call 22;refine(HBP wx (bstep HS.out.2 hbw)).mono ?_;rintro e w6 ⟨b6,h6,rfl,hb5⟩;rw[HUX b6 h6];exact hI.growH hK _ _ hb5 (pz hsz (by rfl))
  ·obtain rfl:=op_is ho rfl;rw[if_pos (by rfl)];have eH45:a.tmps.getD 45 undef=(.bool bb):=hI.deep hne 0 9 (by decide +kernel);go_simp;go_at_call 19;refine(sJudged bb wx).mono ?_;rintro e w5 ⟨rfl,hb5⟩;exact hI.growH hK _ _ hb5 (pz hsz (by rfl))
  ·obtain rfl:=op_is ho rfl;rw[if_pos (by rfl)];have eH46:a.tmps.getD 46 undef=(.int .i64 (erS bb)):=hI.deep hne 0 10 (by decide +kernel);go_simp;exact hI.growH hK _ _ (Below.refl _ _) (pz hsz (by rfl))
 case done=>
  intro listed a W6 hI hall;obtain⟨tm,df⟩:=a;have hdf:df=[]:=hI.defers;subst hdf;have hTM:=hI.frame _ rfl [false,false,false,false,false,false,false,false,true,false,false,false,false,false,false,false,false,false,false,false,false,false,false,false,false,false,false,false,false,false,false,false,false,false,false,false,true,true,true,true,true,true,true,true,true,true,true] 47 rfl rfl (by decide +kernel);have fA0:tm.getD 36 undef=(.slice (some { block:=gc,off:=0 }) cl cap):=hI.facts 0 (hall 0 (by decide));have fA1:tm.getD 37 undef=(.pointer (some ⟨w.heap.size,1,none⟩)):=hI.facts 1 (hall 1 (by decide));have fA2:tm.getD 38 undef=(.int .i64 (j:Int)):=hI.facts 2 (hall 2 (by decide));have fA3:tm.getD 39 undef=(.pointer (some ⟨gc,j*9,none⟩)):=hI.facts 3 (hall 3 (by decide));have fA4:tm.getD 40 undef=(curV g1 g2 oo lo co b0 b1 b2 b3 b4 b5):=hI.facts 4 (hall 4 (by decide));have fA5:tm.getD 41 undef=(.pointer (some ⟨w.heap.size,2,none⟩)):=hI.facts 5 (hall 5 (by decide));have fA6:tm.getD 42 undef=(.agg #[.slice x1 x2 x3,.slice y1 y2 y3,.bool qi]):=hI.facts 6 (hall 6 (by decide));have fA7:tm.getD 43 undef=(.slice ao m c):=hI.facts 7 (hall 7 (by decide));have fA8:tm.getD 44 undef=(.slice p n cs):=hI.facts 8 (hall 8 (by decide));have fA9:tm.getD 45 undef=(.bool bb):=hI.facts 9 (hall 9 (by decide));have fA10:tm.getD 46 undef=(.int .i64 (erS bb)):=hI.facts 10 (hall 10 (by decide));have fA11:tm.getD 8 undef=(.int .i64 (erS bb)):=hI.facts 11 (hall 11 (by decide));have hbw:Below W.heap.size W W6:=(Below.refl _ _).drew.trans hI.below;clear hI hall listed;simp only[frameV,cond_true,cond_false,Nat.reduceAdd,Nat.zero_add,fA0,fA1,fA2,fA3,fA4,fA5,fA6,fA7,fA8,fA9,fA10,fA11]at hTM;clear fA0 fA1 fA2 fA3 fA4 fA5 fA6 fA7 fA8 fA9 fA10 fA11;subst hTM;have HF:Hid (Below w.heap.size w W6):=bstep HS.out.2 hbw;clear hbw HBP HUX;go_wp2_with fail
  go_ret;exact⟨bb,HPT.out,rfl,HF.out⟩
end
section
open Go.RowKit
attribute [local go_sem ↓] keep_l8 keep_l64 keep_s8
theorem shaS_length(l:List Int):(shaS l).length=32:=by unfold shaS;exact spreadS_length _
end
section
open Go.RowKit
attribute [local go_sem ↓] keep_l8 keep_l64 keep_s8 keep_l32 keep_s32
theorem Tryz.infoB':(Tryz.prog.info? 5).map (fun i=>(i.zero,i.size,i.bytes))=some (some (.int .u8 0),1,1):=by kernel_rfl
theorem pad8_succ(n j:Nat)(h:j<8):(pad8 n).take (j+1)=(pad8 n).take j++[(8*n:Int)/2^(8*(7-j))%256]:=by
 rw[List.take_succ_eq_append_getElem (by rw[pad8_length];exact h)];have e:=pad8_get n j h;have e2:(pad8 n).getD j 0=(pad8 n)[j]'(by rw[pad8_length];exact h):=by simp[List.getD,pad8_length,h]
 rw[←e2,e,show 56-8*j=8*(7-j) by omega]
def WP (b:List Int)(i:Nat)(cur:List Int):Prop:=(i≤16→SchA b i 0 cur)∧(16≤i→SchB b i cur)
theorem WP.zero(b:List Int):WP b 0 (List.replicate 64 0):=⟨fun _=>SchA.zero b,fun h=>by omega⟩
theorem WP.low{b cur:List Int}{i:Nat}(h:SchA b i 4 cur)(hi:i<16):WP b (i+1) cur:=⟨fun _=>h.next,fun h16=>by have:=h.next;rw[show i+1=16 by omega]at this ⊢;exact this.done⟩
theorem WP.high{b cur:List Int}{i:Nat}(h:WP b i cur)(h1:16≤i)(h2:i<64):WP b (i+1) (cur.set i (wNext cur i)):=⟨fun h16=>by omega,fun _=>(h.2 h1).step h1 h2⟩
theorem WP.length{b cur:List Int}{i:Nat}(h:WP b i cur):cur.length=64:=by
 by_cases h1:i≤16
 ·exact(h.1 h1).1
 ·exact(h.2 (by omega)).1
theorem Row.drew{e:TypeId}{k:IntKind}{w:World}{g:Nat}{xs:List Int}(h:Row e k w g xs):Row e k w.drew g xs:=h
def lst (s:S8):List Int:=[s.a,s.b,s.c,s.d,s.e,s.f,s.g,s.h]
theorem lst_s8(l:List Int)(h:l.length=8):lst (s8 l)=l:=by
 match l,h with
 | [a,b,c,d,e,f,g,i],_=>rfl
theorem addS_get(hs:List Int)(s:S8)(i:Nat)(h:i<8):(addS hs s).getD i 0=(hs.getD i 0+(lst s).getD i 0)%4294967296:=by
 have:i=0∨i=1∨i=2∨i=3∨i=4∨i=5∨i=6∨i=7:=by omega
 rcases this with rfl|rfl|rfl|rfl|rfl|rfl|rfl|rfl<;>rfl
def AddP (hs:List Int)(s:S8)(i:Nat)(cur:List Int):Prop:=cur.length=8∧(∀j,j<i→cur.getD j 0=(addS hs s).getD j 0)∧∀j,i≤j→cur.getD j 0=hs.getD j 0
theorem AddP.zero{hs:List Int}(s:S8)(h:hs.length=8):AddP hs s 0 hs:=⟨h,fun j hj=>by omega,fun j _=>rfl⟩
theorem AddP.step{hs cur:List Int}{s:S8}{i:Nat}(h:AddP hs s i cur)(hi:i<8):AddP hs s (i+1) (cur.set i ((cur.getD i 0+(lst s).getD i 0)%4294967296)):=by
 refine⟨by simpa using h.1,fun j hj => ?_,fun j hj => ?_⟩
 ·by_cases e:j=i
  ·subst e;rw[getD_set_same _ _ _ (by rw[h.1];exact hi),h.2.2 j (Nat.le_refl _),addS_get hs s j hi]
  ·rw[getD_set_other _ _ _ _ (fun e'=>e e'.symm)];exact h.2.1 j (by omega)
 ·rw[getD_set_other _ _ _ _ (by omega)];exact h.2.2 j (by omega)
theorem AddP.done{hs cur:List Int}{s:S8}(h:AddP hs s 8 cur):cur=addS hs s:=
 ext_getD _ _ (by rw[h.1];rfl) fun j hj=>h.2.1 j (by rw[h.1]at hj;exact hj)
theorem cell_alloc{w:World}{a:Addr}{v:Value}(o:Obj)(h:w.cell? a=some v):(w.alloc o).cell? a=some v:=by rw[World.cell?_alloc_lt _ _ _ (World.block_lt_of_cell? w _ h)];exact h
theorem Own.open{e:TypeId}{k:IntKind}{w:World}{base:Nat}{v:Value}{xs:List Int}(h:Own e k w base v xs):∃ao cap,v=.slice ao xs.length cap∧xs.length≤cap∧cap≤maxLen:=by
 rcases h.2 with⟨rfl,h0⟩|⟨g,cap,cur,rfl,hg,hrow,h1,h2,h3,h4⟩
 ·exact⟨none,0,by rw[h0],by omega,by simp[maxLen]⟩
 ·exact⟨_,cap,rfl,h1,h2⟩
theorem ownAt_alloc(e:TypeId)(k:IntKind)(w:World)(cs:Array Value)(xs:List Int)(n:Nat)(h:cs.toList=xs.map (Value.int k))(hn:xs.length=n)(hl:n≤maxLen):OwnAt e k (w.alloc (.cells cs e)) w.heap.size n xs:=by
 subst hn;refine⟨⟨cs,World.alloc_heap_new w _,?_,?_⟩,Nat.le_refl _,hl⟩
 ·rw[h,List.take_of_length_le (by simp)]
 ·rw[←Array.length_toList,h,List.length_map]
def loopsOf:Code→List Code
 | .seq a b=>loopsOf a++loopsOf b
 | .cond _ a b=>loopsOf a++loopsOf b
 | .block _ c=>loopsOf c
 | .loop c=>c::loopsOf c
 | .scope c=>loopsOf c
 | .rangeFunc _ _ a b=>loopsOf a++loopsOf b
 | _=>[]
theorem inBlock_exit(id:Nat)(Q:Exit→Act→World→Prop)(a:Act)(w:World):Exit.inBlock id Q (.exit id) a w=Q .normal a w:=if_pos rfl
end
end Go.Proofs.YtkhnnhbmchnajaaGreat
