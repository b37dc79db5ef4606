import Derived.Test.YtkhnnhbmchnajaaGreatK08
import Derived.Test.YtkhnnhbmchnajaaGreatK07
import Derived.Test.YtkhnnhbmchnajaaGreatK05
import Derived.Lib.LaidIn
import Derived.LaidMore
import Derived.Test.YtkhnnhbmchnajaaGreatK00
import Derived.Lib.LaidU8
import Derived.Test.YtkhnnhbmchnajaaGreatK02
import Derived.Test.YtkhnnhbmchnajaaGreatK01
import Derived.Laws.ResultCell
set_option maxRecDepth 100000
set_option maxHeartbeats 40000000
set_option linter.unusedVariables false
set_option linter.unusedSimpArgs false
namespace Go.Proofs.YtkhnnhbmchnajaaGreat
section
open Go.Shelf Go.RowKit
attribute [local go_sem] Oper.semAt_some
theorem seqD_mem{bs:Bs}{x:UInt8 × Bs}{k:Nat}(h:(x,k)∈seqD bs)(hk:k≠0):(pcsD bs).2=k:=by
 unfold seqD at h;rcases List.mem_append.1 h with h|h
 ·simp at h;omega
 ·by_cases h0:(pcsD bs).2=0
  ·rw[if_pos h0]at h;simp at h
  ·rw[if_neg h0]at h;simp at h;exact h.2.symm
theorem seqD_whole{bs:Bs}{xs:List Ye}(h:yOf xs=seqD bs)(h0:∀y∈xs,y.k=0):(pcsD bs).2=0∧pcsOf (xs.map Ye.pc)=(pcsD bs).1:=by
 have hz:(pcsD bs).2=0:=by
  rcases Nat.eq_zero_or_pos (pcsD bs).2 with h1|h1
  ·exact h1
  ·have hm:(((0:UInt8),([]:Bs)),(pcsD bs).2)∈yOf xs:=by
    rw[h];unfold seqD;rw[if_neg (by omega)];simp
   unfold yOf at hm;obtain⟨y,hy,e⟩:=List.mem_map.1 hm;have:=h0 y hy;injection e with e1 e2;omega
 refine⟨hz,?_⟩;unfold seqD at h;rw[if_pos hz,List.append_nil]at h;have h2:=congrArg (List.map Prod.fst) h;simp only[yOf,List.map_map]at h2;have e1:((fun x:(UInt8 × Bs) × Nat=>x.1) ∘ fun x:UInt8 × Bs=>(x,0))=id:=rfl;rw[show(Prod.fst ∘ fun x:UInt8 × Bs=>(x,(0:Nat)))=id from rfl,List.map_id]at h2;rw[←h2];simp[pcsOf]
def LI (w w6:World)(pre:List Ye)(W:World):Prop:=∃v,LIv w w6 pre v W
def LIx (w w6:World)(c:Code)(pre:List Ye)(W:World):Prop:=c=.ret∧Kx W w.heap.size (.slice none 0 0)∧(∃q y,pre=q++[y]∧y.k≠0∧Kx W (w.heap.size+1) (.int .i64 (y.k:Int)))∧Below w.heap.size w W
theorem derList(p:Option Addr)(n c:Nat)(bs:Bs)(P:Nat→Prop)(w:World)(hn:bs.length=n)(h:ByV w P p c bs):
  Calls Tryz.prog 68 #[.slice p n c] w (LsPost w (fun w b=>w.heap.size≤b) (pcsD bs)):=by
 refine(callsIn_wide (n:=4)).1 ?_;refine callsIn_of_wp_marks Tryz.func68 rfl trivial ?_ rfl;obtain⟨w3,hw3⟩:∃w3,((w.alloc (.cells #[.slice none 0 0] 87)).alloc (.cells #[.int .i64 0] 39)).alloc (.cells #[.slice none 0 0] 87)=w3:=⟨_,rfl⟩
 have s3:w3.heap.size=w.heap.size+1+1+1:=by rw[←hw3];simp
 have b3:Below w.heap.size w w3:=by rw[←hw3];exact(((Below.refl _ w).alloc (Nat.le_refl _) _).alloc (by simp) _).alloc (by simp;omega) _
 have k0:Kx w3 w.heap.size (.slice none 0 0):=by rw[←hw3];exact kx_below (kx_below (kx_new w _ _) ((Below.refl _ _).alloc (Nat.le_refl _) _)) ((Below.refl _ _).alloc (Nat.le_refl _) _)
 have k1:Kx w3 (w.heap.size+1) (.int .i64 0):=by rw[←hw3];have:=kx_new (w.alloc (.cells #[.slice none 0 0] 87)) (.int .i64 0) 39;rw[alloc_sz]at this;exact kx_below this ((Below.refl _ _).alloc (Nat.le_refl _) _)
 have k2:Kx w3 (w.heap.size+1+1) (.slice none 0 0):=by rw[←hw3];have:=kx_new ((w.alloc (.cells #[.slice none 0 0] 87)).alloc (.cells #[.int .i64 0] 39)) (.slice none 0 0) 87;rw[alloc_sz,alloc_sz]at this;exact this
 have HA:=all_any p n c bs (fun b=>b<w.heap.size) w3 hn ((h.mono (fun b _ hlt=>hlt)).keep (fun k hk _=>b3.block k hk));have H3:Hid (Kx w3 w.heap.size (.slice none 0 0)∧Kx w3 (w.heap.size+1) (.int .i64 0)∧Kx w3 (w.heap.size+1+1) (.slice none 0 0)∧Below w.heap.size w w3):=⟨k0,k1,k2,b3⟩
 clear h k0 k1 k2 b3;simp only[Tryz.ntmps68,List.size_toArray,List.length_cons,List.length_nil,Nat.reduceAdd,Nat.reduceSub,Array.replicate_succ,Array.replicate_zero,List.push_toArray,List.append_toArray,List.nil_append,List.cons_append]
 gi_wp2_with (refine⟨trivial,?_⟩;gi_at_call 93;refine(callsIn_wide.2 HA).mono ?_;rintro e w6 ⟨hb6,g,p',L,c',bs',rfl,hg,hgs,hL,hL2,hv6,hsq⟩)
 have hz6:w.heap.size+1+1+1≤w6.heap.size:=by have:=hb6.size;omega
 have hI6:LI w w6 [] w6:=⟨.slice none 0 0,kx_below H3.out.1 hb6,kx_below H3.out.2.1 hb6,kx_below H3.out.2.2.1 hb6,World.ownsRow_nil _ _ _ _,(fun y hy=>by cases hy),H3.out.2.2.2.trans (hb6.mono (by omega)),Nat.le_refl _,fun _ _ _=>rfl⟩
 have H6:Hid (LI w w6 [] w6∧w.heap.size+1+1+1≤w6.heap.size∧seqD bs'=seqD bs):=⟨hI6,hz6,hsq⟩
 have hg6:=World.block_lt_of_cell? w6 _ hg;refine range_new (n:=4) (by omega) (fun pre _=>pre.length<L) (gf:=122) (lb:=#[.pointer (some ⟨g,0,none⟩)]) rfl (enters_of Tryz.func122 (by kernel_rfl) rfl)
  encY (fun _=>rfl) Yn (fun xs=>yOf xs=seqD bs') (fun pre=>yOf pre <+: seqD bs') (LI w w6) (LIx w w6) ?it
  (fun pre W W' hi hb=>by obtain⟨v,hv⟩:=hi;exact⟨v,hv.below hb⟩)
  (fun pre W r o o' hi hr ho hc=>by obtain⟨v,hv⟩:=hi;exact⟨v,hv.put o' (by omega) hr ho hc⟩)
  (fun c pre W r o o' hi hr ho hc=>⟨hi.1,kx_put hi.2.1 o' ho hc,by obtain⟨q,y,h1,h2,h3⟩:=hi.2.2.1;exact⟨q,y,h1,h2,kx_put h3 o' ho hc⟩,hi.2.2.2.trans ⟨rfl,rfl,rfl,(grownBy_putObj' W r o').size,fun k hk=>(grownBy_putObj' W r o').block k (by have:=hi.2.2.2.size;omega) (fun e=>by injection e with e;omega)⟩⟩)
  hI6 ?round ?done ?stop
 case it=>
  intro l r J Jx hJI hJb hY h0;have hb2:Below w6.heap.size w6 ((w6.alloc (.deferred (some []))).alloc (.loop r)):=((Below.refl _ w6).alloc (Nat.le_refl _) _).alloc (by simp) _;refine all_iter (4-1) (by omega) g p' L c' bs' (fun b=>w.heap.size+1+1+1≤b∧b<w6.heap.size) l J Jx _ ((hb2.cell (p:=⟨g,0,none⟩) hg6).trans hg) hL ?_ (by omega) ?_ ?_ hJb (fun pre x W0 W1 h1 h2=>hY pre x W0 W1 h1 h2.1) h0
  ·exact(hv6.mono (Q:=fun b=>w.heap.size+1+1+1≤b∧b<w6.heap.size) (fun b hb hlt=>⟨by omega,hlt⟩)).keep (fun k _ hk=>hb2.block k hk)
  ·intro pre W' hJ k hk;obtain⟨v,hv⟩:=hJI pre W' hJ;exact(hv.mid k hk.1 hk.2).trans (hb2.block k hk.2).symm
  ·intro k hk;have:=hb2.size;omega
 case round=>
  rintro l r pre ⟨⟨t,b,q,d⟩,k⟩ W0 W hlen hl hl0 hlW ⟨v,hv0⟩ hb _ hY;have hY0:ByV W (fun x=>W0.heap.size≤x) q d b:=hY;obtain⟨TN,hTN⟩:∃T,t.toNat=T:=⟨_,rfl⟩
  obtain⟨LB,hLB⟩:∃T,b.length=T:=⟨_,rfl⟩
  obtain⟨W1,hW1⟩:∃W1,W.alloc (.cells #[.int .u8 (TN:Int),.slice q LB d] 93)=W1:=⟨_,rfl⟩
  have bW1:Below W.heap.size W W1:=by rw[←hW1];exact(Below.refl _ _).alloc (Nat.le_refl _) _
  have HW1:Hid (W.alloc (.cells #[.int .u8 (TN:Int),.slice q LB d] 93)=W1):=hW1;have t1:Tl W1 W.heap.size (.int .u8 (TN:Int)) (.slice q LB d):=by rw[←hW1];exact Tl.new W _ _
  have l1:W1.heap[l]?=some (.loop r):=(bW1.block l (Array.getElem?_eq_some_iff.1 hlW).1).trans hlW;have HR:Hid (t.toNat=TN∧b.length=LB):=⟨hTN,hLB⟩
  have HL:Hid (∀o':Obj,LIv w w6 pre v (W1.putObj l o')∧Tl (W1.putObj l o') W.heap.size (.int .u8 (TN:Int)) (.slice q LB d)∧ByV (W1.putObj l o') (fun x=>w6.heap.size≤x∧v.ownBlock≠some x) q d b):=fun o'=>by
   refine⟨((hv0.below hb).below bW1).put o' (by omega) hl l1 rfl,t1.same ?_,?_⟩
   ·have h1:=t1.lt;have h2:=(Array.getElem?_eq_some_iff.1 hlW).1;exact(grownBy_putObj' W1 l o').block _ h1 (fun e=>by injection e with e;omega)
   ·refine((hY0.keep (fun g _ hlt=>bW1.block g hlt)).put o' l1 rfl).mono (fun g hg _=>⟨Nat.le_trans hv0.sz hg,fun e => ?_⟩);have:=(owns_lt hv0.own e).2.1;omega
  clear hY hY0 hv0 hb hI6 hg hv6 hb6 hsq HA t1 hW1 hw3;rw[show encY ⟨⟨t,b,q,d⟩,k⟩=#[.agg #[.int .u8 (TN:Int),.slice q LB d],.int .i64 (k:Int)] by rw[←hTN,←hLB]];clear hTN hLB
  gi_wp2
  refine⟨(Below.refl _ _).alloc (Nat.le_refl _) _,fun o' => ?_⟩;rw[HW1.out];obtain⟨hv2,t2,y2⟩:=HL.out o';generalize W1.putObj l o'=W2 at hv2 t2 y2 ⊢;have x0:=hv2.r0.1;have f0:=hv2.r0.2;have x1:=hv2.r1.1;have f1:=hv2.r1.2;have x2:=hv2.r2.1;have f2:=hv2.r2.2;have tc0:=t2.c0;have tc1:=t2.c1;have HV:Hid (LIv w w6 pre v W2∧ByV W2 (fun x=>w6.heap.size≤x∧v.ownBlock≠some x) q d b):=⟨hv2,y2⟩
  have hW2s:=hv2.sz;clear hv2 y2 t2 HL l1 bW1 HW1 hlW;by_cases hk:k=0
  ·subst hk;have hka:((0:Int) != 0)=false:=rfl
   gi_wp2_with (gi_at_builtin;refine wpListIn_append_pc rfl (.tmp 14) (.tmp 16) rfl w6.heap.size v rfl (pre.map Ye.pc) pre.length (HV.out.1.own.alloc _) ⟨W2.heap.size,0,none⟩ 1 ⟨t,b,q,d⟩ rfl (by show _=some (Value.int .u8 (t.toNat:Int));rw[HR.out.1,Addr.add_mid];exact(Tl.new W2 (.int .u8 (TN:Int)) (.slice q LB d)).c0) (by show _=some (Value.slice q b.length d);rw[HR.out.2,Addr.add_mid];exact(Tl.new W2 (.int .u8 (TN:Int)) (.slice q LB d)).c1) (by omega) (Nat.le_trans hW2s (alloc_le _ _)) ?_;intro v3 W3 o3 gr3 at3;have hv4:=HV.out.1.app (y:=⟨⟨t,b,q,d⟩,0⟩) _ gr3 o3 rfl HV.out.2 at3 hz6;have hkf:Hid (KeepsFrom w6.heap.size W2 W3):=((KeepsOthers.alloc _ _).trans (KeepsOthers.of_grownBy gr3 (fun j o e ho=>by obtain⟨_,_,cur,hc⟩:=owns_lt (HV.out.1.own.alloc _) e;rw[hc]at ho;cases ho;rfl))).from _;have y2:Kx W3 (w.heap.size+1+1) v:=kx_block HV.out.1.r2 ((gr3.block _ (by have:=kx_lt HV.out.1.r2;rw[alloc_sz];omega) (fun e=>by have:=(owns_lt HV.out.1.own e.symm).1;omega)).trans (Below.heap_alloc _ _ _ (kx_lt HV.out.1.r2)));have z2:=y2.1;have zf2:=y2.2;obtain⟨p3,c3,rfl⟩:=owns_slice o3;have H4:Hid (LIv w w6 (pre++[⟨⟨t,b,q,d⟩,0⟩]) (.slice p3 (pre.length+1) c3) (W3.setCell ⟨w.heap.size+1+1,0,none⟩ (.slice p3 (pre.length+1) c3))):=hv4;clear hv4 y2 o3 gr3 at3)
   exact⟨hkf.out.trans ((KeepsOthers.setCell _ _ _).from _),trivial,_,H4.out⟩
  ·have hka:((k:Int) != 0)=true:=by simp;omega
   gi_wp2
   refine⟨((KeepsOthers.setCell _ _ _).trans (KeepsOthers.setCell _ _ _)).from _,rfl,kx_other (kx_set HV.out.1.r0 _) (by omega) _,⟨pre,_,rfl,hk,kx_set (kx_other HV.out.1.r1 (by omega) _) _⟩,(HV.out.1.low.setCell (p:=⟨w.heap.size,0,none⟩) (Nat.le_refl _) _).setCell (p:=⟨w.heap.size+1,0,none⟩) (by show w.heap.size≤w.heap.size+1;omega) _⟩
 case done=>
  rintro D xs W hD hxs ⟨v,hv⟩ hK;have hlv:=seqD_whole (bs:=bs) (by rw[hxs,hsq]) (fun y hy=>(hv.at_ y hy).1);obtain⟨pv,cv,rfl⟩:=owns_slice hv.own;have x0:=hv.r0.1;have f0:=hv.r0.2;have x1:=hv.r1.1;have f1:=hv.r1.2;have x2:=hv.r2.1;obtain⟨W',hW'⟩:∃W',(W.setCell ⟨w.heap.size,0,none⟩ (.slice pv xs.length cv)).setCell ⟨w.heap.size+1,0,none⟩ (.int .i64 0)=W':=⟨_,rfl⟩
  have hK':W'.heap[D]?=some (.deferred (some [])):=by rw[←hW'];exact((KeepsOthers.setCell W ⟨w.heap.size,0,none⟩ (.slice pv xs.length cv)).trans (KeepsOthers.setCell _ ⟨w.heap.size+1,0,none⟩ (.int .i64 0))).same D _ hK rfl
  have r0:Kx W' w.heap.size (.slice pv xs.length cv):=by rw[←hW'];exact kx_other (kx_set hv.r0 _) (by omega) _
  have r1:Kx W' (w.heap.size+1) (.int .i64 0):=by rw[←hW'];exact kx_set (kx_other hv.r1 (by omega) _) _
  have hblk:∀k,w6.heap.size≤k→W'.heap[k]?=W.heap[k]?:=fun k hk=>by rw[←hW'];exact(Below.heap_setCell _ _ _ _ (by show k≠w.heap.size+1;omega)).trans (Below.heap_setCell _ _ _ _ (by show k≠w.heap.size;omega))
  have lowW:Below w.heap.size w W':=by rw[←hW'];exact(hv.low.setCell (p:=⟨w.heap.size,0,none⟩) (Nat.le_refl _) _).setCell (p:=⟨w.heap.size+1,0,none⟩) (by show w.heap.size≤w.heap.size+1;omega) _
  have H9:Hid (W'.heap[D]?=some (.deferred (some []))∧w6.heap.size≤D∧Kx W' w.heap.size (.slice pv xs.length cv)∧Kx W' (w.heap.size+1) (.int .i64 0)∧Below w.heap.size w W'∧W'.ownsRow w6.heap.size 93 2 (.slice pv xs.length cv) xs.length (cellsP (xs.map Ye.pc))∧(∀y∈xs,ByV W' (fun b=>w6.heap.size≤b) y.pc.p y.pc.c y.pc.b)∧(pcsD bs).2=0∧pcsOf (xs.map Ye.pc)=(pcsD bs).1):=
   ⟨hK',hD,r0,r1,lowW,owns_keep hv.own (fun g hg=>hblk g (owns_lt hv.own hg).1),fun y hy=>((hv.at_ y hy).2.mono (Q:=fun b=>w6.heap.size≤b) (fun g hg _=>hg.1)).keep (fun g hg _=>hblk g hg),hlv.1,hlv.2⟩
  have HW':Hid ((W.setCell ⟨w.heap.size,0,none⟩ (.slice pv xs.length cv)).setCell ⟨w.heap.size+1,0,none⟩ (.int .i64 0)=W'):=hW';clear hK' hK hD hxs hv r0 r1 hblk lowW hlv hI6 hg hv6 hb6 hsq HA hW' hw3
  gi_wp2
  rw[HW'.out];refine⟨by simp,.inl ⟨_,_,rfl,run_takeDeferred H9.out.1,?_⟩⟩;obtain⟨q1,q2,q3,q4,q5,q6,q7,q8,q9⟩:=H9.out;have c5:=(kx_put q3 (.deferred none) q1 rfl).1;have c6:=(kx_put q4 (.deferred none) q1 rfl).1;refine⟨.tuple #[.slice pv xs.length cv,.int .i64 0],?_,q5.trans (belowK_b (w:=w) (Nat.le_refl _) _ D _ _ (by omega) q1 rfl rfl),.inr ⟨q8,xs.map Ye.pc,_,q9,rfl,?_,?_⟩⟩
  ·simp[results,Tryz.f68,go_sem,c5,c6]
  ·rw[List.length_map];have:=owns_put q6 (.deferred none) q1 rfl;exact⟨this.1,by
    rcases this.2 with h1|⟨g1,cap,cur,e1,h1,h2⟩
    ·exact .inl h1
    ·exact .inr ⟨g1,cap,cur,e1,by omega,h2⟩⟩
  ·intro x hx;obtain⟨y,hy,rfl⟩:=List.mem_map.1 hx;exact((q7 y hy).put (.deferred none) q1 rfl).mono (fun g hg _=>by show w.heap.size≤g;omega)
 case stop=>
  rintro D cc pre W hD hpre ⟨rfl,h2,⟨q,y,rfl,hy,h3⟩,hbW⟩ hK;have hm:((y.pc.t,y.pc.b),y.k)∈seqD bs:=by rw[←hsq];refine List.IsPrefix.mem ?_ hpre;simp[yOf]
  have hk:=seqD_mem hm hy;have HQ:Hid (W.heap[D]?=some (.deferred (some []))∧w6.heap.size≤D∧Kx W w.heap.size (.slice none 0 0)∧Kx W (w.heap.size+1) (.int .i64 (y.k:Int))∧Below w.heap.size w W∧(pcsD bs).2=y.k∧y.k≠0):=⟨hK,hD,h2,h3,hbW,hk,hy⟩
  clear hK hD h2 h3 hbW hk hI6 hg hv6 hb6 hsq HA hw3 hm hpre
  gi_wp2
  obtain⟨q1,q2,q3,q4,q5,q6,q7⟩:=HQ.out;refine⟨by simp,.inl ⟨_,_,rfl,run_takeDeferred q1,?_⟩⟩;have c5:=(kx_put q3 (.deferred none) q1 rfl).1;have c6:=(kx_put q4 (.deferred none) q1 rfl).1;refine⟨.tuple #[.slice none 0 0,.int .i64 (y.k:Int)],?_,q5.trans (belowK_b (w:=w) (Nat.le_refl _) _ D _ _ (by omega) q1 rfl rfl),.inl ⟨by omega,by rw[q6]⟩⟩;simp[results,Tryz.f68,go_sem,c5,c6]
end
section
open Go.Shelf Go.RowKit
theorem bat_cells(W:World)(l:Bs)(cs:Array Value)(n:Nat)(hc:u8sC l=cs)(hn:l.length=n)(hl:n≤1000):BAt (W.alloc (.cells cs 5)) (some ⟨W.heap.size,0,none⟩) n l:=by subst hc hn;exact(byv_lit W l hl).lies
theorem u8_of_mod(n:Nat):((UInt8.ofNat n).toNat:Int)=(n:Int)%256:=by rw[UInt8.toNat_ofNat'];omega
theorem rWrite_any(t:Nat)(ht:t<256)(p:Option Addr)(n c:Nat)(l:Bs)(w:World)(hl:l.length=n)(h:BAt w p n l)(hn:n<65536):
  Calls Tryz.prog 34 #[.int .u8 (t:Int),.slice p n c] w fun e w'=>Below w.heap.size w w'∧∃v,e=.returned v∧w'.ownsRow w.heap.size 5 1 v (1+(headD n).length+n) (Lib.byteCells (UInt8.ofNat t::(headD n++l))):=by
 have hOA:=owns_lit1 w w.heap.size t ht (Nat.le_refl _);have b1:Below w.heap.size w (w.alloc (.cells #[.int .u8 (t:Int)] 5)):=(Below.refl _ _).alloc (Nat.le_refl _) _;generalize hA1:w.alloc (.cells #[.int .u8 (t:Int)] 5)=A1 at hOA b1;have HA:Hid (Below w.heap.size w A1∧A1.ownsRow w.heap.size 5 1 (.slice (some ⟨w.heap.size,0,none⟩) 1 1) 1 (Lib.byteCells [UInt8.ofNat t])):=⟨b1,hOA⟩
 have HH:Hid (BAt w p n l∧l.length=n):=⟨h,hl⟩
 clear hOA b1 h hl;by_cases q1:n<128
 ·have q1I:(n:Int)<128:=by omega
  have hh:headD n=[UInt8.ofNat n]:=by unfold headD;rw[if_pos q1]
  rw[hh];go_enter Tryz.func34,Tryz.ntmps34;go_wp2_with (at_builtin;first
   | (refine wpList_append_wt rfl (.tmp 23) (.tmp 26) rfl w.heap.size (.slice (some ⟨w.heap.size,0,none⟩) 1 1) rfl [UInt8.ofNat t] 1 rfl (HA.out.2.alloc _) (some ⟨A1.heap.size,0,none⟩) 1 1 [UInt8.ofNat n] rfl rfl (bat_lit _ _ _ (by rw[UInt8.toNat_ofNat'];omega)) (by omega) (Nat.le_trans HA.out.1.size (alloc_le _ _)) ?_;intro v1 w2 o1 gr1 _;obtain⟨p2,c2,rfl⟩:=owns_slice o1;have HB2:Hid (Below w.heap.size w w2∧w2.ownsRow w.heap.size 5 1 (.slice p2 2 c2) 2 (Lib.byteCells ([UInt8.ofNat t]++[UInt8.ofNat n]))):=⟨below_grownT (HA.out.1.alloc HA.out.1.size _) (Nat.le_refl _) (HA.out.2.alloc _) gr1,o1⟩;clear o1 gr1)
   | (refine wpList_append_wt rfl (.tmp 36) (.tmp 37) rfl w.heap.size (.slice p2 2 c2) rfl ([UInt8.ofNat t]++[UInt8.ofNat n]) 2 rfl HB2.out.2 p n c l HH.out.2 rfl (HH.out.1.below HB2.out.1) (by omega) HB2.out.1.size ?_;intro v3 w3 o3 gr3 _;have HB3:Hid (Below w.heap.size w w3∧w3.ownsRow w.heap.size 5 1 v3 (2+n) (Lib.byteCells ([UInt8.ofNat t]++[UInt8.ofNat n]++l))):=⟨below_grownT HB2.out.1 (Nat.le_refl _) HB2.out.2 gr3,o3⟩;clear o3 gr3))
  go_ret;exact⟨HB3.out.1,v3,rfl,HB3.out.2⟩
 have q1I:¬(n:Int)<128:=by omega
 by_cases q2:n<256
 ·have q2I:(n:Int)<256:=by omega
  have hh:headD n=[129,UInt8.ofNat n]:=by unfold headD;rw[if_neg q1,if_pos q2]
  rw[hh];go_enter Tryz.func34,Tryz.ntmps34;go_wp2_with (at_builtin;first
   | (refine wpList_append_wt rfl (.tmp 31) (.tmp 34) rfl w.heap.size (.slice (some ⟨w.heap.size,0,none⟩) 1 1) rfl [UInt8.ofNat t] 1 rfl (HA.out.2.alloc _) (some ⟨A1.heap.size,0,none⟩) 2 2 [129,UInt8.ofNat n] rfl rfl (bat_cells _ _ _ _ (by show #[_,Value.int .u8 ((UInt8.ofNat n).toNat:Int)]=_;rw[u8_of_mod,show(n:Int)%256=(n:Int) by omega];rfl) rfl (by omega)) (by omega) (Nat.le_trans HA.out.1.size (alloc_le _ _)) ?_;intro v1 w2 o1 gr1 _;obtain⟨p2,c2,rfl⟩:=owns_slice o1;have HB2:Hid (Below w.heap.size w w2∧w2.ownsRow w.heap.size 5 1 (.slice p2 3 c2) 3 (Lib.byteCells ([UInt8.ofNat t]++[129,UInt8.ofNat n]))):=⟨below_grownT (HA.out.1.alloc HA.out.1.size _) (Nat.le_refl _) (HA.out.2.alloc _) gr1,o1⟩;clear o1 gr1)
   | (refine wpList_append_wt rfl (.tmp 36) (.tmp 37) rfl w.heap.size (.slice p2 3 c2) rfl ([UInt8.ofNat t]++[129,UInt8.ofNat n]) 3 rfl HB2.out.2 p n c l HH.out.2 rfl (HH.out.1.below HB2.out.1) (by omega) HB2.out.1.size ?_;intro v3 w3 o3 gr3 _;have HB3:Hid (Below w.heap.size w w3∧w3.ownsRow w.heap.size 5 1 v3 (3+n) (Lib.byteCells ([UInt8.ofNat t]++[129,UInt8.ofNat n]++l))):=⟨below_grownT HB2.out.1 (Nat.le_refl _) HB2.out.2 gr3,o3⟩;clear o3 gr3))
  go_ret;exact⟨HB3.out.1,v3,rfl,HB3.out.2⟩
 have q2I:¬(n:Int)<256:=by omega
 have hh:headD n=[130,UInt8.ofNat (n/256),UInt8.ofNat n]:=by unfold headD;rw[if_neg q1,if_neg q2]
 rw[hh];go_enter Tryz.func34,Tryz.ntmps34;go_wp2_with (at_builtin;first
  | (refine wpList_append_wt rfl (.tmp 11) (.tmp 18) rfl w.heap.size (.slice (some ⟨w.heap.size,0,none⟩) 1 1) rfl [UInt8.ofNat t] 1 rfl (HA.out.2.alloc _) (some ⟨A1.heap.size,0,none⟩) 3 3 [130,UInt8.ofNat (n/256),UInt8.ofNat n] rfl rfl (bat_cells _ _ _ _ (by show #[_,Value.int .u8 ((UInt8.ofNat (n/256)).toNat:Int),Value.int .u8 ((UInt8.ofNat n).toNat:Int)]=_;rw[u8_of_mod,u8_of_mod,show((n/256:Nat):Int)%256=(n:Int)/256 by omega];rfl) rfl (by omega)) (by omega) (Nat.le_trans HA.out.1.size (alloc_le _ _)) ?_;intro v1 w2 o1 gr1 _;obtain⟨p2,c2,rfl⟩:=owns_slice o1;have HB2:Hid (Below w.heap.size w w2∧w2.ownsRow w.heap.size 5 1 (.slice p2 4 c2) 4 (Lib.byteCells ([UInt8.ofNat t]++[130,UInt8.ofNat (n/256),UInt8.ofNat n]))):=⟨below_grownT (HA.out.1.alloc HA.out.1.size _) (Nat.le_refl _) (HA.out.2.alloc _) gr1,o1⟩;clear o1 gr1)
  | (refine wpList_append_wt rfl (.tmp 36) (.tmp 37) rfl w.heap.size (.slice p2 4 c2) rfl ([UInt8.ofNat t]++[130,UInt8.ofNat (n/256),UInt8.ofNat n]) 4 rfl HB2.out.2 p n c l HH.out.2 rfl (HH.out.1.below HB2.out.1) (by omega) HB2.out.1.size ?_;intro v3 w3 o3 gr3 _;have HB3:Hid (Below w.heap.size w w3∧w3.ownsRow w.heap.size 5 1 v3 (4+n) (Lib.byteCells ([UInt8.ofNat t]++[130,UInt8.ofNat (n/256),UInt8.ofNat n]++l))):=⟨below_grownT HB2.out.1 (Nat.le_refl _) HB2.out.2 gr3,o3⟩;clear o3 gr3))
 go_ret;exact⟨HB3.out.1,v3,rfl,HB3.out.2⟩
theorem cellsP_get:∀(l:List Pc) (j:Nat) (x:Pc),l[j]?=some x→(cellsP l)[j*2]?=some (.int .u8 (x.t.toNat:Int))∧(cellsP l)[j*2+1]?=some (.slice x.p x.b.length x.c)
 | [],j,x,h=>by simp at h
 | y::l,0,x,h=>by
  simp at h;subst h;exact⟨rfl,rfl⟩
 | y::l,j+1,x,h=>by
  have:=cellsP_get l j x (by simpa using h);rw[show cellsP (y::l)=Pc.cells y++cellsP l from rfl];have hl:(Pc.cells y).length=2:=rfl;rw[List.getElem?_append_right (by rw[hl];omega),List.getElem?_append_right (by rw[hl];omega),hl,show(j+1)*2-2=j*2 by omega,show(j+1)*2+1-2=j*2+1 by omega];exact this
theorem own_pc{w:World}{B g m cap:Nat}{l:List Pc}(h:w.ownsRow B 93 2 (.slice (some ⟨g,0,none⟩) m cap) m (cellsP l))(hl:l.length=m)(j:Nat)(x:Pc)(hx:l[j]?=some x):w.cell? ⟨g,j*2,none⟩=some (.int .u8 (x.t.toNat:Int))∧w.cell? ⟨g,j*2+1,none⟩=some (.slice x.p x.b.length x.c):=by have hj:j<l.length:=(List.getElem?_eq_some_iff.1 hx).1;obtain⟨h1,h2⟩:=cellsP_get l j x hx;exact⟨by rw[owns_cell h (j*2) (by omega),h1],by rw[owns_cell h (j*2+1) (by omega),h2]⟩
theorem Pcs.mono{w:World}{B B':Nat}{P Q:Nat→Prop}{v:Value}{l:List Pc}(h:Pcs w B P v l)(hB:B'≤B)(hPQ:∀g,P g→g<w.heap.size→Q g):Pcs w B' Q v l:=
 ⟨⟨h.own.1, by
  rcases h.own.2 with h1|⟨g1,cap,cur,e1,h1,h2⟩
  ·exact .inl h1
  ·exact .inr ⟨g1,cap,cur,e1,by omega,h2⟩⟩,fun x hx=>(h.at_ x hx).mono hPQ⟩
theorem ByV.below{w w':World}{P:Nat→Prop}{p:Option Addr}{c:Nat}{l:Bs}(h:ByV w P p c l)(hb:Below w.heap.size w w'):ByV w' P p c l:=h.keep (fun g _ hlt=>hb.block g hlt)
def sqD (bs:Bs):List (UInt8 × Bs) × Nat:=match readD bs with
 | .error k=>([],k)
 | .ok ((t,b),r)=>if t.toNat≠48∨0<r.length then ([],30) else pcsD b
def okP (R:List (UInt8 × Bs) × Nat):List (UInt8 × Bs):=if R.2=0 then R.1 else []
theorem LsPost.uni{w w':World}{P:World→Nat→Prop}{R:List (UInt8 × Bs) × Nat}{e:Ending}(h:LsPost w P R e w'):Below w.heap.size w w'∧∃l v,e=.returned (.tuple #[v,.int .i64 (R.2:Int)])∧pcsOf l=okP R∧Pcs w' w.heap.size (P w) v l∧(R.2≠0→v=.slice none 0 0):=by
 obtain⟨hb,(⟨h1,he⟩|⟨h1,l,v,h2,he,h3⟩)⟩:=h
 ·exact⟨hb,[],.slice none 0 0,he,by unfold okP;rw[if_neg h1];rfl,⟨World.ownsRow_nil _ _ _ _,fun x hx=>by cases hx⟩,fun _=>rfl⟩
 ·exact⟨hb,l,v,by rw[h1];exact he,by unfold okP;rw[if_pos h1];exact h2,h3,fun h=>absurd h1 h⟩
theorem derSeq(p:Option Addr)(n c:Nat)(bs:Bs)(P:Nat→Prop)(w:World)(hn:bs.length=n)(h:ByV w P p c bs):
  Calls Tryz.prog 36 #[.slice p n c] w (LsPost w (fun w b=>w.heap.size≤b) (sqD bs)):=by
 have HSP:=derSplit p n c bs (fun b=>b<w.heap.size) w hn (h.mono (fun b _ hlt=>hlt));clear h hn
 cases hr:readD bs with
 | error k=>
  rw[hr]at HSP;have hk:=read_err hr;have hkb:((k:Int) != 0)=true:=by simp;omega
  have HR:Hid (sqD bs=([],k)∧k≠0):=⟨by unfold sqD;rw[hr],by omega⟩
  clear hr hk;go_enter Tryz.func36,Tryz.ntmps36;go_wp2_with (go_at_call 67;refine HSP.mono ?_;intro e w2 hp;obtain⟨hb2,he⟩:=hp.errx;subst he;clear hp HSP)
  go_ret2
  rw[HR.out.1];exact⟨hb2.alloc hb2.size _,.inl ⟨HR.out.2,rfl⟩⟩
 | ok x =>
  obtain⟨⟨t,b⟩,r⟩:=x;rw[hr]at HSP;have hlens:=read_len hr;obtain⟨TN,hTN⟩:∃T,t.toNat=T:=⟨_,rfl⟩
  obtain⟨LB,hLB⟩:∃T,b.length=T:=⟨_,rfl⟩
  obtain⟨Lr,hLr⟩:∃T,r.length=T:=⟨_,rfl⟩
  by_cases h48:TN=48∧Lr=0
  ·obtain⟨q1,q2⟩:=h48;subst q1 q2;have HR:Hid (sqD bs=pcsD b):=by show sqD bs=_;unfold sqD;rw[hr];simp only[];rw[if_neg (by omega)]
   clear hr hlens;have h48b:(((48:Nat):Int) != 48)=false:=rfl;go_enter Tryz.func36,Tryz.ntmps36;go_wp2_with (first
    | (go_at_call 67;refine HSP.mono ?_;intro e w2 hp;obtain⟨hb2,p1,c1,p2,c2,he,hv1,hv2⟩:=hp.okx;subst he;rw[hTN,hLB,hLr];clear hp HSP hv2)
    | (go_at_call 68;refine(derList p1 LB c1 b _ _ hLB (hv1.below ((Below.refl _ _).alloc (Nat.le_refl _) _))).mono ?_;intro e w4 hp;obtain⟨hb4,l4,v4,he,hl4,hp4,hn4⟩:=hp.uni;subst he;clear hp))
   go_ret2
   have hb3:Below w.heap.size w (w2.alloc (.cells #[.int .u8 48,.slice p1 LB c1] 93)):=hb2.alloc hb2.size _;refine⟨hb3.trans (hb4.mono hb3.size),?_⟩;rw[HR.out];by_cases h0:(pcsD b).2=0
   ·refine .inr ⟨h0,l4,v4,?_,by rw[h0];rfl,hp4.mono hb3.size (fun g hg _=>Nat.le_trans hb3.size hg)⟩;rw[hl4];unfold okP;rw[if_pos h0]
   ·refine .inl ⟨h0,?_⟩;rw[hn4 h0];rfl
  ·have HR:Hid (sqD bs=([],30)):=by show sqD bs=_;unfold sqD;rw[hr];simp only[];rw[if_pos (by omega)]
   clear hr hlens;by_cases h4:TN=48
   ·subst h4;have hLI:(0:Int)<(Lr:Int):=by omega
    have h48b:(((48:Nat):Int) != 48)=false:=rfl;go_enter Tryz.func36,Tryz.ntmps36;go_wp2_with (go_at_call 67;refine HSP.mono ?_;intro e w2 hp;obtain⟨hb2,p1,c1,p2,c2,he,hv1,hv2⟩:=hp.okx;subst he;rw[hTN,hLB,hLr];clear hp HSP hv2)
    go_ret2
    rw[HR.out];exact⟨hb2.alloc hb2.size _,.inl ⟨by omega,rfl⟩⟩
   ·have h48b:((TN:Int) != 48)=true:=by simp;omega
    go_enter Tryz.func36,Tryz.ntmps36;go_wp2_with (go_at_call 67;refine HSP.mono ?_;intro e w2 hp;obtain⟨hb2,p1,c1,p2,c2,he,hv1,hv2⟩:=hp.okx;subst he;rw[hTN,hLB,hLr];clear hp HSP hv2)
    go_ret2
    rw[HR.out];exact⟨hb2.alloc hb2.size _,.inl ⟨by omega,rfl⟩⟩
theorem pairR_sq(bs:Bs):pairR bs=pairOf (sqD bs):=by
 unfold pairR pieceR sqD
 cases hr:readD bs with
 | error k=>
  have:=read_err hr;simp only[];unfold pairOf;rw[if_pos (show(([],k):List (UInt8 × Bs) × Nat).2≠0 by show k≠0;omega)]
 | ok q =>
  obtain⟨⟨t,b⟩,r⟩:=q;simp only[];by_cases ht:t.toNat=48
  ·rw[if_pos ht];simp only[];by_cases h0:0<r.length
   ·rw[if_pos h0,if_pos (.inr h0)];rfl
   ·rw[if_neg h0,if_neg (fun h=>h.elim (fun h=>h ht) h0)];exact two_of b
  ·rw[if_neg ht,if_pos (.inl ht)];rfl
theorem allD_body:∀(m:Nat) (bs:Bs),∀x∈(allD m bs).1,x.2.length≤bs.length
 | 0,bs,x,hx=>by cases hx
 | m + 1, bs, x, hx => by
  simp only[allD]at hx;by_cases h0:bs=[]
  ·rw[if_pos h0]at hx;cases hx
  rw[if_neg h0]at hx
  cases hr:readD bs with
  | error k=>rw[hr]at hx;cases hx
  | ok q =>
   obtain⟨⟨t,b⟩,r⟩:=q;have h1:=read_len hr;rw[hr]at hx;simp only[List.mem_cons]at hx;rcases hx with rfl|hx
   ·show b.length≤bs.length;omega
   ·have:=allD_body m r x hx;omega
theorem pcs_body(bs:Bs):∀x∈(pcsD bs).1,x.2.length≤bs.length:=allD_body _ bs
def Nc (w:World)(v:Value)(n:Int)(L:Nat):Prop:=∃ao len cap xs,v=.slice ao len cap∧NumIn .u64 B64 w ao len cap xs∧Canon xs∧val B64 xs=n∧len≤L
theorem Nc.old{w w':World}{v:Value}{n:Int}{L:Nat}(h:Nc w v n L)(hb:Below w.heap.size w w'):Nc w' v n L:=by obtain⟨ao,len,cap,xs,e,h1,h2⟩:=h;exact⟨ao,len,cap,xs,e,h1.old hb,h2⟩
theorem Nc.nv{w:World}{v:Value}{n:Int}{L:Nat}(h:Nc w v n L):Nv w v n L:=by obtain⟨ao,len,cap,xs,e,h1,h2,h3,h4⟩:=h;exact⟨ao,len,cap,xs,e,h1,h3,h4⟩
theorem derIntO(t:Nat)(ht:t<256)(p:Option Addr)(n c:Nat)(l:Bs)(P:Nat→Prop)(w:World)(hl:l.length=n)(h:ByV w P p c l)(hn:n≤1000000):
  Calls Tryz.prog 37 #[.agg #[.int .u8 (t:Int),.slice p n c]] w fun e w'=>∃a m k kk,e=.returned (.tuple #[.slice a m k,.int .i64 (kk:Int)])∧Below w.heap.size w w'∧((intO t l=none∧kk≠(0:Nat))∨∃x,intO t l=some x∧kk=0∧Nc w' (.slice a m k) (nI x) 64):=by
 refine(derInt t ht p n c l P w hl h hn).mono ?_;rintro e w' ⟨hb,(⟨h1,rfl⟩|⟨x,h1,h2,(⟨h3,rfl⟩|⟨h3,v,rfl,h4⟩)⟩)⟩
 ·refine⟨none,0,0,30,rfl,hb,.inl ⟨?_,by omega⟩⟩;unfold intO;by_cases h2:t=2
  ·rw[if_pos h2];rcases h1 with h1|h1
   ·exact absurd h2 h1
   ·rw[h1]
  ·rw[if_neg h2]
 ·refine⟨none,0,0,3,rfl,hb,.inl ⟨?_,by omega⟩⟩;unfold intO;rw[if_pos h1,h2];simp only[];rw[if_pos h3]
 ·obtain⟨a,m,k,xs,rfl,g1,g2,g3,g4,g5⟩:=h4;refine⟨a,m,k,0,rfl,hb,.inr ⟨x,?_,rfl,⟨a,m,k,xs,rfl,g1,g2,g3,g4⟩⟩⟩;unfold intO;rw[if_pos h1,h2];simp only[];rw[if_neg (by omega)]
def SgPost(w:World)(R:Option (Bs × Bs))(e:Ending)(w':World):Prop:=
 Below w.heap.size w w'∧((R=none∧e=.returned (.tuple #[.slice none 0 0,.slice none 0 0,.int .i64 43]))∨∃x y a1 l1 k1 a2 l2 k2,R=some (x,y)∧e=.returned (.tuple #[.slice a1 l1 k1,.slice a2 l2 k2,.int .i64 0])∧Nc w' (.slice a1 l1 k1) (nI x) 64∧Nc w' (.slice a2 l2 k2) (nI y) 64)
theorem sPair(p:Option Addr)(n c:Nat)(bs:Bs)(P:Nat→Prop)(w:World)(hn:bs.length=n)(h:ByV w P p c bs)(hn2:n≤100000):
  Calls Tryz.prog 10 #[.slice p n c] w (SgPost w (pairR bs)):=by
 have HSQ:Calls Tryz.prog 36 #[.slice p n c] w fun e w2=>Below w.heap.size w w2∧∃l m p1 c1,e=.returned (.tuple #[.slice p1 m c1,.int .i64 ((sqD bs).2:Int)])∧l.length=m∧pcsOf l=okP (sqD bs)∧Pcs w2 w.heap.size (fun b=>w.heap.size≤b) (.slice p1 m c1) l:=by refine(derSeq p n c bs P w hn h).mono ?_;rintro e w2 hp;obtain⟨hb,l,v,rfl,h1,h2,-⟩:=hp.uni;obtain⟨p1,c1,rfl⟩:=owns_slice h2.own;exact⟨hb,l,l.length,p1,c1,rfl,rfl,h1,h2⟩
 rw[pairR_sq];have hlb:∀x∈(sqD bs).1,x.2.length≤100000:=fun x hx=>by
  unfold sqD at hx
  cases hr:readD bs with
  | error k=>rw[hr]at hx;cases hx
  | ok q =>
   obtain⟨⟨t,b⟩,r⟩:=q;have h1:=read_len hr;rw[hr]at hx;simp only[]at hx;by_cases h0:t.toNat≠48∨0<r.length
   ·rw[if_pos h0]at hx;cases hx
   ·rw[if_neg h0]at hx;have:=pcs_body b x hx;omega
 generalize sqD bs=S at *;clear h hn;have HBAD:Hid (pairOf S=none→∀W,Below w.heap.size w W→SgPost w (pairOf S) (.returned (.tuple #[.slice none 0 0,.slice none 0 0,.int .i64 43])) W):=fun hk W hW=>⟨hW,.inl ⟨hk,rfl⟩⟩
 obtain⟨S1,S2⟩:=S;simp only at HSQ hlb;by_cases h0:S2=0
 rotate_left
 ·have h0b:((S2:Int) != 0)=true:=by simp;omega
  have HR:Hid (pairOf (S1,S2)=none):=by show pairOf _=_;unfold pairOf;rw[if_pos h0]
  clear h0 hlb;go_enter Tryz.func10,Tryz.ntmps10;go_wp2_with fail
  refine HSQ.mono ?_;rintro e w2 ⟨hb2,l,m,p1,c1,rfl,-,-,-⟩;clear HSQ;go_wp2_with fail
  go_ret3
  exact HBAD.out HR.out _ hb2
 subst h0;have h0b:(((0:Nat):Int) != 0)=false:=rfl;by_cases h2:S1.length=2
 rotate_left
 ·have HR:Hid (pairOf (S1,0)=none):=by
   show pairOf _=_;unfold pairOf;rw[if_neg (by simp)];match S1,h2 with
   | [],_=>rfl
   | [_],_=>rfl
   | [_,_],h2=>exact absurd rfl h2
   | _::_::_::_,_=>rfl
  have HLN:Hid (S1.length≠2):=h2;clear h2 hlb;go_enter Tryz.func10,Tryz.ntmps10;go_wp2_with fail
  refine HSQ.mono ?_;rintro e w2 ⟨hb2,l,m,p1,c1,rfl,hlm,hpc,-⟩;have hm2:m≠2:=fun e=>by have h3:=congrArg List.length hpc;unfold okP pcsOf at h3;rw[if_pos rfl,List.length_map,hlm,e]at h3;exact HLN.out h3.symm
  have hmb:((m:Int) != 2)=true:=by simp;omega
  clear HSQ hpc hlm hm2;go_wp2_with fail
  go_ret3
  exact HBAD.out HR.out _ hb2
 obtain⟨⟨t1,b1⟩,⟨t2,b2⟩,rfl⟩:∃x y,S1=[x,y]:=by
  match S1,h2 with
  | [x,y],_=>exact⟨x,y,rfl⟩
 have hl1:=hlb (t1,b1) (by simp);have hl2:=hlb (t2,b2) (by simp);simp only at hl1 hl2;have ht1:=t1.toNat_lt;have ht2:=t2.toNat_lt;obtain⟨T1,hT1⟩:∃T,t1.toNat=T:=⟨_,rfl⟩
 obtain⟨T2,hT2⟩:∃T,t2.toNat=T:=⟨_,rfl⟩
 obtain⟨L1,hL1⟩:∃T,b1.length=T:=⟨_,rfl⟩
 obtain⟨L2,hL2⟩:∃T,b2.length=T:=⟨_,rfl⟩
 have HSR:Calls Tryz.prog 36 #[.slice p n c] w fun e w2=>Below w.heap.size w w2∧∃g c1 q1 d1 q2 d2,e=.returned (.tuple #[.slice (some ⟨g,0,none⟩) 2 c1,.int .i64 0])∧w2.cell? ⟨g,0,none⟩=some (.int .u8 (T1:Int))∧w2.cell? ⟨g,1,none⟩=some (.slice q1 L1 d1)∧w2.cell? ⟨g,2,none⟩=some (.int .u8 (T2:Int))∧w2.cell? ⟨g,3,none⟩=some (.slice q2 L2 d2)∧ByV w2 (fun b=>w.heap.size≤b) q1 d1 b1∧ByV w2 (fun b=>w.heap.size≤b) q2 d2 b2∧2≤c1∧c1≤maxLen∧g<w2.heap.size:=by
  refine HSQ.mono ?_;rintro e w2 ⟨hb2,l,m,p1,c1,rfl,hlm,hpc,hps⟩;unfold okP at hpc;rw[if_pos rfl]at hpc;simp only at hpc;obtain⟨x1,x2,rfl⟩:∃x y,l=[x,y]:=by
   have h3:=congrArg List.length hpc;unfold pcsOf at h3;rw[List.length_map]at h3;match l,h3 with
   | [x,y],_=>exact⟨x,y,rfl⟩
  simp only[pcsOf,List.map_cons,List.map_nil,List.cons.injEq,Prod.mk.injEq,and_true]at hpc;obtain⟨⟨e1,e2⟩,e3,e4⟩:=hpc;obtain rfl:m=2:=by rw[←hlm];rfl
  have hm1:∃g,p1=some ⟨g,0,none⟩∧2≤c1∧c1≤maxLen∧g<w2.heap.size:=by
   rcases hps.own.2 with⟨_,h0⟩|⟨g,cap,cur,e,h5,h6,h7,h8,_⟩
   ·simp at h0
   ·injection e with e5 e6 e7;subst e7;exact⟨g,e5,h7,h8,(Array.getElem?_eq_some_iff.1 h6).1⟩
  obtain⟨g,rfl,k1,k2,k3⟩:=hm1;have a1:=own_pc hps.own rfl 0 x1 rfl;have a2:=own_pc hps.own rfl 1 x2 rfl;have v1:=hps.at_ x1 (by simp);have v2:=hps.at_ x2 (by simp);rw[e1,e2,hT1,hL1]at a1;rw[e3,e4,hT2,hL2]at a2;rw[e2]at v1;rw[e4]at v2;exact⟨hb2,g,c1,x1.p,x1.c,x2.p,x2.c,rfl,a1.1,a1.2,a2.1,a2.2,v1,v2,k1,k2,k3⟩
 have HPO:Hid (pairOf ([(t1,b1),(t2,b2)],0)=(match intO T1 b1 with
  | none=>none
  | some x=>match intO T2 b2 with
   | none=>none
   | some y=>some (x,y))):=by rw[←hT1,←hT2];rfl
 have HL:Hid (b1.length=L1∧b2.length=L2∧L1≤100000∧L2≤100000∧T1<256∧T2<256):=⟨hL1,hL2,by omega,by omega,by omega,by omega⟩
 clear HSQ hlb h2 ht1 ht2 hT1 hT2 hL1 hL2 hl1 hl2;go_enter Tryz.func10,Tryz.ntmps10;go_wp2_with fail
 refine HSR.mono ?_;rintro e w2 ⟨hb2,g,c1,q1,d1,q2,d2,rfl,x0,x1,x2,x3,v1,v2,hc1,hc2,hg⟩;have HI1:=derIntO T1 HL.out.2.2.2.2.1 q1 L1 d1 b1 _ w2 HL.out.1 v1 (by have:=HL.out;omega);have HB2:Hid (Below w.heap.size w w2∧ByV w2 (fun b=>w.heap.size≤b) q2 d2 b2∧g<w2.heap.size∧w2.cell? ⟨g,2,none⟩=some (.int .u8 (T2:Int))∧w2.cell? ⟨g,3,none⟩=some (.slice q2 L2 d2)):=⟨hb2,v2,hg,x2,x3⟩
 have hcI:(2:Int)≤(c1:Int):=by omega
 unfold maxLen at hc2;clear HSR v1 v2 hb2 hg;go_wp2_with fail
 refine HI1.mono ?_;rintro e w3 ⟨n1,n2,n3,kk1,rfl,hb3,hc⟩;clear HI1 x0 x1 x2 x3;have v2:=HB2.out.2.1.below hb3;have x2:=(hb3.cell (p:=⟨g,2,none⟩) HB2.out.2.2.1).trans HB2.out.2.2.2.1;have x3:=(hb3.cell (p:=⟨g,3,none⟩) HB2.out.2.2.1).trans HB2.out.2.2.2.2;have HI2:=derIntO T2 HL.out.2.2.2.2.2 q2 L2 d2 b2 _ w3 HL.out.2.1 v2 (by have:=HL.out;omega);have HB3:Hid (Below w.heap.size w w3∧((intO T1 b1=none∧kk1≠(0:Nat))∨∃x,intO T1 b1=some x∧kk1=0∧Nc w3 (.slice n1 n2 n3) (nI x) 64)):=⟨HB2.out.1.trans (hb3.mono HB2.out.1.size),hc⟩
 clear v2 hb3 hc HB2;go_wp2_with fail
 refine HI2.mono ?_;rintro e w4 ⟨m1,m2,m3,kk2,rfl,hb4,hc4⟩;clear HI2 x2 x3;have HB4:Hid (Below w.heap.size w w4):=HB3.out.1.trans (hb4.mono HB3.out.1.size);rcases HB3.out.2 with⟨h5,h6⟩|⟨x,h5,h6,h7⟩
 ·have h6b:((kk1:Int) != 0)=true:=by simp;omega
  have HR:Hid (pairOf ([(t1,b1),(t2,b2)],0)=none):=by show pairOf _=_;rw[HPO.out,h5]
  clear hc4 hb4 h5 h6;go_wp2_with fail
  go_ret3
  exact HBAD.out HR.out _ HB4.out
 ·subst h6;have h6b:(((0:Nat):Int) != 0)=false:=rfl;rcases hc4 with⟨h8,h9⟩|⟨y,h8,h9,h10⟩
  ·have h9b:((kk2:Int) != 0)=true:=by simp;omega
   have HR:Hid (pairOf ([(t1,b1),(t2,b2)],0)=none):=by show pairOf _=_;rw[HPO.out,h5];simp only[];rw[h8]
   clear hb4 h5 h7 h8 h9;go_wp2_with fail
   go_ret3
   exact HBAD.out HR.out _ HB4.out
  ·subst h9;have HFIN:Hid (SgPost w (pairOf ([(t1,b1),(t2,b2)],0)) (.returned (.tuple #[.slice n1 n2 n3,.slice m1 m2 m3,.int .i64 0])) w4):=by
    refine⟨HB4.out,.inr ⟨x,y,_,_,_,_,_,_,?_,rfl,h7.old hb4,h10⟩⟩;rw[HPO.out,h5];simp only[];rw[h8]
   clear hb4 h5 h7 h8 h10;go_wp2_with fail
   go_ret3
   exact HFIN.out
end
section
open Go.RowKit
structure Iv(m a r s x y:Int):Prop where
 r0:0≤r
 s0:0≤s
 rm:r≤m
 sm:s≤m
 gd:gd r s=gd m a
 cx:Cg m (x*a) r
 cy:Cg m (y*a) s
 sg:(0≤x∧y≤0)∨(x≤0∧0≤y)
 eq:r*(if 0≤y then y else -y)+s*(if 0≤x then x else -x)=m
 bx : -m≤x∧x≤m
 by_ : -m≤y∧y≤m
theorem Iv.start{m a:Int}(hm:0<m)(ha:0≤a)(ham:a<m):Iv m a m a 0 1:=by
 refine⟨by omega,ha,by omega,by omega,rfl,?_,?_,.inr ⟨by omega,by omega⟩,by simp,by omega,by omega⟩
 ·exact⟨-1,by omega⟩
 ·exact⟨0,by omega⟩
theorem Iv.step{m a r s x y:Int}(h:Iv m a r s x y)(hm:0<m)(hs:s≠0):Iv m a s (r-r/s*s) y (x-r/s*y)∧0≤r/s∧r/s≤m ∧ -m-m≤r/s*y∧r/s*y≤m+m∧0≤r/s*s∧r/s*s≤r∧r-r/s*s<s:=by
 obtain⟨r0,s0,rm,sm,hg,cx,cy,sg,eq,bx,hy⟩:=h;have hsp:0<s:=by omega
 have hq0:0≤r/s:=Int.ediv_nonneg r0 s0;have hmod:r-r/s*s=r%s:=by have:=Int.emod_add_mul_ediv r s;rw[Int.mul_comm]at this;omega
 have hm0:0≤r%s:=Int.emod_nonneg _ (by omega);have hm1:r%s<s:=Int.emod_lt_of_pos _ hsp;obtain⟨q,hq⟩:∃q,r/s=q:=⟨_,rfl⟩
 rw[hq]at hq0 hmod ⊢;have hqr:q≤r:=by have:q*1≤q*s:=Int.mul_le_mul_of_nonneg_left (by omega) hq0;omega
 have heq2:s*(if 0≤x-q*y then x-q*y else -(x-q*y))+(r-q*s)*(if 0≤y then y else -y)=m:=by
  rcases sg with⟨hx,hyy⟩|⟨hx,hyy⟩
  ·have hqy:q*y≤0:=by
    have:=Int.mul_nonneg hq0 (show 0 ≤ -y by omega);rw[Int.mul_neg]at this;omega
   rw[if_pos (by omega)];rw[if_pos hx]at eq;by_cases y0:0≤y
   ·have:y=0:=by omega
    subst this;simp at eq ⊢;rw[eq]
   ·rw[if_neg y0]at eq ⊢;rw[←eq]
    grind
  ·have hqy:0≤q*y:=Int.mul_nonneg hq0 hyy;rw[if_pos hyy]at eq ⊢;by_cases x0:0≤x
   ·have:x=0:=by omega
    subst this;simp at eq;by_cases h1:0≤0-q*y
    ·have:q*y=0:=by omega
     rw[if_pos h1,←eq]
     grind
    ·rw[if_neg h1,←eq]
     grind
   ·rw[if_neg x0]at eq;rw[if_neg (by omega),←eq]
    grind
 have hab:∀z:Int,0≤(if 0≤z then z else -z):=fun z=>by split<;>omega
 have hby : -m≤x-q*y∧x-q*y≤m:=by
  have h1:=hab (x-q*y);have h2:=Int.mul_nonneg (show 0≤r-q*s by rw[hmod];exact hm0) (hab y);have h3:1*(if 0≤x-q*y then x-q*y else -(x-q*y))≤s*(if 0≤x-q*y then x-q*y else -(x-q*y)):=Int.mul_le_mul_of_nonneg_right (by omega) h1;have h4:(if 0≤x-q*y then x-q*y else -(x-q*y))≤m:=by omega
  split at h4<;>omega
 refine⟨⟨s0,by rw[hmod];exact hm0,sm,by rw[hmod];omega,?_,cy,?_,?_,heq2,hy,hby⟩,hq0,by omega,by omega,by omega,Int.mul_nonneg hq0 s0,by omega,by rw[hmod];exact hm1⟩
 ·rw[hmod,←gd_step r s r0 s0,hg]
 ·have:=cx.sub ((Cg.refl m q).mul cy);have e:(x-q*y)*a=x*a-q*(y*a):=by grind
  rw[e];exact this
 ·rcases sg with⟨hx,hyy⟩|⟨hx,hyy⟩
  ·right;have:=Int.mul_nonneg hq0 (show 0 ≤ -y by omega);rw[Int.mul_neg]at this;omega
  ·left;have hqy:0≤q*y:=Int.mul_nonneg hq0 hyy;omega
theorem gm_eq{a m:Int}(hm:0<m):(a.tmod m+m).tmod m=a%m:=by have h1:=Int.lt_tmod_of_pos a hm;rw[Int.tmod_eq_emod_of_nonneg (by omega),Int.add_emod_right,Int.tmod_def,Int.sub_mul_emod_self_left]
theorem tm_zero{a m:Int}:(a.tmod m=0)↔a%m=0:=by rw[←Int.dvd_iff_tmod_eq_zero,←Int.dvd_iff_emod_eq_zero]
theorem tm_em{a m:Int}:(a.tmod m)%m=a%m:=by rw[Int.tmod_def,Int.sub_mul_emod_self_left]
theorem iv_done{m a r x y:Int}(h:Iv m a r 0 x y)(hm:0<m)(ha:0≤a):r=gd m a∧(gd m a=1→Cg m ((x%m)*a) 1∧0≤x%m∧x%m<m):=by
 have e:r=gd m a:=by rw[←h.gd,gd_zero r h.r0]
 refine⟨e,fun h1=>⟨?_,Int.emod_nonneg _ (by omega),Int.emod_lt_of_pos _ hm⟩⟩;have:=h.cx;rw[e,h1]at this;exact((Cg.mod m x).mul (Cg.refl m a)).trans this
end
section
open Go.Shelf Go.RowKit
def noZ:Pz:=⟨0,0,true⟩
def ownZ (p:Pz):Pz:=if p.inf then noZ else p
def sumX (K:Cz)(p q:Pz)(s:Int):Int:=(((s*s)%K.p-p.x)%K.p-q.x)%K.p
def sumY (K:Cz)(p q:Pz)(s:Int):Int:=((s*((p.x-sumX K p q s)%K.p))%K.p-p.y)%K.p
def AddN (K:Cz)(p q:Pz)(r:Option Pz):Prop:=
 if runZ K p q=0 then r=some noZ else if gd K.p (runZ K p q%K.p)≠1 then r=none else ∃n,0≤n∧n<K.p∧Cg K.p (n*runZ K p q) 1∧r=some ⟨sumX K p q ((riseZ K p q*n)%K.p),sumY K p q ((riseZ K p q*n)%K.p),false⟩
def AddZ (K:Cz)(p q:Pz)(r:Option Pz):Prop:=
 if K.p=0 then r=none else if p.inf then r=some (ownZ q) else if q.inf then r=some (ownZ p) else AddN K p q r
def Pa (w w':World)(e:Ending)(r:Option Pz)(L:Nat):Prop:=Below w.heap.size w w'∧((∃v p,r=some p∧e=.returned (.tuple #[v,.bool true])∧Pv w' v p L)∨(r=none∧e=.returned (.tuple #[.agg #[.slice none 0 0,.slice none 0 0,.bool false],.bool false])))
theorem nv_nil(w:World)(L:Nat):Nv w (.slice none 0 0) 0 L:=⟨none,0,0,[],rfl,NumIn.nil,rfl,Nat.zero_le _⟩
theorem pv_no(w:World)(L:Nat):Pv w (.agg #[.slice none 0 0,.slice none 0 0,.bool true]) noZ L:=⟨_,_,rfl,nv_nil w L,nv_nil w L⟩
structure Bt(g:Nat)(w w':World):Prop where
 os:w'.os=w.os
 tape:w'.tape=w.tape
 output:w'.output=w.output
 size:w.heap.size≤w'.heap.size
 block:∀k,k<w.heap.size→k≠g→w'.heap[k]?=w.heap[k]?
theorem Bt.below{g B:Nat}{w w':World}(h:Bt g w w')(hB:B≤g)(hw:B≤w.heap.size):Below B w w':=⟨h.os,h.tape,h.output,h.size,fun k hk=>h.block k (by omega) (by omega)⟩
theorem Bt.trans{g:Nat}{a b c:World}(h:Bt g a b)(k:Bt g b c):Bt g a c:=
 ⟨k.os.trans h.os,k.tape.trans h.tape,k.output.trans h.output,Nat.le_trans h.size k.size,fun i hi hg=>(k.block i (Nat.lt_of_lt_of_le hi h.size) hg).trans (h.block i hi hg)⟩
theorem Bt.setCell(g:Nat)(w:World)(j:Nat)(v:Value):Bt g w (w.setCell ⟨g,j,none⟩ v):=⟨rfl,rfl,rfl,by simp[World.setCell],fun k _ hk=>Below.heap_setCell w ⟨g,j,none⟩ v k hk⟩
def PSl (w:World)(r:Nat)(c0 c1 c2:Value):Prop:=w.heap[r]?=some (.cells #[c0,c1,c2] 26 (0,0))
theorem PSl.lt{w:World}{r:Nat}{c0 c1 c2:Value}(h:PSl w r c0 c1 c2):r<w.heap.size:=(Array.getElem?_eq_some_iff.1 h).1
theorem PSl.keep{w w':World}{r:Nat}{c0 c1 c2:Value}(h:PSl w r c0 c1 c2)(hb:Below w.heap.size w w'):PSl w' r c0 c1 c2:=(hb.block _ h.lt).trans h
theorem PSl.facts{w:World}{r:Nat}{c0 c1 c2:Value}(h:PSl w r c0 c1 c2):w.cell? ⟨r,0,none⟩=some c0∧w.cell? ⟨r,1,none⟩=some c1∧w.cell? ⟨r,2,none⟩=some c2∧w.frozen? ⟨r,0,none⟩=false∧w.frozen? ⟨r,1,none⟩=false∧w.frozen? ⟨r,2,none⟩=false:=
 ⟨by rw[cell_of_row _ _ _ _ _ _ h];rfl,by rw[cell_of_row _ _ _ _ _ _ h];rfl,by rw[cell_of_row _ _ _ _ _ _ h];rfl,frozen_of_row w r 0 _ _ h,frozen_of_row w r 1 _ _ h,frozen_of_row w r 2 _ _ h⟩
theorem heap_set7(w:World)(g j:Nat)(v:Value)(cs:Array Value)(t:TypeId)(fr:Nat × Nat)(h:w.heap[g]?=some (.cells cs t fr)):(w.setCell ⟨g,j,none⟩ v).heap[g]?=some (.cells (cs.setIfInBounds j v) t fr):=by have hlt:=(Array.getElem?_eq_some_iff.1 h).1;have he:w.heap[g]=.cells cs t fr:=(Array.getElem?_eq_some_iff.1 h).2;simp[World.setCell,hlt];rw[Array.getElem_modify];simp[he]
theorem PSl.set3{w:World}{r:Nat}{c0 c1 c2:Value}(h:PSl w r c0 c1 c2)(d0 d1 d2:Value):PSl (((w.setCell ⟨r,0,none⟩ d0).setCell ⟨r,1,none⟩ d1).setCell ⟨r,2,none⟩ d2) r d0 d1 d2:=by have h1:=heap_set7 w r 0 d0 _ _ _ h;have h2:=heap_set7 _ r 1 d1 _ _ _ h1;exact heap_set7 _ r 2 d2 _ _ _ h2
theorem Bt.set3(w:World)(r:Nat)(d0 d1 d2:Value):Bt r w (((w.setCell ⟨r,0,none⟩ d0).setCell ⟨r,1,none⟩ d1).setCell ⟨r,2,none⟩ d2):=((Bt.setCell r w 0 d0).trans (Bt.setCell r _ 1 d1)).trans (Bt.setCell r _ 2 d2)
theorem Nv.apart{w w':World}{v:Value}{n:Int}{L r:Nat}{a1 a2:Option Addr}{l1 k1 l2 k2:Nat}{b:Bool}(h:Nv w v n L)(hs:PSl w r (.slice a1 l1 k1) (.slice a2 l2 k2) (.bool b))(hb:Bt r w w'):Nv w' v n L:=by
 obtain⟨ao,len,cap,xs,e,h1,h2,h3⟩:=h;refine⟨ao,len,cap,xs,e,⟨⟨h1.len,?_⟩,h1.lc,h1.cm,h1.nn,h1.dg,h1.sm⟩,h2,h3⟩;by_cases h0:len=0
 ·exact .inl h0
 ·obtain⟨b',off,e2,hlt,hc⟩:=h1.lies.at (by omega);have hne:b'≠r:=fun e3=>by
   subst e3;have h4:=hc 0 (by omega);rw[cell_of_row _ _ _ _ _ _ hs]at h4;obtain⟨o,ho⟩:∃o,off+0=o:=⟨_,rfl⟩
   rw[ho]at h4;match o,h4 with
   | 0,h4=>cases h4
   | 1,h4=>cases h4
   | 2,h4=>cases h4
   | k+3,h4=>simp at h4
  exact .inr ⟨b',off,e2,Nat.lt_of_lt_of_le hlt hb.size,fun i hi=>(World.cell?_of_block (w:=w) (hb.block b' hlt hne)).trans (hc i hi)⟩
theorem sizePt:(Tryz.prog.info? 26).map (·.size)=some 3:=by kernel_rfl
theorem ret_pt{fn:Func}{p u:Tmp}(h:fn.results=#[.cell p 26,.tmp u])(tmps:Array Value)(w:World)(g:Nat)(c0 c1 c2:Value)(hp:tmps.getD p undef=.pointer (some ⟨g,0,none⟩))(hg:PSl w g c0 c1 c2):
  (results fn tmps).run Tryz.prog w=.ok (.tuple #[.agg #[c0,c1,c2],tmps.getD u undef]) w:=by
 rw[results_cell_tmp h,hp];have hl:=run_loadVar_row (P:=Tryz.prog) w g 26 26 #[c0,c1,c2] (0,0) _ hg Tryz.underlying26 rfl sizePt;simp[asAddr,Result.andThen,hl]
theorem ret_pt1{fn:Func}{p:Tmp}(h:fn.results=#[.cell p 26])(tmps:Array Value)(w:World)(g:Nat)(c0 c1 c2:Value)(hp:tmps.getD p undef=.pointer (some ⟨g,0,none⟩))(hg:PSl w g c0 c1 c2):
  (results fn tmps).run Tryz.prog w=.ok (.agg #[c0,c1,c2]) w:=
 results_cell_row h tmps w g 26 _ (0,0) _ hp hg Tryz.underlying26 rfl sizePt
theorem nothing_any(w:World):Calls Tryz.prog 139 #[] w fun e w'=>e=.returned (.agg #[.slice none 0 0,.slice none 0 0,.bool true])∧Below w.heap.size w w':=by go_enter Tryz.func139,Tryz.ntmps139;go_wp2;refine bodyPost_ret (ret_pt1 rfl _ _ w.heap.size _ _ _ rfl (heap_alloc_new w _)) rfl ?_;exact⟨rfl,(Below.refl _ _).alloc (Nat.le_refl _) _⟩
structure FrA(W:World)(b:Nat)(pv qv:Array Value)(m:Value):Prop where
 p:W.heap[b+1]?=some (.cells pv 26 (0,0))
 q:W.heap[b+1+1]?=some (.cells qv 26 (0,0))
 r:PSl W (b+1+1+1) (.slice none 0 0) (.slice none 0 0) (.bool false)
 f:W.heap[b+1+1+1+1]?=some (.cells #[m] 176 (0,0))
theorem frA_new(w:World)(cv pv qv:Array Value)(m:Value):FrA (((((w.alloc (.cells cv 52)).alloc (.cells pv 26)).alloc (.cells qv 26)).alloc (.cells #[.slice none 0 0,.slice none 0 0,.bool false] 26)).alloc (.cells #[m] 176)) w.heap.size pv qv m∧Below w.heap.size w (((((w.alloc (.cells cv 52)).alloc (.cells pv 26)).alloc (.cells qv 26)).alloc (.cells #[.slice none 0 0,.slice none 0 0,.bool false] 26)).alloc (.cells #[m] 176)):=by
 obtain⟨w1,e1⟩:∃x,w.alloc (.cells cv 52)=x:=⟨_,rfl⟩
 obtain⟨w2,e2⟩:∃x,w1.alloc (.cells pv 26)=x:=⟨_,rfl⟩
 obtain⟨w3,e3⟩:∃x,w2.alloc (.cells qv 26)=x:=⟨_,rfl⟩
 obtain⟨w4,e4⟩:∃x,w3.alloc (.cells #[.slice none 0 0,.slice none 0 0,.bool false] 26)=x:=⟨_,rfl⟩
 have z1:w1.heap.size=w.heap.size+1:=by rw[←e1];exact alloc_sz7 _ _
 have z2:w2.heap.size=w.heap.size+1+1:=by rw[←e2,alloc_sz7,z1]
 have z3:w3.heap.size=w.heap.size+1+1+1:=by rw[←e3,alloc_sz7,z2]
 have z4:w4.heap.size=w.heap.size+1+1+1+1:=by rw[←e4,alloc_sz7,z3]
 have n2:w2.heap[w.heap.size+1]?=some (.cells pv 26 (0,0)):=by rw[←e2,←z1];exact heap_alloc_new w1 _
 have n3:w3.heap[w.heap.size+1+1]?=some (.cells qv 26 (0,0)):=by rw[←e3,←z2];exact heap_alloc_new w2 _
 have n4:w4.heap[w.heap.size+1+1+1]?=some (.cells #[.slice none 0 0,.slice none 0 0,.bool false] 26 (0,0)):=by rw[←e4,←z3];exact heap_alloc_new w3 _
 have n5:=heap_alloc_new w4 (.cells #[m] 176);rw[z4]at n5;have m2:w3.heap[w.heap.size+1]?=some (.cells pv 26 (0,0)):=by rw[←e3];exact heap_new n2 (by omega)
 have k2:w4.heap[w.heap.size+1]?=some (.cells pv 26 (0,0)):=by rw[←e4];exact heap_new m2 (by omega)
 have k3:w4.heap[w.heap.size+1+1]?=some (.cells qv 26 (0,0)):=by rw[←e4];exact heap_new n3 (by omega)
 have bb:Below w.heap.size w (w4.alloc (.cells #[m] 176)):=by rw[←e4,←e3,←e2,←e1];exact(((((Below.refl w.heap.size w).alloc (Nat.le_refl _) _).alloc (by rw[alloc_sz7];omega) _).alloc (by rw[alloc_sz7,alloc_sz7];omega) _).alloc (by rw[alloc_sz7,alloc_sz7,alloc_sz7];omega) _).alloc (by rw[alloc_sz7,alloc_sz7,alloc_sz7,alloc_sz7];omega) _
 rw[e1,e2,e3,e4];exact⟨⟨heap_new k2 (by omega),heap_new k3 (by omega),heap_new n4 (by omega),n5⟩,bb⟩
theorem FrA.keep{W W':World}{b:Nat}{pv qv:Array Value}{m:Value}(h:FrA W b pv qv m)(hb:Below W.heap.size W W'):FrA W' b pv qv m:=
 ⟨(hb.block _ (Array.getElem?_eq_some_iff.1 h.p).1).trans h.p,(hb.block _ (Array.getElem?_eq_some_iff.1 h.q).1).trans h.q,h.r.keep hb,(hb.block _ (Array.getElem?_eq_some_iff.1 h.f).1).trans h.f⟩
theorem FrA.cells{W:World}{b:Nat}{p0 p1 p2 q0 q1 q2 m:Value}(h:FrA W b #[p0,p1,p2] #[q0,q1,q2] m):W.cell? ⟨b+1,0,none⟩=some p0∧W.cell? ⟨b+1,1,none⟩=some p1∧W.cell? ⟨b+1+1,0,none⟩=some q0∧W.cell? ⟨b+1+1+1+1,0,none⟩=some m:=by
 refine⟨?_,?_,?_,?_⟩
 ·rw[cell_of_row _ _ _ _ _ _ h.p];rfl
 ·rw[cell_of_row _ _ _ _ _ _ h.p];rfl
 ·rw[cell_of_row _ _ _ _ _ _ h.q];rfl
 ·rw[cell_of_row _ _ _ _ _ _ h.f];rfl
theorem addNumbers_any(c p q:Value)(K:Cz)(P Q:Pz)(L:Nat)(w:World)(hc:Cu w c K L)(hp:Pv w p P L)(hq:Pv w q Q L)(h0:K.p≠0)(hL:1≤L∧L≤1000):
  Calls Tryz.prog 141 #[c,p,q] w fun e w'=>∃r,AddN K P Q r∧Pa w w' e r L:=by
 have HS:=fun W (hW:Below w.heap.size w W)=>slope_any c p q K P Q L W (hc.old hW) (hp.old hW) (hq.old hW) h0 hL;obtain⟨g1,g2,oo,lo,co,vp,va,vb,vx,vy,vn,rfl,c1,c2,c3,c4,c5,c6⟩:=hc;obtain⟨px,py,rfl,p1,p2⟩:=hp;obtain⟨qx,qy,rfl,q1,q2⟩:=hq;obtain⟨a1,a2,a3,a4,rfl,a5⟩:=c1;obtain⟨b1,b2,b3,b4,rfl,b5⟩:=c2;obtain⟨d1,d2,d3,d4,rfl,d5⟩:=c3;obtain⟨e1,e2,e3,e4,rfl,e5⟩:=c4;obtain⟨f1,f2,f3,f4,rfl,f5⟩:=c5;obtain⟨j1,j2,j3,j4,rfl,j5⟩:=c6;obtain⟨k1,k2,k3,k4,rfl,k5⟩:=p1;obtain⟨l1,l2,l3,l4,rfl,l5⟩:=p2;obtain⟨m1,m2,m3,m4,rfl,m5⟩:=q1;obtain⟨n1,n2,n3,n4,rfl,n5⟩:=q2;have FZ:=frA_new w #[.int .i64 g1,.int .i64 g2,.slice oo lo co,.slice a1 a2 a3,.slice b1 b2 b3,.slice d1 d2 d3,.slice e1 e2 e3,.slice f1 f2 f3,.slice j1 j2 j3] #[.slice k1 k2 k3,.slice l1 l2 l3,.bool P.inf] #[.slice m1 m2 m3,.slice n1 n2 n3,.bool Q.inf] (.slice a1 a2 a3);obtain⟨FZ,hb⟩:=FZ;have HSW:=HS _ hb;obtain⟨RI,hRI⟩:∃r,riseZ K P Q=r:=⟨_,rfl⟩
 obtain⟨RU,hRU⟩:∃r,runZ K P Q=r:=⟨_,rfl⟩
 have HRI:Hid (riseZ K P Q=RI∧runZ K P Q=RU):=⟨hRI,hRU⟩
 rw[hRI,hRU]at HSW;clear hRI hRU;have HFS:Hid (FrA _ w.heap.size #[.slice k1 k2 k3,.slice l1 l2 l3,.bool P.inf] #[.slice m1 m2 m3,.slice n1 n2 n3,.bool Q.inf] (.slice a1 a2 a3)):=FZ;clear FZ HS;go_enter Tryz.func141,Tryz.ntmps141;go_wp2_with fail
 go_at_call 150;refine HSW.mono ?_;rintro e w1 ⟨v1,v2,rfl,hv1,hv2,hb1⟩;have F1:=HFS.out.keep hb1;have B1:=hb.trans (hb1.mono hb.size);have HZ:=isZero_any v2 RU L w1 hv2;have HN:=nothing_any w1;have s1:=F1.r;obtain⟨x1,x2,x3,x4⟩:=F1.cells;have HQ:=fun hg=>quot_yes v1 v2 (.slice a1 a2 a3) RI RU K.p L L w1 hv1 hv2 (Nv.old ⟨a1,a2,a3,a4,rfl,a5⟩ B1) h0 hg (by omega);have HQn:=fun hg=>quot_no v1 v2 (.slice a1 a2 a3) RI RU K.p L L w1 hv1 hv2 (Nv.old ⟨a1,a2,a3,a4,rfl,a5⟩ B1) h0 hg (by omega);obtain⟨t1,t2,t3,t4,rfl,t5⟩:=hv1;obtain⟨u1,u2,u3,u4,rfl,u5⟩:=hv2;clear HSW;by_cases hz:RU=0
 ·have hd:decide (RU=0)=true:=by simp[hz]
  rw[hd]at HZ;go_wp2_with (first
   | (go_at_call 105;refine HZ.mono ?_;rintro e w2 ⟨rfl,rfl⟩)
   | (go_at_call 139;refine HN.mono ?_;rintro e w3 ⟨rfl,hb3⟩;have s3:=s1.keep hb3;obtain⟨y0,y1,y2,y3,y4,y5⟩:=s3.facts))
  refine bodyPost_ret (ret_pt rfl _ _ (w.heap.size+1+1+1) _ _ _ rfl (s3.set3 (.slice none 0 0) (.slice none 0 0) (.bool true))) rfl ?_;have bt:=Bt.set3 w3 (w.heap.size+1+1+1) (.slice none 0 0) (.slice none 0 0) (.bool true);have B3:=B1.trans (hb3.mono B1.size);refine⟨some noZ,?_,B3.trans (bt.below (by omega) B3.size),.inl ⟨_,noZ,rfl,rfl,pv_no _ L⟩⟩;unfold AddN;rw[HRI.out.2,if_pos hz]
 ·have hd:decide (RU=0)=false:=by simp[hz]
  rw[hd]at HZ;by_cases hg:gd K.p (RU%K.p)=1
  ·have HQ2:=HQ hg;clear HQ HQn HN;go_wp2_with (first
    | (go_at_call 105;refine HZ.mono ?_;rintro e w2 ⟨rfl,rfl⟩)
    | (go_at_call 151;refine HQ2.mono ?_;rintro e w3 ⟨v3,n,rfl,⟨hv3,hb3⟩,hn⟩;have F3:=F1.keep hb3;have B3:=B1.trans (hb3.mono B1.size);have hv3':=hv3;obtain⟨z1,z2,z3,z4,rfl,z5⟩:=hv3;clear x1 x2 x3 x4;obtain⟨y1,y2,y3,y4⟩:=F3.cells))
   have HK:=fun(W:World) (hW:Below w3.heap.size w3 W)=>(F3.keep hW).cells;have K3:=HK w3 (Below.refl _ _);have K3d:=HK w3.drew (Below.refl _ _).drew;have HP1:=fun W (hW:Below w.heap.size w W) (h3:Below w3.heap.size w3 W)=>product_any (.slice z1 z2 z3) (.slice z1 z2 z3) (.slice a1 a2 a3) _ _ K.p L L W (hv3'.old h3) (hv3'.old h3) (Nv.old ⟨a1,a2,a3,a4,rfl,a5⟩ hW) h0 (by omega);have HP2:=fun W (hW:Below w.heap.size w W) (h3:Below w3.heap.size w3 W) v m (hv:Nv W v m L)=>product_any (.slice z1 z2 z3) v (.slice a1 a2 a3) _ m K.p L L W (hv3'.old h3) hv (Nv.old ⟨a1,a2,a3,a4,rfl,a5⟩ hW) h0 (by omega);have HM1:=fun W (hW:Below w.heap.size w W) v m (hv:Nv W v m L)=>minus_any v (.slice k1 k2 k3) (.slice a1 a2 a3) m P.x K.p L L W hv (Nv.old ⟨k1,k2,k3,k4,rfl,k5⟩ hW) (Nv.old ⟨a1,a2,a3,a4,rfl,a5⟩ hW) h0 (by omega);have HM2:=fun W (hW:Below w.heap.size w W) v m (hv:Nv W v m L)=>minus_any v (.slice m1 m2 m3) (.slice a1 a2 a3) m Q.x K.p L L W hv (Nv.old ⟨m1,m2,m3,m4,rfl,m5⟩ hW) (Nv.old ⟨a1,a2,a3,a4,rfl,a5⟩ hW) h0 (by omega);have HM3:=fun W (hW:Below w.heap.size w W) v m (hv:Nv W v m L)=>minus_any (.slice k1 k2 k3) v (.slice a1 a2 a3) P.x m K.p L L W (Nv.old ⟨k1,k2,k3,k4,rfl,k5⟩ hW) hv (Nv.old ⟨a1,a2,a3,a4,rfl,a5⟩ hW) h0 (by omega);have HM4:=fun W (hW:Below w.heap.size w W) v m (hv:Nv W v m L)=>minus_any v (.slice l1 l2 l3) (.slice a1 a2 a3) m P.y K.p L L W hv (Nv.old ⟨l1,l2,l3,l4,rfl,l5⟩ hW) (Nv.old ⟨a1,a2,a3,a4,rfl,a5⟩ hW) h0 (by omega);have HP1d:=HP1 w3.drew B3.drew (Below.refl _ _).drew;have T1:True:=trivial;go_region_held3 (fun W=>W.cell? ⟨w.heap.size+1,0,none⟩=some (.slice k1 k2 k3)∧W.cell? ⟨w.heap.size+1,1,none⟩=some (.slice l1 l2 l3)∧W.cell? ⟨w.heap.size+1+1,0,none⟩=some (.slice m1 m2 m3)∧W.cell? ⟨w.heap.size+1+1+1+1,0,none⟩=some (.slice a1 a2 a3))
    (first|exact K3|exact K3d|exact K4|exact K5|exact K6) (first
    | (go_at_call 107;refine HP1d.mono ?_;rintro e w4 ⟨v4,rfl,hv4,hb4⟩;have C4:=((Below.refl w3.heap.size w3).drew).trans (hb4.mono (Nat.le_refl _));have K4:=HK w4 C4;have HM1d:=HM1 w4 (B3.trans (C4.mono B3.size)) v4 _ hv4;obtain⟨o1,o2,o3,o4,rfl,o5⟩:=hv4)
    | (go_at_call 152;clear T1;refine HM1d.mono ?_;rintro e w5 ⟨v5,rfl,hv5,hb5⟩;have C5:=C4.trans (hb5.mono C4.size);have K5:=HK w5 C5;have HM2d:=HM2 w5 (B3.trans (C5.mono B3.size)) v5 _ hv5;obtain⟨r1,r2,r3,r4,rfl,r5⟩:=hv5)
    | (go_at_call 152;refine HM2d.mono ?_;rintro e w6 ⟨v6,rfl,hv6,hb6⟩;have C6:=C5.trans (hb6.mono C5.size);have K6:=HK w6 C6;have hv6':=hv6;obtain⟨s1,s2,s3,s4,rfl,s5⟩:=hv6))
   go_wp2_with fail
   have B6:=B3.trans (C6.mono B3.size);have C6d:=C6.drew;have K6d:=HK w6.drew C6d;have HM3d:=HM3 w6.drew B6.drew (.slice s1 s2 s3) _ (hv6'.old (Below.refl _ _).drew);have T1:True:=trivial;clear HM1d HM2d HP1d K3 K3d K4 K5 HZ HQ2 y1 y2 y3 y4;go_region_held3 (fun W=>W.cell? ⟨w.heap.size+1,0,none⟩=some (.slice k1 k2 k3)∧W.cell? ⟨w.heap.size+1,1,none⟩=some (.slice l1 l2 l3)∧W.cell? ⟨w.heap.size+1+1,0,none⟩=some (.slice m1 m2 m3)∧W.cell? ⟨w.heap.size+1+1+1+1,0,none⟩=some (.slice a1 a2 a3))
    (first|exact K6|exact K6d|exact K7|exact K8|exact K9) (first
    | (go_at_call 152;clear T1;refine HM3d.mono ?_;rintro e w7 ⟨v7,rfl,hv7,hb7⟩;have C7:=C6d.trans (hb7.mono C6d.size);have K7:=HK w7 C7;have HP2d:=HP2 w7 (B3.trans (C7.mono B3.size)) C7 v7 _ hv7;obtain⟨o1',o2',o3',o4',rfl,o5'⟩:=hv7)
    | (go_at_call 107;refine HP2d.mono ?_;rintro e w8 ⟨v8,rfl,hv8,hb8⟩;have C8:=C7.trans (hb8.mono C7.size);have K8:=HK w8 C8;have HM4d:=HM4 w8 (B3.trans (C8.mono B3.size)) v8 _ hv8;obtain⟨r1',r2',r3',r4',rfl,r5'⟩:=hv8)
    | (go_at_call 152;refine HM4d.mono ?_;rintro e w9 ⟨v9,rfl,hv9,hb9⟩;have C9:=C8.trans (hb9.mono C8.size);have K9:=HK w9 C9;have hv9':=hv9;obtain⟨q1',q2',q3',q4',rfl,q5'⟩:=hv9))
   have s9:=(F3.keep C9).r;obtain⟨i0,i1,i2,i3,i4,i5⟩:=s9.facts;clear HM3d HP2d HM4d;go_wp2_with fail
   refine bodyPost_ret (ret_pt rfl _ _ (w.heap.size+1+1+1) _ _ _ rfl (s9.set3 (.slice s1 s2 s3) (.slice q1' q2' q3') (.bool false))) rfl ?_;have bt:=Bt.set3 w9 (w.heap.size+1+1+1) (.slice s1 s2 s3) (.slice q1' q2' q3') (.bool false);have B9:=B3.trans (C9.mono B3.size);have hx:=hv6'.old ((((Below.refl w6.heap.size w6).drew).trans (hb7.mono (Nat.le_refl _))).trans ((hb8.mono hb7.size).trans (hb9.mono (Nat.le_trans hb7.size hb8.size))));refine⟨some ⟨sumX K P Q ((riseZ K P Q*n)%K.p),sumY K P Q ((riseZ K P Q*n)%K.p),false⟩,?_,B9.trans (bt.below (by omega) B9.size),.inl ⟨_,_,rfl,rfl,_,_,rfl,?_,?_⟩⟩
   ·unfold AddN;rw[HRI.out.2,if_neg hz,if_neg (by simp[hg])];exact⟨n,hn.1,hn.2.1,hn.2.2,rfl⟩
   ·have h1:=hx.apart s9 bt;rw[HRI.out.1];exact h1
   ·have h1:=hv9'.apart s9 bt;rw[HRI.out.1];exact h1
  ·have HQ2:=HQn hg;clear HQ HQn HN;obtain⟨r0,r1,r2,r3,r4,r5⟩:=s1.facts;go_wp2_with (first
    | (go_at_call 105;refine HZ.mono ?_;rintro e w2 ⟨rfl,rfl⟩)
    | (go_at_call 151;refine HQ2.mono ?_;rintro e w3 ⟨rfl,hb3⟩;have s3:=s1.keep hb3;obtain⟨y0,y1,y2,y3,y4,y5⟩:=s3.facts))
   refine bodyPost_ret (ret_pt rfl _ _ (w.heap.size+1+1+1) _ _ _ rfl (s3.set3 (.slice none 0 0) (.slice none 0 0) (.bool false))) rfl ?_;have bt:=Bt.set3 w3 (w.heap.size+1+1+1) (.slice none 0 0) (.slice none 0 0) (.bool false);have B3:=B1.trans (hb3.mono B1.size);refine⟨none,?_,B3.trans (bt.below (by omega) B3.size),.inr ⟨rfl,rfl⟩⟩;unfold AddN;rw[HRI.out.2,if_neg hz,if_pos hg]
theorem norm_nv(a:Value)(x:Int)(L:Nat)(w:World)(ha:Nv w a x L):Calls Tryz.prog 98 #[a] w fun e w'=>∃v,e=.returned v∧Na w w' v x L:=by obtain⟨ao,la,ca,xs,rfl,h1,rfl,h2⟩:=ha;refine(Norm_any ao la ca xs w h1).mono ?_;rintro e w' ⟨v,rfl,h⟩;exact⟨v,rfl,h.na.1.up h2,h.na.2⟩
theorem set3_other{w:World}{b j r:Nat}{v d0 d1 d2:Value}(h:w.cell? ⟨b,j,none⟩=some v)(hne:b≠r):(((w.setCell ⟨r,0,none⟩ d0).setCell ⟨r,1,none⟩ d1).setCell ⟨r,2,none⟩ d2).cell? ⟨b,j,none⟩=some v:=
 (World.cell?_of_block (w:=w) ((Bt.set3 w r d0 d1 d2).block b (World.block_lt_of_cell? w _ h) hne)).trans h
theorem two_new(w:World)(pv:Array Value)(t:TypeId):((w.alloc (.cells pv t)).alloc (.cells #[.slice none 0 0,.slice none 0 0,.bool false] 26)).heap[w.heap.size]?=some (.cells pv t (0,0))∧PSl ((w.alloc (.cells pv t)).alloc (.cells #[.slice none 0 0,.slice none 0 0,.bool false] 26)) (w.heap.size+1) (.slice none 0 0) (.slice none 0 0) (.bool false)∧Below w.heap.size w ((w.alloc (.cells pv t)).alloc (.cells #[.slice none 0 0,.slice none 0 0,.bool false] 26)):=by have z1:=alloc_sz7 w (.cells pv t);have n1:=heap_alloc_new w (.cells pv t);have n2:=heap_alloc_new (w.alloc (.cells pv t)) (.cells #[.slice none 0 0,.slice none 0 0,.bool false] 26);rw[z1]at n2;exact⟨heap_new n1 (by omega),n2,((Below.refl w.heap.size w).alloc (Nat.le_refl _) _).alloc (by omega) _⟩
theorem own_any(p:Value)(P:Pz)(L:Nat)(w:World)(hp:Pv w p P L):
  Calls Tryz.prog 140 #[p] w fun e w'=>∃v,e=.returned v∧Pv w' v (ownZ P) L∧Below w.heap.size w w':=by
 obtain⟨px,py,rfl,p1,p2⟩:=hp;have HX:=fun W (hW:Below w.heap.size w W)=>norm_nv px P.x L W (p1.old hW);have HY:=fun W (hW:Below w.heap.size w W)=>norm_nv py P.y L W (p2.old hW);obtain⟨k1,k2,k3,k4,rfl,k5⟩:=p1;obtain⟨l1,l2,l3,l4,rfl,l5⟩:=p2;have HN:=fun W=>nothing_any W;unfold ownZ
 cases hi:P.inf with
 | true=>
  rw[if_pos rfl];obtain⟨f1,s1,hb⟩:=two_new w #[.slice k1 k2 k3,.slice l1 l2 l3,.bool true] 26;have HN2:=HN ((w.alloc (.cells #[.slice k1 k2 k3,.slice l1 l2 l3,.bool true] 26)).alloc (.cells #[.slice none 0 0,.slice none 0 0,.bool false] 26));have HS1:Hid (PSl _ (w.heap.size+1) (.slice none 0 0) (.slice none 0 0) (.bool false)):=s1;clear f1 s1 HN HX HY;go_enter Tryz.func140,Tryz.ntmps140;go_wp2_with (go_at_call 139;refine HN2.mono ?_;rintro e w3 ⟨rfl,hb3⟩;have s3:=HS1.out.keep hb3;obtain⟨y0,y1,y2,y3,y4,y5⟩:=s3.facts)
  refine bodyPost_ret (ret_pt1 rfl _ _ (w.heap.size+1) _ _ _ rfl (s3.set3 (.slice none 0 0) (.slice none 0 0) (.bool true))) rfl ?_;have bt:=Bt.set3 w3 (w.heap.size+1) (.slice none 0 0) (.slice none 0 0) (.bool true);have B3:=hb.trans (hb3.mono hb.size);exact⟨_,rfl,pv_no _ L,B3.trans (bt.below (by omega) B3.size)⟩
 | false =>
  rw[if_neg (by simp)];obtain⟨f1,s1,hb⟩:=two_new w #[.slice k1 k2 k3,.slice l1 l2 l3,.bool false] 26;obtain⟨W,hW⟩:∃W,(w.alloc (.cells #[.slice k1 k2 k3,.slice l1 l2 l3,.bool false] 26)).alloc (.cells #[.slice none 0 0,.slice none 0 0,.bool false] 26)=W:=⟨_,rfl⟩
  rw[hW]at f1 s1 hb;have HK:=fun(W':World) (h':Below W.heap.size W W')=>(show W'.cell? ⟨w.heap.size,0,none⟩=some (.slice k1 k2 k3)∧W'.cell? ⟨w.heap.size,1,none⟩=some (.slice l1 l2 l3) from by have f2:=(h'.block _ (Array.getElem?_eq_some_iff.1 f1).1).trans f1;exact⟨by rw[cell_of_row _ _ _ _ _ _ f2];rfl,by rw[cell_of_row _ _ _ _ _ _ f2];rfl⟩)
  have HW:Hid ((w.alloc (.cells #[.slice k1 k2 k3,.slice l1 l2 l3,.bool false] 26)).alloc (.cells #[.slice none 0 0,.slice none 0 0,.bool false] 26)=W):=hW;have HX2:=HX W.drew hb.drew;have K3:=HK W (Below.refl _ _);have K4:=HK W.drew (Below.refl _ _).drew;have T1:True:=trivial;have HS1:Hid (PSl W (w.heap.size+1) (.slice none 0 0) (.slice none 0 0) (.bool false)):=s1;clear hW HN HX f1 s1;go_enter Tryz.func140,Tryz.ntmps140;go_wp2_with fail
  rw[HW.out];go_region_held3 (fun W=>W.cell? ⟨w.heap.size,0,none⟩=some (.slice k1 k2 k3)∧W.cell? ⟨w.heap.size,1,none⟩=some (.slice l1 l2 l3))
   (first|exact K3|exact K4|exact K5|exact K6|exact⟨set3_other K6.1 (by omega),set3_other K6.2 (by omega)⟩) (first
   | (go_at_call 98;clear T1;refine HX2.mono ?_;rintro e w5 ⟨v5,rfl,hv5,hb5⟩;have C5:=((Below.refl W.heap.size W).drew).trans (hb5.mono (Nat.le_refl _));have K5:=HK w5 C5;have HY2:=HY w5 (hb.trans (C5.mono hb.size));have hv5':=hv5;obtain⟨o1,o2,o3,o4,rfl,o5⟩:=hv5)
   | (go_at_call 98;refine HY2.mono ?_;rintro e w6 ⟨v6,rfl,hv6,hb6⟩;have C6:=C5.trans (hb6.mono C5.size);have K6:=HK w6 C6;have hv6':=hv6;obtain⟨r1,r2,r3,r4,rfl,r5⟩:=hv6;have s6:=HS1.out.keep C6;obtain⟨y0,y1,y2,y3,y4,y5⟩:=s6.facts))
  go_wp2;refine bodyPost_ret (ret_pt1 rfl _ _ (w.heap.size+1) _ _ _ rfl (s6.set3 (.slice o1 o2 o3) (.slice r1 r2 r3) (.bool false))) rfl ?_;have bt:=Bt.set3 w6 (w.heap.size+1) (.slice o1 o2 o3) (.slice r1 r2 r3) (.bool false);have B6:=hb.trans (C6.mono hb.size);exact⟨_,rfl,⟨_,_,by rw[hi],(hv5'.old hb6).apart s6 bt,hv6'.apart s6 bt⟩,B6.trans (bt.below (by omega) B6.size)⟩
theorem frB_new(w:World)(cv pv qv:Array Value):PSl ((((w.alloc (.cells cv 52)).alloc (.cells pv 26)).alloc (.cells qv 26)).alloc (.cells #[.slice none 0 0,.slice none 0 0,.bool false] 26)) (w.heap.size+1+1+1) (.slice none 0 0) (.slice none 0 0) (.bool false)∧Below w.heap.size w ((((w.alloc (.cells cv 52)).alloc (.cells pv 26)).alloc (.cells qv 26)).alloc (.cells #[.slice none 0 0,.slice none 0 0,.bool false] 26)):=by have n4:=heap_alloc_new (((w.alloc (.cells cv 52)).alloc (.cells pv 26)).alloc (.cells qv 26)) (.cells #[.slice none 0 0,.slice none 0 0,.bool false] 26);rw[alloc_sz7,alloc_sz7,alloc_sz7]at n4;exact⟨n4,((((Below.refl w.heap.size w).alloc (Nat.le_refl _) _).alloc (by rw[alloc_sz7];omega) _).alloc (by rw[alloc_sz7,alloc_sz7];omega) _).alloc (by rw[alloc_sz7,alloc_sz7,alloc_sz7];omega) _⟩
theorem Add_pt(c p q:Value)(K:Cz)(P Q:Pz)(L:Nat)(w:World)(hc:Cu w c K L)(hp:Pv w p P L)(hq:Pv w q Q L)(hL:1≤L∧L≤1000):
  Calls Tryz.prog 114 #[c,p,q] w fun e w'=>∃r,AddZ K P Q r∧Pa w w' e r L:=by
 have HA:=fun W (hW:Below w.heap.size w W) h0=>addNumbers_any c p q K P Q L W (hc.old hW) (hp.old hW) (hq.old hW) h0 hL;obtain⟨g1,g2,oo,lo,co,vp,va,vb,vx,vy,vn,rfl,c1,c2,c3,c4,c5,c6⟩:=hc;obtain⟨px,py,rfl,p1,p2⟩:=hp;obtain⟨qx,qy,rfl,q1,q2⟩:=hq;obtain⟨a1,a2,a3,a4,rfl,a5⟩:=c1;obtain⟨b1,b2,b3,b4,rfl,b5⟩:=c2;obtain⟨d1,d2,d3,d4,rfl,d5⟩:=c3;obtain⟨e1,e2,e3,e4,rfl,e5⟩:=c4;obtain⟨f1,f2,f3,f4,rfl,f5⟩:=c5;obtain⟨j1,j2,j3,j4,rfl,j5⟩:=c6;obtain⟨k1,k2,k3,k4,rfl,k5⟩:=p1;obtain⟨l1,l2,l3,l4,rfl,l5⟩:=p2;obtain⟨m1,m2,m3,m4,rfl,m5⟩:=q1;obtain⟨n1,n2,n3,n4,rfl,n5⟩:=q2;have FZ:=frB_new w #[.int .i64 g1,.int .i64 g2,.slice oo lo co,.slice a1 a2 a3,.slice b1 b2 b3,.slice d1 d2 d3,.slice e1 e2 e3,.slice f1 f2 f3,.slice j1 j2 j3] #[.slice k1 k2 k3,.slice l1 l2 l3,.bool P.inf] #[.slice m1 m2 m3,.slice n1 n2 n3,.bool Q.inf];obtain⟨W,hW⟩:∃W,(((w.alloc (.cells #[.int .i64 g1,.int .i64 g2,.slice oo lo co,.slice a1 a2 a3,.slice b1 b2 b3,.slice d1 d2 d3,.slice e1 e2 e3,.slice f1 f2 f3,.slice j1 j2 j3] 52)).alloc (.cells #[.slice k1 k2 k3,.slice l1 l2 l3,.bool P.inf] 26)).alloc (.cells #[.slice m1 m2 m3,.slice n1 n2 n3,.bool Q.inf] 26)).alloc (.cells #[.slice none 0 0,.slice none 0 0,.bool false] 26)=W:=⟨_,rfl⟩
 rw[hW]at FZ;obtain⟨s1,hb⟩:=FZ;have HZ:=isZero_any (.slice a1 a2 a3) K.p L W (Nv.old ⟨a1,a2,a3,a4,rfl,a5⟩ hb);have HOP:=own_any (.agg #[.slice k1 k2 k3,.slice l1 l2 l3,.bool P.inf]) P L W (Pv.old ⟨_,_,rfl,⟨k1,k2,k3,k4,rfl,k5⟩,⟨l1,l2,l3,l4,rfl,l5⟩⟩ hb);have HOQ:=own_any (.agg #[.slice m1 m2 m3,.slice n1 n2 n3,.bool Q.inf]) Q L W (Pv.old ⟨_,_,rfl,⟨m1,m2,m3,m4,rfl,m5⟩,⟨n1,n2,n3,n4,rfl,n5⟩⟩ hb);have HAW:=fun h0=>HA W hb h0;have HW:Hid (_=W):=hW;have HS1:Hid (PSl W (w.heap.size+1+1+1) (.slice none 0 0) (.slice none 0 0) (.bool false)):=s1;clear hW HA;unfold AddZ;by_cases h0:K.p=0
 ·have hd:decide (K.p=0)=true:=by simp[h0]
  rw[hd]at HZ;simp only[if_pos h0];have s2:=s1;clear HOP HOQ HAW;go_enter Tryz.func114,Tryz.ntmps114;go_wp2_with (go_at_call 105;rw[HW.out];refine HZ.mono ?_;rintro e w2 ⟨rfl,rfl⟩;obtain⟨y0,y1,y2,y3,y4,y5⟩:=s2.facts)
  refine bodyPost_ret (ret_pt rfl _ _ (w.heap.size+1+1+1) _ _ _ rfl (s2.set3 (.slice none 0 0) (.slice none 0 0) (.bool false))) rfl ?_;have bt:=Bt.set3 w2 (w.heap.size+1+1+1) (.slice none 0 0) (.slice none 0 0) (.bool false);exact⟨none,rfl,hb.trans (bt.below (by omega) hb.size),.inr ⟨rfl,rfl⟩⟩
 have hd:decide (K.p=0)=false:=by simp[h0]
 rw[hd]at HZ;simp only[if_neg h0];have HAW2:=HAW h0
 cases hpi:P.inf with
 | true =>
  rw[hpi]at HOP HW;simp only[if_pos];clear HAW HAW2 HOP;go_enter Tryz.func114,Tryz.ntmps114;go_wp2_with (first
   | (go_at_call 105;rw[HW.out];refine HZ.mono ?_;rintro e w2 ⟨rfl,rfl⟩;rw[←HW.out])
   | (go_at_call 140;rw[HW.out];refine HOQ.mono ?_;rintro e w3 ⟨v3,rfl,hv3,hb3⟩;have s3:=HS1.out.keep hb3;obtain⟨y0,y1,y2,y3,y4,y5⟩:=s3.facts;have hv3':=hv3;obtain⟨vx,vy,rfl,⟨o1,o2,o3,o4,rfl,o5⟩,⟨r1,r2,r3,r4,rfl,r5⟩⟩:=hv3))
  refine bodyPost_ret (ret_pt rfl _ _ (w.heap.size+1+1+1) _ _ _ rfl (s3.set3 (.slice o1 o2 o3) (.slice r1 r2 r3) (.bool (ownZ Q).inf))) rfl ?_;have bt:=Bt.set3 w3 (w.heap.size+1+1+1) (.slice o1 o2 o3) (.slice r1 r2 r3) (.bool (ownZ Q).inf);have B3:=hb.trans (hb3.mono hb.size);exact⟨_,rfl,B3.trans (bt.below (by omega) B3.size),.inl ⟨_,_,rfl,rfl,_,_,rfl,Nv.apart ⟨o1,o2,o3,o4,rfl,o5⟩ s3 bt,Nv.apart ⟨r1,r2,r3,r4,rfl,r5⟩ s3 bt⟩⟩
 | false =>
  rw[hpi]at HOP HAW2 HW;simp only[if_neg (show ¬(false=true) by decide)]
  cases hqi:Q.inf with
  | true =>
   rw[hqi]at HW HOQ;simp only[if_pos];clear HAW HAW2 HOQ;go_enter Tryz.func114,Tryz.ntmps114;go_wp2_with (first
    | (go_at_call 105;rw[HW.out];refine HZ.mono ?_;rintro e w2 ⟨rfl,rfl⟩;rw[←HW.out])
    | (go_at_call 140;rw[HW.out];refine HOP.mono ?_;rintro e w3 ⟨v3,rfl,hv3,hb3⟩;have s3:=HS1.out.keep hb3;obtain⟨y0,y1,y2,y3,y4,y5⟩:=s3.facts;have hv3':=hv3;obtain⟨vx,vy,rfl,⟨o1,o2,o3,o4,rfl,o5⟩,⟨r1,r2,r3,r4,rfl,r5⟩⟩:=hv3))
   refine bodyPost_ret (ret_pt rfl _ _ (w.heap.size+1+1+1) _ _ _ rfl (s3.set3 (.slice o1 o2 o3) (.slice r1 r2 r3) (.bool (ownZ P).inf))) rfl ?_;have bt:=Bt.set3 w3 (w.heap.size+1+1+1) (.slice o1 o2 o3) (.slice r1 r2 r3) (.bool (ownZ P).inf);have B3:=hb.trans (hb3.mono hb.size);exact⟨_,rfl,B3.trans (bt.below (by omega) B3.size),.inl ⟨_,_,rfl,rfl,_,_,rfl,Nv.apart ⟨o1,o2,o3,o4,rfl,o5⟩ s3 bt,Nv.apart ⟨r1,r2,r3,r4,rfl,r5⟩ s3 bt⟩⟩
  | false =>
   rw[hqi]at HW HOQ HAW2;simp only[if_neg (show ¬(false=true) by decide)];clear HAW HOP HOQ;go_enter Tryz.func114,Tryz.ntmps114;go_wp2_with (go_at_call 105;rw[HW.out];refine HZ.mono ?_;rintro e w2 ⟨rfl,rfl⟩;rw[←HW.out])
   rw[HW.out];go_at_call 141;refine HAW2.mono ?_;rintro e w3 ⟨r,hr,hb3,(⟨v,pz,rfl,rfl,hv3⟩|⟨rfl,rfl⟩)⟩
   ·have s3:=HS1.out.keep hb3;obtain⟨y0,y1,y2,y3,y4,y5⟩:=s3.facts;obtain⟨vx,vy,rfl,⟨o1,o2,o3,o4,rfl,o5⟩,⟨r1,r2,r3,r4,rfl,r5⟩⟩:=hv3;have B3:=hb.trans (hb3.mono hb.size);go_wp2_with fail
    refine bodyPost_ret (ret_pt rfl _ _ (w.heap.size+1+1+1) _ _ _ rfl (s3.set3 (.slice o1 o2 o3) (.slice r1 r2 r3) (.bool pz.inf))) rfl ?_;have bt:=Bt.set3 w3 (w.heap.size+1+1+1) (.slice o1 o2 o3) (.slice r1 r2 r3) (.bool pz.inf);exact⟨_,hr,B3.trans (bt.below (by omega) B3.size),.inl ⟨_,_,rfl,rfl,_,_,rfl,Nv.apart ⟨o1,o2,o3,o4,rfl,o5⟩ s3 bt,Nv.apart ⟨r1,r2,r3,r4,rfl,r5⟩ s3 bt⟩⟩
   ·have s3:=HS1.out.keep hb3;obtain⟨y0,y1,y2,y3,y4,y5⟩:=s3.facts;have B3:=hb.trans (hb3.mono hb.size);go_wp2_with fail
    refine bodyPost_ret (ret_pt rfl _ _ (w.heap.size+1+1+1) _ _ _ rfl (s3.set3 (.slice none 0 0) (.slice none 0 0) (.bool false))) rfl ?_;have bt:=Bt.set3 w3 (w.heap.size+1+1+1) (.slice none 0 0) (.slice none 0 0) (.bool false);exact⟨_,hr,B3.trans (bt.below (by omega) B3.size),.inr ⟨rfl,rfl⟩⟩
end
section
open Go.RowKit Go.Shelf
attribute [local go_sem] Oper.semAt_some
structure FrC(W:World)(b:Nat)(cv pv:Array Value):Prop where
 c:W.heap[b]?=some (.cells cv 52 (0,0))
 p:W.heap[b+1]?=some (.cells pv 26 (0,0))
 r:PSl W (b+1+1) (.slice none 0 0) (.slice none 0 0) (.bool false)
 o:W.heap[b+1+1+1]?=some (.cells #[.bool false] 4 (0,0))
theorem frC_new(w:World)(cv pv:Array Value):FrC ((((w.alloc (.cells cv 52)).alloc (.cells pv 26)).alloc (.cells #[.slice none 0 0,.slice none 0 0,.bool false] 26)).alloc (.cells #[.bool false] 4)) w.heap.size cv pv∧Below w.heap.size w ((((w.alloc (.cells cv 52)).alloc (.cells pv 26)).alloc (.cells #[.slice none 0 0,.slice none 0 0,.bool false] 26)).alloc (.cells #[.bool false] 4)):=by
 obtain⟨w1,e1⟩:∃x,w.alloc (.cells cv 52)=x:=⟨_,rfl⟩
 obtain⟨w2,e2⟩:∃x,w1.alloc (.cells pv 26)=x:=⟨_,rfl⟩
 obtain⟨w3,e3⟩:∃x,w2.alloc (.cells #[.slice none 0 0,.slice none 0 0,.bool false] 26)=x:=⟨_,rfl⟩
 have z1:w1.heap.size=w.heap.size+1:=by rw[←e1];exact alloc_sz7 _ _
 have z2:w2.heap.size=w.heap.size+1+1:=by rw[←e2,alloc_sz7,z1]
 have z3:w3.heap.size=w.heap.size+1+1+1:=by rw[←e3,alloc_sz7,z2]
 have n1:w1.heap[w.heap.size]?=some (.cells cv 52 (0,0)):=by rw[←e1];exact heap_alloc_new w _
 have n2:w2.heap[w.heap.size+1]?=some (.cells pv 26 (0,0)):=by rw[←e2,←z1];exact heap_alloc_new w1 _
 have n3:w3.heap[w.heap.size+1+1]?=some (.cells #[.slice none 0 0,.slice none 0 0,.bool false] 26 (0,0)):=by rw[←e3,←z2];exact heap_alloc_new w2 _
 have n4:=heap_alloc_new w3 (.cells #[.bool false] 4);rw[z3]at n4;have m1:w2.heap[w.heap.size]?=some (.cells cv 52 (0,0)):=by rw[←e2];exact heap_new n1 (by omega)
 have k1:w3.heap[w.heap.size]?=some (.cells cv 52 (0,0)):=by rw[←e3];exact heap_new m1 (by omega)
 have k2:w3.heap[w.heap.size+1]?=some (.cells pv 26 (0,0)):=by rw[←e3];exact heap_new n2 (by omega)
 have bb:Below w.heap.size w (w3.alloc (.cells #[.bool false] 4)):=by rw[←e3,←e2,←e1];exact((((Below.refl w.heap.size w).alloc (Nat.le_refl _) _).alloc (by rw[alloc_sz7];omega) _).alloc (by rw[alloc_sz7,alloc_sz7];omega) _).alloc (by rw[alloc_sz7,alloc_sz7,alloc_sz7];omega) _
 rw[e1,e2,e3];exact⟨⟨heap_new k1 (by omega),heap_new k2 (by omega),heap_new n3 (by omega),n4⟩,bb⟩
theorem FrC.keep{W W':World}{b:Nat}{cv pv:Array Value}(h:FrC W b cv pv)(hb:Below W.heap.size W W'):FrC W' b cv pv:=
 ⟨(hb.block _ (Array.getElem?_eq_some_iff.1 h.c).1).trans h.c,(hb.block _ (Array.getElem?_eq_some_iff.1 h.p).1).trans h.p,h.r.keep hb,(hb.block _ (Array.getElem?_eq_some_iff.1 h.o).1).trans h.o⟩
def stepR(K:Cz)(P:Pz)(set:Bool)(q:Pz)(r:Option Pz):Prop:=∃d,AddZ K q q d∧((d=none∧r=none)∨∃e,d=some e∧if set then AddZ K e P r else r=some e)
def MF (K:Cz)(P:Pz)(pre:List (Int × Bool)):Pz→Prop:=pre.foldl (fun S x=>fun q'=>∃q,S q∧stepR K P x.2 q (some q')) (fun q=>q=noZ)
theorem MF_snoc(K:Cz)(P:Pz)(pre:List (Int × Bool))(x:Int × Bool)(q':Pz):MF K P (pre++[x]) q'↔∃q,MF K P pre q∧stepR K P x.2 q (some q'):=by unfold MF;rw[List.foldl_append];exact Iff.rfl
def MulZ (K:Cz)(P:Pz)(bits:List (Int × Bool))(r:Option Pz):Prop:=(∃q,r=some q∧MF K P bits q)∨(r=none∧∃pre x q,(pre++[x]) <+: bits∧MF K P pre q∧stepR K P x.2 q none)
theorem blk_kept{W W':World}{k:Nat}{cs:Array Value}{t:TypeId}{row:Option Nat}(h:W.heap[k]?=some (.cells cs t (0,0)))(hg:W.grownBy W' row)(hr:∀r,row=some r→∃o:Obj,W.heap[r]?=some o∧o.isCells=false):W'.heap[k]?=some (.cells cs t (0,0)):=by
 rw[hg.block k (Array.getElem?_eq_some_iff.1 h).1 (fun e=>by
  obtain⟨o,ho,hc⟩:=hr k e.symm;rw[h]at ho
  cases ho
  cases hc),h]
theorem Nv.kept{W W':World}{v:Value}{n:Int}{L:Nat}{row:Option Nat}(h:Nv W v n L)(hg:W.grownBy W' row)(hr:∀r,row=some r→∃o:Obj,W.heap[r]?=some o∧o.isCells=false):Nv W' v n L:=by obtain⟨ao,len,cap,xs,e,h1,h2,h3⟩:=h;exact⟨ao,len,cap,xs,e,h1.keptc hg hr,h2,h3⟩
theorem Cu.kept{W W':World}{c:Value}{K:Cz}{L:Nat}{row:Option Nat}(h:Cu W c K L)(hg:W.grownBy W' row)(hr:∀r,row=some r→∃o:Obj,W.heap[r]?=some o∧o.isCells=false):Cu W' c K L:=by obtain⟨g1,g2,oo,lo,co,vp,va,vb,vx,vy,vn,e,h1,h2,h3,h4,h5,h6⟩:=h;exact⟨g1,g2,oo,lo,co,vp,va,vb,vx,vy,vn,e,h1.kept hg hr,h2.kept hg hr,h3.kept hg hr,h4.kept hg hr,h5.kept hg hr,h6.kept hg hr⟩
theorem Pv.kept{W W':World}{c:Value}{p:Pz}{L:Nat}{row:Option Nat}(h:Pv W c p L)(hg:W.grownBy W' row)(hr:∀r,row=some r→∃o:Obj,W.heap[r]?=some o∧o.isCells=false):Pv W' c p L:=by obtain⟨vx,vy,e,h1,h2⟩:=h;exact⟨vx,vy,e,h1.kept hg hr,h2.kept hg hr⟩
def BBx (w:World)(g:Nat)(b:Bool):Prop:=w.heap[g]?=some (.cells #[.bool b] 4 (0,0))
theorem Nv.apartB{w w':World}{v:Value}{n:Int}{L r:Nat}{b:Bool}(h:Nv w v n L)(hs:BBx w r b)(hb:Bt r w w'):Nv w' v n L:=by
 obtain⟨ao,len,cap,xs,e,h1,h2,h3⟩:=h;refine⟨ao,len,cap,xs,e,⟨⟨h1.len,?_⟩,h1.lc,h1.cm,h1.nn,h1.dg,h1.sm⟩,h2,h3⟩;by_cases h0:len=0
 ·exact .inl h0
 ·obtain⟨b',off,e2,hlt,hc⟩:=h1.lies.at (by omega);have hne:b'≠r:=fun e3=>by
   subst e3;have h4:=hc 0 (by omega);rw[cell_of_row _ _ _ _ _ _ hs]at h4;obtain⟨o,ho⟩:∃o,off+0=o:=⟨_,rfl⟩
   rw[ho]at h4;match o,h4 with
   | 0,h4=>cases h4
   | k+1,h4=>simp at h4
  exact .inr ⟨b',off,e2,Nat.lt_of_lt_of_le hlt hb.size,fun i hi=>(World.cell?_of_block (w:=w) (hb.block b' hlt hne)).trans (hc i hi)⟩
structure MSt(w:World)(b gs go:Nat)(cv pv:Array Value)(K:Cz)(P:Pz)(L:Nat)(x1 y1:Option Addr)(x2 x3 y2 y3:Nat)(q:Pz)(W:World):Prop where
 fr:FrC W b cv pv
 sum:PSl W gs (.slice x1 x2 x3) (.slice y1 y2 y3) (.bool q.inf)
 sx:Nv W (.slice x1 x2 x3) q.x L
 sy:Nv W (.slice y1 y2 y3) q.y L
 ok:BBx W go true
 cu:Cu W (.agg cv) K L
 pp:Pv W (.agg pv) P L
 low:Below w.heap.size w W
theorem MSt.old{w:World}{b gs go:Nat}{cv pv:Array Value}{K:Cz}{P:Pz}{L:Nat}{x1 y1:Option Addr}{x2 x3 y2 y3:Nat}{q:Pz}{W W':World}(h:MSt w b gs go cv pv K P L x1 y1 x2 x3 y2 y3 q W)(hb:Below W.heap.size W W'):MSt w b gs go cv pv K P L x1 y1 x2 x3 y2 y3 q W':=
 ⟨h.fr.keep hb,h.sum.keep hb,h.sx.old hb,h.sy.old hb,(hb.block _ (Array.getElem?_eq_some_iff.1 h.ok).1).trans h.ok,h.cu.old hb,h.pp.old hb,h.low.trans (hb.mono h.low.size)⟩
theorem MSt.kept{w:World}{b gs go:Nat}{cv pv:Array Value}{K:Cz}{P:Pz}{L:Nat}{x1 y1:Option Addr}{x2 x3 y2 y3:Nat}{q:Pz}{W W':World}{row:Option Nat}{B:Nat}(hB:w.heap.size≤B)(h:MSt w b gs go cv pv K P L x1 y1 x2 x3 y2 y3 q W)(hg:W.grownBy W' row)(hr:∀r,row=some r→B≤r∧∃o:Obj,W.heap[r]?=some o∧o.isCells=false):MSt w b gs go cv pv K P L x1 y1 x2 x3 y2 y3 q W':=by have hr2:=fun r e=>(hr r e).2;exact⟨⟨blk_kept h.fr.c hg hr2,blk_kept h.fr.p hg hr2,blk_kept h.fr.r hg hr2,blk_kept h.fr.o hg hr2⟩,blk_kept h.sum hg hr2,h.sx.kept hg hr2,h.sy.kept hg hr2,blk_kept h.ok hg hr2,h.cu.kept hg hr2,h.pp.kept hg hr2,ownFrom_below (β:=Unit) (Nat.le_refl _) hB () W W' row h.low hg hr⟩
def sumW (W:World)(gs go:Nat)(vx vy:Value)(inf ok:Bool):World:=(((W.setCell ⟨gs,0,none⟩ vx).setCell ⟨gs,1,none⟩ vy).setCell ⟨gs,2,none⟩ (.bool inf)).setCell ⟨go,0,none⟩ (.bool ok)
theorem nv_sum{W:World}{v:Value}{n:Int}{L gs go:Nat}{a1 a2:Option Addr}{l1 k1 l2 k2:Nat}{b ok0:Bool}(h:Nv W v n L)(hs:PSl W gs (.slice a1 l1 k1) (.slice a2 l2 k2) (.bool b))(ho:BBx W go ok0)(hne:go≠gs)(vx vy:Value)(inf ok:Bool):Nv (sumW W gs go vx vy inf ok) v n L:=by have b3:=Bt.set3 W gs vx vy (.bool inf);have ho2:BBx (((W.setCell ⟨gs,0,none⟩ vx).setCell ⟨gs,1,none⟩ vy).setCell ⟨gs,2,none⟩ (.bool inf)) go ok0:=(b3.block go (Array.getElem?_eq_some_iff.1 ho).1 hne).trans ho;exact(h.apart hs b3).apartB ho2 (Bt.setCell go _ 0 _)
theorem sumW_blocks{W:World}{gs go:Nat}(vx vy:Value)(inf ok:Bool)(k:Nat)(hk:k<W.heap.size)(h1:k≠gs)(h2:k≠go):(sumW W gs go vx vy inf ok).heap[k]?=W.heap[k]?:=by have b3:=Bt.set3 W gs vx vy (.bool inf);exact((Bt.setCell go _ 0 (.bool ok)).block k (Nat.lt_of_lt_of_le hk b3.size) h2).trans (b3.block k hk h1)
theorem sumW_sum{W:World}{gs go:Nat}{c0 c1 c2:Value}(hs:PSl W gs c0 c1 c2)(hne:go≠gs)(vx vy:Value)(inf ok:Bool):PSl (sumW W gs go vx vy inf ok) gs vx vy (.bool inf):=by have s3:=hs.set3 vx vy (.bool inf);exact((Bt.setCell go _ 0 (.bool ok)).block gs s3.lt (Ne.symm hne)).trans s3
theorem sumW_ok{W:World}{gs go:Nat}{ok0:Bool}(ho:BBx W go ok0)(hne:go≠gs)(vx vy:Value)(inf ok:Bool):BBx (sumW W gs go vx vy inf ok) go ok:=by have b3:=Bt.set3 W gs vx vy (.bool inf);have ho2:BBx (((W.setCell ⟨gs,0,none⟩ vx).setCell ⟨gs,1,none⟩ vy).setCell ⟨gs,2,none⟩ (.bool inf)) go ok0:=(b3.block go (Array.getElem?_eq_some_iff.1 ho).1 hne).trans ho;have:=heap_set7 _ go 0 (.bool ok) _ _ _ ho2;exact this
theorem sumW_below{w W:World}{gs go:Nat}(h:Below w.heap.size w W)(h1:w.heap.size≤gs)(h2:w.heap.size≤go)(vx vy:Value)(inf ok:Bool):Below w.heap.size w (sumW W gs go vx vy inf ok):=by have b3:=Bt.set3 W gs vx vy (.bool inf);have b4:=Bt.setCell go (((W.setCell ⟨gs,0,none⟩ vx).setCell ⟨gs,1,none⟩ vy).setCell ⟨gs,2,none⟩ (.bool inf)) 0 (.bool ok);exact h.trans ((b3.below h1 h.size).trans (b4.below h2 (Nat.le_trans h.size b3.size)))
theorem sumW_keeps(W:World)(gs go:Nat)(vx vy:Value)(inf ok:Bool):KeepsOthers W (sumW W gs go vx vy inf ok):=(((KeepsOthers.setCell _ _ _).trans (KeepsOthers.setCell _ _ _)).trans (KeepsOthers.setCell _ _ _)).trans (KeepsOthers.setCell _ _ _)
theorem bitsAt_sum{W:World}{g3 g4:Nat}{V:Int}{N gs go:Nat}{a1 a2:Option Addr}{l1 k1 l2 k2:Nat}{b ok0:Bool}(h:BitsAt W g3 g4 V N)(hs:PSl W gs (.slice a1 l1 k1) (.slice a2 l2 k2) (.bool b))(ho:BBx W go ok0)(hne:go≠gs)(h3:gs≠g3∧go≠g3)(vx vy:Value)(inf ok:Bool):BitsAt (sumW W gs go vx vy inf ok) g3 g4 V N:=by
 obtain⟨ao,la,ca,xs,e1,e2,e3,e4,e5,e6,e7⟩:=h;have hn4:g4≠gs:=fun e=>by
  subst e;have:=hs.facts.1.symm.trans e3
  cases this
 have hn5:g4≠go:=fun e=>by
  subst e;rw[cell_of_row _ _ _ _ _ _ ho]at e3
  cases e3
 have hz:=(sumW_keeps W gs go vx vy inf ok).size;have hb:=sumW_blocks (W:=W) (gs:=gs) (go:=go) vx vy inf ok;have hv:=nv_sum (L:=la) (v:=.slice ao la ca) (n:=val B64 xs) ⟨ao,la,ca,xs,rfl,e5,rfl,Nat.le_refl _⟩ hs ho hne vx vy inf ok;generalize sumW W gs go vx vy inf ok=W' at *;have c4:W'.cell? ⟨g4,0,none⟩=some (.int .i64 N):=by rw[←e3];exact World.cell?_of_block (w:=W) (hb g4 e2 hn4 hn5)
 have c3:W'.cell? ⟨g3,0,none⟩=some (.slice ao la ca):=by rw[←e4];exact World.cell?_of_block (w:=W) (hb g3 e1 (Ne.symm h3.1) (Ne.symm h3.2))
 obtain⟨p1,p2,p3,p4,ee,q1,q2,q3⟩:=hv;injection ee with u1 u2 u3;subst u1 u2 u3;exact⟨ao,la,ca,p4,Nat.lt_of_lt_of_le e1 hz,Nat.lt_of_lt_of_le e2 hz,c4,c3,q1,by rw[q2];exact e6,e7⟩
theorem MSt.next{w:World}{b gs go:Nat}{cv pv:Array Value}{K:Cz}{P:Pz}{L:Nat}{x1 y1 x1' y1':Option Addr}{x2 x3 y2 y3 x2' x3' y2' y3':Nat}{q q':Pz}{W:World}(h:MSt w b gs go cv pv K P L x1 y1 x2 x3 y2 y3 q W)(hg:b+1+1+1<gs∧gs+1=go∧w.heap.size=b)(nx:Nv W (.slice x1' x2' x3') q'.x L)(ny:Nv W (.slice y1' y2' y3') q'.y L):MSt w b gs go cv pv K P L x1' y1' x2' x3' y2' y3' q' (sumW W gs go (.slice x1' x2' x3') (.slice y1' y2' y3') q'.inf true):=by
 have hne:go≠gs:=by omega
 have nn:∀ {v:Value} {n:Int},Nv W v n L→Nv (sumW W gs go (.slice x1' x2' x3') (.slice y1' y2' y3') q'.inf true) v n L:=fun hv=>nv_sum hv h.sum h.ok hne _ _ _ _;have bk:=fun k hk h1 h2=>sumW_blocks (W:=W) (gs:=gs) (go:=go) (.slice x1' x2' x3') (.slice y1' y2' y3') q'.inf true k hk h1 h2;refine⟨⟨(bk b (Array.getElem?_eq_some_iff.1 h.fr.c).1 (by omega) (by omega)).trans h.fr.c,(bk _ (Array.getElem?_eq_some_iff.1 h.fr.p).1 (by omega) (by omega)).trans h.fr.p,(bk _ h.fr.r.lt (by omega) (by omega)).trans h.fr.r,(bk _ (Array.getElem?_eq_some_iff.1 h.fr.o).1 (by omega) (by omega)).trans h.fr.o⟩,sumW_sum h.sum hne _ _ _ _,nn nx,nn ny,sumW_ok h.ok hne _ _ _ _,?_,?_,sumW_below h.low (by omega) (by omega) _ _ _ _⟩
 ·obtain⟨g1,g2,oo,lo,co,vp,va,vb,vx,vy,vn,e,h1,h2,h3,h4,h5,h6⟩:=h.cu;exact⟨g1,g2,oo,lo,co,vp,va,vb,vx,vy,vn,e,nn h1,nn h2,nn h3,nn h4,nn h5,nn h6⟩
 ·obtain⟨vx,vy,e,h1,h2⟩:=h.pp;exact⟨vx,vy,e,nn h1,nn h2⟩
def MGo (w:World)(b gs go:Nat)(cv pv:Array Value)(K:Cz)(P:Pz)(L:Nat)(pre:List (Int × Bool))(W:World):Prop:=∃x1 y1 x2 x3 y2 y3 q,MF K P pre q∧MSt w b gs go cv pv K P L x1 y1 x2 x3 y2 y3 q W
def MEnd (w:World)(b:Nat)(K:Cz)(P:Pz)(c:Code)(pre:List (Int × Bool))(W:World):Prop:=c=.ret∧(PSl W (b+1+1) (.slice none 0 0) (.slice none 0 0) (.bool false)∧BBx W (b+1+1+1) false)∧Below w.heap.size w W∧∃pre' x q,pre=pre'++[x]∧MF K P pre' q∧stepR K P x.2 q none
theorem MGo.kept{w:World}{b gs go:Nat}{cv pv:Array Value}{K:Cz}{P:Pz}{L B:Nat}(hB:w.heap.size≤B):OwnFrom B (MGo w b gs go cv pv K P L):=by rintro pre A A' row ⟨x1,y1,x2,x3,y2,y3,q,h1,h2⟩ hg hr;exact⟨x1,y1,x2,x3,y2,y3,q,h1,h2.kept hB hg hr⟩
theorem MEnd.kept{w:World}{b:Nat}{K:Cz}{P:Pz}{B:Nat}(hB:w.heap.size≤B)(c:Code):OwnFrom B (MEnd w b K P c):=by rintro pre A A' row ⟨h1,h2,h3,h4⟩ hg hr;have hr2:=fun r e=>(hr r e).2;exact⟨h1,⟨blk_kept h2.1 hg hr2,blk_kept h2.2 hg hr2⟩,ownFrom_below (β:=Unit) (Nat.le_refl _) hB () A A' row h3 hg hr,h4⟩
theorem BBx.facts{W:World}{g:Nat}{b:Bool}(h:BBx W g b):W.cell? ⟨g,0,none⟩=some (.bool b)∧W.frozen? ⟨g,0,none⟩=false:=by
 refine⟨?_,?_⟩
 ·rw[cell_of_row _ _ _ _ _ _ h];rfl
 ·exact frozen_of_row W g 0 _ _ h
theorem FrC.cells{W:World}{b:Nat}{c0 c1 c2 c3 c4 c5 c6 c7 c8 p0 p1 p2:Value}(h:FrC W b #[c0,c1,c2,c3,c4,c5,c6,c7,c8] #[p0,p1,p2]):(W.cell? ⟨b,0,none⟩=some c0∧W.cell? ⟨b,1,none⟩=some c1∧W.cell? ⟨b,2,none⟩=some c2∧W.cell? ⟨b,3,none⟩=some c3∧W.cell? ⟨b,4,none⟩=some c4∧W.cell? ⟨b,5,none⟩=some c5∧W.cell? ⟨b,6,none⟩=some c6∧W.cell? ⟨b,7,none⟩=some c7∧W.cell? ⟨b,8,none⟩=some c8)∧W.cell? ⟨b+1,0,none⟩=some p0∧W.cell? ⟨b+1,1,none⟩=some p1∧W.cell? ⟨b+1,2,none⟩=some p2:=by
 refine⟨⟨?_,?_,?_,?_,?_,?_,?_,?_,?_⟩,?_,?_,?_⟩;all_goals first
  | (rw[cell_of_row _ _ _ _ _ _ h.c];rfl)
  | (rw[cell_of_row _ _ _ _ _ _ h.p];rfl)
theorem MSt.fails{w:World}{b gs go:Nat}{cv pv:Array Value}{K:Cz}{P:Pz}{L:Nat}{x1 y1:Option Addr}{x2 x3 y2 y3:Nat}{q:Pz}{W:World}(h:MSt w b gs go cv pv K P L x1 y1 x2 x3 y2 y3 q W)(hg:b+1+1+1<gs∧gs+1=go∧w.heap.size=b){pre:List (Int × Bool)}{x:Int × Bool}{q0:Pz}(hm:MF K P pre q0)(hs:stepR K P x.2 q0 none):
  KeepsOthers W (((((sumW W gs go (.slice none 0 0) (.slice none 0 0) false false).setCell ⟨b+1+1,0,none⟩ (.slice none 0 0)).setCell ⟨b+1+1,1,none⟩ (.slice none 0 0)).setCell ⟨b+1+1,2,none⟩ (.bool false)).setCell ⟨b+1+1+1,0,none⟩ (.bool false))∧MEnd w b K P .ret (pre++[x]) (((((sumW W gs go (.slice none 0 0) (.slice none 0 0) false false).setCell ⟨b+1+1,0,none⟩ (.slice none 0 0)).setCell ⟨b+1+1,1,none⟩ (.slice none 0 0)).setCell ⟨b+1+1,2,none⟩ (.bool false)).setCell ⟨b+1+1+1,0,none⟩ (.bool false)):=by
 have ks:=sumW_keeps W gs go (.slice none 0 0) (.slice none 0 0) false false;have bk:=fun k hk h1 h2=>sumW_blocks (W:=W) (gs:=gs) (go:=go) (.slice none 0 0) (.slice none 0 0) false false k hk h1 h2;have lo:=sumW_below (gs:=gs) (go:=go) h.low (by omega) (by omega) (.slice none 0 0) (.slice none 0 0) false false;have r1:PSl _ (b+1+1) (.slice none 0 0) (.slice none 0 0) (.bool false):=(bk _ h.fr.r.lt (by omega) (by omega)).trans h.fr.r;have o1:BBx _ (b+1+1+1) false:=(bk _ (Array.getElem?_eq_some_iff.1 h.fr.o).1 (by omega) (by omega)).trans h.fr.o;generalize sumW W gs go (.slice none 0 0) (.slice none 0 0) false false=W2 at *;refine⟨ks.trans (sumW_keeps W2 (b+1+1) (b+1+1+1) _ _ false false),rfl,⟨sumW_sum r1 (by omega) _ _ _ _,sumW_ok o1 (by omega) _ _ _ _⟩,sumW_below lo (by omega) (by omega) _ _ _ _,pre,x,q0,rfl,hm,hs⟩
theorem ret_ptb{fn:Func}{p u:Tmp}(h:fn.results=#[.cell p 26,.cell u 4])(tmps:Array Value)(w:World)(g g':Nat)(c0 c1 c2:Value)(b:Bool)(hp:tmps.getD p undef=.pointer (some ⟨g,0,none⟩))(hu:tmps.getD u undef=.pointer (some ⟨g',0,none⟩))(hg:PSl w g c0 c1 c2)(hb:BBx w g' b):
  (results fn tmps).run Tryz.prog w=.ok (.tuple #[.agg #[c0,c1,c2],.bool b]) w:=by
 have hp':tmps[p]?.getD undef=.pointer (some ⟨g,0,none⟩):=by simpa using hp
 have hu':tmps[u]?.getD undef=.pointer (some ⟨g',0,none⟩):=by simpa using hu
 have hl:=run_loadVar_row (P:=Tryz.prog) w g 26 26 #[c0,c1,c2] (0,0) _ hg Tryz.underlying26 rfl sizePt;have hc:=hb.facts.1;obtain⟨x0,x1,x2,_⟩:=hg.facts;simp[results,h,hp',hu',asAddr,go_sem,x0,x1,x2,hc]
theorem Mul_pt(c k p:Value)(K:Cz)(n:Int)(P:Pz)(L:Nat)(w:World)(hc:Cu w c K L)(hk:Nv w k n L)(hp:Pv w p P L)(hL:1≤L∧L≤70)(h0:K.p≠0):
  Calls Tryz.prog 112 #[c,k,p] w fun e w'=>∃r,MulZ K P (bitsOf n (blen n.toNat) (blen n.toNat)) r∧Pa w w' e r L:=by
 obtain⟨g1,g2,oo,lo,co,vp,va,vb,vx,vy,vn,rfl,c1,c2,c3,c4,c5,c6⟩:=hc;obtain⟨px,py,rfl,p1,p2⟩:=hp;obtain⟨a1,a2,a3,a4,rfl,a5⟩:=c1;obtain⟨b1,b2,b3,b4,rfl,b5'⟩:=c2;obtain⟨d1,d2,d3,d4,rfl,d5⟩:=c3;obtain⟨e1,e2,e3,e4,rfl,e5⟩:=c4;obtain⟨f1,f2,f3,f4,rfl,f5⟩:=c5;obtain⟨j1,j2,j3,j4,rfl,j5⟩:=c6;obtain⟨k1,k2,k3,k4,rfl,k5⟩:=p1;obtain⟨l1,l2,l3,l4,rfl,l5⟩:=p2;obtain⟨m1,m2,m3,m4,rfl,m5⟩:=hk;have FZ:=frC_new w #[.int .i64 g1,.int .i64 g2,.slice oo lo co,.slice a1 a2 a3,.slice b1 b2 b3,.slice d1 d2 d3,.slice e1 e2 e3,.slice f1 f2 f3,.slice j1 j2 j3] #[.slice k1 k2 k3,.slice l1 l2 l3,.bool P.inf];obtain⟨W,hW⟩:∃W,(((w.alloc (.cells #[.int .i64 g1,.int .i64 g2,.slice oo lo co,.slice a1 a2 a3,.slice b1 b2 b3,.slice d1 d2 d3,.slice e1 e2 e3,.slice f1 f2 f3,.slice j1 j2 j3] 52)).alloc (.cells #[.slice k1 k2 k3,.slice l1 l2 l3,.bool P.inf] 26)).alloc (.cells #[.slice none 0 0,.slice none 0 0,.bool false] 26)).alloc (.cells #[.bool false] 4)=W:=⟨_,rfl⟩
 rw[hW]at FZ;obtain⟨FZ,hb⟩:=FZ;have HZ:=isZero_any (.slice a1 a2 a3) K.p L W (Nv.old ⟨a1,a2,a3,a4,rfl,a5⟩ hb);have hd:decide (K.p=0)=false:=by simp[h0]
 rw[hd]at HZ;have HN:=nothing_any W;have HW:Hid (_=W):=hW;clear hW;refine(callsIn_wide (n:=4)).1 ?_;refine callsIn_of_wp_marks Tryz.func112 rfl trivial ?_ rfl;simp only[Tryz.ntmps112,List.size_toArray,List.length_cons,List.length_nil,Nat.reduceAdd,Nat.reduceSub,Array.replicate_succ,Array.replicate_zero,List.push_toArray,List.append_toArray,List.nil_append,List.cons_append]
 gi_wp2_with fail
 refine⟨trivial,?_⟩;rw[HW.out];refine(callsIn_wide.2 HZ).mono ?_;rintro e w2 ⟨rfl,rfl⟩
 gi_wp2_with fail
 refine⟨trivial,?_⟩;refine(callsIn_wide.2 HN).mono ?_;rintro e w3 ⟨rfl,hb3⟩;have B3:=hb.trans (hb3.mono hb.size);have F3:=FZ.keep hb3;obtain⟨gs,hgs⟩:∃gs,w3.heap.size=gs:=⟨_,rfl⟩
 obtain⟨W5,hW5⟩:∃W5,(w3.alloc (.cells #[.slice none 0 0,.slice none 0 0,.bool true] 26)).alloc (.cells #[.bool true] 4)=W5:=⟨_,rfl⟩
 have b5:Below w3.heap.size w3 W5:=by rw[←hW5];exact((Below.refl _ _).alloc (Nat.le_refl _) _).alloc (by rw[alloc_sz7];omega) _
 have s5:PSl W5 gs (.slice none 0 0) (.slice none 0 0) (.bool true):=by rw[←hW5,←hgs];exact heap_new (heap_alloc_new w3 _) (by rw[alloc_sz7];omega)
 have o5:BBx W5 (gs+1) true:=by have:=heap_alloc_new (w3.alloc (.cells #[.slice none 0 0,.slice none 0 0,.bool true] 26)) (.cells #[.bool true] 4);rw[alloc_sz7,hgs,hW5]at this;exact this
 have B5:=B3.trans (b5.mono B3.size);have hgg:w.heap.size+1+1+1<gs:=by rw[←hgs];exact(Array.getElem?_eq_some_iff.1 F3.o).1
 have HBITS:=Bits_new m1 m2 m3 m4 W5 (m5.1.old B5) (by omega);have HMS:Hid (MSt w w.heap.size gs (gs+1) #[.int .i64 g1,.int .i64 g2,.slice oo lo co,.slice a1 a2 a3,.slice b1 b2 b3,.slice d1 d2 d3,.slice e1 e2 e3,.slice f1 f2 f3,.slice j1 j2 j3] #[.slice k1 k2 k3,.slice l1 l2 l3,.bool P.inf] K P L none none 0 0 0 0 noZ W5):=
  ⟨F3.keep b5,s5,nv_nil W5 L,nv_nil W5 L,o5,Cu.old ⟨g1,g2,oo,lo,co,_,_,_,_,_,_,rfl,⟨a1,a2,a3,a4,rfl,a5⟩,⟨b1,b2,b3,b4,rfl,b5'⟩,⟨d1,d2,d3,d4,rfl,d5⟩,⟨e1,e2,e3,e4,rfl,e5⟩,⟨f1,f2,f3,f4,rfl,f5⟩,⟨j1,j2,j3,j4,rfl,j5⟩⟩ B5,Pv.old ⟨_,_,rfl,⟨k1,k2,k3,k4,rfl,k5⟩,⟨l1,l2,l3,l4,rfl,l5⟩⟩ B5,B5⟩
 have HVN:Hid (val B64 m4=n):=m5.2.1;have HGG:Hid (w.heap.size+1+1+1<gs∧gs<W5.heap.size∧gs+1<W5.heap.size):=⟨hgg,s5.lt,(Array.getElem?_eq_some_iff.1 o5).1⟩
 have HW5:Hid (_=W5):=hW5;clear hW5 B5 B3 b5 s5 o5 hgg F3 FZ HN HZ hb hb3 HW
 gi_wp2_with fail
 rw[HW5.out];refine⟨trivial,?_⟩;refine(callsIn_wide.2 HBITS).mono ?_;rintro e W6 ⟨g3,g4,rfl,hBA,hbl,hg3⟩;rw[HVN.out]at hBA;obtain⟨N,hN⟩:∃N,blen n.toNat=N:=⟨_,rfl⟩
 rw[hN]at hBA;have HNN:Hid (blen n.toNat=N):=hN;clear hN;have HGI:Hid (MSt w w.heap.size gs (gs+1) _ _ K P L none none 0 0 0 0 noZ W6):=HMS.out.old hbl;have HNE:Hid (gs≠g3∧gs+1≠g3∧w.heap.size≤W6.heap.size):=⟨by have:=HGG.out;omega,by have:=HGG.out;omega,HGI.out.low.size⟩
 clear HMS hbl HBITS hg3 HW5;have HGX:Hid (w.heap.size+1+1+1<gs∧True):=⟨HGG.out.1,trivial⟩
 have HLL:Hid (1≤L∧L≤1000):=⟨hL.1,by omega⟩
 clear HGG hgs a5 b5' d5 e5 f5 j5 k5 l5 m5 HVN hd h0 hL
 gi_wp2
 refine wpIn_rangeFunc_ownF rfl (by omega) (gf:=99) (lb:=#[.pointer (some ⟨g4,0,none⟩),.pointer (some ⟨g3,0,none⟩)]) rfl trivial (enters_of Tryz.func99 (by kernel_rfl) rfl)
  (bits_stopsI (4-1) (by omega) W6 g3 g4 n N hBA) (fun h k hB=>k (h hB)) (fun W l o o' _ hl hc _ hB=>hB.keptc (grownBy_putObj' W l o') (fun r e=>by cases e;exact⟨o,hl,hc⟩)) (Below.refl _ _) (fun _=>rfl)
  (MGo w w.heap.size gs (gs+1) #[.int .i64 g1,.int .i64 g2,.slice oo lo co,.slice a1 a2 a3,.slice b1 b2 b3,.slice d1 d2 d3,.slice e1 e2 e3,.slice f1 f2 f3,.slice j1 j2 j3] #[.slice k1 k2 k3,.slice l1 l2 l3,.bool P.inf] K P L) (MEnd w w.heap.size K P)
  (MGo.kept HNE.out.2.2) (MEnd.kept HNE.out.2.2) ⟨none,none,0,0,0,0,noZ,rfl,HGI.out⟩
  (fun x=>{ tmps:=#[.agg #[.int .i64 g1,.int .i64 g2,.slice oo lo co,.slice a1 a2 a3,.slice b1 b2 b3,.slice d1 d2 d3,.slice e1 e2 e3,.slice f1 f2 f3,.slice j1 j2 j3],.slice m1 m2 m3,.agg #[.slice k1 k2 k3,.slice l1 l2 l3,.bool P.inf],.pointer (some ⟨w.heap.size,0,none⟩),undef,.pointer (some ⟨w.heap.size+1,0,none⟩),.pointer (some ⟨w.heap.size+1+1,0,none⟩),.pointer (some ⟨w.heap.size+1+1+1,0,none⟩),.pointer (some ⟨gs,0,none⟩),.pointer (some ⟨gs+1,0,none⟩),undef,.bool x.2,.pointer (some ⟨w.heap.size,3,none⟩),.slice a1 a2 a3,.bool false,undef,.agg #[.slice none 0 0,.slice none 0 0,.bool true],.slice m1 m2 m3,.func (.func 99) #[] #[.pointer (some ⟨g4,0,none⟩),.pointer (some ⟨g3,0,none⟩)],.int .i64 x.1,.bool x.2,undef,undef,undef,undef,undef,undef,undef,undef,undef,undef,undef,undef,undef,undef,undef,undef,undef,undef,undef,undef,undef,undef,undef],defers:=[] }) ?assign ?body ?done ?stop
 case assign=>
  intro l x W' K hK
  gi_wp2
  exact hK
 case body=>
  rintro l pre ⟨z1,z2⟩ W' ⟨x1,y1,x2,x3,y2,y3,q,hmf,hst⟩ hlen;have HST:Hid (MSt w w.heap.size gs (gs+1) #[.int .i64 g1,.int .i64 g2,.slice oo lo co,.slice a1 a2 a3,.slice b1 b2 b3,.slice d1 d2 d3,.slice e1 e2 e3,.slice f1 f2 f3,.slice j1 j2 j3] #[.slice k1 k2 k3,.slice l1 l2 l3,.bool P.inf] K P L x1 y1 x2 x3 y2 y3 q W'):=hst;have HMF:Hid (MF K P pre q):=hmf;have HA:=Add_pt _ (.agg #[.slice x1 x2 x3,.slice y1 y2 y3,.bool q.inf]) (.agg #[.slice x1 x2 x3,.slice y1 y2 y3,.bool q.inf]) K q q L W' hst.cu ⟨_,_,rfl,hst.sx,hst.sy⟩ ⟨_,_,rfl,hst.sx,hst.sy⟩ HLL.out;obtain⟨⟨C0,C1,C2,C3,C4,C5,C6,C7,C8⟩,P0,P1,P2⟩:=hst.fr.cells;obtain⟨S0,S1,S2,S3,S4,S5⟩:=hst.sum.facts;clear hst hmf hBA HGI
  gi_wp2_with fail
  refine⟨trivial,?_⟩;refine(CallsIn.inRound l (callsIn_wide.2 HA)).mono ?_;rintro e W2 ⟨r,hr,hb2,hpa⟩;have HS2:Hid (MSt w w.heap.size gs (gs+1) #[.int .i64 g1,.int .i64 g2,.slice oo lo co,.slice a1 a2 a3,.slice b1 b2 b3,.slice d1 d2 d3,.slice e1 e2 e3,.slice f1 f2 f3,.slice j1 j2 j3] #[.slice k1 k2 k3,.slice l1 l2 l3,.bool P.inf] K P L x1 y1 x2 x3 y2 y3 q W2):=HST.out.old hb2;obtain⟨T0,T1,T2,T3,T4,T5⟩:=HS2.out.sum.facts;obtain⟨U0,U1⟩:=HS2.out.ok.facts;have KO:Hid (KeepsOthers W' W2):=KeepsOthers.of_below hb2;have KP:Hid (BitsAt W' g3 g4 n N→BitsAt W2 g3 g4 n N):=fun hB=>hB.old hb2;clear C0 C1 C2 C3 C4 C5 C6 C7 C8 P0 P1 P2 S0 S1 S2 S3 S4 S5 HST HA hb2;have N7:w.heap.size≠gs∧w.heap.size≠gs+1∧w.heap.size+1≠gs∧w.heap.size+1≠gs+1∧w.heap.size+1+1≠gs∧w.heap.size+1+1≠gs+1∧w.heap.size+1+1+1≠gs∧w.heap.size+1+1+1≠gs+1:=by have:=HGX.out.1;omega
  obtain⟨M1,M2,M3,M4,M5,M6,M7,M8⟩:=N7;obtain⟨⟨C0,C1,C2,C3,C4,C5,C6,C7,C8⟩,P0,P1,P2⟩:=HS2.out.fr.cells;obtain⟨R0,R1,R2,R3,R4,R5⟩:=HS2.out.fr.r.facts;obtain⟨O0,O1⟩:=BBx.facts HS2.out.fr.o;have N1:gs≠w.heap.size+1+1:=by have:=HGX.out.1;omega
  have N2:gs≠w.heap.size+1+1+1:=by have:=HGX.out.1;omega
  have N3:gs+1≠w.heap.size+1+1:=by have:=HGX.out.1;omega
  have N4:gs+1≠w.heap.size+1+1+1:=by have:=HGX.out.1;omega
  rcases hpa with⟨v,d,rfl,rfl,hv⟩|⟨rfl,rfl⟩
  ·obtain⟨vx,vy,rfl,hvx,hvy⟩:=hv;have hvx':=hvx;have hvy':=hvy;obtain⟨o1,o2,o3,o4,rfl,o5⟩:=hvx;obtain⟨r1,r2,r3,r4,rfl,r5⟩:=hvy;have NX:=HS2.out.next (q':=d) ⟨HGX.out.1,rfl,rfl⟩ hvx' hvy';have KP2:Hid (BitsAt W' g3 g4 n N→BitsAt (sumW W2 gs (gs+1) (.slice o1 o2 o3) (.slice r1 r2 r3) d.inf true) g3 g4 n N):=fun hB=>bitsAt_sum (KP.out hB) HS2.out.sum HS2.out.ok (by omega) ⟨HNE.out.1,HNE.out.2.1⟩ _ _ _ _;have KO2:Hid (KeepsOthers W' (sumW W2 gs (gs+1) (.slice o1 o2 o3) (.slice r1 r2 r3) d.inf true)):=KO.out.trans (sumW_keeps _ _ _ _ _ _ _);have HN:Hid (MSt w w.heap.size gs (gs+1) #[.int .i64 g1,.int .i64 g2,.slice oo lo co,.slice a1 a2 a3,.slice b1 b2 b3,.slice d1 d2 d3,.slice e1 e2 e3,.slice f1 f2 f3,.slice j1 j2 j3] #[.slice k1 k2 k3,.slice l1 l2 l3,.bool P.inf] K P L o1 r1 o2 o3 r2 r3 d (sumW W2 gs (gs+1) (.slice o1 o2 o3) (.slice r1 r2 r3) d.inf true)):=NX;have HR:Hid (AddZ K q q (some d)):=hr;clear hr hvx' hvy' o5 r5 NX KP KO HS2
   cases z2 with
   | false=>
    gi_wp2
    exact⟨KO2.out,KP2.out,o1,r1,o2,o3,r2,r3,d,(MF_snoc K P pre (z1,false) d).2 ⟨q,HMF.out,some d,HR.out,.inr ⟨d,rfl,rfl⟩⟩,HN.out⟩
   | true =>
    have HA2:=Add_pt _ (.agg #[.slice o1 o2 o3,.slice r1 r2 r3,.bool d.inf]) (.agg #[.slice k1 k2 k3,.slice l1 l2 l3,.bool P.inf]) K d P L (sumW W2 gs (gs+1) (.slice o1 o2 o3) (.slice r1 r2 r3) d.inf true) HN.out.cu ⟨_,_,rfl,HN.out.sx,HN.out.sy⟩ HN.out.pp HLL.out
    gi_wp2_with fail
    refine⟨trivial,?_⟩;refine(CallsIn.inRound l (callsIn_wide.2 HA2)).mono ?_;clear C0 C1 C2 C3 C4 C5 C6 C7 C8 P0 P1 P2 T0 T1 T2 T3 T4 T5 U0 U1 R0 R1 R2 R3 R4 R5 O0 O1;rintro e W4 ⟨r,hr,hb4,hpa⟩;have HS4:Hid (MSt w w.heap.size gs (gs+1) #[.int .i64 g1,.int .i64 g2,.slice oo lo co,.slice a1 a2 a3,.slice b1 b2 b3,.slice d1 d2 d3,.slice e1 e2 e3,.slice f1 f2 f3,.slice j1 j2 j3] #[.slice k1 k2 k3,.slice l1 l2 l3,.bool P.inf] K P L o1 r1 o2 o3 r2 r3 d W4):=HN.out.old hb4;obtain⟨T0,T1,T2,T3,T4,T5⟩:=HS4.out.sum.facts;obtain⟨U0,U1⟩:=HS4.out.ok.facts;obtain⟨R0,R1,R2,R3,R4,R5⟩:=HS4.out.fr.r.facts;obtain⟨O0,O1⟩:=BBx.facts HS4.out.fr.o;have KO4:Hid (KeepsOthers W' W4):=KO2.out.trans (KeepsOthers.of_below hb4);have KP4:Hid (BitsAt W' g3 g4 n N→BitsAt W4 g3 g4 n N):=fun hB=>(KP2.out hB).old hb4;clear hb4 HN KO2 KP2 HA2;rcases hpa with⟨v,d',rfl,rfl,hv⟩|⟨rfl,rfl⟩
    ·obtain⟨vx,vy,rfl,hvx,hvy⟩:=hv;have hvx':=hvx;have hvy':=hvy;obtain⟨t1,t2,t3,t4,rfl,t5⟩:=hvx;obtain⟨u1,u2,u3,u4,rfl,u5⟩:=hvy;have NX:=HS4.out.next (q':=d') ⟨HGX.out.1,rfl,rfl⟩ hvx' hvy';have KP5:Hid (BitsAt W' g3 g4 n N→BitsAt (sumW W4 gs (gs+1) (.slice t1 t2 t3) (.slice u1 u2 u3) d'.inf true) g3 g4 n N):=fun hB=>bitsAt_sum (KP4.out hB) HS4.out.sum HS4.out.ok (by omega) ⟨HNE.out.1,HNE.out.2.1⟩ _ _ _ _;have KO5:Hid (KeepsOthers W' (sumW W4 gs (gs+1) (.slice t1 t2 t3) (.slice u1 u2 u3) d'.inf true)):=KO4.out.trans (sumW_keeps _ _ _ _ _ _ _);have HN5:Hid (MSt w w.heap.size gs (gs+1) #[.int .i64 g1,.int .i64 g2,.slice oo lo co,.slice a1 a2 a3,.slice b1 b2 b3,.slice d1 d2 d3,.slice e1 e2 e3,.slice f1 f2 f3,.slice j1 j2 j3] #[.slice k1 k2 k3,.slice l1 l2 l3,.bool P.inf] K P L t1 u1 t2 t3 u2 u3 d' (sumW W4 gs (gs+1) (.slice t1 t2 t3) (.slice u1 u2 u3) d'.inf true)):=NX;have HR5:Hid (AddZ K d P (some d')):=hr;clear hr hvx' hvy' t5 u5 NX KP4 KO4 HS4
     gi_wp2
     exact⟨KO5.out,KP5.out,t1,u1,t2,t3,u2,u3,d',(MF_snoc K P pre (z1,true) d').2 ⟨q,HMF.out,some d,HR.out,.inr ⟨d,rfl,HR5.out⟩⟩,HN5.out⟩
    ·have HF:=HS4.out.fails ⟨HGX.out.1,rfl,rfl⟩ (x:=(z1,true)) HMF.out ⟨some d,HR.out,.inr ⟨d,rfl,hr⟩⟩;have HFF:Hid _:=HF;clear HF hr
     gi_wp2
     exact⟨KO4.out.trans HFF.out.1,HFF.out.2⟩
  ·have HF:=HS2.out.fails ⟨HGX.out.1,rfl,rfl⟩ (x:=(z1,z2)) HMF.out ⟨none,hr,.inl ⟨rfl,rfl⟩⟩;have HFF:Hid _:=HF;clear HF hr
   gi_wp2
   exact⟨KO.out.trans HFF.out.1,HFF.out.2⟩
 case done=>
  rintro D ys W' hD hys ⟨x1,y1,x2,x3,y2,y3,q,hmf,hst⟩ hK;have HST:Hid (MSt w w.heap.size gs (gs+1) #[.int .i64 g1,.int .i64 g2,.slice oo lo co,.slice a1 a2 a3,.slice b1 b2 b3,.slice d1 d2 d3,.slice e1 e2 e3,.slice f1 f2 f3,.slice j1 j2 j3] #[.slice k1 k2 k3,.slice l1 l2 l3,.bool P.inf] K P L x1 y1 x2 x3 y2 y3 q W'):=hst;have HMF:Hid (MF K P (bitsOf n N N) q):=by rw[←hys];exact hmf
  have HK:Hid (W'.heap[D]?=some (.deferred (some []))∧W6.heap.size≤D):=⟨hK,hD⟩
  obtain⟨S0,S1,S2,S3,S4,S5⟩:=hst.sum.facts;obtain⟨R0,R1,R2,R3,R4,R5⟩:=hst.fr.r.facts;obtain⟨O0,O1⟩:=BBx.facts hst.fr.o;clear hst hmf hBA HGI hys hK hD;have SS:=sumW_sum HST.out.fr.r (go:=w.heap.size+1+1+1) (by omega) (.slice x1 x2 x3) (.slice y1 y2 y3) q.inf true;have SO:=sumW_ok (gs:=w.heap.size+1+1) HST.out.fr.o (by omega) (.slice x1 x2 x3) (.slice y1 y2 y3) q.inf true;have SX:=nv_sum HST.out.sx HST.out.fr.r HST.out.fr.o (by omega) (.slice x1 x2 x3) (.slice y1 y2 y3) q.inf true;have SY:=nv_sum HST.out.sy HST.out.fr.r HST.out.fr.o (by omega) (.slice x1 x2 x3) (.slice y1 y2 y3) q.inf true;have SB:=sumW_below (gs:=w.heap.size+1+1) (go:=w.heap.size+1+1+1) HST.out.low (by omega) (by omega) (.slice x1 x2 x3) (.slice y1 y2 y3) q.inf true;have SK:=(sumW_keeps W' (w.heap.size+1+1) (w.heap.size+1+1+1) (.slice x1 x2 x3) (.slice y1 y2 y3) q.inf true).same D _ HK.out.1 rfl;have HALL:Hid (_∧_∧_∧_∧_∧_):=⟨SS,SO,SX,SY,SB,SK⟩
  clear SS SO SX SY SB SK
  gi_wp2
  obtain⟨SS,SO,SX,SY,SB,SK⟩:=HALL.out;refine⟨by simp,.inl ⟨_,_,rfl,run_takeDeferred SK,?_⟩⟩;have gk:=grownBy_putObj' (sumW W' (w.heap.size+1+1) (w.heap.size+1+1+1) (.slice x1 x2 x3) (.slice y1 y2 y3) q.inf true) D (.deferred none);have hr:∀r,some D=some r→∃o:Obj,(sumW W' (w.heap.size+1+1) (w.heap.size+1+1+1) (.slice x1 x2 x3) (.slice y1 y2 y3) q.inf true).heap[r]?=some o∧o.isCells=false:=fun r e=>by cases e;exact⟨_,SK,rfl⟩
  refine⟨_,ret_ptb rfl _ _ (w.heap.size+1+1) (w.heap.size+1+1+1) _ _ _ _ rfl rfl (blk_kept SS gk hr) (blk_kept SO gk hr),some q,.inl ⟨q,rfl,by rw[HNN.out];exact HMF.out⟩,SB.trans (belowK_b (w:=w) (Nat.le_refl _) _ D _ _ (by have:=HK.out.2;have:=HNE.out.2.2;omega) SK rfl rfl),.inl ⟨_,q,rfl,rfl,_,_,rfl,SX.kept gk hr,SY.kept gk hr⟩⟩
 case stop=>
  rintro D c pre W' hD hpre ⟨rfl,h1,h2,h3⟩ hK;obtain⟨pre',x,q,rfl,hm,hs⟩:=h3
  gi_wp2
  refine⟨by simp,.inl ⟨_,_,rfl,run_takeDeferred hK,?_⟩⟩;have gk:=grownBy_putObj' W' D (.deferred none);have hr:∀r,some D=some r→∃o:Obj,W'.heap[r]?=some o∧o.isCells=false:=fun r e=>by cases e;exact⟨_,hK,rfl⟩
  exact⟨_,ret_ptb rfl _ _ (w.heap.size+1+1) (w.heap.size+1+1+1) _ _ _ _ rfl rfl (blk_kept h1.1 gk hr) (blk_kept h1.2 gk hr),none,.inr ⟨rfl,pre',x,q,by rw[HNN.out];exact hpre,hm,hs⟩,h2.trans (belowK_b (w:=w) (Nat.le_refl _) _ D _ _ (by have:=HNE.out.2.2;omega) hK rfl rfl),.inr ⟨rfl,rfl⟩⟩
end
end Go.Proofs.YtkhnnhbmchnajaaGreat
