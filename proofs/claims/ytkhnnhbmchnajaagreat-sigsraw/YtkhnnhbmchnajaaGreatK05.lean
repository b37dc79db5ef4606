import Derived.Test.YtkhnnhbmchnajaaGreatK04
set_option maxRecDepth 100000
set_option maxHeartbeats 40000000
set_option linter.unusedVariables false
set_option linter.unusedSimpArgs false
namespace Go.Proofs.YtkhnnhbmchnajaaGreat
section
open Go.Shelf Go.RowKit
theorem splitLength_one(b o:Nat)(f:UInt8)(P:Nat→Prop)(w:World)(h:ByV w P (some ⟨b,o,none⟩) 1 [f]):
  Calls Tryz.prog 92 #[.slice (some ⟨b,o,none⟩) 1 1] w (SlPost w P (lenD [f])):=by
 have hf:=f.toNat_lt;have c0:w.cell? ⟨b,o,none⟩=some (.int .u8 (f.toNat:Int)):=by
  obtain⟨b',o',e,hc⟩:=h.lies (by simp)
  cases e
  have:=hc 0 (by simp);simpa using this
 have hdr:=h.drop 1 (by simp);have hdr':ByV w P (some ⟨b,o,none⟩) 0 []:=by simpa using hdr
 have HD:Hid (ByV w P (some ⟨b,o,none⟩) 0 []):=hdr';obtain⟨R,hR⟩:∃R,lenD [f]=R:=⟨_,rfl⟩
 rw[hR];obtain⟨F,hF⟩:∃F,f.toNat=F:=⟨_,rfl⟩
 rw[hF]at c0 hf;have HF:Hid (f.toNat=F∧lenD [f]=R):=⟨hF,hR⟩
 clear hF hR h hdr hdr';by_cases q1:F<128
 ·have q1I:(F:Int)<128:=by omega
  go_enter Tryz.func92,Tryz.ntmps92;go_wp2_with fail
  go_quiet (fail)
  go_wp2_with fail
  go_ret3
  exact SlPost.yes F [] _ _ _ (by rw[←HF.out.2];simp only[lenD,HF.out.1,if_pos q1]) (by omega) rfl HD.out (below_drews (Below.refl _ _) _)
 have q1I:¬(F:Int)<128:=by omega
 by_cases q2:F=128
 ·subst q2;have hR0:R=none:=by rw[←HF.out.2];exact lenD_80 HF.out.1
  go_enter Tryz.func92,Tryz.ntmps92;go_wp2_with fail
  go_quiet (fail)
  generalize hwq:World.drewN w nq=wq;have HW:Hid (Below w.heap.size w wq):=by rw[←hwq];exact below_drews (Below.refl _ _) _
  clear hwq;go_wp2_with fail
  go_loopw [8,35] (fun v8 v35 wr=>v35=.int .i64 0∧v8=.int .i64 0∧wr=wq) (fun _ _ _=>0)
  case atStart=>exact⟨rfl,rfl,rfl⟩
  case round=>
   obtain⟨rfl,rfl,rfl⟩:=hrel;go_wp2_with fail
   go_quiet (fail)
   go_wp2_with fail
   go_ret3
   exact SlPost.no hR0 (below_drews HW.out _)
 have q4:128<F:=by omega
 have hmin:0<(F:Int)-128:=by omega
 have hR0:R=none:=by rw[←HF.out.2];exact lenD_few (by rw[HF.out.1];simpa using q4)
 go_enter Tryz.func92,Tryz.ntmps92;go_wp2_with fail
 go_quiet (fail)
 go_wp2_with fail
 go_ret3
 exact SlPost.no hR0 (below_drews (Below.refl _ _) _)
theorem splitLength_any(p:Option Addr)(n c:Nat)(bs:Bs)(P:Nat→Prop)(w:World)(hn:bs.length=n)(h:ByV w P p c bs):
  Calls Tryz.prog 92 #[.slice p n c] w (SlPost w P (lenD bs)):=by
 cases bs with
 | nil=>
  simp at hn;subst hn;go_enter Tryz.func92,Tryz.ntmps92;go_wp2_with fail
  go_ret3
  exact SlPost.no rfl (Below.refl _ _)
 | cons f xs =>
  obtain⟨b,o,rfl,_⟩:=h.lies (by simp);by_cases hc:c=1
  ·subst hc;have h1:=h.cap;have:xs=[]:=List.eq_nil_of_length_eq_zero (by simp only[List.length_cons]at h1;omega);subst this;simp at hn;subst hn;exact splitLength_one b o f P w h
  ·exact splitLength_more b o c n f xs P w (by simpa using hn) h hc
def Tl (w:World)(g:Nat)(v0 v1:Value):Prop:=w.heap[g]?=some (.cells #[v0,v1] 93 (0,0))
theorem Tl.new(w:World)(v0 v1:Value):Tl (w.alloc (.cells #[v0,v1] 93)) w.heap.size v0 v1:=heap_alloc_new w _
theorem Tl.same{w w':World}{g:Nat}{v0 v1:Value}(h:Tl w g v0 v1)(hb:w'.heap[g]?=w.heap[g]?):Tl w' g v0 v1:=by unfold Tl;rw[hb];exact h
theorem Tl.lt{w:World}{g:Nat}{v0 v1:Value}(h:Tl w g v0 v1):g<w.heap.size:=(Array.getElem?_eq_some_iff.1 h).1
theorem Tl.below{w w':World}{g:Nat}{v0 v1:Value}(h:Tl w g v0 v1)(hb:Below w.heap.size w w'):Tl w' g v0 v1:=h.same (hb.block g h.lt)
theorem Tl.c0{w:World}{g:Nat}{v0 v1:Value}(h:Tl w g v0 v1):w.cell? ⟨g,0,none⟩=some v0:=by rw[cell_of_row w g 0 _ _ _ h];rfl
theorem Tl.c1{w:World}{g:Nat}{v0 v1:Value}(h:Tl w g v0 v1):w.cell? ⟨g,1,none⟩=some v1:=by rw[cell_of_row w g 1 _ _ _ h];rfl
theorem Tl.fr{w:World}{g:Nat}{v0 v1:Value}(h:Tl w g v0 v1)(j:Nat):w.frozen? ⟨g,j,none⟩=false:=frozen_of_row w g j _ _ h
theorem Tl.set0{w:World}{g:Nat}{v0 v1:Value}(h:Tl w g v0 v1)(u:Value):Tl (w.setCell ⟨g,0,none⟩ u) g u v1:=by unfold Tl;rw[heap_set_at w g 0 _ _ _ _ h];rfl
theorem Tl.set1{w:World}{g:Nat}{v0 v1:Value}(h:Tl w g v0 v1)(u:Value):Tl (w.setCell ⟨g,1,none⟩ u) g v0 u:=by unfold Tl;rw[heap_set_at w g 1 _ _ _ _ h];rfl
theorem Tl.set2{w:World}{g:Nat}{v0 v1:Value}(h:Tl w g v0 v1)(u u':Value):Tl ((w.setCell ⟨g,0,none⟩ u).setCell ⟨g,1,none⟩ u') g u u':=(h.set0 u).set1 u'
theorem Tl.facts{w:World}{g:Nat}{v0 v1:Value}(h:Tl w g v0 v1):w.cell? ⟨g,0,none⟩=some v0∧w.cell? ⟨g,1,none⟩=some v1∧w.frozen? ⟨g,0,none⟩=false∧w.frozen? ⟨g,1,none⟩=false:=⟨h.c0,h.c1,h.fr 0,h.fr 1⟩
theorem Tl.facts1{w:World}{g:Nat}{v0 v1:Value}(h:Tl w g v0 v1)(u:Value):(w.setCell ⟨g,0,none⟩ u).cell? ⟨g,1,none⟩=some v1∧(w.setCell ⟨g,0,none⟩ u).frozen? ⟨g,1,none⟩=false:=⟨(h.set0 u).c1,(h.set0 u).fr 1⟩
theorem but_set2(w:World)(g:Nat)(u u':Value):But g w ((w.setCell ⟨g,0,none⟩ u).setCell ⟨g,1,none⟩ u'):=(But.setCell g w 0 u).trans (But.setCell g _ 1 u')
theorem sizeTlv:(Tryz.prog.info? 93).map (·.size)=some 2:=by kernel_rfl
theorem ret_tlv3{fn:Func}{p u v:Tmp}(h:fn.results=#[.cell p 93,.tmp u,.tmp v])(tmps:Array Value)(w:World)(g:Nat)(c0 c1:Value)(hp:tmps.getD p undef=.pointer (some ⟨g,0,none⟩))(hg:Tl w g c0 c1):
  (results fn tmps).run Tryz.prog w=.ok (.tuple #[.agg #[c0,c1],tmps.getD u undef,tmps.getD v undef]) w:=by
 have hl:=run_loadVar_row (P:=Tryz.prog) w g 93 93 #[c0,c1] (0,0) _ hg Tryz.underlying93 rfl (sizeTlv);have hp':tmps[p]?.getD undef=.pointer (some ⟨g,0,none⟩):=by simpa using hp
 simp only[results,h];simp[Sem.run_bind,Result.andThen,asAddr,hl,hp']
theorem ret_tlv1{fn:Func}{p:Tmp}(h:fn.results=#[.cell p 93])(tmps:Array Value)(w:World)(g:Nat)(c0 c1:Value)(hp:tmps.getD p undef=.pointer (some ⟨g,0,none⟩))(hg:Tl w g c0 c1):
  (results fn tmps).run Tryz.prog w=.ok (.agg #[c0,c1]) w:=by
 have hl:=run_loadVar_row (P:=Tryz.prog) w g 93 93 #[c0,c1] (0,0) _ hg Tryz.underlying93 rfl (sizeTlv);have hp':tmps[p]?.getD undef=.pointer (some ⟨g,0,none⟩):=by simpa using hp
 simp only[results,h];simp[Sem.run_bind,Result.andThen,asAddr,hl,hp']
def SpPost(w:World)(P:World→Nat→Prop)(R:Except Nat ((UInt8 × Bs) × Bs))(e:Ending)(w':World):Prop:=
 Below w.heap.size w w'∧((∃t b r p1 c1 p2 c2,R=.ok ((t,b),r)∧e=.returned (.tuple #[.agg #[.int .u8 (t.toNat:Int),.slice p1 b.length c1],.slice p2 r.length c2,.int .i64 0])∧ByV w' (P w) p1 c1 b∧ByV w' (P w) p2 c2 r)∨(∃k,R=.error k∧e=.returned (.tuple #[.agg #[.int .u8 0,.slice none 0 0],.slice none 0 0,.int .i64 (k:Int)])))
theorem SpPost.okx{w w':World}{P:World→Nat→Prop}{t:UInt8}{b r:Bs}{e:Ending}(h:SpPost w P (.ok ((t,b),r)) e w'):Below w.heap.size w w'∧∃p1 c1 p2 c2,e=.returned (.tuple #[.agg #[.int .u8 (t.toNat:Int),.slice p1 b.length c1],.slice p2 r.length c2,.int .i64 0])∧ByV w' (P w) p1 c1 b∧ByV w' (P w) p2 c2 r:=by
 obtain⟨h1,(⟨t,b,r,p1,c1,p2,c2,hR,h2⟩|⟨k,hR,_⟩)⟩:=h
 ·cases hR;exact⟨h1,p1,c1,p2,c2,h2⟩
 ·cases hR
theorem SpPost.errx{w w':World}{P:World→Nat→Prop}{k:Nat}{e:Ending}(h:SpPost w P (.error k) e w'):Below w.heap.size w w'∧e=.returned (.tuple #[.agg #[.int .u8 0,.slice none 0 0],.slice none 0 0,.int .i64 (k:Int)]):=by
 obtain⟨h1,(⟨t,b,r,p1,c1,p2,c2,hR,h2⟩|⟨k',hR,h2⟩)⟩:=h
 ·cases hR
 ·cases hR;exact⟨h1,h2⟩
theorem SpPost.bad{w w':World}{P:World→Nat→Prop}{R:Except Nat ((UInt8 × Bs) × Bs)}(k:Nat)(hR:R=.error k)(hb:Below w.heap.size w w'):SpPost w P R (.returned (.tuple #[.agg #[.int .u8 0,.slice none 0 0],.slice none 0 0,.int .i64 (k:Int)])) w':=⟨hb,.inr ⟨k,hR,rfl⟩⟩
theorem derSplit(p:Option Addr)(n c:Nat)(bs:Bs)(P:Nat→Prop)(w:World)(hn:bs.length=n)(h:ByV w P p c bs):
  Calls Tryz.prog 67 #[.slice p n c] w (SpPost w (fun _=>P) (readD bs)):=by
 have hcap:=h.cap;have hbig:=h.big;rw[hn]at hcap;have hnI:(n:Int)≤9223372036854775807:=by omega
 have hcI:(c:Int)≤9223372036854775807:=by omega
 obtain⟨W0,hW0⟩:∃W0,w.alloc (.cells #[.int .u8 0,.slice none 0 0] 93)=W0:=⟨_,rfl⟩
 have b0:Below w.heap.size w W0:=by rw[←hW0];exact(Below.refl _ _).alloc (Nat.le_refl _) _
 have s0:Tl W0 w.heap.size (.int .u8 0) (.slice none 0 0):=by rw[←hW0];exact Tl.new w _ _
 obtain⟨g0,g1,g2,g3⟩:=s0.facts;obtain⟨g4,g5⟩:=s0.facts1 (.int .u8 0);have HBAD:Hid (∀k,readD bs=.error k→SpPost w (fun _=>P) (readD bs) (.returned (.tuple #[.agg #[.int .u8 0,.slice none 0 0],.slice none 0 0,.int .i64 (k:Int)])) ((W0.setCell ⟨w.heap.size,0,none⟩ (.int .u8 0)).setCell ⟨w.heap.size,1,none⟩ (.slice none 0 0))):=fun k hk=>SpPost.bad k hk (b0.trans ((but_set2 W0 w.heap.size _ _).below (Nat.le_refl _) b0.size));have HBAD2:Hid (∀W k,Below W0.heap.size W0 W→readD bs=.error k→SpPost w (fun _=>P) (readD bs) (.returned (.tuple #[.agg #[.int .u8 0,.slice none 0 0],.slice none 0 0,.int .i64 (k:Int)])) ((W.setCell ⟨w.heap.size,0,none⟩ (.int .u8 0)).setCell ⟨w.heap.size,1,none⟩ (.slice none 0 0))):=fun W k hW hk=>SpPost.bad k hk ((b0.trans (hW.mono b0.size)).trans ((but_set2 W w.heap.size _ _).below (Nat.le_refl _) (Nat.le_trans b0.size hW.size)));have HS0:Hid (Tl W0 w.heap.size (.int .u8 0) (.slice none 0 0)∧Below w.heap.size w W0):=⟨s0,b0⟩
 clear s0;by_cases hl:4096<n
 ·have hlI:4096<(n:Int):=by omega
  have hR:readD bs=.error 3:=by unfold readD;rw[if_pos (by omega)]
  go_enter Tryz.func67,Tryz.ntmps67;go_wp2_with fail
  refine bodyPost_ret (ret_tlv3 rfl _ _ w.heap.size _ _ rfl (HS0.out.1.set2 _ _)) rfl ?_;exact HBAD.out 3 hR
 have hlI:¬4096<(n:Int):=by omega
 cases bs with
 | nil=>
  simp at hn;subst hn;have hR:readD []=.error 30:=rfl;go_enter Tryz.func67,Tryz.ntmps67;go_wp2_with fail
  refine bodyPost_ret (ret_tlv3 rfl _ _ w.heap.size _ _ rfl (HS0.out.1.set2 _ _)) rfl ?_;exact HBAD.out 30 hR
 | cons t xs =>
  obtain⟨b,o,rfl,hcl⟩:=h.lies (by simp);have c0:W0.cell? ⟨b,o,none⟩=some (.int .u8 (t.toNat:Int)):=by
   have:=hcl 0 (by simp);have h2:w.cell? ⟨b,o,none⟩=some (.int .u8 (t.toNat:Int)):=by simpa using this
   exact(b0.cell (p:=⟨b,o,none⟩) (World.block_lt_of_cell? w _ h2)).trans h2
  have ht:=t.toNat_lt;have hm:xs.length=n-1:=by simp at hn;omega
  have hn0:0<n:=by simp at hn;omega
  have hz:((n:Int)==0)=false:=by simp;omega
  have hn1:(1:Int)≤(n:Int):=by omega
  obtain⟨TN,hTN⟩:∃T,t.toNat=T:=⟨_,rfl⟩
  rw[hTN]at c0 ht;have HTN:Hid (t.toNat=TN∧xs.length=n-1):=⟨hTN,hm⟩
  have HV:Hid (ByV w P (some ⟨b,o,none⟩) c (t::xs)):=h;clear h hcl hn hm hTN;by_cases q1:TN%32=31
  ·have HT:=isTag_any TN ht;rw[show decide (TN%32≠31)=false by simp[q1]]at HT;have hR:readD (t::xs)=.error 30:=by
    unfold readD;rw[if_neg (by simp;rw[HTN.out.2];omega)];simp only[];rw[HTN.out.1,if_pos q1]
   clear q1;go_enter Tryz.func67,Tryz.ntmps67;go_wp2_with (go_at_call 91;refine(HT _).mono ?_;rintro e w1 ⟨rfl,rfl⟩)
   refine bodyPost_ret (ret_tlv3 rfl _ _ w.heap.size _ _ rfl (HS0.out.1.set2 _ _)) rfl ?_;exact HBAD.out 30 hR
  have HT:=isTag_any TN ht;rw[show decide (TN%32≠31)=true by simp[q1]]at HT;have HR0:Hid (readD (t::xs)=match lenD xs with
    | none=>.error 30
    | some (k,ys)=>if ys.length<k then .error 30 else .ok ((t,ys.take k),ys.drop k)):=by
   show readD (t::xs)=_;unfold readD;rw[if_neg (by simp;rw[HTN.out.2];omega)];simp only[];rw[HTN.out.1,if_neg q1];all_goals cases lenD xs with
   | none=>rfl
   | some q=>rfl
  obtain⟨P',hP'⟩:∃P':Nat→Prop,P'=fun b=>P b∧b<w.heap.size:=⟨_,rfl⟩
  have HP:Hid (P'=fun b=>P b∧b<w.heap.size):=hP';have hrest:Hid (ByV W0 P' (if c=1 then some ⟨b,o,none⟩ else some ⟨b,o+1,none⟩) (c-1) xs):=by
   have h1:=((HV.out.mono (Q:=P') (fun b hb hlt=>by rw[hP'];exact⟨hb,hlt⟩)).keep (w':=W0) (fun k _ hk=>b0.block k hk)).drop 1 (by simp);by_cases hc:c=1
   ·rw[if_pos hc]at h1;rw[show(if c=1 then some (⟨b,o,none⟩:Addr) else some ⟨b,o+1,none⟩)=some ⟨b,o,none⟩ from if_pos hc];exact h1
   ·rw[if_neg hc]at h1;rw[show(if c=1 then some (⟨b,o,none⟩:Addr) else some ⟨b,o+1,none⟩)=some ⟨b,o+1,none⟩ from if_neg hc];exact h1
  by_cases hc:c=1
  ·subst hc;have hx:xs=[]:=List.eq_nil_of_length_eq_zero (by rw[HTN.out.2];omega);have hm0:n=1:=by omega
   subst hx hm0;have HL:=splitLength_any (some ⟨b,o,none⟩) 0 0 [] P' W0 rfl hrest.out;have hR:Hid (readD [t]=.error 30):=HR0.out;clear HR0 hrest HV q1;go_enter Tryz.func67,Tryz.ntmps67;go_wp2_with (first|(go_at_call 91;refine(HT _).mono ?_;rintro e w1 ⟨rfl,rfl⟩)|(go_at_call 92;refine HL.mono ?_;rintro e w2 ⟨hb2,(⟨k,ys,p1,c1,hk,_⟩|⟨_,s,v,rfl⟩)⟩;(try cases hk);have s2:=HS0.out.1.below hb2;obtain⟨k0,k1,k2,k3⟩:=s2.facts;obtain⟨k4,k5⟩:=s2.facts1 (.int .u8 0);have HS2:Hid (Tl w2 w.heap.size (.int .u8 0) (.slice none 0 0)∧Below w1.heap.size w1 w2):=⟨s2,hb2⟩;clear s2 hb2))
   refine bodyPost_ret (ret_tlv3 rfl _ _ w.heap.size _ _ rfl (HS2.out.1.set2 _ _)) rfl ?_;exact HBAD2.out _ 30 HS2.out.2 hR.out
  have HL:=splitLength_any (some ⟨b,o+1,none⟩) (n-1) (c-1) xs P' W0 HTN.out.2 (by have:=hrest.out;rw[if_neg hc]at this;exact this);have h1c:(1:Int)≤(c:Int):=by omega
  have hmc:(n:Int)≤(c:Int):=by omega
  clear hrest HV q1 hP'
  cases hLD:lenD xs with
  | none=>
   rw[hLD]at HL;have hR:Hid (readD (t::xs)=.error 30):=by have:=HR0.out;rw[hLD]at this;exact this
   clear HR0 hLD;go_enter Tryz.func67,Tryz.ntmps67;go_wp2_with (first|(go_at_call 91;refine(HT _).mono ?_;rintro e w1 ⟨rfl,rfl⟩)|(go_at_call 92;refine HL.mono ?_;rintro e w2 ⟨hb2,(⟨k,ys,p1,c1,hk,_⟩|⟨_,s,v,rfl⟩)⟩;(try cases hk);have s2:=HS0.out.1.below hb2;obtain⟨k0,k1,k2,k3⟩:=s2.facts;obtain⟨k4,k5⟩:=s2.facts1 (.int .u8 0);have HS2:Hid (Tl w2 w.heap.size (.int .u8 0) (.slice none 0 0)∧Below w1.heap.size w1 w2):=⟨s2,hb2⟩;clear s2 hb2))
   refine bodyPost_ret (ret_tlv3 rfl _ _ w.heap.size _ _ rfl (HS2.out.1.set2 _ _)) rfl ?_;exact HBAD2.out _ 30 HS2.out.2 hR.out
  | some q =>
   obtain⟨k,ys⟩:=q;rw[hLD]at HL;obtain⟨L,hL⟩:∃L,ys.length=L:=⟨_,rfl⟩
   by_cases q5:L<k
   ·have hR:Hid (readD (t::xs)=.error 30):=by have:=HR0.out;rw[hLD]at this;simp only[]at this;rw[if_pos (by omega)]at this;exact this
    have q5I:(L:Int)<(k:Int):=by omega
    clear HR0 hLD;go_enter Tryz.func67,Tryz.ntmps67;go_wp2_with (first|(go_at_call 91;refine(HT _).mono ?_;rintro e w1 ⟨rfl,rfl⟩)|(go_at_call 92;refine HL.mono ?_;rintro e w2 ⟨hb2,(⟨k',ys',p1,c1,hk,hk6,rfl,hv⟩|⟨hk,_⟩)⟩;rotate_left;(cases hk);cases hk;rw[hL];have s2:=HS0.out.1.below hb2;obtain⟨k0,k1,k2,k3⟩:=s2.facts;obtain⟨k4,k5⟩:=s2.facts1 (.int .u8 0);have HS2:Hid (Tl w2 w.heap.size (.int .u8 0) (.slice none 0 0)∧Below w1.heap.size w1 w2):=⟨s2,hb2⟩;clear s2 hb2 hv))
    refine bodyPost_ret (ret_tlv3 rfl _ _ w.heap.size _ _ rfl (HS2.out.1.set2 _ _)) rfl ?_;exact HBAD2.out _ 30 HS2.out.2 hR.out
   have hR:Hid (readD (t::xs)=.ok ((t,ys.take k),ys.drop k)):=by have:=HR0.out;rw[hLD]at this;simp only[]at this;rw[if_neg (by omega)]at this;exact this
   have q5I:¬(L:Int)<(k:Int):=by omega
   clear HR0 hLD;go_enter Tryz.func67,Tryz.ntmps67;go_wp2_with (first|(go_at_call 91;refine(HT _).mono ?_;rintro e w1 ⟨rfl,rfl⟩)|(go_at_call 92;refine HL.mono ?_;rintro e w2 ⟨hb2,(⟨k',ys',p1,c1,hk,hk6,rfl,hv⟩|⟨hk,_⟩)⟩;rotate_left;(cases hk);cases hk;rw[hL];have s2:=HS0.out.1.below hb2;obtain⟨k0,k1,k2,k3⟩:=s2.facts;have HS2:Hid (Tl w2 w.heap.size (.int .u8 0) (.slice none 0 0)∧Below w1.heap.size w1 w2):=⟨s2,hb2⟩;have HV2:Hid (ByV w2 P' p1 c1 ys):=hv.keep (fun b _ hb=>hb2.block b hb);have hcap1:=hv.cap;have hbig1:=hv.big;have cc0:w2.cell? ⟨b,o,none⟩=some (.int .u8 (TN:Int)):=(hb2.cell (p:=⟨b,o,none⟩) (World.block_lt_of_cell? w1 _ c0)).trans c0;clear s2 hb2 hv))
   rw[hL]at hcap1;have k1I:(k:Int)≤(L:Int):=by omega
   have k2I:(k:Int)≤(c1:Int):=by omega
   have k3I:(L:Int)≤(c1:Int):=by omega
   have k4I:(c1:Int)≤9223372036854775807:=by omega
   have HE:Hid (∀W p2 c2,Below w2.heap.size w2 W→ByV w2 P' p2 c2 (ys.drop k)→SpPost w (fun _=>P) (readD (t::xs)) (.returned (.tuple #[.agg #[.int .u8 (TN:Int),.slice p1 k c1],.slice p2 (L-k) c2,.int .i64 0])) ((W.setCell ⟨w.heap.size,0,none⟩ (.int .u8 (TN:Int))).setCell ⟨w.heap.size,1,none⟩ (.slice p1 k c1))):=fun W p2 c2 hW hv2=>by
    have hb:Below w.heap.size w W:=HS0.out.2.trans ((HS2.out.2.mono HS0.out.2.size).trans (hW.mono (Nat.le_trans HS0.out.2.size HS2.out.2.size)));have hbut:=but_set2 W w.heap.size (.int .u8 (TN:Int)) (.slice p1 k c1);have hk2:∀g,P' g→g<w2.heap.size→((W.setCell ⟨w.heap.size,0,none⟩ (.int .u8 (TN:Int))).setCell ⟨w.heap.size,1,none⟩ (.slice p1 k c1)).heap[g]?=w2.heap[g]?:=fun g hg hlt=>by rw[HP.out]at hg;exact(hbut.block g (Nat.lt_of_lt_of_le hlt hW.size) (by have:=hg.2;omega)).trans (hW.block g hlt)
    have hm:∀g,P' g→g<((W.setCell ⟨w.heap.size,0,none⟩ (.int .u8 (TN:Int))).setCell ⟨w.heap.size,1,none⟩ (.slice p1 k c1)).heap.size→P g:=fun g hg _=>by rw[HP.out]at hg;exact hg.1
    refine⟨hb.trans (hbut.below (Nat.le_refl _) hb.size),.inl ⟨t,ys.take k,ys.drop k,p1,c1,p2,c2,hR.out,?_,((HV2.out.take k (by omega)).keep hk2).mono hm,(hv2.keep hk2).mono hm⟩⟩;rw[HTN.out.1,List.length_take,List.length_drop,hL,Nat.min_eq_left (by omega)]
   have HV3:=HV2.out.drop k (by omega);by_cases qc:c1=k
   ·subst qc;rw[if_pos rfl,Nat.sub_self]at HV3;have HV4:Hid (ByV w2 P' p1 0 (ys.drop c1)):=HV3;clear HV3;go_region
    go_wp2_with fail
    refine bodyPost_ret (ret_tlv3 rfl _ _ w.heap.size _ _ rfl (Tl.set2 (v0:=.int .u8 0) (v1:=.slice none 0 0) (HS2.out.1.same rfl) _ _)) rfl ?_;have hz0:L-c1=0:=by omega
    have hfin:=HE.out _ _ _ (Below.refl _ _).drew HV4.out;rw[hz0]at hfin;exact hfin
   ·rw[if_neg qc]at HV3;have HV4:Hid (ByV w2 P' (p1.map (fun x=>x.add k)) (c1-k) (ys.drop k)):=HV3;clear HV3;go_region
    go_wp2_with fail
    refine bodyPost_ret (ret_tlv3 rfl _ _ w.heap.size _ _ rfl (Tl.set2 (v0:=.int .u8 0) (v1:=.slice none 0 0) (HS2.out.1.same rfl) _ _)) rfl ?_;exact HE.out _ _ _ (Below.refl _ _).drew HV4.out
theorem set2_other{w:World}{r r1 j:Nat}{v d0 d1:Value}(h:w.cell? ⟨r1,j,none⟩=some v)(hne:r≠r1):((w.setCell ⟨r,0,none⟩ d0).setCell ⟨r,1,none⟩ d1).cell? ⟨r1,j,none⟩=some v:=
 ((but_set2 w r d0 d1).cell (p:=⟨r1,j,none⟩) (World.block_lt_of_cell? w _ h) (fun e=>hne e.symm)).trans h
theorem derCopied(t:Nat)(p:Option Addr)(n c:Nat)(l:Bs)(w:World)(hl:l.length=n)(h:BAt w p n l)(hn:n≤1000000):
  Calls Tryz.prog 123 #[.agg #[.int .u8 (t:Int),.slice p n c]] w fun e w'=>Below w.heap.size w w'∧∃p' c',e=.returned (.agg #[.int .u8 (t:Int),.slice p' n c'])∧ByV w' (fun b=>w.heap.size≤b) p' c' l:=by
 obtain⟨W1,hW1⟩:∃W1,w.alloc (.cells #[.int .u8 (t:Int),.slice p n c] 93)=W1:=⟨_,rfl⟩
 have b1:Below w.heap.size w W1:=by rw[←hW1];exact(Below.refl _ _).alloc (Nat.le_refl _) _
 have s1:Tl W1 w.heap.size (.int .u8 (t:Int)) (.slice p n c):=by rw[←hW1];exact Tl.new w _ _
 have z1:W1.heap.size=w.heap.size+1:=by rw[←hW1];exact alloc_sz w _
 obtain⟨W2,hW2⟩:∃W2,W1.alloc (.cells #[.int .u8 0,.slice none 0 0] 93)=W2:=⟨_,rfl⟩
 have b2:Below W1.heap.size W1 W2:=by rw[←hW2];exact(Below.refl _ _).alloc (Nat.le_refl _) _
 have s2:Tl W2 (w.heap.size+1) (.int .u8 0) (.slice none 0 0):=by rw[←hW2,←z1];exact Tl.new W1 _ _
 have b12:Below w.heap.size w W2:=b1.trans (b2.mono b1.size);have s1':=s1.below b2;obtain⟨g0,g1,g2,g3⟩:=s1'.facts;have HC:=clone_any p n c l W2.drew hl (h.below b12.drew) hn;have HS:Hid (Tl W2 (w.heap.size+1) (.int .u8 0) (.slice none 0 0)∧Below w.heap.size w W2∧Tl W2 w.heap.size (.int .u8 (t:Int)) (.slice p n c)):=⟨s2,b12,s1'⟩
 have hne:w.heap.size≠w.heap.size+1:=by omega
 clear s1 s2 s1' b1 b2 b12 h;go_enter Tryz.func123,Tryz.ntmps123;go_wp2_with fail
 go_region_held3 (fun W=>W.cell? ⟨w.heap.size,0,none⟩=some (.int .u8 (t:Int))∧W.cell? ⟨w.heap.size,1,none⟩=some (.slice p n c))
  (first|exact⟨g0,g1⟩|exact⟨u0,u1⟩|exact⟨set2_other u0 (by omega),set2_other u1 (by omega)⟩)
  (first|(go_at_call 121;refine HC.mono ?_;rintro e w3 ⟨hb3,p',c',rfl,hv⟩;have s3:Tl w3 (w.heap.size+1) (.int .u8 0) (.slice none 0 0):=HS.out.1.same (hb3.block _ HS.out.1.lt);obtain⟨j0,j1,j2,j3⟩:=s3.facts;have hlr:=HS.out.2.2.lt;have u0:=(hb3.cell (p:=⟨w.heap.size,0,none⟩) hlr).trans g0;have u1:=(hb3.cell (p:=⟨w.heap.size,1,none⟩) hlr).trans g1))
 go_wp2_with fail
 refine bodyPost_ret (ret_tlv1 rfl _ _ (w.heap.size+1) _ _ rfl (s3.set2 _ _)) rfl ?_;have b3:=but_set2 w3 (w.heap.size+1) (.int .u8 (t:Int)) (.slice p' n c');have hbw:Below W2.heap.size W2 w3:=⟨hb3.os,hb3.tape,hb3.output,hb3.size,hb3.block⟩
 have hlt2:=HS.out.1.lt;have bA:Below w.heap.size w w3:=HS.out.2.1.trans (hbw.mono (by omega));refine⟨bA.trans (b3.below (by omega) bA.size),p',c',rfl,?_⟩;have hv4:ByV w3 (fun b=>w.heap.size+2≤b) p' c' l:=hv.mono (fun k hk _=>by have hh:W2.heap.size≤k:=hk;omega);exact(hv4.keep (fun k hk hlt=>b3.block k hlt (by omega))).mono (fun k hk _=>by omega)
theorem readD_cons(t f:UInt8)(xs:Bs)(hl:(t::f::xs).length≤4096)(ht:t.toNat%32≠31):readD (t::f::xs)=match lenD (f::xs) with
  | none=>.error 30
  | some (n,ys)=>if ys.length<n then .error 30 else .ok ((t,ys.take n),ys.drop n):=by
 unfold readD;rw[if_neg (by omega)];simp only[];rw[if_neg ht];all_goals cases lenD (f::xs) with
 | none=>rfl
 | some q=>rfl
end
end Go.Proofs.YtkhnnhbmchnajaaGreat
