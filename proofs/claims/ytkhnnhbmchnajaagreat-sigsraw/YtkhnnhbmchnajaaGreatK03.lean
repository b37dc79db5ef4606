import Derived.Test.YtkhnnhbmchnajaaGreatK02
import Derived.Test.YtkhnnhbmchnajaaGreatRows
import Derived.Deep.AppendLies
import Derived.Laws.NewBlocks
import Derived.WalkSpells
import Derived.WalkLawsBesides
import Derived.Lib.ConvBytes
import Derived.Deep.RegionLaw
import Derived.Deep.QuietTactic
import Derived.BigQuiet
import Derived.Shelf.Bytes.SlSmallAll
import Derived.Below
import Derived.Deep.MidRow
import Derived.Deep.RegionHeld3
import Derived.Lib.BytesEntry
import Derived.Laws.Externs
import Derived.Laws.ResultCell
import Derived.Lib.SliceRun
import Derived.Shelf.Bytes.SlEqualAll
import Derived.Maps.AppendAt
set_option maxRecDepth 100000
set_option maxHeartbeats 40000000
set_option linter.unusedVariables false
set_option linter.unusedSimpArgs false
namespace Go.Proofs.YtkhnnhbmchnajaaGreat
section
open Go.Shelf Go.RowKit Go.Lib
theorem owns_keep{w w':World}{base:Nat}{e:TypeId}{s:Nat}{v:Value}{n:Nat}{xs:List Value}(h:w.ownsRow base e s v n xs)(hb:∀g,v.ownBlock=some g→w'.heap[g]?=w.heap[g]?):w'.ownsRow base e s v n xs:=by
 refine⟨h.1,?_⟩;rcases h.2 with h0|⟨g,cap,cur,rfl,hg,hrow,r⟩
 ·exact .inl h0
 ·exact .inr ⟨g,cap,cur,rfl,hg,by rw[hb g rfl];exact hrow,r⟩
theorem owns_lt{w:World}{base:Nat}{e:TypeId}{s:Nat}{v:Value}{n:Nat}{xs:List Value}(h:w.ownsRow base e s v n xs){g:Nat}(hg:v.ownBlock=some g):base≤g∧g<w.heap.size∧∃cur,w.heap[g]?=some (.cells cur e (0,0)):=by
 rcases h.2 with⟨rfl,_⟩|⟨g',cap,cur,rfl,hb,hrow,r⟩
 ·cases hg
 ·cases hg;exact⟨hb,(Array.getElem?_eq_some_iff.1 hrow).1,cur,hrow⟩
theorem owns_cell{w:World}{base:Nat}{e:TypeId}{s:Nat}{n cap g:Nat}{xs:List Value}(h:w.ownsRow base e s (.slice (some ⟨g,0,none⟩) n cap) n xs)(j:Nat)(hj:j<n*s):w.cell? ⟨g,j,none⟩=xs[j]?:=by
 rcases h.2 with⟨h0,_⟩|⟨g',cap',cur,h0,hb,hrow,h1,h2,h3,h4⟩
 ·cases h0
 ·cases h0
  rw[cell_of_row w g j cur e (0,0) hrow,←h4,List.getElem?_take,if_pos hj];simp
theorem heap_set_at(w:World)(g j:Nat)(v:Value)(cs:Array Value)(t:TypeId)(fr:Nat × Nat)(h:w.heap[g]?=some (.cells cs t fr)):(w.setCell ⟨g,j,none⟩ v).heap[g]?=some (.cells (cs.setIfInBounds j v) t fr):=by have hlt:=(Array.getElem?_eq_some_iff.1 h).1;have he:w.heap[g]=.cells cs t fr:=(Array.getElem?_eq_some_iff.1 h).2;simp[World.setCell,hlt];rw[Array.getElem_modify];simp[he]
structure But(g:Nat)(w w':World):Prop where
 os:w'.os=w.os
 tape:w'.tape=w.tape
 output:w'.output=w.output
 size:w.heap.size≤w'.heap.size
 block:∀k,k<w.heap.size→k≠g→w'.heap[k]?=w.heap[k]?
theorem But.trans{g:Nat}{a b c:World}(h:But g a b)(k:But g b c):But g a c:=
 ⟨k.os.trans h.os,k.tape.trans h.tape,k.output.trans h.output,Nat.le_trans h.size k.size,fun i hi hg=>(k.block i (Nat.lt_of_lt_of_le hi h.size) hg).trans (h.block i hi hg)⟩
theorem But.below{g B:Nat}{w w':World}(h:But g w w')(hB:B≤g)(hw:B≤w.heap.size):Below B w w':=⟨h.os,h.tape,h.output,h.size,fun k hk=>h.block k (by omega) (by omega)⟩
theorem But.setCell(g:Nat)(w:World)(j:Nat)(v:Value):But g w (w.setCell ⟨g,j,none⟩ v):=⟨rfl,rfl,rfl,by simp[World.setCell],fun k _ hk=>Below.heap_setCell w ⟨g,j,none⟩ v k hk⟩
theorem But.cell{g:Nat}{w w':World}(h:But g w w'){p:Addr}(hp:p.block<w.heap.size)(hg:p.block≠g):w'.cell? p=w.cell? p:=World.cell?_of_block (w:=w) (h.block p.block hp hg)
def BAt (w:World)(p:Option Addr)(n:Nat)(bs:Bs):Prop:=0<n→∃b o,p=some ⟨b,o,none⟩∧∀i,i<n→w.cell? ⟨b,o+i,none⟩=some (.int .u8 ((bs.getD i 0).toNat:Int))
theorem bytesAt_drop{w:World}{p:Option Addr}{n:Nat}{bs:Bs}(h:BAt w p n bs)(hn:bs.length=n)(c j:Nat)(hj:j≤n)(hc:n≤c):BAt w (if c=j then p else p.map (fun x=>x.add j)) (n-j) (bs.drop j):=fun h0=>by obtain⟨b,o,rfl,hcl⟩:=h (by omega);rw[if_neg (by omega)];refine⟨b,o+j,by simp[Addr.add],fun i hi => ?_⟩;rw[show o+j+i=o+(j+i) by omega,hcl (j+i) (by omega)];simp[List.getD]
theorem alloc_sz(w:World)(o:Obj):(w.alloc o).heap.size=w.heap.size+1:=by show(w.heap.push o).size=_;simp
theorem BAt.below{w w':World}{p:Option Addr}{n:Nat}{l:Bs}(h:BAt w p n l)(hb:Below w.heap.size w w'):BAt w' p n l:=fun h0=>by obtain⟨b,o,e,hc⟩:=h h0;have hlt:=World.block_lt_of_cell? w ⟨b,o+0,none⟩ (hc 0 h0);exact⟨b,o,e,fun i hi=>by rw[←hc i hi];exact hb.cell (p:=⟨b,o+i,none⟩) hlt⟩
structure ByV(w:World)(P:Nat→Prop)(p:Option Addr)(c:Nat)(l:Bs):Prop where
 cap:l.length≤c
 big:c≤9223372036854775807
 lies:BAt w p l.length l
 ok:∀a,p=some a→0<l.length→P a.block
theorem ByV.lt{w:World}{P:Nat→Prop}{p:Option Addr}{c:Nat}{l:Bs}(h:ByV w P p c l){a:Addr}(ha:p=some a)(h0:0<l.length):a.block<w.heap.size∧a.spot=none:=by
 obtain⟨b,o,e,hc⟩:=h.lies h0;rw[ha]at e
 cases e
 exact⟨World.block_lt_of_cell? w ⟨b,o+0,none⟩ (hc 0 h0),rfl⟩
theorem ByV.keep{w w':World}{P:Nat→Prop}{p:Option Addr}{c:Nat}{l:Bs}(h:ByV w P p c l)(hb:∀g,P g→g<w.heap.size→w'.heap[g]?=w.heap[g]?):ByV w' P p c l:=by refine⟨h.cap,h.big,fun h0 => ?_,h.ok⟩;obtain⟨b,o,e,hc⟩:=h.lies h0;have hl:=h.lt e h0;exact⟨b,o,e,fun i hi=>by rw[←hc i hi];exact World.cell?_of_block (w:=w) (hb b (h.ok _ e h0) hl.1)⟩
theorem ByV.mono{w:World}{P Q:Nat→Prop}{p:Option Addr}{c:Nat}{l:Bs}(h:ByV w P p c l)(hPQ:∀g,P g→g<w.heap.size→Q g):ByV w Q p c l:=
 ⟨h.cap,h.big,h.lies,fun a ha h0=>hPQ _ (h.ok a ha h0) (h.lt ha h0).1⟩
theorem ByV.nil(w:World)(P:Nat→Prop):ByV w P none 0 []:=⟨Nat.le_refl _,by omega,fun h=>absurd h (by simp),fun a ha=>by cases ha⟩
theorem ByV.drop{w:World}{P:Nat→Prop}{p:Option Addr}{c:Nat}{l:Bs}(h:ByV w P p c l)(j:Nat)(hj:j≤l.length):ByV w P (if c=j then p else p.map (fun x=>x.add j)) (c-j) (l.drop j):=by
 have hc:=h.cap;have hb:=h.big;refine⟨by rw[List.length_drop];omega,by omega,?_,?_⟩
 ·rw[List.length_drop];exact bytesAt_drop h.lies rfl c j hj hc
 ·intro a ha h0;rw[List.length_drop]at h0;rw[if_neg (by omega)]at ha
  cases p with
  | none=>cases ha
  | some q=>
   have h1:=h.ok q rfl (by omega);simp at ha;subst ha;unfold Addr.add;split<;>exact h1
theorem ByV.take{w:World}{P:Nat→Prop}{p:Option Addr}{c:Nat}{l:Bs}(h:ByV w P p c l)(j:Nat)(hj:j≤l.length):ByV w P p c (l.take j):=by
 have hc:=h.cap;have hb:=h.big;have hl:(l.take j).length=j:=by rw[List.length_take];omega
 refine⟨by omega,hb,fun h0 => ?_,fun a ha h0=>h.ok a ha (by omega)⟩;rw[hl]at h0 ⊢;obtain⟨b,o,e,hcl⟩:=h.lies (by omega);refine⟨b,o,e,fun i hi => ?_⟩;rw[hcl i (by omega)];simp[List.getD,List.getElem?_take,hi]
end
section
open Go.Shelf Go.RowKit
theorem infoU8:(Tryz.prog.info? 5).map (fun i=>(i.zero,i.size,i.bytes))=some (some (.int .u8 0),1,1):=by kernel_rfl
theorem byteCells_len(l:Bs):(Lib.byteCells l).length=l.length:=by simp[Lib.byteCells]
theorem byteCells_app(a b:Bs):Lib.byteCells a++Lib.byteCells b=Lib.byteCells (a++b):=by simp[Lib.byteCells]
theorem own_byv{w:World}{base:Nat}{v:Value}{l:Bs}(h:w.ownsRow base 5 1 v l.length (Lib.byteCells l)):∃p c,v=.slice p l.length c∧ByV w (fun b=>base≤b) p c l:=by
 rcases h.2 with⟨e,h0⟩|⟨g,cap,cur,e,hb,hr,h1,h2,_⟩
 ·have:l=[]:=List.eq_nil_of_length_eq_zero h0;subst this;exact⟨none,0,e,ByV.nil w _⟩
 ·refine⟨some ⟨g,0,none⟩,cap,e,⟨h1,by unfold maxLen at h2;omega,fun _=>⟨g,0,rfl,fun i hi => ?_⟩,fun a ha _=>by cases ha;exact hb⟩⟩;rw[e]at h;rw[Nat.zero_add,owns_cell h i (by omega)];unfold Lib.byteCells;rw[List.getElem?_map,List.getElem?_eq_getElem hi];simp[List.getD,hi]
theorem wpList_append_bat{w:World}{ops:Array Oper}{rest:List Oper}{o:Oper}{a:Act}{Q:Exit→Act→World→Prop}(hgd:o.guard=none)(s x:Operand)
  (ho:o.op=.call { callee:=.builtin .append,args:=#[s,x],argTypes:=#[33,33] }) (base:Nat) (v:Value) (hs:a.eval s=v) (old:Bs) (m:Nat) (hm:old.length=m) (hown:w.ownsRow base 5 1 v m (Lib.byteCells old)) (ad:Addr) (n c:Nat) (l:Bs) (hn:l.length=n) (hx:a.eval x=.slice (some ad) n c) (hr:BAt w (some ad) n l) (hlen:m+n≤100000000) (hbase:base≤w.heap.size)
  (h:∀v' w',w'.ownsRow base 5 1 v' (m+n) (Lib.byteCells (old++l))→w.grownBy w' v.ownBlock→wpList Tryz.prog ops Q rest (a.put o.dst v') w'):wpList Tryz.prog ops Q (o::rest) a w:=by
 obtain⟨i0,hi0,hz0,hz1,hz2⟩:=info_parts infoU8;refine wpList_append_own (w:=w) hgd s x _ ho base 5 i0 (.int .u8 0) 1 1 Tryz.underlying33 hi0 hz0 hz1 hz2 rfl (by decide) v m (Lib.byteCells old) hs hown ad n c (Lib.byteCells l) hx (by rw[byteCells_len,hn,Nat.mul_one]) ?_ (by intro u hu;simp only[Lib.byteCells,List.mem_map]at hu;obtain⟨x,_,rfl⟩:=hu;rfl) (by unfold maxLen;omega) (by omega) hbase ?_
 ·intro j u hj;obtain⟨hj1,hj2⟩:=List.getElem?_eq_some_iff.1 hj;have hj3:j<l.length:=by simpa [Lib.byteCells] using hj1
  obtain⟨b,f,e,hc⟩:=hr (by omega)
  cases e
  rw[Addr.add_mid,hc j (by omega),←hj2];simp[Lib.byteCells,List.getD,hj3]
 ·intro v' w' hown' hgr _;rw[byteCells_app]at hown';exact h v' w' hown' hgr
theorem clone_any(p:Option Addr)(n c:Nat)(l:Bs)(w:World)(hl:l.length=n)(h:BAt w p n l)(hn:n≤1000000):
  Calls Tryz.prog 121 #[.slice p n c] w fun e w'=>Below w.heap.size w w'∧∃p' c',e=.returned (.slice p' n c')∧ByV w' (fun b=>w.heap.size≤b) p' c' l:=by
 have heq:=fun(q:Option Addr) (m d:Nat) (W:World)=>Lib.run_eql_slice_nil (P:=Tryz.prog) W 33 5 q m d 0 0 Tryz.underlying33
 cases p with
 | none =>
  have h0:n=0:=by
   rcases Nat.eq_zero_or_pos n with h1|h1
   ·exact h1
   ·obtain⟨b,o,e,_⟩:=h h1
    cases e
  subst h0;have:l=[]:=List.eq_nil_of_length_eq_zero hl;subst this;have hq:=heq none 0 c;go_enter Tryz.func121,Tryz.ntmps121;go_wp2;go_ret;exact⟨Below.refl _ _,none,0,rfl,ByV.nil w _⟩
 | some ad=>
  have hq:=heq (some ad) n c;have hown0:(w.alloc (.cells #[] 5)).ownsRow w.heap.size 5 1 (.slice (some ⟨w.heap.size,0,none⟩) 0 0) 0 []:=World.ownsRow_lit w #[] 0 (Nat.le_refl _) (Nat.zero_le _) (by simp);have hb0:Below w.heap.size w (w.alloc (.cells #[] 5)):=(Below.refl _ _).alloc (Nat.le_refl _) _;go_enter Tryz.func121,Tryz.ntmps121;go_wp2_with (at_builtin;refine wpList_append_bat rfl (.tmp 5) (.tmp 6) rfl w.heap.size (.slice (some ⟨w.heap.size,0,none⟩) 0 0) rfl [] 0 rfl hown0 ad n c l hl rfl (h.below hb0) (by omega) hb0.size ?_;intro v1 w1 o1 gr1)
  go_ret;have hsz:=alloc_sz w (.cells #[] 5);subst hl;rw[Nat.zero_add,List.nil_append]at o1;obtain⟨p',c',e,hv⟩:=own_byv o1;refine⟨⟨gr1.os.trans hb0.os,gr1.tape.trans hb0.tape,gr1.output.trans hb0.output,Nat.le_trans hb0.size gr1.size,fun k hk=>(gr1.block k (by omega) (fun e=>by injection e with e;have e':k=w.heap.size:=e;omega)).trans (hb0.block k hk)⟩,p',c',by rw[←e];rfl,hv⟩
theorem run_append_nilc{w:World}(base:Nat)(ty:TypeId)(v:Value)(n c:Nat)(xs:List Value)(hown:w.ownsRow base 5 1 v n xs):(Builtin.append_ #[33,33] ty #[v,.slice none 0 c]).run Tryz.prog w=.ok v w:=by
 obtain⟨i0,hi0,hz0,hz1,hz2⟩:=info_parts infoU8;rcases hown.2 with⟨rfl,rfl⟩|⟨g,cap,cur,rfl,_,_,hnc,_⟩
 ·simp[Builtin.append_,run_underlying Tryz.underlying33,sizeOf,typeInfo,hi0,Builtin.lenOf,Builtin.firstCells]
 ·simp[Builtin.append_,run_underlying Tryz.underlying33,sizeOf,typeInfo,hi0,Builtin.lenOf,Builtin.firstCells,hnc,storeCells]
theorem owns_slice{w:World}{base:Nat}{e:TypeId}{s:Nat}{v:Value}{n:Nat}{xs:List Value}(h:w.ownsRow base e s v n xs):∃p c,v=.slice p n c:=by
 rcases h.2 with⟨rfl,rfl⟩|⟨g,cap,cur,rfl,_⟩
 ·exact⟨_,_,rfl⟩
 ·exact⟨_,_,rfl⟩
theorem wp_append_wt{w:World}{o:Oper}{a:Act}{K:Act→World→Prop}{Q:Exit→Act→World→Prop}(s x:Operand)
  (ho:o.op=.call { callee:=.builtin .append,args:=#[s,x],argTypes:=#[33,33] }) (base:Nat) (v:Value) (hs:a.eval s=v) (old:Bs) (m:Nat) (hm:old.length=m) (hown:w.ownsRow base 5 1 v m (Lib.byteCells old)) (p:Option Addr) (n c:Nat) (l:Bs) (hn:l.length=n) (hx:a.eval x=.slice p n c) (hr:BAt w p n l) (hlen:m+n≤100000000) (hbase:base≤w.heap.size)
  (h:∀v' w',w'.ownsRow base 5 1 v' (m+n) (Lib.byteCells (old++l))→w.grownBy w' v.ownBlock→(v'.ownBlock=v.ownBlock∨v'.ownBlock=some w.heap.size)→K (a.put o.dst v') w'):o.wp Tryz.prog a w K Q:=by
 obtain⟨i0,hi0,hz0,hz1,hz2⟩:=info_parts infoU8
 cases p with
 | none =>
  have h0:n=0:=by
   rcases Nat.eq_zero_or_pos n with h1|h1
   ·exact h1
   ·obtain⟨b,o,e,_⟩:=hr h1
    cases e
  subst h0;have:l=[]:=List.eq_nil_of_length_eq_zero hn;subst this;have hrun:=run_append_nilc (w:=w) base o.type v m c _ hown;unfold Oper.wp;simp[execOp,ho,resolve,invoke,builtin,hs,hx,hrun,Result.andThen];exact h v w (by simpa using hown) ⟨rfl,rfl,rfl,Nat.le_refl _,fun _ _ _=>rfl⟩ (.inl rfl)
 | some ad =>
  obtain⟨v',w',hrun,h2,h3,_,h5⟩:=run_append_own_at (P:=Tryz.prog) w base 33 o.type 5 i0 (.int .u8 0) 1 1 Tryz.underlying33 hi0 hz0 hz1 hz2 rfl (by decide) v m (Lib.byteCells old) hown ad n c (Lib.byteCells l) (by rw[byteCells_len,hn,Nat.mul_one]) (by
   intro j u hj;obtain⟨hj1,hj2⟩:=List.getElem?_eq_some_iff.1 hj;have hj3:j<l.length:=by simpa [Lib.byteCells] using hj1
   obtain⟨b,f,e,hc⟩:=hr (by omega)
   cases e
   rw[Addr.add_mid,hc j (by omega),←hj2];simp[Lib.byteCells,List.getD,hj3]) (by intro u hu;simp only[Lib.byteCells,List.mem_map]at hu;obtain⟨x,_,rfl⟩:=hu;rfl) (by unfold maxLen;omega) (by omega) hbase
  rw[byteCells_app]at h2;unfold Oper.wp;simp only[execOp,ho,resolve,invoke,builtin,Sem.run_bind,Sem.run_pure,Result.andThen_ok,List.map_toArray,List.map_cons,List.map_nil,hs,hx,hrun];exact h v' w' h2 h3 h5
theorem wpList_append_wt{w:World}{ops:Array Oper}{rest:List Oper}{o:Oper}{a:Act}{Q:Exit→Act→World→Prop}(hgd:o.guard=none)(s x:Operand)
  (ho:o.op=.call { callee:=.builtin .append,args:=#[s,x],argTypes:=#[33,33] }) (base:Nat) (v:Value) (hs:a.eval s=v) (old:Bs) (m:Nat) (hm:old.length=m) (hown:w.ownsRow base 5 1 v m (Lib.byteCells old)) (p:Option Addr) (n c:Nat) (l:Bs) (hn:l.length=n) (hx:a.eval x=.slice p n c) (hr:BAt w p n l) (hlen:m+n≤100000000) (hbase:base≤w.heap.size)
  (h:∀v' w',w'.ownsRow base 5 1 v' (m+n) (Lib.byteCells (old++l))→w.grownBy w' v.ownBlock→(v'.ownBlock=v.ownBlock∨v'.ownBlock=some w.heap.size)→wpList Tryz.prog ops Q rest (a.put o.dst v') w'):wpList Tryz.prog ops Q (o::rest) a w:=
 wpList_plain hgd fun _ hK=>wp_append_wt s x ho base v hs old m hm hown p n c l hn hx hr hlen hbase fun v' w' h1 h2 h3=>hK _ _ (h v' w' h1 h2 h3)
theorem alloc_le(w:World)(o:Obj):w.heap.size≤(w.alloc o).heap.size:=by rw[alloc_sz];omega
def u8sC (l:Bs):Array Value:=(l.map fun b=>Value.int .u8 (b.toNat:Int)).toArray
theorem byv_lit(W:World)(l:Bs)(hl:l.length≤1000):ByV (W.alloc (.cells (u8sC l) 5)) (fun b=>b<(W.alloc (.cells (u8sC l) 5)).heap.size) (some ⟨W.heap.size,0,none⟩) l.length l:=by refine⟨Nat.le_refl _,by omega,fun _=>⟨W.heap.size,0,rfl,fun i hi => ?_⟩,fun a ha _=>by cases ha;rw[alloc_sz];show W.heap.size<W.heap.size+1;omega⟩;rw[Nat.zero_add,cell_of_row _ W.heap.size i _ _ _ (heap_alloc_new W _)];simp[u8sC,List.getD,hi]
theorem below_drews{B:Nat}{a w:World}(h:Below B a w):∀q,Below B a (w.drewN q)
 | 0=>h
 | q+1=>(below_drews h q).drew
def bv (l:Bs):Nat:=l.foldl (fun a c=>a*256+c.toNat) 0
theorem bv_snoc(l:Bs)(c:UInt8):bv (l++[c])=bv l*256+c.toNat:=by simp[bv]
theorem fold_lt:∀(l:Bs) (a:Nat),l.foldl (fun a c=>a*256+c.toNat) a<(a+1)*256^l.length
 | [],a=>by simp
 | c::l,a=>by
  have h:=fold_lt l (a*256+c.toNat);have hc:=c.toNat_lt;rw[List.foldl_cons,List.length_cons,Nat.pow_succ];refine Nat.lt_of_lt_of_le h ?_;rw[Nat.mul_comm (256^l.length) 256,←Nat.mul_assoc];exact Nat.mul_le_mul_right _ (by omega)
theorem bv_lt(l:Bs):bv l<256^l.length:=by have:=fold_lt l 0;simpa [bv] using this
theorem take_snoc{l:Bs}{k:Nat}{c:UInt8}(h:l[k]?=some c):l.take (k+1)=l.take k++[c]:=by rw[List.take_add_one,h];rfl
end
end Go.Proofs.YtkhnnhbmchnajaaGreat
