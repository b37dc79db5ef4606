import Derived.Test.YtcgikjkpbpjgdaaGreatK02
import Derived.Deep.AppendLies
import Derived.Deep.RegionHeld3
import Derived.Lib.BytesEntry
import Derived.Laws.Externs
import Derived.Laws.ResultCell
import Derived.Lib.SliceRun
import Derived.Shelf.Bytes.SlEqualAll
import Derived.Maps.AppendAt
set_option maxRecDepth 100000
set_option maxHeartbeats 40000000
set_option linter.unusedVariables false
set_option linter.unusedSimpArgs false
namespace Go.Proofs.YtcgikjkpbpjgdaaGreat
open Go.Shelf Go.RowKit Go.Lib
structure ByV (w:World) (P:Nat→Prop) (p:Option Addr) (c:Nat) (l:Bs):Prop where
 cap:l.length≤c
 big:c≤9223372036854775807
 lies:BAt w p l.length l
 ok:∀a,p=some a→0<l.length→P a.block
theorem ByV.lt {w:World} {P:Nat→Prop} {p:Option Addr} {c:Nat} {l:Bs} (h:ByV w P p c l) {a:Addr} (ha:p=some a) (h0:0<l.length):a.block<w.heap.size∧a.spot=none:=by
 obtain⟨b,o,e,hc⟩:=h.lies h0;rw[ha]at e
 cases e
 exact⟨World.block_lt_of_cell? w ⟨b,o+0,none⟩ (hc 0 h0),rfl⟩
theorem ByV.keep {w w':World} {P:Nat→Prop} {p:Option Addr} {c:Nat} {l:Bs} (h:ByV w P p c l) (hb:∀g,P g→g<w.heap.size→w'.heap[g]?=w.heap[g]?):ByV w' P p c l:=by refine⟨h.cap,h.big,fun h0 => ?_,h.ok⟩;obtain⟨b,o,e,hc⟩:=h.lies h0;have hl:=h.lt e h0;exact⟨b,o,e,fun i hi=>by rw[←hc i hi];exact World.cell?_of_block (w:=w) (hb b (h.ok _ e h0) hl.1)⟩
theorem ByV.mono {w:World} {P Q:Nat→Prop} {p:Option Addr} {c:Nat} {l:Bs} (h:ByV w P p c l) (hPQ:∀g,P g→g<w.heap.size→Q g):ByV w Q p c l:=
 ⟨h.cap,h.big,h.lies,fun a ha h0=>hPQ _ (h.ok a ha h0) (h.lt ha h0).1⟩
theorem ByV.nil (w:World) (P:Nat→Prop):ByV w P none 0 []:=⟨Nat.le_refl _,by omega,fun h=>absurd h (by simp),fun a ha=>by cases ha⟩
theorem ByV.drop {w:World} {P:Nat→Prop} {p:Option Addr} {c:Nat} {l:Bs} (h:ByV w P p c l) (j:Nat) (hj:j≤l.length):ByV w P (if c=j then p else p.map (fun x=>x.add j)) (c-j) (l.drop j):=by
 have hc:=h.cap;have hb:=h.big;refine⟨by rw[List.length_drop];omega,by omega,?_,?_⟩
 ·rw[List.length_drop];exact bytesAt_drop h.lies rfl c j hj hc
 ·intro a ha h0;rw[List.length_drop]at h0;rw[if_neg (by omega)]at ha
  cases p with
  | none=>cases ha
  | some q=>
   have h1:=h.ok q rfl (by omega);simp at ha;subst ha;unfold Addr.add;split<;>exact h1
theorem ByV.take {w:World} {P:Nat→Prop} {p:Option Addr} {c:Nat} {l:Bs} (h:ByV w P p c l) (j:Nat) (hj:j≤l.length):ByV w P p c (l.take j):=by
 have hc:=h.cap;have hb:=h.big;have hl:(l.take j).length=j:=by rw[List.length_take];omega
 refine⟨by omega,hb,fun h0 => ?_,fun a ha h0=>h.ok a ha (by omega)⟩;rw[hl]at h0 ⊢;obtain⟨b,o,e,hcl⟩:=h.lies (by omega);refine⟨b,o,e,fun i hi => ?_⟩;rw[hcl i (by omega)];simp[List.getD,List.getElem?_take,hi]
def ItHd (w:World) (P:Nat→Prop) (cs:List Value) (i:It) (q:Option Addr):Prop:=
 ∃p c c',cs=[.int .u8 (i.kind:Int),.int .u64 (i.n:Int),.slice p i.b.length c,.slice q i.kids.length c']∧i.kind<256∧i.n<18446744073709551616∧ByV w P p c i.b∧i.kids.length≤c'∧c'≤9223372036854775807
def KidsAt (R:List Value→It→Prop) (w:World) (P:Nat→Prop) (q:Option Addr) (kids:List It):Prop:=
 ∀(j:Nat) (k:It),kids[j]?=some k→∃b o,q=some ⟨b,o,none⟩∧P b∧∃c0 c1 c2 c3,w.cell? ⟨b,o+j*4,none⟩=some c0∧w.cell? ⟨b,o+j*4+1,none⟩=some c1∧w.cell? ⟨b,o+j*4+2,none⟩=some c2∧w.cell? ⟨b,o+j*4+3,none⟩=some c3∧R [c0,c1,c2,c3] k
def ItOk (w:World) (P:Nat→Prop):Nat→List Value→It→Prop
 | 0,cs,i=>∃q,ItHd w P cs i q
 | d+1,cs,i=>∃q,ItHd w P cs i q∧KidsAt (ItOk w P d) w P q i.kids
theorem ItOk.head {w:World} {P:Nat→Prop} {d:Nat} {cs:List Value} {i:It} (h:ItOk w P d cs i):∃q,ItHd w P cs i q:=by
 cases d with
 | zero=>exact h
 | succ d=>obtain⟨q,h1,_⟩:=h;exact⟨q,h1⟩
theorem ItHd.keep {w w':World} {P:Nat→Prop} {cs:List Value} {i:It} {q:Option Addr} (h:ItHd w P cs i q) (hb:∀g,P g→g<w.heap.size→w'.heap[g]?=w.heap[g]?):ItHd w' P cs i q:=by obtain⟨p,c,c',h1,h2,h3,h4,h5,h6⟩:=h;exact⟨p,c,c',h1,h2,h3,h4.keep hb,h5,h6⟩
theorem ItHd.mono {w:World} {P Q:Nat→Prop} {cs:List Value} {i:It} {q:Option Addr} (h:ItHd w P cs i q) (hPQ:∀g,P g→g<w.heap.size→Q g):ItHd w Q cs i q:=by obtain⟨p,c,c',h1,h2,h3,h4,h5,h6⟩:=h;exact⟨p,c,c',h1,h2,h3,h4.mono hPQ,h5,h6⟩
theorem ItOk.keep {w w':World} {P:Nat→Prop} (hb:∀g,P g→g<w.heap.size→w'.heap[g]?=w.heap[g]?):∀ {d:Nat} {cs:List Value} {i:It},ItOk w P d cs i→ItOk w' P d cs i
 | 0,cs,i,⟨q,h⟩=>⟨q,h.keep hb⟩
 | d+1,cs,i,⟨q,h,hk⟩=>⟨q,h.keep hb,fun j k hj=>by
  obtain⟨b,o,e,hp,c0,c1,c2,c3,k0,k1,k2,k3,hr⟩:=hk j k hj;have hlt:=World.block_lt_of_cell? w ⟨b,o+j*4,none⟩ k0;have hc:∀x v,w.cell? ⟨b,x,none⟩=some v→w'.cell? ⟨b,x,none⟩=some v:=fun x v hv=>by rw[←hv];exact World.cell?_of_block (w:=w) (hb b hp hlt)
  exact⟨b,o,e,hp,c0,c1,c2,c3,hc _ _ k0,hc _ _ k1,hc _ _ k2,hc _ _ k3,ItOk.keep hb hr⟩⟩
theorem ItOk.mono {w:World} {P Q:Nat→Prop} (hPQ:∀g,P g→g<w.heap.size→Q g):∀ {d:Nat} {cs:List Value} {i:It},ItOk w P d cs i→ItOk w Q d cs i
 | 0,cs,i,⟨q,h⟩=>⟨q,h.mono hPQ⟩
 | d+1,cs,i,⟨q,h,hk⟩=>⟨q,h.mono hPQ,fun j k hj=>by
  obtain⟨b,o,e,hp,c0,c1,c2,c3,k0,k1,k2,k3,hr⟩:=hk j k hj;exact⟨b,o,e,hPQ b hp (World.block_lt_of_cell? w ⟨b,o+j*4,none⟩ k0),c0,c1,c2,c3,k0,k1,k2,k3,ItOk.mono hPQ hr⟩⟩
theorem ItOk.below {w w':World} {P:Nat→Prop} {d:Nat} {cs:List Value} {i:It} (h:ItOk w P d cs i) (hb:Below w.heap.size w w'):ItOk w' P d cs i:=h.keep (fun g _ hg=>hb.block g hg)
structure Kl (w:World) (s0 g lo d:Nat) (nv:Value) (css:List (List Value)) (kids:List It):Prop where
 len:css.length=kids.length
 row:w.ownsRow s0 32 4 nv css.length css.flatten
 rep:∀(i:Nat) (cs:List Value) (k:It),css[i]?=some cs→kids[i]?=some k→ItOk w (fun b=>(b<lo∨s0≤b)∧some b≠nv.ownBlock) d cs k
theorem Kl.nil (w:World) (s0 g lo d:Nat):Kl w s0 g lo d (.slice none 0 0) [] []:=⟨rfl,World.ownsRow_nil w s0 _ 4,fun i cs k hi=>by simp at hi⟩
theorem ItOk.four {w:World} {P:Nat→Prop} {d:Nat} {cs:List Value} {i:It} (h:ItOk w P d cs i):∃c0 c1 c2 c3,cs=[c0,c1,c2,c3]:=by obtain⟨q,p,c,c',e,_⟩:=h.head;exact⟨_,_,_,_,e⟩
theorem Kl.fours {w:World} {s0 g lo d:Nat} {nv:Value} {css:List (List Value)} {kids:List It} (h:Kl w s0 g lo d nv css kids):∀cs∈css,cs.length=4:=fun cs hc=>by obtain⟨i,hi⟩:=List.mem_iff_getElem?.1 hc;have hl:=(List.getElem?_eq_some_iff.1 hi).1;obtain⟨c0,c1,c2,c3,rfl⟩:=(h.rep i cs _ hi (List.getElem?_eq_getElem (by rw[←h.len];exact hl))).four;rfl
theorem flatten_get:∀(css:List (List Value)) (i j:Nat) (cs:List Value),(∀c∈css,c.length=4)→css[i]?=some cs→j<4→css.flatten[i*4+j]?=cs[j]?
 | [],i,j,cs,_,hi,_=>by simp at hi
 | x::css,0,j,cs,h4,hi,hj=>by
  simp at hi;subst hi;rw[Nat.zero_mul,Nat.zero_add,List.flatten_cons,List.getElem?_append_left (by rw[h4 x (by simp)];exact hj)]
 | x::css,i+1,j,cs,h4,hi,hj=>by
  simp at hi;have hx:=h4 x (by simp);rw[List.flatten_cons,List.getElem?_append_right (by omega),hx,show(i+1)*4+j-4=i*4+j by omega];exact flatten_get css i j cs (fun c hc=>h4 c (by simp[hc])) hi hj
theorem Kl.keep {w w':World} {s0 g lo d:Nat} {nv:Value} {css:List (List Value)} {kids:List It} (h:Kl w s0 g lo d nv css kids) (hb:∀b,b≠g→b<w.heap.size→w'.heap[b]?=w.heap[b]?) (hg:g<s0) (hlo:lo≤g:=by omega):Kl w' s0 g lo d nv css kids:=
 ⟨h.len,owns_keep h.row (fun b hbk=>hb b (by have:=(owns_lt h.row hbk).1;omega) (owns_lt h.row hbk).2.1),fun i cs k hi hk=>(h.rep i cs k hi hk).keep (fun b hP hlt=>hb b (by omega) hlt)⟩
theorem Kl.kids {w:World} {s0 g lo d:Nat} {nv:Value} {css:List (List Value)} {kids:List It} (h:Kl w s0 g lo d nv css kids) (hg:g<s0):∃q c,nv=.slice q kids.length c∧kids.length≤c∧c≤9223372036854775807∧KidsAt (ItOk w (fun b=>b<lo∨s0≤b) d) w (fun b=>b<lo∨s0≤b) q kids:=by
 have hl:=h.len;have hrow:=h.row;rcases hrow.2 with⟨e,h0⟩|⟨b,cap,cur,e,hb,hr,h1,h2,_⟩
 ·refine⟨none,0,by rw[e,←hl,h0],by omega,by omega,fun j k hj => ?_⟩;have:=(List.getElem?_eq_some_iff.1 hj).1;omega
 ·refine⟨some ⟨b,0,none⟩,cap,by rw[e,hl],by omega,by unfold maxLen at h2;omega,fun j k hj=>⟨b,0,rfl,Or.inr hb,?_⟩⟩;have hj1:=(List.getElem?_eq_some_iff.1 hj).1;have hx:css[j]?=some css[j]:=List.getElem?_eq_getElem (by omega);have hr2:=(h.rep j _ k hx hj)
  obtain⟨c0,c1,c2,c3,e4⟩:=hr2.four;rw[e4]at hx hr2;have hc:∀x,x<4→w.cell? ⟨b,j*4+x,none⟩=[c0,c1,c2,c3][x]?:=fun x hx4=>by rw[e]at hrow;rw[owns_cell hrow (j*4+x) (by omega),flatten_get css j x _ h.fours hx hx4]
  simp only[Nat.zero_add];exact⟨c0,c1,c2,c3,hc 0 (by decide),hc 1 (by decide),hc 2 (by decide),hc 3 (by decide),hr2.mono (fun b hb _=>hb.1)⟩
theorem Kl.item {w:World} {s0 g lo d:Nat} {nv:Value} {css:List (List Value)} {kids:List It} (h:Kl w s0 g lo d nv css kids) (hg:g<s0) (kind:Nat) (hk:kind<256):ItOk w (fun b=>b<lo∨s0≤b) (d+1) [.int .u8 (kind:Int),.int .u64 0,.slice none 0 0,nv] ⟨kind,0,[],kids⟩:=by obtain⟨q,c,e,h1,h2,h3⟩:=h.kids hg;exact⟨q,⟨none,0,c,by rw[e];rfl,hk,(by decide:0<18446744073709551616),ByV.nil w _,h1,h2⟩,h3⟩
end Go.Proofs.YtcgikjkpbpjgdaaGreat
namespace Go.Proofs.YtcgikjkpbpjgdaaGreat
open Go.Shelf Go.RowKit
theorem infoU8:(Tryz.prog.info? 5).map (fun i=>(i.zero,i.size,i.bytes))=some (some (.int .u8 0),1,1):=by kernel_rfl
theorem byteCells_len (l:Bs):(Lib.byteCells l).length=l.length:=by simp[Lib.byteCells]
theorem byteCells_app (a b:Bs):Lib.byteCells a++Lib.byteCells b=Lib.byteCells (a++b):=by simp[Lib.byteCells]
theorem own_byv {w:World} {base:Nat} {v:Value} {l:Bs} (h:w.ownsRow base 5 1 v l.length (Lib.byteCells l)):∃p c,v=.slice p l.length c∧ByV w (fun b=>base≤b) p c l:=by
 rcases h.2 with⟨e,h0⟩|⟨g,cap,cur,e,hb,hr,h1,h2,_⟩
 ·have:l=[]:=List.eq_nil_of_length_eq_zero h0;subst this;exact⟨none,0,e,ByV.nil w _⟩
 ·refine⟨some ⟨g,0,none⟩,cap,e,⟨h1,by unfold maxLen at h2;omega,fun _=>⟨g,0,rfl,fun i hi => ?_⟩,fun a ha _=>by cases ha;exact hb⟩⟩;rw[e]at h;rw[Nat.zero_add,owns_cell h i (by omega)];unfold Lib.byteCells;rw[List.getElem?_map,List.getElem?_eq_getElem hi];simp[List.getD,hi]
theorem wpList_append_bat {w:World} {ops:Array Oper} {rest:List Oper} {o:Oper} {a:Act} {Q:Exit→Act→World→Prop} (hgd:o.guard=none) (s x:Operand)
  (ho:o.op=.call { callee:=.builtin .append,args:=#[s,x],argTypes:=#[24,24] }) (base:Nat) (v:Value) (hs:a.eval s=v) (old:Bs) (m:Nat) (hm:old.length=m) (hown:w.ownsRow base 5 1 v m (Lib.byteCells old)) (ad:Addr) (n c:Nat) (l:Bs) (hn:l.length=n) (hx:a.eval x=.slice (some ad) n c) (hr:BAt w (some ad) n l) (hlen:m+n≤100000000) (hbase:base≤w.heap.size)
  (h:∀v' w',w'.ownsRow base 5 1 v' (m+n) (Lib.byteCells (old++l))→w.grownBy w' v.ownBlock→wpList Tryz.prog ops Q rest (a.put o.dst v') w'):wpList Tryz.prog ops Q (o::rest) a w:=by
 obtain⟨i0,hi0,hz0,hz1,hz2⟩:=info_parts infoU8;refine wpList_append_own (w:=w) hgd s x _ ho base 5 i0 (.int .u8 0) 1 1 Tryz.underlying24 hi0 hz0 hz1 hz2 rfl (by decide) v m (Lib.byteCells old) hs hown ad n c (Lib.byteCells l) hx (by rw[byteCells_len,hn,Nat.mul_one]) ?_ (by intro u hu;simp only[Lib.byteCells,List.mem_map]at hu;obtain⟨x,_,rfl⟩:=hu;rfl) (by unfold maxLen;omega) (by omega) hbase ?_
 ·intro j u hj;obtain⟨hj1,hj2⟩:=List.getElem?_eq_some_iff.1 hj;have hj3:j<l.length:=by simpa [Lib.byteCells] using hj1
  obtain⟨b,f,e,hc⟩:=hr (by omega)
  cases e
  rw[Addr.add_mid,hc j (by omega),←hj2];simp[Lib.byteCells,List.getD,hj3]
 ·intro v' w' hown' hgr _;rw[byteCells_app]at hown';exact h v' w' hown' hgr
theorem clone_any (p:Option Addr) (n c:Nat) (l:Bs) (w:World) (hl:l.length=n) (h:BAt w p n l) (hn:n≤1000000):
  Calls Tryz.prog 176 #[.slice p n c] w fun e w'=>Below w.heap.size w w'∧∃p' c',e=.returned (.slice p' n c')∧ByV w' (fun b=>w.heap.size≤b) p' c' l:=by
 have heq:=fun(q:Option Addr) (m d:Nat) (W:World)=>Lib.run_eql_slice_nil (P:=Tryz.prog) W 24 5 q m d 0 0 Tryz.underlying24
 cases p with
 | none =>
  have h0:n=0:=by
   rcases Nat.eq_zero_or_pos n with h1|h1
   ·exact h1
   ·obtain⟨b,o,e,_⟩:=h h1
    cases e
  subst h0;have:l=[]:=List.eq_nil_of_length_eq_zero hl;subst this;have hq:=heq none 0 c;go_enter Tryz.func176,Tryz.ntmps176;go_wp2;go_ret;exact⟨Below.refl _ _,none,0,rfl,ByV.nil w _⟩
 | some ad=>
  have hq:=heq (some ad) n c;have hown0:(w.alloc (.cells #[] 5)).ownsRow w.heap.size 5 1 (.slice (some ⟨w.heap.size,0,none⟩) 0 0) 0 []:=World.ownsRow_lit w #[] 0 (Nat.le_refl _) (Nat.zero_le _) (by simp);have hb0:Below w.heap.size w (w.alloc (.cells #[] 5)):=(Below.refl _ _).alloc (Nat.le_refl _) _;go_enter Tryz.func176,Tryz.ntmps176;go_wp2_with (at_builtin;refine wpList_append_bat rfl (.tmp 5) (.tmp 6) rfl w.heap.size (.slice (some ⟨w.heap.size,0,none⟩) 0 0) rfl [] 0 rfl hown0 ad n c l hl rfl (h.below hb0) (by omega) hb0.size ?_;intro v1 w1 o1 gr1)
  go_ret;have hsz:=alloc_sz w (.cells #[] 5);subst hl;rw[Nat.zero_add,List.nil_append]at o1;obtain⟨p',c',e,hv⟩:=own_byv o1;refine⟨⟨gr1.os.trans hb0.os,gr1.tape.trans hb0.tape,gr1.output.trans hb0.output,Nat.le_trans hb0.size gr1.size,fun k hk=>(gr1.block k (by omega) (fun e=>by injection e with e;have e':k=w.heap.size:=e;omega)).trans (hb0.block k hk)⟩,p',c',by rw[←e];rfl,hv⟩
theorem run_append_nilc {w:World} (base:Nat) (ty:TypeId) (v:Value) (n c:Nat) (xs:List Value) (hown:w.ownsRow base 5 1 v n xs):(Builtin.append_ #[24,24] ty #[v,.slice none 0 c]).run Tryz.prog w=.ok v w:=by
 obtain⟨i0,hi0,hz0,hz1,hz2⟩:=info_parts infoU8;rcases hown.2 with⟨rfl,rfl⟩|⟨g,cap,cur,rfl,_,_,hnc,_⟩
 ·simp[Builtin.append_,run_underlying Tryz.underlying24,sizeOf,typeInfo,hi0,Builtin.lenOf,Builtin.firstCells]
 ·simp[Builtin.append_,run_underlying Tryz.underlying24,sizeOf,typeInfo,hi0,Builtin.lenOf,Builtin.firstCells,hnc,storeCells]
theorem owns_slice {w:World} {base:Nat} {e:TypeId} {s:Nat} {v:Value} {n:Nat} {xs:List Value} (h:w.ownsRow base e s v n xs):∃p c,v=.slice p n c:=by
 rcases h.2 with⟨rfl,rfl⟩|⟨g,cap,cur,rfl,_⟩
 ·exact⟨_,_,rfl⟩
 ·exact⟨_,_,rfl⟩
theorem wp_append_wt {w:World} {o:Oper} {a:Act} {K:Act→World→Prop} {Q:Exit→Act→World→Prop} (s x:Operand)
  (ho:o.op=.call { callee:=.builtin .append,args:=#[s,x],argTypes:=#[24,24] }) (base:Nat) (v:Value) (hs:a.eval s=v) (old:Bs) (m:Nat) (hm:old.length=m) (hown:w.ownsRow base 5 1 v m (Lib.byteCells old)) (p:Option Addr) (n c:Nat) (l:Bs) (hn:l.length=n) (hx:a.eval x=.slice p n c) (hr:BAt w p n l) (hlen:m+n≤100000000) (hbase:base≤w.heap.size)
  (h:∀v' w',w'.ownsRow base 5 1 v' (m+n) (Lib.byteCells (old++l))→w.grownBy w' v.ownBlock→(v'.ownBlock=v.ownBlock∨v'.ownBlock=some w.heap.size)→K (a.put o.dst v') w'):o.wp Tryz.prog a w K Q:=by
 obtain⟨i0,hi0,hz0,hz1,hz2⟩:=info_parts infoU8
 cases p with
 | none =>
  have h0:n=0:=by
   rcases Nat.eq_zero_or_pos n with h1|h1
   ·exact h1
   ·obtain⟨b,o,e,_⟩:=hr h1
    cases e
  subst h0;have:l=[]:=List.eq_nil_of_length_eq_zero hn;subst this;have hrun:=run_append_nilc (w:=w) base o.type v m c _ hown;unfold Oper.wp;simp[execOp,ho,resolve,invoke,builtin,hs,hx,hrun,Result.andThen];exact h v w (by simpa using hown) ⟨rfl,rfl,rfl,Nat.le_refl _,fun _ _ _=>rfl⟩ (.inl rfl)
 | some ad =>
  obtain⟨v',w',hrun,h2,h3,_,h5⟩:=run_append_own_at (P:=Tryz.prog) w base 24 o.type 5 i0 (.int .u8 0) 1 1 Tryz.underlying24 hi0 hz0 hz1 hz2 rfl (by decide) v m (Lib.byteCells old) hown ad n c (Lib.byteCells l) (by rw[byteCells_len,hn,Nat.mul_one]) (by
   intro j u hj;obtain⟨hj1,hj2⟩:=List.getElem?_eq_some_iff.1 hj;have hj3:j<l.length:=by simpa [Lib.byteCells] using hj1
   obtain⟨b,f,e,hc⟩:=hr (by omega)
   cases e
   rw[Addr.add_mid,hc j (by omega),←hj2];simp[Lib.byteCells,List.getD,hj3]) (by intro u hu;simp only[Lib.byteCells,List.mem_map]at hu;obtain⟨x,_,rfl⟩:=hu;rfl) (by unfold maxLen;omega) (by omega) hbase
  rw[byteCells_app]at h2;unfold Oper.wp;simp only[execOp,ho,resolve,invoke,builtin,Sem.run_bind,Sem.run_pure,Result.andThen_ok,List.map_toArray,List.map_cons,List.map_nil,hs,hx,hrun];exact h v' w' h2 h3 h5
theorem wpList_append_wt {w:World} {ops:Array Oper} {rest:List Oper} {o:Oper} {a:Act} {Q:Exit→Act→World→Prop} (hgd:o.guard=none) (s x:Operand)
  (ho:o.op=.call { callee:=.builtin .append,args:=#[s,x],argTypes:=#[24,24] }) (base:Nat) (v:Value) (hs:a.eval s=v) (old:Bs) (m:Nat) (hm:old.length=m) (hown:w.ownsRow base 5 1 v m (Lib.byteCells old)) (p:Option Addr) (n c:Nat) (l:Bs) (hn:l.length=n) (hx:a.eval x=.slice p n c) (hr:BAt w p n l) (hlen:m+n≤100000000) (hbase:base≤w.heap.size)
  (h:∀v' w',w'.ownsRow base 5 1 v' (m+n) (Lib.byteCells (old++l))→w.grownBy w' v.ownBlock→(v'.ownBlock=v.ownBlock∨v'.ownBlock=some w.heap.size)→wpList Tryz.prog ops Q rest (a.put o.dst v') w'):wpList Tryz.prog ops Q (o::rest) a w:=
 wpList_plain hgd fun _ hK=>wp_append_wt s x ho base v hs old m hm hown p n c l hn hx hr hlen hbase fun v' w' h1 h2 h3=>hK _ _ (h v' w' h1 h2 h3)
def CameJ (k:IntKind) (w:World) (a:Option Addr) (len cap:Nat) (zs:List Int):Prop:=
 (a=none∧len=0∧cap=0∧zs=[]) ∨
 ∃x,a=some x∧len≤cap∧cap≤maxLen∧zs.length=cap∧(∀i,i<zs.length→w.cell? (x.add i)=some (.int k (zs.getD i 0)))∧∀n∈zs,(Lit.int k n).wf=true
theorem CameJ.le {k:IntKind} {w:World} {a:Option Addr} {len cap:Nat} {zs:List Int} (h:CameJ k w a len cap zs):len≤maxLen:=by
 rcases h with⟨_,h1,_⟩|⟨x,_,h1,h2,_⟩
 ·rw[h1];exact Nat.zero_le _
 ·exact Nat.le_trans h1 h2
theorem alloc_le (w:World) (o:Obj):w.heap.size≤(w.alloc o).heap.size:=by rw[alloc_sz];omega
def u8sC (l:Bs):Array Value:=(l.map fun b=>Value.int .u8 (b.toNat:Int)).toArray
theorem byv_lit (W:World) (l:Bs) (hl:l.length≤1000):ByV (W.alloc (.cells (u8sC l) 5)) (fun b=>b<(W.alloc (.cells (u8sC l) 5)).heap.size) (some ⟨W.heap.size,0,none⟩) l.length l:=by refine⟨Nat.le_refl _,by omega,fun _=>⟨W.heap.size,0,rfl,fun i hi => ?_⟩,fun a ha _=>by cases ha;rw[alloc_sz];show W.heap.size<W.heap.size+1;omega⟩;rw[Nat.zero_add,cell_of_row _ W.heap.size i _ _ _ (heap_alloc_new W _)];simp[u8sC,List.getD,hi]
theorem below_drews {B:Nat} {a w:World} (h:Below B a w):∀q,Below B a (w.drewN q)
 | 0=>h
 | q+1=>(below_drews h q).drew
def bv (l:Bs):Nat:=l.foldl (fun a c=>a*256+c.toNat) 0
theorem bv_snoc (l:Bs) (c:UInt8):bv (l++[c])=bv l*256+c.toNat:=by simp[bv]
theorem fold_lt:∀(l:Bs) (a:Nat),l.foldl (fun a c=>a*256+c.toNat) a<(a+1)*256^l.length
 | [],a=>by simp
 | c::l,a=>by
  have h:=fold_lt l (a*256+c.toNat);have hc:=c.toNat_lt;rw[List.foldl_cons,List.length_cons,Nat.pow_succ];refine Nat.lt_of_lt_of_le h ?_;rw[Nat.mul_comm (256^l.length) 256,←Nat.mul_assoc];exact Nat.mul_le_mul_right _ (by omega)
theorem bv_lt (l:Bs):bv l<256^l.length:=by have:=fold_lt l 0;simpa [bv] using this
theorem take_snoc {l:Bs} {k:Nat} {c:UInt8} (h:l[k]?=some c):l.take (k+1)=l.take k++[c]:=by rw[List.take_add_one,h];rfl
end Go.Proofs.YtcgikjkpbpjgdaaGreat
