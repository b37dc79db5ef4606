import Derived.Test.YtcgikjkpbpjgdabGreatK28
import Derived.Test.YtcgikjkpbpjgdabGreatK27
import Derived.Test.YtcgikjkpbpjgdabGreatK15
import Derived.RangeFuncNested
import Derived.RangeFuncBound
import Derived.RangeFuncCalls
import Derived.RangeFuncLeaves
import Derived.Shelf.Abstract
import Derived.Shelf.RegionOpen
import Derived.OwnWalkIn
import Derived.TacticsInMore
import Derived.LoopNIn
import Derived.LoopIn
import Derived.Stop.RegionWithIn
import Derived.Maps.OwnIn
import Derived.Test.YtcgikjkpbpjgdabGreatK19
import Derived.Test.YtcgikjkpbpjgdabGreatK17
import Derived.Lib.LaidIn
import Derived.LaidMore
import Derived.Test.YtcgikjkpbpjgdabGreatK00
import Derived.Test.YtcgikjkpbpjgdabGreatK18
import Derived.Lib.LaidU8
import Derived.Test.YtcgikjkpbpjgdabGreatK02
import Derived.Test.YtcgikjkpbpjgdabGreatK12
import Derived.Test.YtcgikjkpbpjgdabGreatK13
import Derived.Test.YtcgikjkpbpjgdabGreatK20
import Derived.Test.YtcgikjkpbpjgdabGreatK06
import Derived.Test.YtcgikjkpbpjgdabGreatK08
import Derived.WideShapes
import Derived.OpenShut
import Derived.ChangeSame
set_option maxRecDepth 100000
set_option maxHeartbeats 40000000
set_option linter.unusedVariables false
set_option linter.unusedSimpArgs false
namespace Go.Proofs.YtcgikjkpbpjgdabGreat
open Go.Shelf Go.RowKit
theorem range_new {α:Type} {P:Program} {n:Nat} {g:Operand} {ps:Array Tmp} {assign body:Code} {Q:Exit→Act→World→Prop} {a:Act} {w:World} {gf:Nat} {lb:Array Value} (hn:1≤n) (Gd:List α→α→Prop)
  (hg:a.eval g=.func (.func gf) #[] lb) (eg:∀args w,(callFunc gf args).run P w=.ok (.enter gf args) w)
  (E:α→Array Value) (hps:∀x,(E x).size=ps.size) (Y:Nat→α→World→Prop) (S Sp:List α→Prop) (I:List α→World→Prop) (Ix:Code→List α→World→Prop)
  (hit : ∀ (l : Nat) (r : Loop) (J Jx : List α → World → Prop), (∀ pre W, J pre W → I pre W) → (∀ pre W W', J pre W → Below W.heap.size W W' → J pre W') →
   (∀pre x W0 W1,J pre W0→Gd pre x→Below W0.heap.size W0 W1→Y W0.heap.size x W1→YieldAt Fence.wide (n-1-1) P l (E x) W1 fun e W'=>(e=.returned (.bool true)∧J (pre++[x]) W')∨(e=.returned (.bool false)∧Jx (pre++[x]) W')) →
   J [] ((w.alloc (.deferred (some []))).alloc (.loop r)) →
   CallsIn Fence.wide (n-1) P gf (#[.func (.yield l) #[] #[]]++lb) ((w.alloc (.deferred (some []))).alloc (.loop r)) fun e W'=>(∃v,e=.returned v)∧((∃xs,S xs∧J xs W')∨(∃pre,Sp pre∧Jx pre W')))
  (hIb:∀pre W W',I pre W→Below W.heap.size W W'→I pre W')
  (hIp:∀pre W r o o',I pre W→w.heap.size≤r→W.heap[r]?=some o→o.isCells=false→I pre (W.putObj r o'))
  (hXp:∀c pre W r o o',Ix c pre W→w.heap.size≤r→W.heap[r]?=some o→o.isCells=false→Ix c pre (W.putObj r o'))
  (h0:I [] w)
  (hround : ∀ (l : Nat) (r : Loop) (pre : List α) (x : α) (W0 W : World), Gd pre x → w.heap.size ≤ l → l < W0.heap.size → W.heap[l]? = some (.loop r) → I pre W0 → Below W0.heap.size W0 W → I pre W → Y W0.heap.size x W →
   assign.wpIn (Fence.wide.inRound l) (n-1-1) P (Exit.then (fun a1 W1=>Below W.heap.size W W1∧∀o',body.wpIn (Fence.wide.inRound l) (n-1-1) P (ownPostG w.heap.size (fun _ _=>True) I Ix (pre++[x]) (W1.putObj l o')) a1 (W1.putObj l o')) (fun _ _ _=>False))
    { tmps:=(ps.zip (E x)).foldl (fun t (p,v)=>t.setIfInBounds p v) a.tmps,defers:=[] } W)
  (hdone:∀(D:Nat) (xs:List α) (W:World),w.heap.size≤D→S xs→I xs W→W.heap[D]?=some (.deferred (some []))→Q .normal { a with defers:={ target:=.collected D,args:=#[] }::a.defers } W)
  (hstop:∀(D:Nat) (c:Code) (pre:List α) (W:World),w.heap.size≤D→Sp pre→Ix c pre W→W.heap[D]?=some (.deferred (some []))→c.wpIn Fence.wide n P Q { a with defers:={ target:=.collected D,args:=#[] }::a.defers } W):
  (Code.rangeFunc g ps assign body).wpIn Fence.wide n P Q a w:=by
 refine wpIn_rangeFunc ?_;intro fn _;obtain⟨st,hst⟩:∃st:LoopState→Option Code→Loop,st=fun s pe=>{ state:=s,pending:=pe,fn:=fn,tmps:=a.tmps,params:=ps,assign:=assign,body:=body,defers:=w.heap.size }:=⟨_,rfl⟩
 have hd1:((w.alloc (.deferred (some []))).alloc (.loop (st .ready none))).heap[w.heap.size]?=some (.deferred (some [])):=(Below.heap_alloc _ _ _ (by simp)).trans (World.alloc_heap_new w _);have hl1:((w.alloc (.deferred (some []))).alloc (.loop (st .ready none))).heap[w.heap.size+1]?=some (.loop (st .ready none)):=by
  have:=World.alloc_heap_new (w.alloc (.deferred (some []))) (.loop (st .ready none))
  rwa [World.size_alloc]at this
 have hb1:Below w.heap.size w ((w.alloc (.deferred (some []))).alloc (.loop (st .ready none))):=((Below.refl _ w).alloc (Nat.le_refl _) _).alloc (by simp) _;refine⟨w.heap.size+1,[{ target:=.collected w.heap.size,args:=#[] }],(w.alloc (.deferred (some []))).alloc (.loop (st .ready none)),{ target:=.fn (.func gf) lb,args:=#[.func (.yield (w.heap.size+1)) #[] #[]] },(w.alloc (.deferred (some []))).alloc (.loop (st .ready none)),gf,#[.func (.yield (w.heap.size+1)) #[] #[]]++lb,(w.alloc (.deferred (some []))).alloc (.loop (st .ready none)),by rw[hst];exact run_enterLoop_outer _ _ _ _ _,by simp only[resolve,hg];simp[go_sem],fun _ _=>trivial,by simp[invoke,go_sem,eg],fun _=>hn,?_⟩;refine(hit (w.heap.size+1) (st .ready none)
  (fun pre W=>I pre W∧W.heap[w.heap.size+1]?=some (.loop (st .ready none))∧W.heap[w.heap.size]?=some (.deferred (some [])))
  (fun pre W=>∃c,Ix c pre W∧W.heap[w.heap.size+1]?=some (.loop (st .done (some c)))∧W.heap[w.heap.size]?=some (.deferred (some [])))
  (fun _ _ h=>h.1)
  (fun pre W W' h hb=>⟨hIb pre W W' h.1 hb,(hb.block _ (Array.getElem?_eq_some_iff.1 h.2.1).1).trans h.2.1,(hb.block _ (Array.getElem?_eq_some_iff.1 h.2.2).1).trans h.2.2⟩) ?_ ⟨hIb _ _ _ h0 hb1,hl1,hd1⟩).mono ?_
 ·rintro pre x W0 W ⟨hi,hl0,hd0⟩ hlen hb hy;have hlt0:w.heap.size+1<W0.heap.size:=(Array.getElem?_eq_some_iff.1 hl0).1;have hl:W.heap[w.heap.size+1]?=some (.loop (st .ready none)):=(hb.block _ hlt0).trans hl0;have hd:W.heap[w.heap.size]?=some (.deferred (some [])):=(hb.block _ (by omega)).trans hd0;have hlt:w.heap.size+1<W.heap.size:=(Array.getElem?_eq_some_iff.1 hl).1;have hyr:=run_yield (P:=P) (args:=E x) hl (by rw[hst];exact hps x);rw[hst]at hyr;refine⟨fn,_,assign,body,hyr,roundIn_of_wpIn trivial ?_⟩;refine wpIn_mono (hround (w.heap.size+1) (st .ready none) pre x W0 W hlen (by omega) hlt0 hl hi hb (hIb _ _ _ hi hb) hy) ?_;rintro e a1 W1 hp
  cases e with
  | normal =>
   obtain⟨hb1,hbody⟩:=hp;have hl2:W1.heap[w.heap.size+1]?=some (.loop (st .ready none)):=(hb1.block _ hlt).trans hl;have hd2:W1.heap[w.heap.size]?=some (.deferred (some [])):=(hb1.block _ (by omega)).trans hd;have hlt2:w.heap.size+1<W1.heap.size:=(Array.getElem?_eq_some_iff.1 hl2).1;refine⟨_,run_beginRound hl2 (by rw[hst]),?_⟩;refine wpIn_mono (hbody _) ?_;have hl3:(W1.putObj (w.heap.size+1) (.loop { st .ready none with state:=.busy })).heap[w.heap.size+1]?=some (.loop { st .ready none with state:=.busy }):=World.putObj_heap_same hlt2;have hd3:(W1.putObj (w.heap.size+1) (.loop { st .ready none with state:=.busy })).heap[w.heap.size]?=some (.deferred (some [])):=(World.putObj_heap_other (by omega)).trans hd2;have fin:∀(jump:Option Code) (W3:World),KeepsFrom w.heap.size (W1.putObj (w.heap.size+1) (.loop { st .ready none with state:=.busy })) W3 →
     (Instr.endRound (w.heap.size+1) jump).run P W3=.ok (.bool jump.isNone) (W3.putObj (w.heap.size+1) (.loop (st (if jump.isNone then .ready else .done) jump))) ∧
     W3.heap[w.heap.size+1]?=some (.loop { st .ready none with state:=.busy }) ∧
     (W3.putObj (w.heap.size+1) (.loop (st (if jump.isNone then .ready else .done) jump))).heap[w.heap.size+1]?=some (.loop (st (if jump.isNone then .ready else .done) jump)) ∧
     (W3.putObj (w.heap.size+1) (.loop (st (if jump.isNone then .ready else .done) jump))).heap[w.heap.size]?=some (.deferred (some [])):=fun jump W3 hk3=>by
    have h3:=hk3.same _ _ (by omega) hl3 rfl;have:=run_endRound (P:=P) jump h3;rw[hst]at this ⊢;exact⟨this,by rw[hst]at h3;exact h3,World.putObj_heap_same (Array.getElem?_eq_some_iff.1 h3).1,(World.putObj_heap_other (by omega)).trans (hk3.same _ _ (Nat.le_refl _) hd3 rfl)⟩
   rintro e a3 W3 hp
   cases e with
   | normal=>
    obtain⟨hk3,_,hi3⟩:=hp;obtain⟨hr,h3,h4,h5⟩:=fin none W3 hk3;exact⟨_,_,hr,.inl ⟨rfl,hIp _ _ _ _ _ hi3 (by omega) h3 rfl,h4,h5⟩⟩
   | ret=>
    obtain⟨hk3,hi3⟩:=hp;obtain⟨hr,h3,h4,h5⟩:=fin (some .ret) W3 hk3;exact⟨_,_,hr,.inr ⟨rfl,.ret,hXp _ _ _ _ _ _ hi3 (by omega) h3 rfl,h4,h5⟩⟩
   | exit id=>
    obtain⟨hk3,hi3⟩:=hp;obtain⟨hr,h3,h4,h5⟩:=fin (some (.exit id)) W3 hk3;exact⟨_,_,hr,.inr ⟨rfl,.exit id,hXp _ _ _ _ _ _ hi3 (by omega) h3 rfl,h4,h5⟩⟩
   | goto t=>
    obtain⟨hk3,hi3⟩:=hp;obtain⟨hr,h3,h4,h5⟩:=fin (some (.goto t)) W3 hk3;exact⟨_,_,hr,.inr ⟨rfl,.goto t,hXp _ _ _ _ _ _ hi3 (by omega) h3 rfl,h4,h5⟩⟩
   | panic ch=>exact hp.elim
   | outgrown=>exact hp.elim
  | ret=>exact hp.elim
  | exit id=>exact hp.elim
  | goto t=>exact hp.elim
  | panic ch=>exact hp.elim
  | outgrown=>exact hp.elim
 ·rintro e W2 ⟨⟨v,rfl⟩,(⟨xs,hS,hi,hl,hk⟩|⟨pre,hSp,c,hi,hl,hk⟩)⟩
  ·exact⟨none,_,by have:=run_endLoop (P:=P) hl (by rw[hst];simp);rw[hst]at this;exact this,hdone _ xs _ (Nat.le_refl _) hS (hIp _ _ _ _ _ hi (by omega) hl rfl) ((World.putObj_heap_other (by omega)).trans hk)⟩
  ·exact⟨some c,_,by have:=run_endLoop (P:=P) hl (by rw[hst];simp);rw[hst]at this;exact this,hstop _ c pre _ (Nat.le_refl _) hSp (hXp _ _ _ _ _ _ hi (by omega) hl rfl) ((World.putObj_heap_other (by omega)).trans hk)⟩
attribute [local go_sem] Oper.semAt_some
structure Ye where
 pc:Pc
 k:Nat
abbrev encY (y:Ye):Array Value:=#[.agg #[.int .u8 (y.pc.t.toNat:Int),.slice y.pc.p y.pc.b.length y.pc.c],.int .i64 (y.k:Int)]
def seqD (bs:Bs):List ((UInt8 × Bs) × Nat):=(pcsD bs).1.map (fun x=>(x,0))++(if (pcsD bs).2=0 then [] else [((0,[]),(pcsD bs).2)])
def yOf (l:List Ye):List ((UInt8 × Bs) × Nat):=l.map fun y=>((y.pc.t,y.pc.b),y.k)
theorem yOf_app (a b:List Ye):yOf (a++b)=yOf a++yOf b:=by simp[yOf]
theorem seqD_nil:seqD []=[]:=rfl
theorem seqD_err {bs:Bs} {k:Nat} (h0:bs≠[]) (h:readD bs=.error k):seqD bs=[((0,[]),k)]:=by unfold seqD;rw[pcsD_err h0 h];have:=read_err h;simp;omega
theorem seqD_ok {bs:Bs} {t:UInt8} {b r:Bs} (h:readD bs=.ok ((t,b),r)):seqD bs=((t,b),0)::seqD r:=by unfold seqD;rw[pcsD_ok h];rfl
theorem seqD_len:∀(bs:Bs),(seqD bs).length≤bs.length:=by
 intro bs;induction hn:bs.length using Nat.strongRecOn generalizing bs with
 | _ n ih =>
  by_cases h0:bs=[]
  ·subst h0;simp[seqD_nil]
  cases hr:readD bs with
  | error k=>
   rw[seqD_err h0 hr];have:bs.length≠0:=fun e=>h0 (List.eq_nil_of_length_eq_zero e);simp;omega
  | ok q=>
   obtain⟨⟨t,b⟩,r⟩:=q;have hl:=read_len hr;rw[seqD_ok hr];have:=ih r.length (by omega) r rfl;simp;omega
theorem seqD_pos {bs:Bs} (h0:bs≠[]):0<(seqD bs).length:=by
 cases hr:readD bs with
 | error k=>rw[seqD_err h0 hr];simp
 | ok q=>
  obtain⟨⟨t,b⟩,r⟩:=q;rw[seqD_ok hr];simp
def Yn (M:Nat) (y:Ye) (W:World):Prop:=ByV W (fun b=>M≤b) y.pc.p y.pc.c y.pc.b
theorem all_iter (n:Nat) (hn:1≤n) (go:Nat) (p:Option Addr) (L c:Nat) (bs:Bs) (B:Nat→Prop) (l:Nat) (J Jx:List Ye→World→Prop) (W:World)
  (hcell:W.cell? ⟨go,0,none⟩=some (.slice p L c)) (hL:bs.length=L) (hv:ByV W (B) p c bs) (hL2:L≤100000)
  (hk:∀pre W',J pre W'→∀k,B k→W'.heap[k]?=W.heap[k]?) (hBW:∀k,B k→k<W.heap.size)
  (hJb:∀pre W W',J pre W→Below W.heap.size W W'→J pre W')
  (hY:∀pre x W0 W1,J pre W0→(pre.length<L∧yOf (pre++[x]) <+: seqD bs)→Below W0.heap.size W0 W1→Yn W0.heap.size x W1→YieldAt Fence.wide (n-1) Tryz.prog l (encY x) W1 fun e W'=>(e=.returned (.bool true)∧J (pre++[x]) W')∨(e=.returned (.bool false)∧Jx (pre++[x]) W'))
  (h0:J [] W):
  CallsIn Fence.wide n Tryz.prog 123 (#[.func (.yield l) #[] #[]]++#[.pointer (some ⟨go,0,none⟩)]) W fun e W'=>(∃v,e=.returned v)∧((∃xs,yOf xs=seqD bs∧J xs W')∨(∃pre,yOf pre <+: seqD bs∧Jx pre W')):=by
 have H:Hid ((∀pre W',J pre W'→∀k,B k→W'.heap[k]?=W.heap[k]?)∧(∀pre W W',J pre W→Below W.heap.size W W'→J pre W')∧bs.length=L∧ByV W (B) p c bs):=⟨hk,hJb,hL,hv⟩
 have HY:Hid (∀pre x W0 W1,J pre W0→(pre.length<L∧yOf (pre++[x]) <+: seqD bs)→Below W0.heap.size W0 W1→Yn W0.heap.size x W1→YieldAt Fence.wide (n-1) Tryz.prog l (encY x) W1 fun e W'=>(e=.returned (.bool true)∧J (pre++[x]) W')∨(e=.returned (.bool false)∧Jx (pre++[x]) W')):=hY;have HJ0:Hid (J [] W):=h0;clear hk hJb hL hv hY h0;refine callsIn_of_wp Tryz.func123 rfl trivial ?_ rfl;simp only[Tryz.ntmps123,List.size_toArray,List.length_cons,List.length_nil,Nat.reduceAdd,Nat.reduceSub,Array.replicate_succ,Array.replicate_zero,List.push_toArray,List.append_toArray,List.nil_append,List.cons_append]
 gi_wp2
 gi_loopw [3] (fun v3 wr=>∃(pre:List Ye) (ys:Bs) (K:Nat) (q:Option Addr) (d:Nat),v3=.slice q K d∧ys.length=K∧K≤L∧ByV wr (B) q d ys∧J pre wr∧yOf pre++seqD ys=seqD bs) (fun v3 _=>lenOfS v3)
 case atStart=>exact⟨[],bs,L,p,c,rfl,H.out.2.2.1,Nat.le_refl _,H.out.2.2.2,HJ0.out,rfl⟩
 case round =>
  obtain⟨pre,ys,K,q,d,rfl,hK,hKL,hv,hJ,hseq⟩:=hrel;clear hcell HJ0;by_cases q5:K=0
  ·have q5I:¬(0:Int)<(K:Int):=by omega
   have hys:ys=[]:=List.eq_nil_of_length_eq_zero (by omega);have HR:Hid (yOf pre=seqD bs∧J pre wr):=by rw[hys,seqD_nil,List.append_nil]at hseq;exact⟨hseq,hJ⟩
   clear hseq hys hK hv hJ
   gi_wp2
   go_end0
   exact⟨⟨_,rfl⟩,.inl ⟨pre,HR.out⟩⟩
  have q5I:(0:Int)<(K:Int):=by omega
  have HSP:=derSplit q K d ys (B) wr hK hv;have hy0:ys≠[]:=by intro e;rw[e]at hK;exact q5 hK.symm
  have HI:Hid (J pre wr∧yOf pre++seqD ys=seqD bs):=⟨hJ,hseq⟩
  have HN:Hid (pre.length<L):=by
   have h1:=congrArg List.length hseq;have h2:=seqD_len bs;have h3:0<(seqD ys).length:=seqD_pos hy0;rw[H.out.2.2.1]at h2;rw[List.length_append]at h1;have h4:(yOf pre).length=pre.length:=by simp[yOf]
   show pre.length<L;omega
  clear hv hJ hseq
  cases hr:readD ys with
  | error k =>
   rw[hr]at HSP;have hk:=read_err hr;have hkb:((k:Int) != 0)=true:=by simp;omega
   have HR:Hid (yOf (pre++[⟨⟨0,[],none,0⟩,k⟩])=seqD bs):=by show yOf (pre++[⟨⟨0,[],none,0⟩,k⟩])=seqD bs;rw[yOf_app,←HI.out.2,seqD_err hy0 hr];rfl
   clear hr hk hK
   gi_wp2_with (refine⟨trivial,?_⟩;gi_at_call 68;refine(callsIn_wide.2 HSP).mono ?_;intro e w2 hp;obtain⟨hb2,he⟩:=hp.errx;subst he;clear hp;have hb3:Below wr.heap.size wr (w2.alloc (.cells #[.int .u8 0,.slice none 0 0] 94)):=hb2.alloc hb2.size _;obtain⟨fn,tmps,assign,body,hy,hR⟩:=HY.out pre ⟨⟨0,[],none,0⟩,k⟩ wr _ HI.out.1 ⟨HN.out,by rw[HR.out];exact List.prefix_refl _⟩ hb3 (ByV.nil _ _);change (Instr.yield l #[.agg #[.int .u8 0,.slice none 0 0],.int .i64 (k:Int)]).run _ _=_ at hy;clear hb2 hb3 HSP)
   refine hR.mono ?_;clear hR hy;rintro e W3 (⟨rfl,hJ3⟩|⟨rfl,hJ3⟩)
   ·gi_wp2
    refine bodyPost_ret (results_none rfl _ _ _) rfl ?_;exact⟨⟨_,rfl⟩,.inl ⟨_,HR.out,hJ3⟩⟩
   ·gi_wp2
    refine bodyPost_ret (results_none rfl _ _ _) rfl ?_;exact⟨⟨_,rfl⟩,.inr ⟨_,by rw[HR.out];exact List.prefix_refl _,hJ3⟩⟩
  | ok x =>
   obtain⟨⟨t,b⟩,r⟩:=x;rw[hr]at HSP;have hlens:=read_len hr;obtain⟨TN,hTN⟩:∃T,t.toNat=T:=⟨_,rfl⟩
   obtain⟨LB,hLB⟩:∃T,b.length=T:=⟨_,rfl⟩
   obtain⟨Lr,hLr⟩:∃T,r.length=T:=⟨_,rfl⟩
   have hLr2:Lr+2≤K:=by rw[←hLr,←hK];exact hlens.1
   have hLB2:LB≤K:=by rw[←hLB,←hK];omega
   have HR:Hid (t.toNat=TN∧b.length=LB∧r.length=Lr∧∀(p':Option Addr) (c':Nat),yOf (pre++[⟨⟨t,b,p',c'⟩,0⟩])++seqD r=seqD bs):=⟨hTN,hLB,hLr,fun p' c'=>by rw[yOf_app,←HI.out.2,seqD_ok hr];simp[yOf]⟩
   clear hr hlens hK hy0
   gi_wp2_with (first
    | (refine⟨trivial,?_⟩;gi_at_call 68;refine(callsIn_wide.2 HSP).mono ?_;intro e w2 hp;obtain⟨hb2,p1,c1,p2,c2,he,hv1,hv2⟩:=hp.okx;subst he;rw[hTN,hLB,hLr];have HB2:Hid (Below wr.heap.size wr w2∧BAt w2 p1 LB b∧ByV w2 (B) p2 c2 r):=⟨hb2,by rw[←hLB];exact hv1.lies,hv2⟩;clear hp hb2 hv1 hv2 HSP)
    | (refine⟨trivial,?_⟩;gi_at_call 124;refine(callsIn_wide.2 (derCopied TN p1 LB c1 b (w2.alloc (.cells #[.int .u8 (TN:Int),.slice p1 LB c1] 94)) hLB (HB2.out.2.1.below ((Below.refl _ _).alloc (Nat.le_refl _) _)) (by omega))).mono ?_;rintro e w4 ⟨hb4,p',c',rfl,hv4⟩;have hb5:Below wr.heap.size wr w4:=HB2.out.1.trans ((((Below.refl _ w2).alloc (Nat.le_refl _) _).trans (hb4.mono (alloc_le _ _))).mono HB2.out.1.size);obtain⟨fn,tmps,assign,body,hy,hR⟩:=HY.out pre ⟨⟨t,b,p',c'⟩,0⟩ wr w4 HI.out.1 ⟨HN.out,by rw[←HR.out.2.2.2 p' c'];exact List.prefix_append _ _⟩ hb5 (hv4.mono (fun k hk _=>Nat.le_trans HB2.out.1.size (Nat.le_trans (alloc_le _ _) hk)));change (Instr.yield l #[.agg #[.int .u8 (t.toNat:Int),.slice p' b.length c'],.int .i64 0]).run _ _=_ at hy;rw[hTN,hLB]at hy;have HB4:Hid (Below wr.heap.size wr w4):=hb5;clear hb4 hv4 hb5))
   refine hR.mono ?_;clear hR hy;rintro e W3 (⟨rfl,hJ3⟩|⟨rfl,hJ3⟩)
   ·gi_wp2
    go_roundw
    case rel=>
     refine⟨_,r,Lr,p2,c2,rfl,HR.out.2.2.1,by omega,?_,hJ3,HR.out.2.2.2 p' c'⟩;have hbr:=HB2.out.1;refine HB2.out.2.2.keep (fun g hg hlt => ?_);have hwr:g<wr.heap.size:=by
      have h1:=H.out.1 pre wr HI.out.1 g hg;obtain⟨ob,h2⟩:∃ob,W.heap[g]?=some ob:=⟨_,Array.getElem?_eq_getElem (hBW g hg)⟩
      rw[h2]at h1;exact(Array.getElem?_eq_some_iff.1 h1).1
     exact(H.out.1 _ _ hJ3 g hg).trans ((H.out.1 pre wr HI.out.1 g hg).symm.trans (hbr.block g hwr).symm)
    case measure=>simp only[lenOfS];omega
   ·gi_wp2
    refine bodyPost_ret (results_none rfl _ _ _) rfl ?_;exact⟨⟨_,rfl⟩,.inr ⟨_,by rw[←HR.out.2.2.2 p' c'];exact List.prefix_append _ _,hJ3⟩⟩
end Go.Proofs.YtcgikjkpbpjgdabGreat
namespace Go.Proofs.YtcgikjkpbpjgdabGreat
open Go.Shelf Go.RowKit
attribute [local go_sem] Oper.semAt_some
def Kx (W:World) (b:Nat) (v:Value):Prop:=W.cell? ⟨b,0,none⟩=some v∧W.frozen? ⟨b,0,none⟩=false
theorem kx_new (W:World) (v:Value) (t:TypeId):Kx (W.alloc (.cells #[v] t)) W.heap.size v:=⟨by simp,by simp⟩
theorem kx_block {W W':World} {b:Nat} {v:Value} (h:Kx W b v) (hb:W'.heap[b]?=W.heap[b]?):Kx W' b v:=⟨(World.cell?_of_block (w:=W) hb).trans h.1,(World.frozen?_of_block (w:=W) hb).trans h.2⟩
theorem kx_lt {W:World} {b:Nat} {v:Value} (h:Kx W b v):b<W.heap.size:=World.block_lt_of_cell? W _ h.1
theorem kx_below {W W':World} {b:Nat} {v:Value} (h:Kx W b v) (hb:Below W.heap.size W W'):Kx W' b v:=kx_block h (hb.block b (kx_lt h))
theorem kx_put {W:World} {b:Nat} {v:Value} (h:Kx W b v) {r:Nat} {o:Obj} (o':Obj) (hr:W.heap[r]?=some o) (ho:o.isCells=false):Kx (W.putObj r o') b v:=
 ⟨cell_kept h.1 (grownBy_putObj' W r o') (fun k e=>by cases e;exact⟨o,hr,ho⟩),(frozen_kept h.1 (grownBy_putObj' W r o') (fun k e=>by cases e;exact⟨o,hr,ho⟩)).trans h.2⟩
theorem kx_set {W:World} {b:Nat} {v:Value} (h:Kx W b v) (u:Value):Kx (W.setCell ⟨b,0,none⟩ u) b u:=⟨World.cell?_setCell_same _ _ _ h.1,by rw[World.frozen?_setCell];exact h.2⟩
theorem kx_other {W:World} {b c:Nat} {v:Value} (h:Kx W b v) (hne:c≠b) (u:Value):Kx (W.setCell ⟨c,0,none⟩ u) b v:=kx_block h (Below.heap_setCell _ _ _ _ (fun e=>hne e.symm))
theorem ByV.put {W:World} {P:Nat→Prop} {p:Option Addr} {c:Nat} {l:Bs} (h:ByV W P p c l) {r:Nat} {o:Obj} (o':Obj) (hr:W.heap[r]?=some o) (ho:o.isCells=false):ByV (W.putObj r o') P p c l:=
 ⟨h.cap, h.big, fun h0 => by
  obtain⟨b,f,e,hc⟩:=h.lies h0;exact⟨b,f,e,fun i hi=>cell_kept (hc i hi) (grownBy_putObj' W r o') (fun k e=>by cases e;exact⟨o,hr,ho⟩)⟩,h.ok⟩
theorem owns_put {W:World} {base:Nat} {e:TypeId} {s:Nat} {v:Value} {n:Nat} {xs:List Value} (h:W.ownsRow base e s v n xs) {r:Nat} {o:Obj} (o':Obj) (hr:W.heap[r]?=some o) (ho:o.isCells=false):(W.putObj r o').ownsRow base e s v n xs:=
 owns_keep h (fun g hg=>by
  have hne:g≠r:=by
   rintro rfl;obtain⟨_,_,cur,hc⟩:=owns_lt h hg;rw[hc]at hr
   cases hr
   cases ho
  exact(grownBy_putObj' W r o').block g (owns_lt h hg).2.1 (fun e=>hne (by injection e)))
theorem seqD_take (bs:Bs):seqD (bs.take 4097)=seqD bs:=by
 by_cases h:bs.length≤4097
 ·rw[List.take_of_length_le h]
 have h1:readD bs=.error 3:=by unfold readD;rw[if_pos (by omega)]
 have h2:readD (bs.take 4097)=.error 3:=by unfold readD;rw[if_pos (by rw[List.length_take];omega)]
 rw[seqD_err (by intro e;rw[e]at h;simp at h) h1,seqD_err (by intro e;have:=congrArg List.length e;rw[List.length_take]at this;simp at this;rw[this]at h;simp at h) h2]
theorem all_any (p:Option Addr) (n c:Nat) (bs:Bs) (P:Nat→Prop) (w:World) (hn:bs.length=n) (h:ByV w P p c bs):
  Calls Tryz.prog 94 #[.slice p n c] w fun e w'=>Below w.heap.size w w'∧∃g p' L c' bs',e=.returned (.func (.func 123) #[] #[.pointer (some ⟨g,0,none⟩)])∧w'.cell? ⟨g,0,none⟩=some (.slice p' L c')∧w.heap.size≤g∧bs'.length=L∧L≤4097∧ByV w' (fun b=>w.heap.size≤b) p' c' bs'∧seqD bs'=seqD bs:=by
 have hmf:∀(fn:Fn) (first cap:Array Value) (w:World),(Instr.makeFunc fn first cap).run Tryz.prog w=.ok (.func fn first cap) w:=fun _ _ _ _=>rfl;have hcap:=h.cap;have hbig:=h.big;rw[hn]at hcap;obtain⟨m,hm⟩:∃m,min n 4097=m:=⟨_,rfl⟩
 have hmI:min (n:Int) 4097=(m:Int):=by omega
 have hm1:m≤n:=by omega
 have hm2:m≤4097:=by omega
 have hmc:(m:Int)≤(c:Int):=by omega
 have hnI:(n:Int)≤9223372036854775807:=by omega
 have hcI:(c:Int)≤9223372036854775807:=by omega
 have hlen:(bs.take 4097).length=m:=by rw[List.length_take,hn];omega
 have hv:BAt w p m (bs.take 4097):=by
  have h1:=(h.take m (by omega)).lies;have h2:bs.take m=bs.take 4097:=by rw[List.take_eq_take_iff];omega
  rw[h2,hlen]at h1;exact h1
 have HC:=clone_any p m c (bs.take 4097) w hlen hv (by omega);have HH:Hid ((bs.take 4097).length=m∧m≤4097):=⟨hlen,hm2⟩
 clear hm hlen hv h hn;go_enter Tryz.func94,Tryz.ntmps94;go_wp2_with (go_at_call 122;refine HC.mono ?_;rintro e w1 ⟨hb1,p',c',rfl,hv1⟩)
 go_ret;refine⟨hb1.alloc hb1.size _,_,p',m,c',bs.take 4097,rfl,(kx_new _ _ _).1,hb1.size,HH.out.1,HH.out.2,hv1.keep (fun k _ hk=>((Below.refl w1.heap.size w1).alloc (Nat.le_refl _) _).block k hk),seqD_take bs⟩
theorem wpListIn_append_pc {F:Fence} {nF:Nat} {w:World} {ops:Array Oper} {rest:List Oper} {o:Oper} {a:Act} {Q:Exit→Act→World→Prop} (hgd:o.guard=none) (s x:Operand)
  (ho:o.op=.call { callee:=.builtin .append,args:=#[s,x],argTypes:=#[88,88] }) (base:Nat) (v:Value) (hs:a.eval s=v) (old:List Pc) (m:Nat) (hown:w.ownsRow base 94 2 v m (cellsP old)) (ad:Addr) (c:Nat) (y:Pc) (hx:a.eval x=.slice (some ad) 1 c) (h0:w.cell? (ad.add 0)=some (.int .u8 (y.t.toNat:Int))) (h1:w.cell? (ad.add 1)=some (.slice y.p y.b.length y.c)) (hlen:m+1≤1000000) (hbase:base≤w.heap.size)
  (h:∀v' w',w'.ownsRow base 94 2 v' (m+1) (cellsP (old++[y]))→w.grownBy w' v.ownBlock→(v'.ownBlock=v.ownBlock∨v'.ownBlock=some w.heap.size)→wpListIn F nF Tryz.prog ops Q rest (a.put o.dst v') w'):wpListIn F nF Tryz.prog ops Q (o::rest) a w:=by
 obtain⟨z,hz,hzs⟩:=infoTlv;obtain⟨i0,hi0,hz0,hz1,hz2⟩:=info_parts hz;refine wpListIn_append_own_at (w:=w) hgd s x _ ho base 94 i0 z 2 32 Tryz.underlying88 hi0 hz0 hz1 hz2 hzs (by decide) v m (cellsP old) hs hown ad 1 c (cellsP [y]) hx rfl ?_ (by intro u hu;simp[cellsP,Pc.cells]at hu;rcases hu with rfl|rfl<;>rfl) (by unfold maxLen;omega) (by omega) hbase ?_
 ·intro j u hj;match j with
  | 0=>simp[cellsP,Pc.cells]at hj;subst hj;exact h0
  | 1=>simp[cellsP,Pc.cells]at hj;subst hj;exact h1
  | j+2=>simp[cellsP,Pc.cells]at hj
 ·intro v' w' hown' hgr _ hat;rw[cellsP_app]at hown';exact h v' w' hown' hgr hat
structure LIv (w w6:World) (pre:List Ye) (v:Value) (W:World):Prop where
 r0:Kx W w.heap.size (.slice none 0 0)
 r1:Kx W (w.heap.size+1) (.int .i64 0)
 r2:Kx W (w.heap.size+1+1) v
 own:W.ownsRow w6.heap.size 94 2 v pre.length (cellsP (pre.map Ye.pc))
 at_:∀y∈pre,y.k=0∧ByV W (fun b=>w6.heap.size≤b∧v.ownBlock≠some b) y.pc.p y.pc.c y.pc.b
 low:Below w.heap.size w W
 sz:w6.heap.size≤W.heap.size
 mid:∀k,w.heap.size+1+1+1≤k→k<w6.heap.size→W.heap[k]?=w6.heap[k]?
theorem LIv.below {w w6:World} {pre:List Ye} {v:Value} {W W':World} (h:LIv w w6 pre v W) (hb:Below W.heap.size W W'):LIv w w6 pre v W':=
 ⟨kx_below h.r0 hb,kx_below h.r1 hb,kx_below h.r2 hb,owns_keep h.own (fun g hg=>hb.block g (owns_lt h.own hg).2.1),fun y hy=>⟨(h.at_ y hy).1,(h.at_ y hy).2.keep (fun g _ hlt=>hb.block g hlt)⟩,h.low.trans (hb.mono h.low.size),Nat.le_trans h.sz hb.size,fun k h1 h2=>(hb.block k (Nat.lt_of_lt_of_le h2 h.sz)).trans (h.mid k h1 h2)⟩
theorem LIv.put {w w6:World} {pre:List Ye} {v:Value} {W:World} (h:LIv w w6 pre v W) {r:Nat} {o:Obj} (o':Obj) (h6:w.heap.size≤w6.heap.size) (hr6:w6.heap.size≤r) (hr:W.heap[r]?=some o) (ho:o.isCells=false):LIv w w6 pre v (W.putObj r o'):=
 ⟨kx_put h.r0 o' hr ho, kx_put h.r1 o' hr ho, kx_put h.r2 o' hr ho, owns_put h.own o' hr ho, fun y hy => ⟨(h.at_ y hy).1, (h.at_ y hy).2.put o' hr ho⟩,
  h.low.trans ⟨rfl,rfl,rfl,(grownBy_putObj' W r o').size,fun k hk=>(grownBy_putObj' W r o').block k (by have:=h.low.size;omega) (fun e=>by injection e with e;omega)⟩,Nat.le_trans h.sz (grownBy_putObj' W r o').size,fun k h1 h2=>((grownBy_putObj' W r o').block k (by have:=h.sz;omega) (fun e=>by injection e with e;omega)).trans (h.mid k h1 h2)⟩
theorem LIv.app {w w6:World} {pre:List Ye} {v:Value} {W2 W3:World} (h:LIv w w6 pre v W2) (o:Obj) (gr:(W2.alloc o).grownBy W3 v.ownBlock) {v3:Value} {y:Ye} (o3:W3.ownsRow w6.heap.size 94 2 v3 (pre.length+1) (cellsP (pre.map Ye.pc++[y.pc]))) (hk:y.k=0) (hy:ByV W2 (fun b=>w6.heap.size≤b∧v.ownBlock≠some b) y.pc.p y.pc.c y.pc.b) (hv3:v3.ownBlock=v.ownBlock∨v3.ownBlock=some (W2.alloc o).heap.size) (h6:w.heap.size+1+1+1≤w6.heap.size):LIv w w6 (pre++[y]) v3 (W3.setCell ⟨w.heap.size+1+1,0,none⟩ v3):=by
 have hsz:=h.sz;have haz:=alloc_sz W2 o;have low:∀k,k<W2.heap.size→v.ownBlock≠some k→W3.heap[k]?=W2.heap[k]?:=fun k hk hne=>(gr.block k (by omega) (fun e=>hne e.symm)).trans (Below.heap_alloc _ _ _ hk);have hob:∀k,k<w6.heap.size→v.ownBlock≠some k:=fun k hk e=>by have:=(owns_lt h.own e).1;omega
 have hgz:=gr.size;have st:∀k,k≠w.heap.size+1+1→(W3.setCell ⟨w.heap.size+1+1,0,none⟩ v3).heap[k]?=W3.heap[k]?:=fun k hk=>Below.heap_setCell _ _ _ _ hk;have kz:∀u:Ye,ByV W2 (fun b=>w6.heap.size≤b∧v.ownBlock≠some b) u.pc.p u.pc.c u.pc.b→ByV (W3.setCell ⟨w.heap.size+1+1,0,none⟩ v3) (fun b=>w6.heap.size≤b∧v3.ownBlock≠some b) u.pc.p u.pc.c u.pc.b:=fun u hu=>by
  have h1:ByV W2 (fun b=>(w6.heap.size≤b∧v.ownBlock≠some b)∧b<W2.heap.size) u.pc.p u.pc.c u.pc.b:=hu.mono (fun g hg hlt=>⟨hg,hlt⟩);refine(h1.keep (fun g hg hlt=>(st g (by omega)).trans (low g hlt hg.1.2))).mono (fun g hg _=>⟨hg.1.1,fun e => ?_⟩);rcases hv3 with e3|e3
  ·exact hg.1.2 (e3 ▸ e)
  ·rw[e3]at e;injection e with e;omega
 refine⟨kx_other (kx_block h.r0 (low _ (kx_lt h.r0) (hob _ (by omega)))) (by omega) _,kx_other (kx_block h.r1 (low _ (kx_lt h.r1) (hob _ (by omega)))) (by omega) _,kx_set (kx_block h.r2 (low _ (kx_lt h.r2) (hob _ (by omega)))) _,?_,?_,?_,?_,?_⟩
 ·rw[List.length_append,List.map_append];exact owns_keep o3 (fun g hg=>st g (by have:=(owns_lt o3 hg).1;omega))
 ·intro u hu;rcases List.mem_append.1 hu with hu|hu
  ·exact⟨(h.at_ u hu).1,kz u (h.at_ u hu).2⟩
  ·simp at hu;subst hu;exact⟨hk,kz u hy⟩
 ·have hl:=h.low.size;exact h.low.trans ⟨gr.os,gr.tape,gr.output,by show _≤(W3.heap.modify _ _).size;rw[Array.size_modify];omega,fun k hk=>(st k (by omega)).trans (low k (by omega) (hob k (by omega)))⟩
 ·show _≤(W3.heap.modify _ _).size;rw[Array.size_modify];omega
 ·intro k h1 h2;exact(st k (by omega)).trans ((low k (by omega) (hob k h2)).trans (h.mid k h1 h2))
end Go.Proofs.YtcgikjkpbpjgdabGreat
namespace Go.Proofs.YtcgikjkpbpjgdabGreat
open Go.Shelf Go.RowKit
attribute [local go_sem] Oper.semAt_some
theorem seqD_mem {bs:Bs} {x:UInt8 × Bs} {k:Nat} (h:(x,k)∈seqD bs) (hk:k≠0):(pcsD bs).2=k:=by
 unfold seqD at h;rcases List.mem_append.1 h with h|h
 ·simp at h;omega
 ·by_cases h0:(pcsD bs).2=0
  ·rw[if_pos h0]at h;simp at h
  ·rw[if_neg h0]at h;simp at h;exact h.2.symm
theorem seqD_whole {bs:Bs} {xs:List Ye} (h:yOf xs=seqD bs) (h0:∀y∈xs,y.k=0):(pcsD bs).2=0∧pcsOf (xs.map Ye.pc)=(pcsD bs).1:=by
 have hz:(pcsD bs).2=0:=by
  rcases Nat.eq_zero_or_pos (pcsD bs).2 with h1|h1
  ·exact h1
  ·have hm:(((0:UInt8),([]:Bs)),(pcsD bs).2)∈yOf xs:=by
    rw[h];unfold seqD;rw[if_neg (by omega)];simp
   unfold yOf at hm;obtain⟨y,hy,e⟩:=List.mem_map.1 hm;have:=h0 y hy;injection e with e1 e2;omega
 refine⟨hz,?_⟩;unfold seqD at h;rw[if_pos hz,List.append_nil]at h;have h2:=congrArg (List.map Prod.fst) h;simp only[yOf,List.map_map]at h2;have e1:((fun x:(UInt8 × Bs) × Nat=>x.1) ∘ fun x:UInt8 × Bs=>(x,0))=id:=rfl;rw[show(Prod.fst ∘ fun x:UInt8 × Bs=>(x,(0:Nat)))=id from rfl,List.map_id]at h2;rw[←h2];simp[pcsOf]
def LI (w w6:World) (pre:List Ye) (W:World):Prop:=∃v,LIv w w6 pre v W
def LIx (w w6:World) (c:Code) (pre:List Ye) (W:World):Prop:=c=.ret∧Kx W w.heap.size (.slice none 0 0)∧(∃q y,pre=q++[y]∧y.k≠0∧Kx W (w.heap.size+1) (.int .i64 (y.k:Int)))∧Below w.heap.size w W
theorem derList (p:Option Addr) (n c:Nat) (bs:Bs) (P:Nat→Prop) (w:World) (hn:bs.length=n) (h:ByV w P p c bs):
  Calls Tryz.prog 69 #[.slice p n c] w (LsPost w (fun w b=>w.heap.size≤b) (pcsD bs)):=by
 refine(callsIn_wide (n:=4)).1 ?_;refine callsIn_of_wp_marks Tryz.func69 rfl trivial ?_ rfl;obtain⟨w3,hw3⟩:∃w3,((w.alloc (.cells #[.slice none 0 0] 88)).alloc (.cells #[.int .i64 0] 27)).alloc (.cells #[.slice none 0 0] 88)=w3:=⟨_,rfl⟩
 have s3:w3.heap.size=w.heap.size+1+1+1:=by rw[←hw3];simp
 have b3:Below w.heap.size w w3:=by rw[←hw3];exact(((Below.refl _ w).alloc (Nat.le_refl _) _).alloc (by simp) _).alloc (by simp;omega) _
 have k0:Kx w3 w.heap.size (.slice none 0 0):=by rw[←hw3];exact kx_below (kx_below (kx_new w _ _) ((Below.refl _ _).alloc (Nat.le_refl _) _)) ((Below.refl _ _).alloc (Nat.le_refl _) _)
 have k1:Kx w3 (w.heap.size+1) (.int .i64 0):=by rw[←hw3];have:=kx_new (w.alloc (.cells #[.slice none 0 0] 88)) (.int .i64 0) 27;rw[alloc_sz]at this;exact kx_below this ((Below.refl _ _).alloc (Nat.le_refl _) _)
 have k2:Kx w3 (w.heap.size+1+1) (.slice none 0 0):=by rw[←hw3];have:=kx_new ((w.alloc (.cells #[.slice none 0 0] 88)).alloc (.cells #[.int .i64 0] 27)) (.slice none 0 0) 88;rw[alloc_sz,alloc_sz]at this;exact this
 have HA:=all_any p n c bs (fun b=>b<w.heap.size) w3 hn ((h.mono (fun b _ hlt=>hlt)).keep (fun k hk _=>b3.block k hk));have H3:Hid (Kx w3 w.heap.size (.slice none 0 0)∧Kx w3 (w.heap.size+1) (.int .i64 0)∧Kx w3 (w.heap.size+1+1) (.slice none 0 0)∧Below w.heap.size w w3):=⟨k0,k1,k2,b3⟩
 clear h k0 k1 k2 b3;simp only[Tryz.ntmps69,List.size_toArray,List.length_cons,List.length_nil,Nat.reduceAdd,Nat.reduceSub,Array.replicate_succ,Array.replicate_zero,List.push_toArray,List.append_toArray,List.nil_append,List.cons_append]
 gi_wp2_with (refine⟨trivial,?_⟩;gi_at_call 94;refine(callsIn_wide.2 HA).mono ?_;rintro e w6 ⟨hb6,g,p',L,c',bs',rfl,hg,hgs,hL,hL2,hv6,hsq⟩)
 have hz6:w.heap.size+1+1+1≤w6.heap.size:=by have:=hb6.size;omega
 have hI6:LI w w6 [] w6:=⟨.slice none 0 0,kx_below H3.out.1 hb6,kx_below H3.out.2.1 hb6,kx_below H3.out.2.2.1 hb6,World.ownsRow_nil _ _ _ _,(fun y hy=>by cases hy),H3.out.2.2.2.trans (hb6.mono (by omega)),Nat.le_refl _,fun _ _ _=>rfl⟩
 have H6:Hid (LI w w6 [] w6∧w.heap.size+1+1+1≤w6.heap.size∧seqD bs'=seqD bs):=⟨hI6,hz6,hsq⟩
 have hg6:=World.block_lt_of_cell? w6 _ hg;refine range_new (n:=4) (by omega) (fun pre _=>pre.length<L) (gf:=123) (lb:=#[.pointer (some ⟨g,0,none⟩)]) rfl (enters_of Tryz.func123 (by kernel_rfl) rfl)
  encY (fun _=>rfl) Yn (fun xs=>yOf xs=seqD bs') (fun pre=>yOf pre <+: seqD bs') (LI w w6) (LIx w w6) ?it
  (fun pre W W' hi hb=>by obtain⟨v,hv⟩:=hi;exact⟨v,hv.below hb⟩)
  (fun pre W r o o' hi hr ho hc=>by obtain⟨v,hv⟩:=hi;exact⟨v,hv.put o' (by omega) hr ho hc⟩)
  (fun c pre W r o o' hi hr ho hc=>⟨hi.1,kx_put hi.2.1 o' ho hc,by obtain⟨q,y,h1,h2,h3⟩:=hi.2.2.1;exact⟨q,y,h1,h2,kx_put h3 o' ho hc⟩,hi.2.2.2.trans ⟨rfl,rfl,rfl,(grownBy_putObj' W r o').size,fun k hk=>(grownBy_putObj' W r o').block k (by have:=hi.2.2.2.size;omega) (fun e=>by injection e with e;omega)⟩⟩)
  hI6 ?round ?done ?stop
 case it=>
  intro l r J Jx hJI hJb hY h0;have hb2:Below w6.heap.size w6 ((w6.alloc (.deferred (some []))).alloc (.loop r)):=((Below.refl _ w6).alloc (Nat.le_refl _) _).alloc (by simp) _;refine all_iter (4-1) (by omega) g p' L c' bs' (fun b=>w.heap.size+1+1+1≤b∧b<w6.heap.size) l J Jx _ ((hb2.cell (p:=⟨g,0,none⟩) hg6).trans hg) hL ?_ (by omega) ?_ ?_ hJb (fun pre x W0 W1 h1 h2=>hY pre x W0 W1 h1 h2.1) h0
  ·exact(hv6.mono (Q:=fun b=>w.heap.size+1+1+1≤b∧b<w6.heap.size) (fun b hb hlt=>⟨by omega,hlt⟩)).keep (fun k _ hk=>hb2.block k hk)
  ·intro pre W' hJ k hk;obtain⟨v,hv⟩:=hJI pre W' hJ;exact(hv.mid k hk.1 hk.2).trans (hb2.block k hk.2).symm
  ·intro k hk;have:=hb2.size;omega
 case round=>
  rintro l r pre ⟨⟨t,b,q,d⟩,k⟩ W0 W hlen hl hl0 hlW ⟨v,hv0⟩ hb _ hY;have hY0:ByV W (fun x=>W0.heap.size≤x) q d b:=hY;obtain⟨TN,hTN⟩:∃T,t.toNat=T:=⟨_,rfl⟩
  obtain⟨LB,hLB⟩:∃T,b.length=T:=⟨_,rfl⟩
  obtain⟨W1,hW1⟩:∃W1,W.alloc (.cells #[.int .u8 (TN:Int),.slice q LB d] 94)=W1:=⟨_,rfl⟩
  have bW1:Below W.heap.size W W1:=by rw[←hW1];exact(Below.refl _ _).alloc (Nat.le_refl _) _
  have HW1:Hid (W.alloc (.cells #[.int .u8 (TN:Int),.slice q LB d] 94)=W1):=hW1;have t1:Tl W1 W.heap.size (.int .u8 (TN:Int)) (.slice q LB d):=by rw[←hW1];exact Tl.new W _ _
  have l1:W1.heap[l]?=some (.loop r):=(bW1.block l (Array.getElem?_eq_some_iff.1 hlW).1).trans hlW;have HR:Hid (t.toNat=TN∧b.length=LB):=⟨hTN,hLB⟩
  have HL:Hid (∀o':Obj,LIv w w6 pre v (W1.putObj l o')∧Tl (W1.putObj l o') W.heap.size (.int .u8 (TN:Int)) (.slice q LB d)∧ByV (W1.putObj l o') (fun x=>w6.heap.size≤x∧v.ownBlock≠some x) q d b):=fun o'=>by
   refine⟨((hv0.below hb).below bW1).put o' (by omega) hl l1 rfl,t1.same ?_,?_⟩
   ·have h1:=t1.lt;have h2:=(Array.getElem?_eq_some_iff.1 hlW).1;exact(grownBy_putObj' W1 l o').block _ h1 (fun e=>by injection e with e;omega)
   ·refine((hY0.keep (fun g _ hlt=>bW1.block g hlt)).put o' l1 rfl).mono (fun g hg _=>⟨Nat.le_trans hv0.sz hg,fun e => ?_⟩);have:=(owns_lt hv0.own e).2.1;omega
  clear hY hY0 hv0 hb hI6 hg hv6 hb6 hsq HA t1 hW1 hw3;rw[show encY ⟨⟨t,b,q,d⟩,k⟩=#[.agg #[.int .u8 (TN:Int),.slice q LB d],.int .i64 (k:Int)] by rw[←hTN,←hLB]];clear hTN hLB
  gi_wp2
  refine⟨(Below.refl _ _).alloc (Nat.le_refl _) _,fun o' => ?_⟩;rw[HW1.out];obtain⟨hv2,t2,y2⟩:=HL.out o';generalize W1.putObj l o'=W2 at hv2 t2 y2 ⊢;have x0:=hv2.r0.1;have f0:=hv2.r0.2;have x1:=hv2.r1.1;have f1:=hv2.r1.2;have x2:=hv2.r2.1;have f2:=hv2.r2.2;have tc0:=t2.c0;have tc1:=t2.c1;have HV:Hid (LIv w w6 pre v W2∧ByV W2 (fun x=>w6.heap.size≤x∧v.ownBlock≠some x) q d b):=⟨hv2,y2⟩
  have hW2s:=hv2.sz;clear hv2 y2 t2 HL l1 bW1 HW1 hlW;by_cases hk:k=0
  ·subst hk;have hka:((0:Int) != 0)=false:=rfl
   gi_wp2_with (gi_at_builtin;refine wpListIn_append_pc rfl (.tmp 14) (.tmp 16) rfl w6.heap.size v rfl (pre.map Ye.pc) pre.length (HV.out.1.own.alloc _) ⟨W2.heap.size,0,none⟩ 1 ⟨t,b,q,d⟩ rfl (by show _=some (Value.int .u8 (t.toNat:Int));rw[HR.out.1,Addr.add_mid];exact(Tl.new W2 (.int .u8 (TN:Int)) (.slice q LB d)).c0) (by show _=some (Value.slice q b.length d);rw[HR.out.2,Addr.add_mid];exact(Tl.new W2 (.int .u8 (TN:Int)) (.slice q LB d)).c1) (by omega) (Nat.le_trans hW2s (alloc_le _ _)) ?_;intro v3 W3 o3 gr3 at3;have hv4:=HV.out.1.app (y:=⟨⟨t,b,q,d⟩,0⟩) _ gr3 o3 rfl HV.out.2 at3 hz6;have hkf:Hid (KeepsFrom w6.heap.size W2 W3):=((KeepsOthers.alloc _ _).trans (KeepsOthers.of_grownBy gr3 (fun j o e ho=>by obtain⟨_,_,cur,hc⟩:=owns_lt (HV.out.1.own.alloc _) e;rw[hc]at ho;cases ho;rfl))).from _;have y2:Kx W3 (w.heap.size+1+1) v:=kx_block HV.out.1.r2 ((gr3.block _ (by have:=kx_lt HV.out.1.r2;rw[alloc_sz];omega) (fun e=>by have:=(owns_lt HV.out.1.own e.symm).1;omega)).trans (Below.heap_alloc _ _ _ (kx_lt HV.out.1.r2)));have z2:=y2.1;have zf2:=y2.2;obtain⟨p3,c3,rfl⟩:=owns_slice o3;have H4:Hid (LIv w w6 (pre++[⟨⟨t,b,q,d⟩,0⟩]) (.slice p3 (pre.length+1) c3) (W3.setCell ⟨w.heap.size+1+1,0,none⟩ (.slice p3 (pre.length+1) c3))):=hv4;clear hv4 y2 o3 gr3 at3)
   exact⟨hkf.out.trans ((KeepsOthers.setCell _ _ _).from _),trivial,_,H4.out⟩
  ·have hka:((k:Int) != 0)=true:=by simp;omega
   gi_wp2
   refine⟨((KeepsOthers.setCell _ _ _).trans (KeepsOthers.setCell _ _ _)).from _,rfl,kx_other (kx_set HV.out.1.r0 _) (by omega) _,⟨pre,_,rfl,hk,kx_set (kx_other HV.out.1.r1 (by omega) _) _⟩,(HV.out.1.low.setCell (p:=⟨w.heap.size,0,none⟩) (Nat.le_refl _) _).setCell (p:=⟨w.heap.size+1,0,none⟩) (by show w.heap.size≤w.heap.size+1;omega) _⟩
 case done=>
  rintro D xs W hD hxs ⟨v,hv⟩ hK;have hlv:=seqD_whole (bs:=bs) (by rw[hxs,hsq]) (fun y hy=>(hv.at_ y hy).1);obtain⟨pv,cv,rfl⟩:=owns_slice hv.own;have x0:=hv.r0.1;have f0:=hv.r0.2;have x1:=hv.r1.1;have f1:=hv.r1.2;have x2:=hv.r2.1;obtain⟨W',hW'⟩:∃W',(W.setCell ⟨w.heap.size,0,none⟩ (.slice pv xs.length cv)).setCell ⟨w.heap.size+1,0,none⟩ (.int .i64 0)=W':=⟨_,rfl⟩
  have hK':W'.heap[D]?=some (.deferred (some [])):=by rw[←hW'];exact((KeepsOthers.setCell W ⟨w.heap.size,0,none⟩ (.slice pv xs.length cv)).trans (KeepsOthers.setCell _ ⟨w.heap.size+1,0,none⟩ (.int .i64 0))).same D _ hK rfl
  have r0:Kx W' w.heap.size (.slice pv xs.length cv):=by rw[←hW'];exact kx_other (kx_set hv.r0 _) (by omega) _
  have r1:Kx W' (w.heap.size+1) (.int .i64 0):=by rw[←hW'];exact kx_set (kx_other hv.r1 (by omega) _) _
  have hblk:∀k,w6.heap.size≤k→W'.heap[k]?=W.heap[k]?:=fun k hk=>by rw[←hW'];exact(Below.heap_setCell _ _ _ _ (by show k≠w.heap.size+1;omega)).trans (Below.heap_setCell _ _ _ _ (by show k≠w.heap.size;omega))
  have lowW:Below w.heap.size w W':=by rw[←hW'];exact(hv.low.setCell (p:=⟨w.heap.size,0,none⟩) (Nat.le_refl _) _).setCell (p:=⟨w.heap.size+1,0,none⟩) (by show w.heap.size≤w.heap.size+1;omega) _
  have H9:Hid (W'.heap[D]?=some (.deferred (some []))∧w6.heap.size≤D∧Kx W' w.heap.size (.slice pv xs.length cv)∧Kx W' (w.heap.size+1) (.int .i64 0)∧Below w.heap.size w W'∧W'.ownsRow w6.heap.size 94 2 (.slice pv xs.length cv) xs.length (cellsP (xs.map Ye.pc))∧(∀y∈xs,ByV W' (fun b=>w6.heap.size≤b) y.pc.p y.pc.c y.pc.b)∧(pcsD bs).2=0∧pcsOf (xs.map Ye.pc)=(pcsD bs).1):=
   ⟨hK',hD,r0,r1,lowW,owns_keep hv.own (fun g hg=>hblk g (owns_lt hv.own hg).1),fun y hy=>((hv.at_ y hy).2.mono (Q:=fun b=>w6.heap.size≤b) (fun g hg _=>hg.1)).keep (fun g hg _=>hblk g hg),hlv.1,hlv.2⟩
  have HW':Hid ((W.setCell ⟨w.heap.size,0,none⟩ (.slice pv xs.length cv)).setCell ⟨w.heap.size+1,0,none⟩ (.int .i64 0)=W'):=hW';clear hK' hK hD hxs hv r0 r1 hblk lowW hlv hI6 hg hv6 hb6 hsq HA hW' hw3
  gi_wp2
  rw[HW'.out];refine⟨by simp,.inl ⟨_,_,rfl,run_takeDeferred H9.out.1,?_⟩⟩;obtain⟨q1,q2,q3,q4,q5,q6,q7,q8,q9⟩:=H9.out;have c5:=(kx_put q3 (.deferred none) q1 rfl).1;have c6:=(kx_put q4 (.deferred none) q1 rfl).1;refine⟨.tuple #[.slice pv xs.length cv,.int .i64 0],?_,q5.trans (belowK_b (w:=w) (Nat.le_refl _) _ D _ _ (by omega) q1 rfl rfl),.inr ⟨q8,xs.map Ye.pc,_,q9,rfl,?_,?_⟩⟩
  ·simp[results,Tryz.f69,go_sem,c5,c6]
  ·rw[List.length_map];have:=owns_put q6 (.deferred none) q1 rfl;exact⟨this.1,by
    rcases this.2 with h1|⟨g1,cap,cur,e1,h1,h2⟩
    ·exact .inl h1
    ·exact .inr ⟨g1,cap,cur,e1,by omega,h2⟩⟩
  ·intro x hx;obtain⟨y,hy,rfl⟩:=List.mem_map.1 hx;exact((q7 y hy).put (.deferred none) q1 rfl).mono (fun g hg _=>by show w.heap.size≤g;omega)
 case stop=>
  rintro D cc pre W hD hpre ⟨rfl,h2,⟨q,y,rfl,hy,h3⟩,hbW⟩ hK;have hm:((y.pc.t,y.pc.b),y.k)∈seqD bs:=by rw[←hsq];refine List.IsPrefix.mem ?_ hpre;simp[yOf]
  have hk:=seqD_mem hm hy;have HQ:Hid (W.heap[D]?=some (.deferred (some []))∧w6.heap.size≤D∧Kx W w.heap.size (.slice none 0 0)∧Kx W (w.heap.size+1) (.int .i64 (y.k:Int))∧Below w.heap.size w W∧(pcsD bs).2=y.k∧y.k≠0):=⟨hK,hD,h2,h3,hbW,hk,hy⟩
  clear hK hD h2 h3 hbW hk hI6 hg hv6 hb6 hsq HA hw3 hm hpre
  gi_wp2
  obtain⟨q1,q2,q3,q4,q5,q6,q7⟩:=HQ.out;refine⟨by simp,.inl ⟨_,_,rfl,run_takeDeferred q1,?_⟩⟩;have c5:=(kx_put q3 (.deferred none) q1 rfl).1;have c6:=(kx_put q4 (.deferred none) q1 rfl).1;refine⟨.tuple #[.slice none 0 0,.int .i64 (y.k:Int)],?_,q5.trans (belowK_b (w:=w) (Nat.le_refl _) _ D _ _ (by omega) q1 rfl rfl),.inl ⟨by omega,by rw[q6]⟩⟩;simp[results,Tryz.f69,go_sem,c5,c6]
end Go.Proofs.YtcgikjkpbpjgdabGreat
namespace Go.Proofs.YtcgikjkpbpjgdabGreat
open Go.Shelf Go.RowKit
theorem cellsP_get:∀(l:List Pc) (j:Nat) (x:Pc),l[j]?=some x→(cellsP l)[j*2]?=some (.int .u8 (x.t.toNat:Int))∧(cellsP l)[j*2+1]?=some (.slice x.p x.b.length x.c)
 | [],j,x,h=>by simp at h
 | y::l,0,x,h=>by
  simp at h;subst h;exact⟨rfl,rfl⟩
 | y::l,j+1,x,h=>by
  have:=cellsP_get l j x (by simpa using h);rw[show cellsP (y::l)=Pc.cells y++cellsP l from rfl];have hl:(Pc.cells y).length=2:=rfl;rw[List.getElem?_append_right (by rw[hl];omega),List.getElem?_append_right (by rw[hl];omega),hl,show(j+1)*2-2=j*2 by omega,show(j+1)*2+1-2=j*2+1 by omega];exact this
theorem own_pc {w:World} {B g m cap:Nat} {l:List Pc} (h:w.ownsRow B 94 2 (.slice (some ⟨g,0,none⟩) m cap) m (cellsP l)) (hl:l.length=m) (j:Nat) (x:Pc) (hx:l[j]?=some x):w.cell? ⟨g,j*2,none⟩=some (.int .u8 (x.t.toNat:Int))∧w.cell? ⟨g,j*2+1,none⟩=some (.slice x.p x.b.length x.c):=by have hj:j<l.length:=(List.getElem?_eq_some_iff.1 hx).1;obtain⟨h1,h2⟩:=cellsP_get l j x hx;exact⟨by rw[owns_cell h (j*2) (by omega),h1],by rw[owns_cell h (j*2+1) (by omega),h2]⟩
theorem Pcs.mono {w:World} {B B':Nat} {P Q:Nat→Prop} {v:Value} {l:List Pc} (h:Pcs w B P v l) (hB:B'≤B) (hPQ:∀g,P g→g<w.heap.size→Q g):Pcs w B' Q v l:=
 ⟨⟨h.own.1, by
  rcases h.own.2 with h1|⟨g1,cap,cur,e1,h1,h2⟩
  ·exact .inl h1
  ·exact .inr ⟨g1,cap,cur,e1,by omega,h2⟩⟩,fun x hx=>(h.at_ x hx).mono hPQ⟩
theorem ByV.below {w w':World} {P:Nat→Prop} {p:Option Addr} {c:Nat} {l:Bs} (h:ByV w P p c l) (hb:Below w.heap.size w w'):ByV w' P p c l:=h.keep (fun g _ hlt=>hb.block g hlt)
def sqD (bs:Bs):List (UInt8 × Bs) × Nat:=match readD bs with
 | .error k=>([],k)
 | .ok ((t,b),r)=>if t.toNat≠48∨0<r.length then ([],30) else pcsD b
def okP (R:List (UInt8 × Bs) × Nat):List (UInt8 × Bs):=if R.2=0 then R.1 else []
theorem LsPost.uni {w w':World} {P:World→Nat→Prop} {R:List (UInt8 × Bs) × Nat} {e:Ending} (h:LsPost w P R e w'):Below w.heap.size w w'∧∃l v,e=.returned (.tuple #[v,.int .i64 (R.2:Int)])∧pcsOf l=okP R∧Pcs w' w.heap.size (P w) v l∧(R.2≠0→v=.slice none 0 0):=by
 obtain⟨hb,(⟨h1,he⟩|⟨h1,l,v,h2,he,h3⟩)⟩:=h
 ·exact⟨hb,[],.slice none 0 0,he,by unfold okP;rw[if_neg h1];rfl,⟨World.ownsRow_nil _ _ _ _,fun x hx=>by cases hx⟩,fun _=>rfl⟩
 ·exact⟨hb,l,v,by rw[h1];exact he,by unfold okP;rw[if_pos h1];exact h2,h3,fun h=>absurd h1 h⟩
theorem derSeq (p:Option Addr) (n c:Nat) (bs:Bs) (P:Nat→Prop) (w:World) (hn:bs.length=n) (h:ByV w P p c bs):
  Calls Tryz.prog 37 #[.slice p n c] w (LsPost w (fun w b=>w.heap.size≤b) (sqD bs)):=by
 have HSP:=derSplit p n c bs (fun b=>b<w.heap.size) w hn (h.mono (fun b _ hlt=>hlt));clear h hn
 cases hr:readD bs with
 | error k=>
  rw[hr]at HSP;have hk:=read_err hr;have hkb:((k:Int) != 0)=true:=by simp;omega
  have HR:Hid (sqD bs=([],k)∧k≠0):=⟨by unfold sqD;rw[hr],by omega⟩
  clear hr hk;go_enter Tryz.func37,Tryz.ntmps37;go_wp2_with (go_at_call 68;refine HSP.mono ?_;intro e w2 hp;obtain⟨hb2,he⟩:=hp.errx;subst he;clear hp HSP)
  go_ret2
  rw[HR.out.1];exact⟨hb2.alloc hb2.size _,.inl ⟨HR.out.2,rfl⟩⟩
 | ok x =>
  obtain⟨⟨t,b⟩,r⟩:=x;rw[hr]at HSP;have hlens:=read_len hr;obtain⟨TN,hTN⟩:∃T,t.toNat=T:=⟨_,rfl⟩
  obtain⟨LB,hLB⟩:∃T,b.length=T:=⟨_,rfl⟩
  obtain⟨Lr,hLr⟩:∃T,r.length=T:=⟨_,rfl⟩
  by_cases h48:TN=48∧Lr=0
  ·obtain⟨q1,q2⟩:=h48;subst q1 q2;have HR:Hid (sqD bs=pcsD b):=by show sqD bs=_;unfold sqD;rw[hr];simp only[];rw[if_neg (by omega)]
   clear hr hlens;have h48b:(((48:Nat):Int) != 48)=false:=rfl;go_enter Tryz.func37,Tryz.ntmps37;go_wp2_with (first
    | (go_at_call 68;refine HSP.mono ?_;intro e w2 hp;obtain⟨hb2,p1,c1,p2,c2,he,hv1,hv2⟩:=hp.okx;subst he;rw[hTN,hLB,hLr];clear hp HSP hv2)
    | (go_at_call 69;refine(derList p1 LB c1 b _ _ hLB (hv1.below ((Below.refl _ _).alloc (Nat.le_refl _) _))).mono ?_;intro e w4 hp;obtain⟨hb4,l4,v4,he,hl4,hp4,hn4⟩:=hp.uni;subst he;clear hp))
   go_ret2
   have hb3:Below w.heap.size w (w2.alloc (.cells #[.int .u8 48,.slice p1 LB c1] 94)):=hb2.alloc hb2.size _;refine⟨hb3.trans (hb4.mono hb3.size),?_⟩;rw[HR.out];by_cases h0:(pcsD b).2=0
   ·refine .inr ⟨h0,l4,v4,?_,by rw[h0];rfl,hp4.mono hb3.size (fun g hg _=>Nat.le_trans hb3.size hg)⟩;rw[hl4];unfold okP;rw[if_pos h0]
   ·refine .inl ⟨h0,?_⟩;rw[hn4 h0];rfl
  ·have HR:Hid (sqD bs=([],30)):=by show sqD bs=_;unfold sqD;rw[hr];simp only[];rw[if_pos (by omega)]
   clear hr hlens;by_cases h4:TN=48
   ·subst h4;have hLI:(0:Int)<(Lr:Int):=by omega
    have h48b:(((48:Nat):Int) != 48)=false:=rfl;go_enter Tryz.func37,Tryz.ntmps37;go_wp2_with (go_at_call 68;refine HSP.mono ?_;intro e w2 hp;obtain⟨hb2,p1,c1,p2,c2,he,hv1,hv2⟩:=hp.okx;subst he;rw[hTN,hLB,hLr];clear hp HSP hv2)
    go_ret2
    rw[HR.out];exact⟨hb2.alloc hb2.size _,.inl ⟨by omega,rfl⟩⟩
   ·have h48b:((TN:Int) != 48)=true:=by simp;omega
    go_enter Tryz.func37,Tryz.ntmps37;go_wp2_with (go_at_call 68;refine HSP.mono ?_;intro e w2 hp;obtain⟨hb2,p1,c1,p2,c2,he,hv1,hv2⟩:=hp.okx;subst he;rw[hTN,hLB,hLr];clear hp HSP hv2)
    go_ret2
    rw[HR.out];exact⟨hb2.alloc hb2.size _,.inl ⟨by omega,rfl⟩⟩
theorem pairR_sq (bs:Bs):pairR bs=pairOf (sqD bs):=by
 unfold pairR pieceR sqD
 cases hr:readD bs with
 | error k=>
  have:=read_err hr;simp only[];unfold pairOf;rw[if_pos (show(([],k):List (UInt8 × Bs) × Nat).2≠0 by show k≠0;omega)]
 | ok q =>
  obtain⟨⟨t,b⟩,r⟩:=q;simp only[];by_cases ht:t.toNat=48
  ·rw[if_pos ht];simp only[];by_cases h0:0<r.length
   ·rw[if_pos h0,if_pos (.inr h0)];rfl
   ·rw[if_neg h0,if_neg (fun h=>h.elim (fun h=>h ht) h0)];exact two_of b
  ·rw[if_neg ht,if_pos (.inl ht)];rfl
theorem allD_body:∀(m:Nat) (bs:Bs),∀x∈(allD m bs).1,x.2.length≤bs.length
 | 0,bs,x,hx=>by cases hx
 | m + 1, bs, x, hx => by
  simp only[allD]at hx;by_cases h0:bs=[]
  ·rw[if_pos h0]at hx;cases hx
  rw[if_neg h0]at hx
  cases hr:readD bs with
  | error k=>rw[hr]at hx;cases hx
  | ok q =>
   obtain⟨⟨t,b⟩,r⟩:=q;have h1:=read_len hr;rw[hr]at hx;simp only[List.mem_cons]at hx;rcases hx with rfl|hx
   ·show b.length≤bs.length;omega
   ·have:=allD_body m r x hx;omega
theorem pcs_body (bs:Bs):∀x∈(pcsD bs).1,x.2.length≤bs.length:=allD_body _ bs
def Nc (w:World) (v:Value) (n:Int) (L:Nat):Prop:=∃ao len cap xs,v=.slice ao len cap∧NumIn .u64 B64 w ao len cap xs∧Canon xs∧val B64 xs=n∧len≤L
theorem Nc.old {w w':World} {v:Value} {n:Int} {L:Nat} (h:Nc w v n L) (hb:Below w.heap.size w w'):Nc w' v n L:=by obtain⟨ao,len,cap,xs,e,h1,h2⟩:=h;exact⟨ao,len,cap,xs,e,h1.old hb,h2⟩
theorem Nc.nv {w:World} {v:Value} {n:Int} {L:Nat} (h:Nc w v n L):Nv w v n L:=by obtain⟨ao,len,cap,xs,e,h1,h2,h3,h4⟩:=h;exact⟨ao,len,cap,xs,e,h1,h3,h4⟩
theorem derIntO (t:Nat) (ht:t<256) (p:Option Addr) (n c:Nat) (l:Bs) (P:Nat→Prop) (w:World) (hl:l.length=n) (h:ByV w P p c l) (hn:n≤1000000):
  Calls Tryz.prog 38 #[.agg #[.int .u8 (t:Int),.slice p n c]] w fun e w'=>∃a m k kk,e=.returned (.tuple #[.slice a m k,.int .i64 (kk:Int)])∧Below w.heap.size w w'∧((intO t l=none∧kk≠(0:Nat))∨∃x,intO t l=some x∧kk=0∧Nc w' (.slice a m k) (nI x) 64):=by
 refine(derInt t ht p n c l P w hl h hn).mono ?_;rintro e w' ⟨hb,(⟨h1,rfl⟩|⟨x,h1,h2,(⟨h3,rfl⟩|⟨h3,v,rfl,h4⟩)⟩)⟩
 ·refine⟨none,0,0,30,rfl,hb,.inl ⟨?_,by omega⟩⟩;unfold intO;by_cases h2:t=2
  ·rw[if_pos h2];rcases h1 with h1|h1
   ·exact absurd h2 h1
   ·rw[h1]
  ·rw[if_neg h2]
 ·refine⟨none,0,0,3,rfl,hb,.inl ⟨?_,by omega⟩⟩;unfold intO;rw[if_pos h1,h2];simp only[];rw[if_pos h3]
 ·obtain⟨a,m,k,xs,rfl,g1,g2,g3,g4,g5⟩:=h4;refine⟨a,m,k,0,rfl,hb,.inr ⟨x,?_,rfl,⟨a,m,k,xs,rfl,g1,g2,g3,g4⟩⟩⟩;unfold intO;rw[if_pos h1,h2];simp only[];rw[if_neg (by omega)]
def SgPost (w:World) (R:Option (Bs × Bs)) (e:Ending) (w':World):Prop:=
 Below w.heap.size w w'∧((R=none∧e=.returned (.tuple #[.slice none 0 0,.slice none 0 0,.int .i64 43]))∨∃x y a1 l1 k1 a2 l2 k2,R=some (x,y)∧e=.returned (.tuple #[.slice a1 l1 k1,.slice a2 l2 k2,.int .i64 0])∧Nc w' (.slice a1 l1 k1) (nI x) 64∧Nc w' (.slice a2 l2 k2) (nI y) 64)
theorem sPair (p:Option Addr) (n c:Nat) (bs:Bs) (P:Nat→Prop) (w:World) (hn:bs.length=n) (h:ByV w P p c bs) (hn2:n≤100000):
  Calls Tryz.prog 11 #[.slice p n c] w (SgPost w (pairR bs)):=by
 have HSQ:Calls Tryz.prog 37 #[.slice p n c] w fun e w2=>Below w.heap.size w w2∧∃l m p1 c1,e=.returned (.tuple #[.slice p1 m c1,.int .i64 ((sqD bs).2:Int)])∧l.length=m∧pcsOf l=okP (sqD bs)∧Pcs w2 w.heap.size (fun b=>w.heap.size≤b) (.slice p1 m c1) l:=by refine(derSeq p n c bs P w hn h).mono ?_;rintro e w2 hp;obtain⟨hb,l,v,rfl,h1,h2,-⟩:=hp.uni;obtain⟨p1,c1,rfl⟩:=owns_slice h2.own;exact⟨hb,l,l.length,p1,c1,rfl,rfl,h1,h2⟩
 rw[pairR_sq];have hlb:∀x∈(sqD bs).1,x.2.length≤100000:=fun x hx=>by
  unfold sqD at hx
  cases hr:readD bs with
  | error k=>rw[hr]at hx;cases hx
  | ok q =>
   obtain⟨⟨t,b⟩,r⟩:=q;have h1:=read_len hr;rw[hr]at hx;simp only[]at hx;by_cases h0:t.toNat≠48∨0<r.length
   ·rw[if_pos h0]at hx;cases hx
   ·rw[if_neg h0]at hx;have:=pcs_body b x hx;omega
 generalize sqD bs=S at *;clear h hn;have HBAD:Hid (pairOf S=none→∀W,Below w.heap.size w W→SgPost w (pairOf S) (.returned (.tuple #[.slice none 0 0,.slice none 0 0,.int .i64 43])) W):=fun hk W hW=>⟨hW,.inl ⟨hk,rfl⟩⟩
 obtain⟨S1,S2⟩:=S;simp only at HSQ hlb;by_cases h0:S2=0
 rotate_left
 ·have h0b:((S2:Int) != 0)=true:=by simp;omega
  have HR:Hid (pairOf (S1,S2)=none):=by show pairOf _=_;unfold pairOf;rw[if_pos h0]
  clear h0 hlb;go_enter Tryz.func11,Tryz.ntmps11;go_wp2_with fail
  refine HSQ.mono ?_;rintro e w2 ⟨hb2,l,m,p1,c1,rfl,-,-,-⟩;clear HSQ;go_wp2_with fail
  go_ret3
  exact HBAD.out HR.out _ hb2
 subst h0;have h0b:(((0:Nat):Int) != 0)=false:=rfl;by_cases h2:S1.length=2
 rotate_left
 ·have HR:Hid (pairOf (S1,0)=none):=by
   show pairOf _=_;unfold pairOf;rw[if_neg (by simp)];match S1,h2 with
   | [],_=>rfl
   | [_],_=>rfl
   | [_,_],h2=>exact absurd rfl h2
   | _::_::_::_,_=>rfl
  have HLN:Hid (S1.length≠2):=h2;clear h2 hlb;go_enter Tryz.func11,Tryz.ntmps11;go_wp2_with fail
  refine HSQ.mono ?_;rintro e w2 ⟨hb2,l,m,p1,c1,rfl,hlm,hpc,-⟩;have hm2:m≠2:=fun e=>by have h3:=congrArg List.length hpc;unfold okP pcsOf at h3;rw[if_pos rfl,List.length_map,hlm,e]at h3;exact HLN.out h3.symm
  have hmb:((m:Int) != 2)=true:=by simp;omega
  clear HSQ hpc hlm hm2;go_wp2_with fail
  go_ret3
  exact HBAD.out HR.out _ hb2
 obtain⟨⟨t1,b1⟩,⟨t2,b2⟩,rfl⟩:∃x y,S1=[x,y]:=by
  match S1,h2 with
  | [x,y],_=>exact⟨x,y,rfl⟩
 have hl1:=hlb (t1,b1) (by simp);have hl2:=hlb (t2,b2) (by simp);simp only at hl1 hl2;have ht1:=t1.toNat_lt;have ht2:=t2.toNat_lt;obtain⟨T1,hT1⟩:∃T,t1.toNat=T:=⟨_,rfl⟩
 obtain⟨T2,hT2⟩:∃T,t2.toNat=T:=⟨_,rfl⟩
 obtain⟨L1,hL1⟩:∃T,b1.length=T:=⟨_,rfl⟩
 obtain⟨L2,hL2⟩:∃T,b2.length=T:=⟨_,rfl⟩
 have HSR:Calls Tryz.prog 37 #[.slice p n c] w fun e w2=>Below w.heap.size w w2∧∃g c1 q1 d1 q2 d2,e=.returned (.tuple #[.slice (some ⟨g,0,none⟩) 2 c1,.int .i64 0])∧w2.cell? ⟨g,0,none⟩=some (.int .u8 (T1:Int))∧w2.cell? ⟨g,1,none⟩=some (.slice q1 L1 d1)∧w2.cell? ⟨g,2,none⟩=some (.int .u8 (T2:Int))∧w2.cell? ⟨g,3,none⟩=some (.slice q2 L2 d2)∧ByV w2 (fun b=>w.heap.size≤b) q1 d1 b1∧ByV w2 (fun b=>w.heap.size≤b) q2 d2 b2∧2≤c1∧c1≤maxLen∧g<w2.heap.size:=by
  refine HSQ.mono ?_;rintro e w2 ⟨hb2,l,m,p1,c1,rfl,hlm,hpc,hps⟩;unfold okP at hpc;rw[if_pos rfl]at hpc;simp only at hpc;obtain⟨x1,x2,rfl⟩:∃x y,l=[x,y]:=by
   have h3:=congrArg List.length hpc;unfold pcsOf at h3;rw[List.length_map]at h3;match l,h3 with
   | [x,y],_=>exact⟨x,y,rfl⟩
  simp only[pcsOf,List.map_cons,List.map_nil,List.cons.injEq,Prod.mk.injEq,and_true]at hpc;obtain⟨⟨e1,e2⟩,e3,e4⟩:=hpc;obtain rfl:m=2:=by rw[←hlm];rfl
  have hm1:∃g,p1=some ⟨g,0,none⟩∧2≤c1∧c1≤maxLen∧g<w2.heap.size:=by
   rcases hps.own.2 with⟨_,h0⟩|⟨g,cap,cur,e,h5,h6,h7,h8,_⟩
   ·simp at h0
   ·injection e with e5 e6 e7;subst e7;exact⟨g,e5,h7,h8,(Array.getElem?_eq_some_iff.1 h6).1⟩
  obtain⟨g,rfl,k1,k2,k3⟩:=hm1;have a1:=own_pc hps.own rfl 0 x1 rfl;have a2:=own_pc hps.own rfl 1 x2 rfl;have v1:=hps.at_ x1 (by simp);have v2:=hps.at_ x2 (by simp);rw[e1,e2,hT1,hL1]at a1;rw[e3,e4,hT2,hL2]at a2;rw[e2]at v1;rw[e4]at v2;exact⟨hb2,g,c1,x1.p,x1.c,x2.p,x2.c,rfl,a1.1,a1.2,a2.1,a2.2,v1,v2,k1,k2,k3⟩
 have HPO:Hid (pairOf ([(t1,b1),(t2,b2)],0)=(match intO T1 b1 with
  | none=>none
  | some x=>match intO T2 b2 with
   | none=>none
   | some y=>some (x,y))):=by rw[←hT1,←hT2];rfl
 have HL:Hid (b1.length=L1∧b2.length=L2∧L1≤100000∧L2≤100000∧T1<256∧T2<256):=⟨hL1,hL2,by omega,by omega,by omega,by omega⟩
 clear HSQ hlb h2 ht1 ht2 hT1 hT2 hL1 hL2 hl1 hl2;go_enter Tryz.func11,Tryz.ntmps11;go_wp2_with fail
 refine HSR.mono ?_;rintro e w2 ⟨hb2,g,c1,q1,d1,q2,d2,rfl,x0,x1,x2,x3,v1,v2,hc1,hc2,hg⟩;have HI1:=derIntO T1 HL.out.2.2.2.2.1 q1 L1 d1 b1 _ w2 HL.out.1 v1 (by have:=HL.out;omega);have HB2:Hid (Below w.heap.size w w2∧ByV w2 (fun b=>w.heap.size≤b) q2 d2 b2∧g<w2.heap.size∧w2.cell? ⟨g,2,none⟩=some (.int .u8 (T2:Int))∧w2.cell? ⟨g,3,none⟩=some (.slice q2 L2 d2)):=⟨hb2,v2,hg,x2,x3⟩
 have hcI:(2:Int)≤(c1:Int):=by omega
 unfold maxLen at hc2;clear HSR v1 v2 hb2 hg;go_wp2_with fail
 refine HI1.mono ?_;rintro e w3 ⟨n1,n2,n3,kk1,rfl,hb3,hc⟩;clear HI1 x0 x1 x2 x3;have v2:=HB2.out.2.1.below hb3;have x2:=(hb3.cell (p:=⟨g,2,none⟩) HB2.out.2.2.1).trans HB2.out.2.2.2.1;have x3:=(hb3.cell (p:=⟨g,3,none⟩) HB2.out.2.2.1).trans HB2.out.2.2.2.2;have HI2:=derIntO T2 HL.out.2.2.2.2.2 q2 L2 d2 b2 _ w3 HL.out.2.1 v2 (by have:=HL.out;omega);have HB3:Hid (Below w.heap.size w w3∧((intO T1 b1=none∧kk1≠(0:Nat))∨∃x,intO T1 b1=some x∧kk1=0∧Nc w3 (.slice n1 n2 n3) (nI x) 64)):=⟨HB2.out.1.trans (hb3.mono HB2.out.1.size),hc⟩
 clear v2 hb3 hc HB2;go_wp2_with fail
 refine HI2.mono ?_;rintro e w4 ⟨m1,m2,m3,kk2,rfl,hb4,hc4⟩;clear HI2 x2 x3;have HB4:Hid (Below w.heap.size w w4):=HB3.out.1.trans (hb4.mono HB3.out.1.size);rcases HB3.out.2 with⟨h5,h6⟩|⟨x,h5,h6,h7⟩
 ·have h6b:((kk1:Int) != 0)=true:=by simp;omega
  have HR:Hid (pairOf ([(t1,b1),(t2,b2)],0)=none):=by show pairOf _=_;rw[HPO.out,h5]
  clear hc4 hb4 h5 h6;go_wp2_with fail
  go_ret3
  exact HBAD.out HR.out _ HB4.out
 ·subst h6;have h6b:(((0:Nat):Int) != 0)=false:=rfl;rcases hc4 with⟨h8,h9⟩|⟨y,h8,h9,h10⟩
  ·have h9b:((kk2:Int) != 0)=true:=by simp;omega
   have HR:Hid (pairOf ([(t1,b1),(t2,b2)],0)=none):=by show pairOf _=_;rw[HPO.out,h5];simp only[];rw[h8]
   clear hb4 h5 h7 h8 h9;go_wp2_with fail
   go_ret3
   exact HBAD.out HR.out _ HB4.out
  ·subst h9;have HFIN:Hid (SgPost w (pairOf ([(t1,b1),(t2,b2)],0)) (.returned (.tuple #[.slice n1 n2 n3,.slice m1 m2 m3,.int .i64 0])) w4):=by
    refine⟨HB4.out,.inr ⟨x,y,_,_,_,_,_,_,?_,rfl,h7.old hb4,h10⟩⟩;rw[HPO.out,h5];simp only[];rw[h8]
   clear hb4 h5 h7 h8 h10;go_wp2_with fail
   go_ret3
   exact HFIN.out
theorem Nc.one {w:World} {v:Value} {n:Int} {L:Nat} (h:Nc w v n L) (h1:n<18446744073709551616):Nv w v n 4:=by obtain⟨ao,l,c,xs,rfl,h2,h3,h4,h5⟩:=h;have:=fit_len (B:=B64) (by decide) h2.dg h3 (d:=1) (by rw[h4];simpa [B64] using h1);have hl:=h2.lies.len;exact⟨ao,l,c,xs,rfl,h2,h4,by omega⟩
theorem cVerify_big {P:Nat} [NeZero P] {K:Cz} (g:GoodK K P) (hbs:Gd K P (baseZ K)) (q:Pz) (c qv:Value) (ao:Option Addr) (nh ca:Nat) (bs:List Int) (r s:Value) (x y:Int) (w:World) (hN:0≤K.n) (hN2:K.n<18446744073709551616) (hc:Cu w c K 4) (hq:Pv w qv q 4) (hh:NumIn .u8 256 w ao nh ca bs) (hn:nh≤512) (hr:Nc w r x 64) (hs:Nc w s y 64):
  Calls Tryz.prog 48 #[c,qv,.slice ao nh ca,r,s] w fun e w'=>∃b,VerZ K P q (digZ K.n nh bs) x y b∧e=.returned (.bool b)∧Below w.heap.size w w':=by
 by_cases hx:x<K.n∧y<K.n
 ·exact cVerify_any g hbs q c qv ao nh ca bs r s x y w hN hc hq hh hn (hr.one (by omega)) (hs.one (by omega))
 ·have hfin:∀w',VerNo K q x y→Below w.heap.size w w'→∃b,VerZ K P q (digZ K.n nh bs) x y b∧Ending.returned (.bool false)=.returned (.bool b)∧Below w.heap.size w w':=fun w' hno hb=>⟨false,.inl ⟨hno,rfl⟩,rfl,hb⟩
  have hq2:Pv w qv q 64:=by obtain⟨vx,vy,e,h1,h2⟩:=hq;exact⟨vx,vy,e,h1.up (by decide),h2.up (by decide)⟩
  have hno:VerNo K q x y:=by
   by_cases h1:x<K.n
   ·exact .inr (.inr (.inr (.inl (fun h=>hx ⟨h1,h.2⟩))))
   ·exact .inr (.inr (.inl (fun h=>h1 h.2)))
  cases hi:q.inf with
  | true=>
   refine(Verify_inf c qv K q 64 ao nh ca r s x y w (by decide) (hc.up (by decide)) hq2 hr.nv hs.nv hi).mono ?_;rintro e w' ⟨rfl,hb⟩;exact hfin w' hno hb
  | false =>
   refine(Verify_no c qv K q 64 ao nh ca r s x y w (by decide) (hc.up (by decide)) hq2 hr.nv hs.nv hi ?_).mono ?_
   ·by_cases h1:x<K.n
    ·right;right;left;have:¬y<K.n:=fun h=>hx ⟨h1,h⟩;simp[this]
    ·right;left;simp[h1]
   ·rintro e w' ⟨rfl,hb⟩;exact hfin w' hno hb
def PtZ (K:Cz) (P:Nat) [NeZero P] (q:Pz) (hs:List Int) (R:Option (Bs × Bs)) (b:Bool):Prop:=match R with
 | none=>b=false
 | some (x,y)=>VerZ K P q (digZ K.n 32 hs) (nI x) (nI y) b
theorem ptZ_uniq {P:Nat} [NeZero P] {K:Cz} (g:GoodK K P) (hb:Gd K P (baseZ K)) {q:Pz} (hq:0≤q.x∧0≤q.y) {hs:List Int} {R:Option (Bs × Bs)} {b b':Bool} (h:PtZ K P q hs R b) (h':PtZ K P q hs R b'):b=b':=by
 match R,h,h' with
 | none,h,h'=>exact h.trans h'.symm
 | some (x,y),h,h'=>exact verZ_uniq g hb hq h h'
theorem sJudged (b:Bool) (w:World):Calls Tryz.prog 12 #[.bool b] w fun e w'=>e=.returned (.int .i64 (if b then 0 else 43))∧Below w.heap.size w w':=by
 cases b with
 | true=>
  go_enter Tryz.func12,Tryz.ntmps12;go_wp2;go_ret;exact⟨rfl,Below.refl _ _⟩
 | false=>
  go_enter Tryz.func12,Tryz.ntmps12;go_wp2;go_ret;exact⟨rfl,Below.refl _ _⟩
theorem ptZ_ex {P:Nat} [NeZero P] {K:Cz} (g:GoodK K P) (hb:Gd K P (baseZ K)) (hN:0<K.n) (q:Pz) (hq:0≤q.x∧0≤q.y) (hs:List Int) (R:Option (Bs × Bs)):∃b,PtZ K P q hs R b:=by
 match R with
 | none=>exact⟨false,rfl⟩
 | some (x,y)=>exact verZ_ex g hb hN q hq _ _ _
theorem row_num32 {w:World} {g:Nat} {hs:List Int} (h:Row 51 .u8 w g hs) (hl:hs.length=32) (hd:Dg 256 hs):NumIn .u8 256 w (some ⟨g,0,none⟩) 32 32 hs:=by have h1:=h.lies 0 32 (by omega);rw[List.drop_zero,List.take_of_length_le (by omega)]at h1;exact⟨h1,by decide,by unfold maxLen;decide,fun h=>(by cases h),hd,by decide⟩
theorem sha_dg (bs:List Int):Dg 256 (shaS bs):=by intro x hx;unfold shaS spreadS at hx;obtain⟨i,_,rfl⟩:=List.mem_map.1 hx;omega
theorem sByPoint {P:Nat} [NeZero P] {K:Cz} (g:GoodK K P) (hbs:Gd K P (baseZ K)) (hN:0<K.n) (hN2:K.n<18446744073709551616) (q:Pz) (cv qv:Value) (ao:Option Addr) (m c:Nat) (ms:List Int) (p:Option Addr) (n cs:Nat) (sb:Bs) (w:World) (hc:Cu w cv K 4) (hq:Pv w qv q 4) (hm:NumIn .u8 256 w ao m c ms) (hn:sb.length=n) (hn2:n≤100000) (hv:ByV w (fun _=>True) p cs sb):
  Calls Tryz.prog 15 #[cv,qv,.slice ao m c,.slice p n cs] w fun e w'=>∃b,PtZ K P q (shaS ms) (pairR sb) b∧e=.returned (.bool b)∧Below w.heap.size w w':=by
 have hq0:0≤q.x∧0≤q.y:=by obtain⟨vx,vy,_,h1,h2⟩:=hq;exact⟨h1.nonneg,h2.nonneg⟩
 obtain⟨bb,hbb⟩:=ptZ_ex g hbs hN q hq0 (shaS ms) (pairR sb);have HU:∀x y b,pairR sb=some (x,y)→VerZ K P q (digZ K.n 32 (shaS ms)) (nI x) (nI y) b→b=bb:=fun x y b e h=>by refine ptZ_uniq g hbs hq0 ?_ hbb;rw[e];exact h
 have HCQ:Hid (Cu w cv K 4∧Pv w qv q 4):=⟨hc,hq⟩
 have HVC:=fun W (hW:Below w.heap.size w W) ao bs ca hh r s x y hr hs=>cVerify_big g hbs q cv qv ao 32 ca bs r s x y W (by omega) hN2 (HCQ.out.1.old hW) (by obtain⟨vx,vy,e,h1,h2⟩:=HCQ.out.2;exact⟨vx,vy,e,h1.old hW,h2.old hW⟩) hh (by decide) hr hs;have HPT:Hid (PtZ K P q (shaS ms) (pairR sb) bb):=hbb;obtain⟨g1,g2,oo,lo,co,a1,a2,a3,b1,b2,b3,d1,d2,d3,e1,e2,e3,f1,f2,f3,j1,j2,j3,rfl,-⟩:=hc.slices;obtain⟨vx,vy,rfl,⟨x1,x2,x3,_,rfl,-⟩,⟨y1,y2,y3,_,rfl,-⟩⟩:=hq;have HM:=fun W (hW:Below w.heap.size w W)=>HOf_num ms ao m c W (hm.old hW);have hl32:(shaS ms).length=32:=by unfold shaS;exact spreadS_length _
 have HSD:Hid (Dg 256 (shaS ms)):=sha_dg ms;generalize shaS ms=hh at *;have HP:=fun W (hW:Below w.heap.size w W)=>sPair p n cs sb _ W hn (hv.below hW) hn2;have hb0:=balloc w (.cells #[.int .i64 g1,.int .i64 g2,.slice oo lo co,.slice a1 a2 a3,.slice b1 b2 b3,.slice d1 d2 d3,.slice e1 e2 e3,.slice f1 f2 f3,.slice j1 j2 j3] 55);have hc0:=heap_alloc_new w (.cells #[.int .i64 g1,.int .i64 g2,.slice oo lo co,.slice a1 a2 a3,.slice b1 b2 b3,.slice d1 d2 d3,.slice e1 e2 e3,.slice f1 f2 f3,.slice j1 j2 j3] 55);have hz1:(w.alloc (.cells #[.int .i64 g1,.int .i64 g2,.slice oo lo co,.slice a1 a2 a3,.slice b1 b2 b3,.slice d1 d2 d3,.slice e1 e2 e3,.slice f1 f2 f3,.slice j1 j2 j3] 55)).heap.size=w.heap.size+1:=Array.size_push ..;have hb1:=balloc (w.alloc (.cells #[.int .i64 g1,.int .i64 g2,.slice oo lo co,.slice a1 a2 a3,.slice b1 b2 b3,.slice d1 d2 d3,.slice e1 e2 e3,.slice f1 f2 f3,.slice j1 j2 j3] 55)) (.cells #[.slice x1 x2 x3,.slice y1 y2 y3,.bool q.inf] 35);have hc1:=heap_alloc_new (w.alloc (.cells #[.int .i64 g1,.int .i64 g2,.slice oo lo co,.slice a1 a2 a3,.slice b1 b2 b3,.slice d1 d2 d3,.slice e1 e2 e3,.slice f1 f2 f3,.slice j1 j2 j3] 55)) (.cells #[.slice x1 x2 x3,.slice y1 y2 y3,.bool q.inf] 35);have hc2:=blk_old hc0 hb1;have hb2:=bstep hb0 hb1;rw[hz1]at hc1;obtain⟨W,hW⟩:∃W,(w.alloc (.cells #[.int .i64 g1,.int .i64 g2,.slice oo lo co,.slice a1 a2 a3,.slice b1 b2 b3,.slice d1 d2 d3,.slice e1 e2 e3,.slice f1 f2 f3,.slice j1 j2 j3] 55)).alloc (.cells #[.slice x1 x2 x3,.slice y1 y2 y3,.bool q.inf] 35)=W:=⟨_,rfl⟩
 rw[hW]at hc1 hc2 hb2;have HW:Hid (_=W):=hW;have HS:Hid (W.heap[w.heap.size]?=some (.cells #[.int .i64 g1,.int .i64 g2,.slice oo lo co,.slice a1 a2 a3,.slice b1 b2 b3,.slice d1 d2 d3,.slice e1 e2 e3,.slice f1 f2 f3,.slice j1 j2 j3] 55 (0,0))∧PSl W (w.heap.size+1) (.slice x1 x2 x3) (.slice y1 y2 y3) (.bool q.inf)∧Below w.heap.size w W):=⟨hc2,hc1,hb2⟩
 clear hb0 hc0 hW hz1 hb1 hc1 hc2 hb2 hm hv hbb;obtain⟨qi,hqi⟩:∃b,q.inf=b:=⟨_,rfl⟩
 rw[hqi]at HS HW HVC ⊢;clear hqi;go_enter Tryz.func15,Tryz.ntmps15;go_wp2_with fail
 rw[HW.out];clear HW;have HPW:=HP W HS.out.2.2;clear HP
 cases hR:pairR sb with
 | none =>
  rw[hR]at HPW;have hbf:bb=false:=by have h:=HPT.out;rw[hR]at h;exact h
  refine HPW.mono ?_;rintro e w2 ⟨hb2,(⟨_,rfl⟩|⟨_,_,_,_,_,_,_,_,hno,_⟩)⟩
  rotate_left
  ·cases hno
  clear HPW HVC HU HM;go_wp2_with fail
  go_ret;exact⟨false,by rw[hR];exact rfl,rfl,bstep HS.out.2.2 hb2⟩
 | some xy =>
  obtain⟨x,y⟩:=xy;rw[hR]at HPW;refine HPW.mono ?_;rintro e w2 ⟨hb2,(⟨hno,_⟩|⟨x',y',s1,s2,s3,s4,s5,s6,hs,rfl,nX,nY⟩)⟩
  ·cases hno
  cases hs
  have HPT2:Hid (VerZ K P q (digZ K.n 32 hh) (nI x) (nI y) bb):=by have h:=HPT.out;rw[hR]at h;exact h
  have HM2:=HM w2 (bstep HS.out.2.2 hb2);have HS2:Hid (w2.heap[w.heap.size]?=some (.cells #[.int .i64 g1,.int .i64 g2,.slice oo lo co,.slice a1 a2 a3,.slice b1 b2 b3,.slice d1 d2 d3,.slice e1 e2 e3,.slice f1 f2 f3,.slice j1 j2 j3] 55 (0,0))∧PSl w2 (w.heap.size+1) (.slice x1 x2 x3) (.slice y1 y2 y3) (.bool qi)∧Below w.heap.size w w2∧Nc w2 (.slice s1 s2 s3) (nI x) 64∧Nc w2 (.slice s4 s5 s6) (nI y) 64):=⟨blk_old HS.out.1 hb2,HS.out.2.1.keep hb2,bstep HS.out.2.2 hb2,nX,nY⟩
  have HUX:=fun b h=>HU x y b hR h;clear HPW hb2 nX nY HS HM HU HPT;go_wp2_with fail
  refine HM2.mono ?_;rintro e w3 ⟨rfl,hb3⟩;have HS3:Hid (w3.heap[w.heap.size]?=some (.cells #[.int .i64 g1,.int .i64 g2,.slice oo lo co,.slice a1 a2 a3,.slice b1 b2 b3,.slice d1 d2 d3,.slice e1 e2 e3,.slice f1 f2 f3,.slice j1 j2 j3] 55 (0,0))∧PSl w3 (w.heap.size+1) (.slice x1 x2 x3) (.slice y1 y2 y3) (.bool qi)∧Below w.heap.size w w3∧Nc w3 (.slice s1 s2 s3) (nI x) 64∧Nc w3 (.slice s4 s5 s6) (nI y) 64):=⟨blk_old HS2.out.1 hb3,HS2.out.2.1.keep hb3,bstep HS2.out.2.2.1 hb3,HS2.out.2.2.2.1.old hb3,HS2.out.2.2.2.2.old hb3⟩
  clear HM2 hb3 HS2;go_wp2_with (first
   | ((with_reducible show wpList _ _ _ (Oper.mk _ (Op.alloc 51) _ _ _ _::_) _ _);refine wpList_alloc_row (w:=w3) (by with_reducible rfl) 51 (by with_reducible rfl) .u8 32 Tryz.infoB32 ?_;intro w4 hr4 hb4 hs4)
   | ((with_reducible show wpList _ _ _ (Oper.mk _ (Op.store 51 _ _) _ _ _ _::_) _ _);refine wpList_store_nums (w:=w4) (by with_reducible rfl) 51 _ _ (by with_reducible rfl) .u8 51 32 Tryz.sizeB32 w3.heap.size (List.replicate 32 0) hh (by rfl) (by rfl) hr4 (by simp) hl32 ?_;intro w5 hr5 hb5 hs5 ho5))
  have B5:Below w3.heap.size w3 w5:=hb4.trans hb5;obtain⟨gh,hgh⟩:∃g,w3.heap.size=g:=⟨_,rfl⟩
  have HS5:Hid (w5.heap[w.heap.size]?=some (.cells #[.int .i64 g1,.int .i64 g2,.slice oo lo co,.slice a1 a2 a3,.slice b1 b2 b3,.slice d1 d2 d3,.slice e1 e2 e3,.slice f1 f2 f3,.slice j1 j2 j3] 55 (0,0))∧PSl w5 (w.heap.size+1) (.slice x1 x2 x3) (.slice y1 y2 y3) (.bool qi)∧Below w.heap.size w w5∧Nc w5 (.slice s1 s2 s3) (nI x) 64∧Nc w5 (.slice s4 s5 s6) (nI y) 64∧Row 51 .u8 w5 gh hh):=⟨blk_old HS3.out.1 B5,HS3.out.2.1.keep B5,bstep HS3.out.2.2.1 B5,HS3.out.2.2.2.1.old B5,HS3.out.2.2.2.2.old B5,by rw[←hgh];exact hr5⟩
  rw[hgh];clear hr4 hb4 hs4 hr5 hb5 hs5 ho5 B5 HS3 hgh;simp only[Act.put,List.setIfInBounds_toArray,List.set_cons_succ,List.set_cons_zero];refine wp_region_frames 1 [[23],[24],[25],[26],[27],[28],[8]] (([.eq (Value.agg #[Value.int IntKind.i64 g1,Value.int IntKind.i64 g2,Value.slice oo lo co,Value.slice a1 a2 a3,Value.slice b1 b2 b3,Value.slice d1 d2 d3,Value.slice e1 e2 e3,Value.slice f1 f2 f3,Value.slice j1 j2 j3]),.eq (Value.agg #[Value.slice x1 x2 x3,Value.slice y1 y2 y3,Value.bool qi]),.eq (Value.slice (some ⟨gh,0,none⟩) 32 32),.eq (Value.slice s1 s2 s3),.eq (Value.slice s4 s5 s6),.eq (Value.bool bb),.eq (Value.bool bb)]:List Fh).map Fh.sem) [0,1,2,3,4,5,6] (by kernel_rfl) (by kernel_rfl) (by kernel_rfl) ?step ?done
  case step=>
   intro i o ho listed a wx hI hli hne KK hK;have hlt:i<7:=(Array.getElem?_eq_some_iff.1 ho).1;have hsz:Hid (a.tmps.size=29):=hI.slots;have hbw:Below w5.heap.size w5 wx:=(Below.refl _ _).drew.trans hI.below;obtain rfl|rfl|rfl|rfl|rfl|rfl|rfl:i=0∨i=1∨i=2∨i=3∨i=4∨i=5∨i=6:=by omega
   ·obtain rfl:=op_is ho rfl;rw[if_pos (by rfl)];have eH4:a.tmps.getD 4 undef=Value.pointer (some { block:=w.heap.size,off:=0 }):=hI.stays hli 1 4 (by decide +kernel);obtain⟨cC0,cC1,cC2,cC3,cC4,cC5,cC6,cC7,cC8⟩:=cells9 (blk_old HS5.out.1 hbw);go_simp;exact hI.growH hK _ _ (Below.refl _ _) (put_self _ _ _ (by rw[hsz.out];decide))
   ·obtain rfl:=op_is ho rfl;rw[if_pos (by rfl)];have eH5:a.tmps.getD 5 undef=Value.pointer (some { block:=w.heap.size+1,off:=0 }):=hI.stays hli 1 5 (by decide +kernel);obtain⟨yB0,yB1,yB2,_,_,_⟩:=(HS5.out.2.1.keep hbw).facts;go_simp;exact hI.growH hK _ _ (Below.refl _ _) (put_self _ _ _ (by rw[hsz.out];decide))
   ·obtain rfl:=op_is ho rfl;rw[if_pos (by rfl)];have eH12:a.tmps.getD 12 undef=Value.pointer (some { block:=gh,off:=0 }):=hI.stays hli 1 12 (by decide +kernel);go_simp;exact hI.growH hK _ _ (Below.refl _ _) (put_self _ _ _ (by rw[hsz.out];decide))
   ·obtain rfl:=op_is ho rfl;rw[if_pos (by rfl)];have eH9:a.tmps.getD 9 undef=Value.slice s1 s2 s3:=hI.stays hli 1 9 (by decide +kernel);go_simp;exact hI.growH hK _ _ (Below.refl _ _) (put_self _ _ _ (by rw[hsz.out];decide))
   ·obtain rfl:=op_is ho rfl;rw[if_pos (by rfl)];have eH10:a.tmps.getD 10 undef=Value.slice s4 s5 s6:=hI.stays hli 1 10 (by decide +kernel);go_simp;exact hI.growH hK _ _ (Below.refl _ _) (put_self _ _ _ (by rw[hsz.out];decide))
   ·obtain rfl:=op_is ho rfl;rw[if_pos (by rfl)];have eH23:a.tmps.getD 23 undef=(Value.agg #[Value.int IntKind.i64 g1,Value.int IntKind.i64 g2,Value.slice oo lo co,Value.slice a1 a2 a3,Value.slice b1 b2 b3,Value.slice d1 d2 d3,Value.slice e1 e2 e3,Value.slice f1 f2 f3,Value.slice j1 j2 j3]):=hI.deep hne 0 0 (by decide +kernel);have eH24:a.tmps.getD 24 undef=(Value.agg #[Value.slice x1 x2 x3,Value.slice y1 y2 y3,Value.bool qi]):=hI.deep hne 0 1 (by decide +kernel);have eH25:a.tmps.getD 25 undef=(Value.slice (some ⟨gh,0,none⟩) 32 32):=hI.deep hne 0 2 (by decide +kernel);have eH26:a.tmps.getD 26 undef=(Value.slice s1 s2 s3):=hI.deep hne 0 3 (by decide +kernel);have eH27:a.tmps.getD 27 undef=(Value.slice s4 s5 s6):=hI.deep hne 0 4 (by decide +kernel);go_simp;go_at_call 48;refine(HVC wx (bstep HS5.out.2.2.1 hbw) _ _ _ (row_num32 (HS5.out.2.2.2.2.2.below hbw HS5.out.2.2.2.2.2.lt) hl32 HSD.out) _ _ _ _ (HS5.out.2.2.2.1.old hbw) (HS5.out.2.2.2.2.1.old hbw)).mono ?_;rintro e w6 ⟨b6,h6,rfl,hb5⟩;rw[HUX b6 h6];exact hI.growH hK _ _ hb5 (put_self _ _ _ (by rw[hsz.out];decide))
   ·obtain rfl:=op_is ho rfl;rw[if_pos (by rfl)];have eH28:a.tmps.getD 28 undef=(Value.bool bb):=hI.deep hne 0 5 (by decide +kernel);go_simp;exact hI.growH hK _ _ (Below.refl _ _) (put_self _ _ _ (by rw[hsz.out];decide))
  case done=>
   intro listed a W6 hI hall;obtain⟨tm,df⟩:=a;have hdf:df=[]:=hI.defers;subst hdf;have hTM:=hI.frame _ rfl [false,false,false,false,false,false,false,false,true,false,false,false,false,false,false,false,false,false,false,false,false,false,false,true,true,true,true,true,true] 29 rfl rfl (by decide +kernel);have fA0:tm.getD 23 undef=(Value.agg #[Value.int IntKind.i64 g1,Value.int IntKind.i64 g2,Value.slice oo lo co,Value.slice a1 a2 a3,Value.slice b1 b2 b3,Value.slice d1 d2 d3,Value.slice e1 e2 e3,Value.slice f1 f2 f3,Value.slice j1 j2 j3]):=hI.facts 0 (hall 0 (by decide));have fA1:tm.getD 24 undef=(Value.agg #[Value.slice x1 x2 x3,Value.slice y1 y2 y3,Value.bool qi]):=hI.facts 1 (hall 1 (by decide));have fA2:tm.getD 25 undef=(Value.slice (some ⟨gh,0,none⟩) 32 32):=hI.facts 2 (hall 2 (by decide));have fA3:tm.getD 26 undef=(Value.slice s1 s2 s3):=hI.facts 3 (hall 3 (by decide));have fA4:tm.getD 27 undef=(Value.slice s4 s5 s6):=hI.facts 4 (hall 4 (by decide));have fA5:tm.getD 28 undef=(Value.bool bb):=hI.facts 5 (hall 5 (by decide));have fA6:tm.getD 8 undef=(Value.bool bb):=hI.facts 6 (hall 6 (by decide));have hbw:Below w5.heap.size w5 W6:=(Below.refl _ _).drew.trans hI.below;clear hI hall listed;simp only[frameV,cond_true,cond_false,Nat.reduceAdd,Nat.zero_add,fA0,fA1,fA2,fA3,fA4,fA5,fA6]at hTM;clear fA0 fA1 fA2 fA3 fA4 fA5 fA6;subst hTM;have HF:Hid (Below w.heap.size w W6):=bstep HS5.out.2.2.1 hbw;clear hbw HVC HUX;go_wp2_with fail
   go_ret;exact⟨bb,by rw[hR];exact HPT2.out,rfl,HF.out⟩
end Go.Proofs.YtcgikjkpbpjgdabGreat
namespace Go.Proofs.YtcgikjkpbpjgdabGreat
open Go.RowKit
def hashN:List Int:=[48,49,48,13,6,9,96,134,72,1,101,3,4,2,1,5,0,4,32]
def padL (n:Nat) (hs:List Int):List Int:=0::1::(List.replicate (n-54) 255++(0::(hashN++hs)))
theorem padL_len (n:Nat) (hs:List Int) (h:hs.length=32) (hn:54≤n):(padL n hs).length=n:=by simp[padL,hashN,h];omega
theorem padL_dg (n:Nat) (hs:List Int) (h:Dg 256 hs):Dg 256 (padL n hs):=by
 intro x hx;simp only[padL,hashN,List.mem_cons,List.mem_append,List.mem_replicate,List.not_mem_nil,or_false]at hx;rcases hx with rfl|rfl|⟨_,rfl⟩|rfl|h0|h0
 ·omega
 ·omega
 ·omega
 ·omega
 ·omega
 ·exact h x h0
theorem Own.openR {e:TypeId} {k:IntKind} {w:World} {base:Nat} {v:Value} {xs:List Int} (h:Own e k w base v xs):∃ao cap,v=.slice ao xs.length cap∧xs.length≤cap∧cap≤maxLen:=by
 rcases h.2 with⟨rfl,h0⟩|⟨g,cap,cur,rfl,hg,hrow,h1,h2,h3,h4⟩
 ·exact⟨none,0,by rw[h0],by omega,by simp[maxLen]⟩
 ·exact⟨_,cap,rfl,h1,h2⟩
theorem Own.lenR {e:TypeId} {k:IntKind} {w:World} {base:Nat} {ao:Option Addr} {n c:Nat} {xs:List Int} (h:Own e k w base (.slice ao n c) xs):xs.length=n:=by obtain⟨ao',c',e',_⟩:=h.openR;injection e' with _ h2 _;exact h2.symm
theorem Own.baseR {e:TypeId} {k:IntKind} {w:World} {b b':Nat} {v:Value} {xs:List Int} (h:Own e k w b v xs) (hb:b'≤b):Own e k w b' v xs:=by
 refine⟨h.1,?_⟩;rcases h.2 with h0|⟨g,cap,cur,e1,hg,r⟩
 ·exact .inl h0
 ·exact .inr ⟨g,cap,cur,e1,by omega,r⟩
theorem lies_all {e:TypeId} {k:IntKind} {w:World} {g n:Nat} {xs:List Int} (h:Row e k w g xs) (hn:xs.length=n):Lies k w (some ⟨g,0,none⟩) n xs:=by
 have:=h.lies 0 n (by omega)
 rwa [List.drop_zero,List.take_of_length_le (by omega)]at this
theorem Row.keepOther {e:TypeId} {k:IntKind} {w:World} {g:Nat} {xs:List Int} (h:Row e k w g xs) {p:Addr} (hp:g≠p.block) (v:Value):Row e k (w.setCell p v) g xs:=by unfold Row at *;rw[heap_setCell_other w p g v hp];exact h
theorem wpList_copy_text {P:Program} {w:World} {ops:Array Oper} {rest:List Oper} {o:Oper} {a:Act} {Q:Exit→Act→World→Prop} (hgd:o.guard=none) (d s:Operand) (dT sT:TypeId)
  (ho:o.op=.call { callee:=.builtin .copy,args:=#[d,s],argTypes:=#[dT,sT] }) (e:TypeId) (hu:P.underlying dT=some (.slice e)) (hsz:(P.info? e).map (·.size)=some 1)
  (g off dl dc:Nat) (b:ByteArray) (hd:a.eval d=.slice (some ⟨g,off,none⟩) dl dc) (hs:a.eval s=.string b) (xs ys:List Int) (hr:Row e .u8 w g xs) (hb:b.data.toList.map (fun x=>Value.int .u8 x.toNat)=ys.map (Value.int .u8)) (hn:b.size≤dl) (hfit:off+ys.length≤xs.length)
  (B:Nat) (w0:World) (hbel:Below B w0 w) (hB:B≤g)
  (h:∀w',Row e .u8 w' g (xs.take off++ys++xs.drop (off+ys.length))→Below B w0 w'→(∀j,j≠g→w'.heap[j]?=w.heap[j]?)→wpList P ops Q rest (a.put o.dst (goInt ys.length)) w'):wpList P ops Q (o::rest) a w:=by
 refine wpList_plain hgd fun K hK => ?_;have hlen:b.size=ys.length:=by have:=congrArg List.length hb;rw[List.length_map,List.length_map,Array.length_toList]at this;exact this
 have hst:=run_storeCells_at P g off e (ys.map (Value.int .u8)) 0 ((xs.map (Value.int .u8)).toArray) w hr (by simpa using hfit) (ints_oneCell _ _);have hmin:Nat.min b.size dl=b.size:=Nat.min_eq_left hn;have hex:b.extract 0 b.size=b:=ByteArray.extract_zero_size;have hcs:(b.data.map fun x=>Value.int .u8 x.toNat).toList=ys.map (Value.int .u8):=by rw[Array.toList_map];exact hb
 clear hb;have hrun:(Builtin.copy_ #[dT,sT] o.type #[.slice (some ⟨g,off,none⟩) dl dc,.string b]).run P w=.ok (goInt b.size) (w.setRow g ((xs.map (Value.int .u8)).take off++ys.map (Value.int .u8)++(xs.map (Value.int .u8)).drop (off+ys.length)).toArray):=by
  cases hq:P.info? e with
  | none=>simp[hq]at hsz
  | some i=>
   have hi:i.size=1:=by simpa [hq] using hsz
   simp only[List.length_map,Nat.add_zero]at hst;simp[Builtin.copy_,run_underlying hu,Builtin.lenOf,Builtin.firstCells,sizeOf,typeInfo,hq,hi,hmin,hex,-Array.toList_map,hcs,hst];rw[List.take_of_length_le (by simp;omega),hst];simp[List.append_assoc]
 unfold Oper.wp;simp[execOp,ho,resolve,invoke,builtin,hd,hs,hrun,Result.andThen];refine hK _ _ ?_;rw[hlen];have hrow:=setRow_heap w g ((xs.map (Value.int .u8)).toArray) ((xs.map (Value.int .u8)).take off++ys.map (Value.int .u8)++(xs.map (Value.int .u8)).drop (off+ys.length)).toArray e (0,0) hr;have hgo:=h _ (by unfold Row;rw[hrow];simp) (below_setRow hbel hB _) (fun j hj=>setRow_other w g j _ hj);simpa using hgo
theorem Pad_yes (n:Nat) (hs:List Int) (w:World) (h1:62≤n) (h2:n≤512) (hl:hs.length=32):
  Calls Tryz.prog 44 #[.int .i64 n,ag .u8 hs] w fun e w'=>∃g,e=.returned (.slice (some ⟨g,0,none⟩) n n)∧Row 5 .u8 w' g (padL n hs)∧w.heap.size≤g∧Below w.heap.size w w':=by
 have hlt1:¬((n:Int)<62):=by omega
 have hgt1:¬((512:Int)<n):=by omega
 go_enter Tryz.func44,Tryz.ntmps44;go_wp2_with (first
  | ((with_reducible show wpList _ _ _ (Oper.mk _ (Op.box _ _) _ _ _ _::_) _ _);refine wpList_box_row (w:=w) (by with_reducible rfl) 51 _ (by with_reducible rfl) .u8 hs rfl ?_;intro w1 hr1 hb1 hs1)
  | (at_make;refine wpList_make_row _ rfl _ _ 24 rfl 5 .u8 1 Tryz.underlying24 Tryz.infoB _ _ _ _ n rfl rfl rfl rfl (by omega) (by unfold maxLen;omega) ?_))
 intro w2 hrow hbel;obtain⟨g,hg⟩:∃g,w.heap.size+1=g:=⟨_,rfl⟩
 rw[hg]at hrow hbel;have HH:Hid (Row 51 .u8 w2 w.heap.size hs∧Below w.heap.size w w2):=⟨hr1.below hbel (by omega),hb1.trans (hbel.mono (by omega))⟩
 rw[hg];have hg2:w.heap.size<g:=by omega
 clear hr1 hb1 hs1 hbel hg;go_wp2;go_loopw [18] (fun i wr=>∃k:Nat,k≤n∧i=.int .i64 k∧Row 5 .u8 wr g (List.replicate k 255++List.replicate (n-k) 0)∧Row 51 .u8 wr w.heap.size hs∧Below w.heap.size w wr) (fun i _=>n-(intOf i).toNat)
 case atStart=>exact⟨0,Nat.zero_le _,rfl,by simpa using hrow,HH.out⟩
 case round =>
  obtain⟨k,hk,rfl,hrw,hh,hb⟩:=hrel;clear hrow HH;by_cases hlt:k<n
  ·have hcl:=hrw.cell k (by simp;omega);have hfr:=hrw.frozen k;have HR:Hid (Row 5 .u8 (wr.setCell ⟨g,k,none⟩ (.int .u8 255)) g (List.replicate (k+1) 255++List.replicate (n-(k+1)) 0)):=by
    have h0:=hrw.set k 255;have e:(List.replicate k (255:Int)++List.replicate (n-k) 0).set k 255=List.replicate (k+1) 255++List.replicate (n-(k+1)) 0:=by rw[List.set_append_right _ _ (by simp),List.length_replicate,Nat.sub_self,show n-k=(n-(k+1))+1 by omega,List.replicate_succ (n:=n-(k+1)),List.set_cons_zero,List.replicate_succ' (n:=k)];simp
    rw[e]at h0;exact h0
   have HH:Hid (Row 51 .u8 (wr.setCell ⟨g,k,none⟩ (.int .u8 255)) w.heap.size hs∧Below w.heap.size w (wr.setCell ⟨g,k,none⟩ (.int .u8 255))):=⟨hh.keepOther (by simp;omega) _,hb.setCell (by simp;omega) _⟩
   generalize (List.replicate k (255:Int)++List.replicate (n-k) 0).getD k 0=y at *;clear hrw hh hb;go_wp2;go_roundw
   case rel=>exact⟨k+1,by omega,by go_num,HR.out,HH.out⟩
   case measure=>simp[intOf];omega
  ·obtain rfl:k=n:=by omega
   rw[Nat.sub_self,List.replicate_zero,List.append_nil]at hrw;obtain⟨m,hm⟩:∃m,k-52=m:=⟨_,rfl⟩
   have hm1:(k:Int)-32-19-1=(m:Int):=by omega
   have hm2:k-m=52:=by omega
   have hm3:m<k:=by omega
   have hm4:¬(k=m):=by omega
   have r1:=hrw.set 0 0;have r2:=r1.set 1 1;have r3:=r2.set m 0;have l1:(List.replicate k (255:Int)).length=k:=by simp
   have l2:((List.replicate k (255:Int)).set 0 0).length=k:=by simp
   have l3:(((List.replicate k (255:Int)).set 0 0).set 1 1).length=k:=by simp
   have c0:=hrw.cell 0 (by omega);have f0:=hrw.frozen 0;have c1:=r1.cell 1 (by omega);have f1:=r1.frozen 1;have c2:=r2.cell m (by omega);have f2:=r2.frozen m;have q3:=((hh.keepOther (p:=⟨g,0,none⟩) (by simp;omega) (.int .u8 0)).keepOther (p:=⟨g,1,none⟩) (by simp;omega) (.int .u8 1)).keepOther (p:=⟨g,m,none⟩) (by simp;omega) (.int .u8 0);have b3:=((hb.setCell (p:=⟨g,0,none⟩) (by simp;omega) (.int .u8 0)).setCell (p:=⟨g,1,none⟩) (by simp;omega) (.int .u8 1)).setCell (p:=⟨g,m,none⟩) (by simp;omega) (.int .u8 0);have HR:Hid _:=r3;have HQ:Hid _:=And.intro q3 b3;generalize (List.replicate k (255:Int)).getD 0 0=y0 at *;generalize ((List.replicate k (255:Int)).set 0 0).getD 1 0=y1 at *;generalize (((List.replicate k (255:Int)).set 0 0).set 1 1).getD m 0=y2 at *;clear hrw r1 r2 r3 q3 b3 hh hb l1 l2 l3;have HB:Hid (([48,49,48,13,6,9,96,134,72,1,101,3,4,2,1,5,0,4,32]:List UInt8).map (fun x=>Value.int .u8 x.toNat)=hashN.map (Value.int .u8)):=by unfold Hid;rfl
   go_wp2_with ((with_reducible show wpList _ _ _ (Oper.mk _ (Op.call { callee:=.builtin .copy,args:=#[_,.const _],argTypes:=_ }) _ _ _ _::_) _ _);refine wpList_copy_text rfl _ _ 24 9 rfl 5 Tryz.underlying24 (by kernel_rfl) g (m+1) 51 51 ⟨#[48,49,48,13,6,9,96,134,72,1,101,3,4,2,1,5,0,4,32]⟩ rfl rfl _ hashN HR.out HB.out (by decide) (by simp[hashN];omega) w.heap.size w HQ.out.2 (by omega) ?_;intro w3 hr3 hb3 hk3)
   have hq3:Row 51 .u8 w3 w.heap.size hs:=by unfold Row;rw[hk3 _ (by omega)];exact HQ.out.1
   obtain⟨L,hL⟩:∃L,List.take (m+1) ((((List.replicate k (255:Int)).set 0 0).set 1 1).set m 0)++hashN++List.drop (m+1+hashN.length) ((((List.replicate k 255).set 0 0).set 1 1).set m 0)=L:=⟨_,rfl⟩
   have HL:Hid (L.length=k∧L.take (m+20)=0::1::(List.replicate (k-54) 255++(0::hashN))):=by
    unfold Hid;have e0:(((List.replicate k (255:Int)).set 0 0).set 1 1).set m 0=(0::1::(List.replicate (k-54) 255++[0]))++List.replicate 51 255:=by
     rw[show List.replicate k (255:Int)=255::255::(List.replicate (k-54) 255++255::List.replicate 51 255) by
      rw[show k=(k-54)+(51+1)+1+1 by omega,List.replicate_succ,List.replicate_succ];congr 2
      rw[←List.replicate_succ,←List.replicate_append_replicate];congr 2]
     rw[List.set_cons_zero,List.set_cons_succ,List.set_cons_zero,show m=(k-54)+1+1 by omega,List.set_cons_succ,List.set_cons_succ,List.set_append_right _ _ (by simp)];simp
    have el:(0::1::(List.replicate (k-54) (255:Int)++[0])).length=m+1:=by simp;omega
    rw[e0,List.take_left' el]at hL;rw[←hL];constructor
    ·simp[hashN];omega
    ·rw[List.take_append_of_le_length (by simp[hashN];omega),List.take_of_length_le (by simp[hashN];omega)];simp
   rw[hL]at hr3;clear hL HR HQ HB c0 c1 c2 f0 f1 f2;have HG:Hid (Row 5 .u8 w3 g L∧Row 51 .u8 w3 w.heap.size hs∧Below w.heap.size w w3):=⟨hr3,hq3,hb3⟩
   clear hr3 hq3 hb3 hk3;have hrun:=run_copy_row Tryz.prog w3.drew 24 24 3 5 g (m+20) 32 32 ⟨w.heap.size,0,none⟩ 32 32 ((L.map (Value.int .u8)).toArray) 5 (hs.map (Value.int .u8)) Tryz.underlying24 (by kernel_rfl) HG.out.1 (by simp[hl]) (fun j v hj=>by
    rw[List.getElem?_map]at hj;have hlt:j<hs.length:=by
     rcases Nat.lt_or_ge j hs.length with h|h
     ·exact h
     ·rw[List.getElem?_eq_none h]at hj;cases hj
    have h5:w3.drew.cell? ⟨w.heap.size,j,none⟩=_:=HG.out.2.1.cell j hlt;rw[add_none,Nat.zero_add,h5,←hj,List.getElem?_eq_getElem hlt,List.getD_eq_getElem?_getD,List.getElem?_eq_getElem hlt];rfl) (by have:=HL.out.1;simp;omega) (ints_oneCell _ _)
   rw[List.length_map,hl]at hrun;have HX:Hid (Row 5 .u8 (w3.drew.setRow g ((L.map (Value.int .u8)).toArray.toList.take (m+20)++hs.map (Value.int .u8)++(L.map (Value.int .u8)).toArray.toList.drop (m+20+32)).toArray) g (padL k hs)∧Below w.heap.size w (w3.drew.setRow g ((L.map (Value.int .u8)).toArray.toList.take (m+20)++hs.map (Value.int .u8)++(L.map (Value.int .u8)).toArray.toList.drop (m+20+32)).toArray)):=by
    refine⟨?_,below_setRow HG.out.2.2.drew (by omega) _⟩;unfold Row;rw[setRow_heap w3.drew g _ _ 5 (0,0) HG.out.1];congr 2
    rw[List.drop_of_length_le (by have:=HL.out.1;simp;omega),List.append_nil,List.toList_toArray,←List.map_take,HL.out.2,←List.map_append];simp[padL]
   generalize w3.drew.setRow g ((L.map (Value.int .u8)).toArray.toList.take (m+20)++hs.map (Value.int .u8)++(L.map (Value.int .u8)).toArray.toList.drop (m+20+32)).toArray=w5 at *;go_region
   all_goals
    go_wp2;go_ret;exact⟨g,rfl,HX.out.1,by omega,HX.out.2⟩
theorem Pad_no (n:Int) (hs:List Int) (w:World) (h1:n<62∨512<n):
  Calls Tryz.prog 44 #[.int .i64 n,ag .u8 hs] w fun e w'=>e=.returned (.slice none 0 0)∧Below w.heap.size w w':=by
 go_enter Tryz.func44,Tryz.ntmps44;by_cases h2:n<62
 ·go_wp2_with (first
   | ((with_reducible show wpList _ _ _ (Oper.mk _ (Op.box _ _) _ _ _ _::_) _ _);refine wpList_box_row (w:=w) (by with_reducible rfl) 51 _ (by with_reducible rfl) .u8 hs rfl ?_;intro w1 hr1 hb1 hs1))
  go_ret;exact⟨rfl,hb1⟩
 ·have h3:512<n:=by omega
  go_wp2_with (first
   | ((with_reducible show wpList _ _ _ (Oper.mk _ (Op.box _ _) _ _ _ _::_) _ _);refine wpList_box_row (w:=w) (by with_reducible rfl) 51 _ (by with_reducible rfl) .u8 hs rfl ?_;intro w1 hr1 hb1 hs1))
  go_ret;exact⟨rfl,hb1⟩
theorem rPad_no (n:Int) (hs:List Int) (w:World) (h1:n<62∨512<n):
  Calls Tryz.prog 26 #[.int .i64 n,ag .u8 hs] w fun e w'=>e=.returned (.slice none 0 0)∧Below w.heap.size w w':=by
 go_enter Tryz.func26,Tryz.ntmps26;by_cases h2:n<62
 ·go_wp2_with (first
   | ((with_reducible show wpList _ _ _ (Oper.mk _ (Op.box _ _) _ _ _ _::_) _ _);refine wpList_box_row (w:=w) (by with_reducible rfl) 51 _ (by with_reducible rfl) .u8 hs rfl ?_;intro w1 hr1 hb1 hs1))
  go_ret;exact⟨rfl,hb1⟩
 ·have h3:512<n:=by omega
  go_wp2_with (first
   | ((with_reducible show wpList _ _ _ (Oper.mk _ (Op.box _ _) _ _ _ _::_) _ _);refine wpList_box_row (w:=w) (by with_reducible rfl) 51 _ (by with_reducible rfl) .u8 hs rfl ?_;intro w1 hr1 hb1 hs1))
  go_ret;exact⟨rfl,hb1⟩
theorem rPad_yes (n:Nat) (hs:List Int) (w:World) (h1:62≤n) (h2:n≤512) (hl:hs.length=32):
  Calls Tryz.prog 26 #[.int .i64 n,ag .u8 hs] w fun e w'=>∃v,e=.returned v∧Own 5 .u8 w' w.heap.size v (padL n hs)∧Below w.heap.size w w':=by
 have hlt1:¬((n:Int)<62):=by omega
 have hgt1:¬((512:Int)<n):=by omega
 go_enter Tryz.func26,Tryz.ntmps26;go_wp2_with (first
  | ((with_reducible show wpList _ _ _ (Oper.mk _ (Op.box _ _) _ _ _ _::_) _ _);refine wpList_box_row (w:=w) (by with_reducible rfl) 51 _ (by with_reducible rfl) .u8 hs rfl ?_;intro w1 hr1 hb1 hs1))
 obtain⟨gap,hgap⟩:∃gap,n-54=gap:=⟨_,rfl⟩
 have h0:Own 5 .u8 (w1.alloc (.cells #[.int .u8 0,.int .u8 1] 5)) (w.heap.size+1) (.slice (some ⟨w1.heap.size,0,none⟩) 2 2) ([0,1]++List.replicate 0 255):=(Row.alloc 5 .u8 w1 [0,1]).own (by omega) (by decide);have HB0:Hid (Row 51 .u8 w1 w.heap.size hs∧Below w.heap.size w w1∧w1.heap.size=w.heap.size+1):=⟨hr1,hb1,hs1⟩
 have HH0:Hid (Own 5 .u8 (w1.alloc (.cells #[.int .u8 0,.int .u8 1] 5)) (w.heap.size+1) (.slice (some ⟨w1.heap.size,0,none⟩) 2 2) ([0,1]++List.replicate 0 255)∧Below (w.heap.size+1) w1 (w1.alloc (.cells #[.int .u8 0,.int .u8 1] 5))):=⟨h0,(Below.refl _ _).alloc (by omega) _⟩
 have HGAP:Hid (n-54=gap):=hgap;have hsz1:=hs1;clear h0 hr1 hb1 hs1 hgap;go_loopg [5] gap (fun k v wr=>∃j,j+k=gap∧Own 5 .u8 wr (w.heap.size+1) v ([0,1]++List.replicate j 255)∧Below (w.heap.size+1) w1 wr)
 case atStart=>exact⟨0,by omega,by have:=HH0.out;rwa [hsz1]at this⟩
 case round=>
  obtain⟨j,hjk,hown,hb⟩:=hrel;clear HH0;obtain⟨a5,c5,hv5,hlc5,hcm5⟩:=hown.openR;have hL:([0,1]++List.replicate j (255:Int)).length=2+j:=by simp;omega
  obtain⟨M,hM⟩:∃M,2+j=M:=⟨_,rfl⟩
  rw[hL,hM]at hv5 hlc5;subst hv5;have hgp:=HGAP.out;have HO:Hid (Own 5 .u8 wr (w.heap.size+1) (.slice a5 M c5) ([0,1]++List.replicate j 255)∧Below (w.heap.size+1) w1 wr∧([0,1]++List.replicate j (255:Int)).length<1073741824∧w.heap.size+1≤wr.heap.size):=⟨hown,hb,by omega,by have:=hb.size;omega⟩
  unfold maxLen at hcm5;have HL:Hid (2+j=M):=hM;clear hown hb hL
  cases gk with
  | succ k'=>
   have hlt:(M:Int)<(n:Int)-52:=by omega
   clear hM hgp;generalize hXs:[0,1]++List.replicate j (255:Int)=Xs at HO;have HXS:Hid (Xs++[255]=[0,1]++List.replicate (j+1) 255):=by unfold Hid;rw[←hXs,List.replicate_succ',List.append_assoc]
   clear hXs;go_wp2_with (at_builtin;refine wpList_append_one rfl _ _ 24 rfl 5 .u8 1 Tryz.underlying24 Tryz.infoB (w.heap.size+1) (.slice a5 M c5) Xs 255 (by rfl) HO.out.1 (by rfl) HO.out.2.2.1 (by decide) w1 HO.out.2.1 HO.out.2.2.2 ?_;intro v6 w6 hown6 hb6)
   go_roundg k'
   case measure=>omega
   case rel=>exact⟨j+1,by omega,by rw[←HXS.out];exact hown6,hb6⟩
  | zero =>
   have hge:¬((M:Int)<(n:Int)-52):=by omega
   have hM5:M≤512:=by omega
   obtain rfl:j=gap:=by omega
   clear hM hgp;have HXS:Hid ([0,1]++List.replicate j (255:Int)++(0::hashN)++hs=padL n hs):=by unfold Hid padL;rw[HGAP.out];simp
   generalize [0,1]++List.replicate j (255:Int)=Xs at *;have hn8:Xs.length+20≤1073741824:=by have:=HO.out.2.2.1;have h9:Xs.length=M:=HO.out.1.lenR;omega
   have hn9:(Xs++(0::hashN)).length+32≤1073741824:=by have h9:Xs.length=M:=HO.out.1.lenR;simp[hashN];omega
   have ha:Row 5 .u8 (wr.alloc (.cells (((0::hashN).map (Value.int .u8)).toArray) 5)) wr.heap.size (0::hashN):=Row.alloc 5 .u8 wr (0::hashN);have HA:Hid (Lies .u8 (wr.alloc (.cells #[.int .u8 0,.int .u8 48,.int .u8 49,.int .u8 48,.int .u8 13,.int .u8 6,.int .u8 9,.int .u8 96,.int .u8 134,.int .u8 72,.int .u8 1,.int .u8 101,.int .u8 3,.int .u8 4,.int .u8 2,.int .u8 1,.int .u8 5,.int .u8 0,.int .u8 4,.int .u8 32] 5)) (some ⟨wr.heap.size,0,none⟩) 20 (0::hashN)):=ha.lies 0 20 (by decide);go_wp2_with (first
    | (at_builtin;refine wpList_append_nums rfl _ _ 24 rfl 5 .u8 1 Tryz.underlying24 Tryz.infoB (w.heap.size+1) (.slice a5 M c5) Xs (by rfl) (HO.out.1.alloc _) (some ⟨wr.heap.size,0,none⟩) 20 20 (0::hashN) (by rfl) HA.out (fun h=>by cases h) hn8 (by decide) w1 (HO.out.2.1.alloc HO.out.2.2.2 _) (by have:=HO.out.2.2.2;simp;omega) ?_;intro v6 w6 hown6 hb6 hk6 hs6;have H6:Hid (Own 5 .u8 w6 (w.heap.size+1) v6 (Xs++(0::hashN))∧Below (w.heap.size+1) w1 w6∧Lies .u8 w6 (some ⟨w.heap.size,0,none⟩) 32 hs∧w.heap.size+1≤w6.heap.size):=⟨hown6,hb6,lies_all (HB0.out.1.below hb6 (by omega)) hl,by have:=HO.out.2.2.2;simp at hs6;omega⟩;clear hown6 hb6 hk6 hs6 HA ha)
    | (at_builtin;refine wpList_append_nums rfl _ _ 24 rfl 5 .u8 1 Tryz.underlying24 Tryz.infoB (w.heap.size+1) v6 (Xs++(0::hashN)) (by rfl) H6.out.1 (some ⟨w.heap.size,0,none⟩) 32 32 hs (by rfl) H6.out.2.2.1 (fun h=>by cases h) hn9 (by decide) w1 H6.out.2.1 H6.out.2.2.2 ?_;intro v7 w7 hown7 hb7 hk7 hs7))
   go_ret;refine⟨_,rfl,?_,HB0.out.2.1.trans (hb7.mono (by omega))⟩;rw[HXS.out]at hown7;exact hown7.baseR (by omega)
end Go.Proofs.YtcgikjkpbpjgdabGreat
namespace Go.Proofs.YtcgikjkpbpjgdabGreat
open Go.Shelf Go.RowKit
def padA (n:Int) (hs:List Int):List Int:=if n<62∨512<n then [] else padL n.toNat hs
def By8 (W:World) (v:Value) (xs:List Int):Prop:=∃ao l c,v=.slice ao l c∧NumIn .u8 256 W ao l c xs
theorem By8.old {w w':World} {v:Value} {xs:List Int} (h:By8 w v xs) (hb:Below w.heap.size w w'):By8 w' v xs:=by obtain⟨ao,l,c,e,h⟩:=h;exact⟨ao,l,c,e,h.old hb⟩
theorem Pad_any (n:Int) (hs:List Int) (w:World) (hl:hs.length=32) (hd:Dg 256 hs):
  Calls Tryz.prog 44 #[.int .i64 n,ag .u8 hs] w fun e w'=>∃v,e=.returned v∧By8 w' v (padA n hs)∧Below w.heap.size w w':=by
 unfold padA;by_cases h:n<62∨512<n
 ·rw[if_pos h];refine(Pad_no n hs w h).mono ?_;rintro e w' ⟨rfl,hb⟩;exact⟨_,rfl,⟨none,0,0,rfl,NumIn.nil⟩,hb⟩
 ·rw[if_neg h];obtain⟨m,rfl⟩:∃m:Nat,n=m:=⟨n.toNat,by omega⟩
  refine(Pad_yes m hs w (by omega) (by omega) hl).mono ?_;rintro e w' ⟨g,rfl,hr,hg,hb⟩;have hp:=padL_len m hs hl (by omega);have h5:=hr.num (padL_dg m hs hd) (by omega);rw[hp]at h5;exact⟨_,rfl,⟨_,m,m,rfl,h5⟩,hb⟩
theorem rPad_any (n:Int) (hs:List Int) (w:World) (hl:hs.length=32) (hd:Dg 256 hs):
  Calls Tryz.prog 26 #[.int .i64 n,ag .u8 hs] w fun e w'=>∃v,e=.returned v∧By8 w' v (padA n hs)∧Below w.heap.size w w':=by
 unfold padA;by_cases h:n<62∨512<n
 ·rw[if_pos h];refine(rPad_no n hs w h).mono ?_;rintro e w' ⟨rfl,hb⟩;exact⟨_,rfl,⟨none,0,0,rfl,NumIn.nil⟩,hb⟩
 ·rw[if_neg h];obtain⟨m,rfl⟩:∃m:Nat,n=m:=⟨n.toNat,by omega⟩
  refine(rPad_yes m hs w (by omega) (by omega) hl).mono ?_;rintro e w' ⟨v,rfl,ho,hb⟩;have hp:=padL_len m hs hl (by omega);obtain⟨ao,cap,hv,h5⟩:=ho.num (padL_dg m hs hd) (by omega);exact⟨_,rfl,⟨ao,_,cap,hv,h5⟩,hb⟩
def Fk.gen (S:List Value→World→Prop) (hk:∀vs w w',Below w.heap.size w w'→S vs w→S vs w'):Fk:=⟨S,hk,false,fun h=>by cases h⟩
def Fk.by (xs:List Int):Fk:=Fk.gen (fun vs W=>By8 W (vs.getD 0 undef) xs) fun vs w w' hb h=>h.old hb
theorem row_ld32 {w:World} {g:Nat} {e:TypeId} {xs:List Int} (h:Row e .u8 w g xs) (hl:xs.length=32):(HLD 51 (.pointer (some ⟨g,0,none⟩))).run Tryz.prog w=.ok (ag .u8 xs) w:=by
 refine run_loadAt_mid w g 0 51 (xs.map (Value.int .u8)) (.array 32 5) (fun j v hv => ?_) Tryz.underlying51 rfl (by rw[Tryz.sizeB32,List.length_map,hl]);have hj:j<xs.length:=by have:=(List.getElem?_eq_some_iff.1 hv).1;rw[List.length_map]at this;exact this
 rw[Nat.zero_add,h.cell j hj,←hv];simp[List.getD,hj]
end Go.Proofs.YtcgikjkpbpjgdabGreat
namespace Go.Proofs.YtcgikjkpbpjgdabGreat
open Go.RowKit Go.ChangeShapes Go.WideShapes Go.ChangeShapes
end Go.Proofs.YtcgikjkpbpjgdabGreat
