import Derived.Test.YtkhnnhbmchnajaaGreatK28
import Derived.Test.YtkhnnhbmchnajaaGreatK26
import Derived.Test.YtkhnnhbmchnajaaGreatK02
import Derived.Test.YtkhnnhbmchnajaaGreatK23
import Derived.Test.YtkhnnhbmchnajaaGreatK12
import Derived.Test.YtkhnnhbmchnajaaGreatK08
import Derived.Test.YtkhnnhbmchnajaaGreatK01
import Derived.WideShapes
import Derived.OpenShut
import Derived.ChangeSame
import Derived.Test.YtkhnnhbmchnajaaGreatK21
import Derived.Test.YtkhnnhbmchnajaaGreatK22
import Derived.Test.YtkhnnhbmchnajaaGreatK16
set_option maxRecDepth 100000
set_option maxHeartbeats 40000000
set_option linter.unusedVariables false
set_option linter.unusedSimpArgs false
namespace Go.Proofs.YtkhnnhbmchnajaaGreat
section
open Go.Shelf Go.RowKit
attribute [local go_sem ↓] keep_l32
theorem rSigned_rsaF(ca:Option Addr)(cl cc:Nat)(cu:Int)(x1:Option Addr)(x2 x3:Nat)(y1:Option Addr)(y2 y3:Nat)(qi:Bool)(n1:Option Addr)(n2 n3:Nat)(e1:Option Addr)(e2 e3:Nat)(n e:Int)(L:Nat)(hL:L≤64)(ao:Option Addr)(m c:Nat)(ms:List Int)(p:Option Addr)(np cp:Nat)(zs:List Int)(w:World)(hn:Nv w (.slice n1 n2 n3) n L)(he:Nv w (.slice e1 e2 e3) e L)(hm:NumIn .u8 256 w ao m c ms)(hmm:m≤1000)(hz:NumIn .u8 256 w p np cp zs):
  Calls Tryz.prog 8 #[.slice ca cl cc,.agg #[.int .u8 2,.int .i64 cu,.slice x1 x2 x3,.slice y1 y2 y3,.bool qi,.slice n1 n2 n3,.slice e1 e2 e3],.slice ao m c,.slice p np cp] w fun r w'=>r=.returned (.int .i64 (erS (verB n e (shaS ms) np zs)))∧Below w.heap.size w w':=by
 have hl32:(shaS ms).length=32:=by unfold shaS;exact spreadS_length _
 have HRV:=fun W (hW:Below w.heap.size w W)=>power_full (.agg #[.slice n1 n2 n3,.slice e1 e2 e3]) n e L (shaS ms) p np cp zs W ⟨_,_,rfl,hn.old hW,he.old hW⟩ hL hl32 (sha_dg ms) (hz.old hW);have hsum:=fun W (hW:Below w.heap.size w W)=>rSum_any ms ao m c W hm.dg (hm.old hW).lies hm.nn (by omega);obtain⟨bb,hbb⟩:∃b,verB n e (shaS ms) np zs=b:=⟨_,rfl⟩
 rw[hbb]at HRV ⊢;generalize shaS ms=hh at *;have hb0:=balloc w (.cells #[.int .u8 2,.int .i64 cu,.slice x1 x2 x3,.slice y1 y2 y3,.bool qi,.slice n1 n2 n3,.slice e1 e2 e3] 30);have hc0:=heap_alloc_new w (.cells #[.int .u8 2,.int .i64 cu,.slice x1 x2 x3,.slice y1 y2 y3,.bool qi,.slice n1 n2 n3,.slice e1 e2 e3] 30);obtain⟨W,hW⟩:∃W,w.alloc (.cells #[.int .u8 2,.int .i64 cu,.slice x1 x2 x3,.slice y1 y2 y3,.bool qi,.slice n1 n2 n3,.slice e1 e2 e3] 30)=W:=⟨_,rfl⟩
 rw[hW]at hb0 hc0;have HW:Hid (_=W):=hW;have HS:Hid (W.heap[w.heap.size]?=some (.cells #[.int .u8 2,.int .i64 cu,.slice x1 x2 x3,.slice y1 y2 y3,.bool qi,.slice n1 n2 n3,.slice e1 e2 e3] 30 (0,0))∧Below w.heap.size w W):=⟨hc0,hb0⟩
 have hsum0:=hsum W hb0;clear hb0 hc0 hW hn he hm hz hbb hsum;go_enter Tryz.func8,Tryz.ntmps8;go_wp2_with fail
 rw[HW.out];clear HW;refine hsum0.mono ?_;rintro r w1 ⟨rfl,d1⟩;have HS1:Hid (w1.heap[w.heap.size]?=some (.cells #[.int .u8 2,.int .i64 cu,.slice x1 x2 x3,.slice y1 y2 y3,.bool qi,.slice n1 n2 n3,.slice e1 e2 e3] 30 (0,0))∧Below w.heap.size w w1):=⟨blk_old HS.out.1 d1,bstep HS.out.2 d1⟩
 clear HS d1 hsum0;go_wp2_with (first
  | ((with_reducible show wpList _ _ _ (Oper.mk _ (Op.alloc 71) _ _ _ _::_) _ _);refine wpList_alloc_row (w:=w1) (by with_reducible rfl) 71 (by with_reducible rfl) .u8 32 Tryz.infoB32 ?_;intro w2 hr2 hb2 hs2)
  | ((with_reducible show wpList _ _ _ (Oper.mk _ (Op.store 71 _ _) _ _ _ _::_) _ _);refine wpList_store_nums (w:=w2) (by with_reducible rfl) 71 _ _ (by with_reducible rfl) .u8 71 32 Tryz.sizeB32 w1.heap.size (List.replicate 32 0) hh (by rfl) (by rfl) hr2 (by simp) hl32 ?_;intro w3 hr3 hb3 hs3 ho3;have B3:Below w1.heap.size w1 w3:=hb2.trans hb3;obtain⟨k0,k1,k2,k3,k4,k5,k6⟩:=cells7k (blk_old HS1.out.1 B3);have hld:=row_ld32 hr3 hl32))
 have HB3:Hid (Below w.heap.size w w3):=bstep HS1.out.2 B3;have HP:=HRV w3 HB3.out;clear hr2 hb2 hs2 hr3 hb3 hs3 ho3 B3 HS1 HRV hld;refine HP.mono ?_;rintro r w4 ⟨rfl,hb4⟩;have HB4:Hid (Below w.heap.size w w4):=bstep HB3.out hb4;clear HP hb4 HB3 k0 k1 k2 k3 k4 k5 k6
 cases bb with
 | true=>
  go_wp2_with fail
  go_ret;exact⟨rfl,HB4.out⟩
 | false=>
  go_wp2_with fail
  go_ret;exact⟨rfl,HB4.out⟩
end
section
open Go.Shelf Go.RowKit
theorem sVerify_no(kd cu:Int)(ca:Option Addr)(cl cc:Nat)(x1:Option Addr)(x2 x3:Nat)(y1:Option Addr)(y2 y3:Nat)(qi:Bool)(n1:Option Addr)(n2 n3:Nat)(e1:Option Addr)(e2 e3:Nat)(ao:Option Addr)(m c:Nat)(p:Option Addr)(np cp:Nat)(w:World)(h2:kd≠2)(hno:¬(kd=1∧0≤cu∧cu<(cl:Int))):
  Calls Tryz.prog 7 #[.slice ca cl cc,.agg #[.int .u8 kd,.int .i64 cu,.slice x1 x2 x3,.slice y1 y2 y3,.bool qi,.slice n1 n2 n3,.slice e1 e2 e3],.slice ao m c,.slice p np cp] w fun e w'=>e=.returned (.int .i64 41)∧Below w.heap.size w w':=by
 have hb0:=balloc w (.cells #[.int .u8 kd,.int .i64 cu,.slice x1 x2 x3,.slice y1 y2 y3,.bool qi,.slice n1 n2 n3,.slice e1 e2 e3] 30);have hc0:=heap_alloc_new w (.cells #[.int .u8 kd,.int .i64 cu,.slice x1 x2 x3,.slice y1 y2 y3,.bool qi,.slice n1 n2 n3,.slice e1 e2 e3] 30);obtain⟨W,hW⟩:∃W,w.alloc (.cells #[.int .u8 kd,.int .i64 cu,.slice x1 x2 x3,.slice y1 y2 y3,.bool qi,.slice n1 n2 n3,.slice e1 e2 e3] 30)=W:=⟨_,rfl⟩
 rw[hW]at hb0 hc0;have HW:Hid (_=W):=hW;have HB:Hid (Below w.heap.size w W):=hb0;obtain⟨k0,k1,k2,k3,k4,k5,k6⟩:=cells7k hc0;rw[←hW]at k0 k1 k2 k3 k4 k5 k6;clear hb0 hc0 hW;have q2:(kd==2)=false:=by simp[h2]
 by_cases h1:kd=1
 ·subst h1;by_cases h3:0≤cu
  ·have h4:¬cu<(cl:Int):=fun h=>hno ⟨rfl,h3,h⟩;clear hno h2;go_enter Tryz.func7,Tryz.ntmps7;go_wp2_with fail
   rw[HW.out];go_ret;exact⟨rfl,HB.out⟩
  ·clear hno h2;go_enter Tryz.func7,Tryz.ntmps7;go_wp2_with fail
   rw[HW.out];go_ret;exact⟨rfl,HB.out⟩
 ·have q1:(kd==1)=false:=by simp[h1]
  clear hno;go_enter Tryz.func7,Tryz.ntmps7;go_wp2_with fail
  rw[HW.out];go_ret;exact⟨rfl,HB.out⟩
theorem rSigned_no(kd cu:Int)(ca:Option Addr)(cl cc:Nat)(x1:Option Addr)(x2 x3:Nat)(y1:Option Addr)(y2 y3:Nat)(qi:Bool)(n1:Option Addr)(n2 n3:Nat)(e1:Option Addr)(e2 e3:Nat)(ao:Option Addr)(m c:Nat)(ms:List Int)(p:Option Addr)(np cp:Nat)(w:World)(hm:NumIn .u8 256 w ao m c ms)(hmm:m≤1000)(h2:kd≠2)(hno:¬(kd=1∧0≤cu∧cu<(cl:Int))):
  Calls Tryz.prog 8 #[.slice ca cl cc,.agg #[.int .u8 kd,.int .i64 cu,.slice x1 x2 x3,.slice y1 y2 y3,.bool qi,.slice n1 n2 n3,.slice e1 e2 e3],.slice ao m c,.slice p np cp] w fun r w'=>r=.returned (.int .i64 41)∧Below w.heap.size w w':=by
 have hl32:(shaS ms).length=32:=by unfold shaS;exact spreadS_length _
 have hsum:=fun W (hW:Below w.heap.size w W)=>rSum_any ms ao m c W hm.dg (hm.old hW).lies hm.nn (by omega);generalize shaS ms=hh at *;have hb0:=balloc w (.cells #[.int .u8 kd,.int .i64 cu,.slice x1 x2 x3,.slice y1 y2 y3,.bool qi,.slice n1 n2 n3,.slice e1 e2 e3] 30);have hc0:=heap_alloc_new w (.cells #[.int .u8 kd,.int .i64 cu,.slice x1 x2 x3,.slice y1 y2 y3,.bool qi,.slice n1 n2 n3,.slice e1 e2 e3] 30);obtain⟨W,hW⟩:∃W,w.alloc (.cells #[.int .u8 kd,.int .i64 cu,.slice x1 x2 x3,.slice y1 y2 y3,.bool qi,.slice n1 n2 n3,.slice e1 e2 e3] 30)=W:=⟨_,rfl⟩
 rw[hW]at hb0 hc0;have HW:Hid (_=W):=hW;have HS:Hid (W.heap[w.heap.size]?=some (.cells #[.int .u8 kd,.int .i64 cu,.slice x1 x2 x3,.slice y1 y2 y3,.bool qi,.slice n1 n2 n3,.slice e1 e2 e3] 30 (0,0))∧Below w.heap.size w W):=⟨hc0,hb0⟩
 have hsum0:=hsum W hb0;have q2:(kd==2)=false:=by simp[h2]
 clear hb0 hc0 hW hm hsum;go_enter Tryz.func8,Tryz.ntmps8;go_wp2_with fail
 rw[HW.out];clear HW;refine hsum0.mono ?_;rintro r w1 ⟨rfl,d1⟩;have HS1:Hid (w1.heap[w.heap.size]?=some (.cells #[.int .u8 kd,.int .i64 cu,.slice x1 x2 x3,.slice y1 y2 y3,.bool qi,.slice n1 n2 n3,.slice e1 e2 e3] 30 (0,0))∧Below w.heap.size w w1):=⟨blk_old HS.out.1 d1,bstep HS.out.2 d1⟩
 clear HS d1 hsum0;by_cases h1:kd=1
 ·subst h1;by_cases h3:0≤cu
  ·have h4:¬cu<(cl:Int):=fun h=>hno ⟨rfl,h3,h⟩;clear hno h2;go_wp2_with (first
    | ((with_reducible show wpList _ _ _ (Oper.mk _ (Op.alloc 71) _ _ _ _::_) _ _);refine wpList_alloc_row (w:=w1) (by with_reducible rfl) 71 (by with_reducible rfl) .u8 32 Tryz.infoB32 ?_;intro w2 hr2 hb2 hs2)
    | ((with_reducible show wpList _ _ _ (Oper.mk _ (Op.store 71 _ _) _ _ _ _::_) _ _);refine wpList_store_nums (w:=w2) (by with_reducible rfl) 71 _ _ (by with_reducible rfl) .u8 71 32 Tryz.sizeB32 w1.heap.size (List.replicate 32 0) hh (by rfl) (by rfl) hr2 (by simp) hl32 ?_;intro w3 hr3 hb3 hs3 ho3;have B3:Below w1.heap.size w1 w3:=hb2.trans hb3;obtain⟨k0,k1,k2,k3,k4,k5,k6⟩:=cells7k (blk_old HS1.out.1 B3)))
   have HB3:Hid (Below w.heap.size w w3):=bstep HS1.out.2 B3;go_ret;exact⟨rfl,HB3.out⟩
  ·clear hno h2;go_wp2_with (first
    | ((with_reducible show wpList _ _ _ (Oper.mk _ (Op.alloc 71) _ _ _ _::_) _ _);refine wpList_alloc_row (w:=w1) (by with_reducible rfl) 71 (by with_reducible rfl) .u8 32 Tryz.infoB32 ?_;intro w2 hr2 hb2 hs2)
    | ((with_reducible show wpList _ _ _ (Oper.mk _ (Op.store 71 _ _) _ _ _ _::_) _ _);refine wpList_store_nums (w:=w2) (by with_reducible rfl) 71 _ _ (by with_reducible rfl) .u8 71 32 Tryz.sizeB32 w1.heap.size (List.replicate 32 0) hh (by rfl) (by rfl) hr2 (by simp) hl32 ?_;intro w3 hr3 hb3 hs3 ho3;have B3:Below w1.heap.size w1 w3:=hb2.trans hb3;obtain⟨k0,k1,k2,k3,k4,k5,k6⟩:=cells7k (blk_old HS1.out.1 B3)))
   have HB3:Hid (Below w.heap.size w w3):=bstep HS1.out.2 B3;go_ret;exact⟨rfl,HB3.out⟩
 ·have q1:(kd==1)=false:=by simp[h1]
  clear hno;go_wp2_with (first
   | ((with_reducible show wpList _ _ _ (Oper.mk _ (Op.alloc 71) _ _ _ _::_) _ _);refine wpList_alloc_row (w:=w1) (by with_reducible rfl) 71 (by with_reducible rfl) .u8 32 Tryz.infoB32 ?_;intro w2 hr2 hb2 hs2)
   | ((with_reducible show wpList _ _ _ (Oper.mk _ (Op.store 71 _ _) _ _ _ _::_) _ _);refine wpList_store_nums (w:=w2) (by with_reducible rfl) 71 _ _ (by with_reducible rfl) .u8 71 32 Tryz.sizeB32 w1.heap.size (List.replicate 32 0) hh (by rfl) (by rfl) hr2 (by simp) hl32 ?_;intro w3 hr3 hb3 hs3 ho3;have B3:Below w1.heap.size w1 w3:=hb2.trans hb3;obtain⟨k0,k1,k2,k3,k4,k5,k6⟩:=cells7k (blk_old HS1.out.1 B3)))
  have HB3:Hid (Below w.heap.size w w3):=bstep HS1.out.2 B3;go_ret;exact⟨rfl,HB3.out⟩
section
variable {P : Program} {ops : Array Oper} {Q : Exit → Act → World → Prop} {md : Region.Mode}
structure GV(md:Region.Mode)(ops:Array Oper)(rd:List (List Nat))(Fs:List (List Value→World→Prop))(a0:Act)(V:Array Bool→World→Prop)(listed:Array Bool)(a:Act)(w:World):Prop where
 size:listed.size=ops.size
 defers:a.defers=a0.defers
 slots:a.tmps.size=a0.tmps.size
 old:∀s,(∀j,listed.getD j false=true→dstIs ops j s=false)→a.tmps.getD s undef=a0.tmps.getD s undef
 inv:V listed w
 facts:∀j,listed.getD j false=true→Fs.getD j (fun _ _=>True) ((rd.getD j []).map fun s=>a.tmps.getD s undef) w
 down:∀j,listed.getD j false=true→∀e∈needsOf md ops j,listed.getD e false=true
theorem GV.deep{rd:List (List Nat)}{Fs:List (List Value→World→Prop)}{a0:Act}{V:Array Bool→World→Prop}{listed:Array Bool}{a:Act}{w:World}(h:GV md ops rd Fs a0 V listed a w){i:Nat}(hr:∀e∈needsOf md ops i,listed.getD e false=true)(n e:Nat)(he:e∈reachOf md ops n i):Fs.getD e (fun _ _=>True) ((rd.getD e []).map fun s=>a.tmps.getD s undef) w:=
 h.facts e (reachN_sound (T:=fun j=>listed.getD j false=true) (fun x hx j hj=>h.down x hx j hj) n _ hr e he)
theorem GV.stays{rd:List (List Nat)}{Fs:List (List Value→World→Prop)}{a0:Act}{V:Array Bool→World→Prop}{listed:Array Bool}{a:Act}{w:World}(h:GV md ops rd Fs a0 V listed a w){i:Nat}(hi:listed.getD i false=false)(n s:Nat)(hs:(List.range ops.size).all (fun j => !dstIs ops j s||(reachOf md ops n j).contains i||decide (i=j))=true):a.tmps.getD s undef=a0.tmps.getD s undef:=by
 refine h.old s fun j hj => ?_;rw[List.all_eq_true]at hs;by_cases hjs:j<ops.size
 ·have:=hs j (List.mem_range.2 hjs);rw[Bool.or_eq_true,Bool.or_eq_true]at this;rcases this with(this|this)|this
  ·simpa using this
  ·have hm:i∈reachOf md ops n j:=by simpa using this
   have:=reachN_sound (md:=md) (ops:=ops) (T:=fun j=>listed.getD j false=true) (fun x hx j hj=>h.down x hx j hj) n _ (h.down j hj) i hm;rw[hi]at this
   cases this
  ·have:i=j:=by simpa using this
   rw[this,hj]at hi
   cases hi
 ·unfold dstIs;rw[Array.getElem?_eq_none (by omega)]
def GVStep(P:Program)(Q:Exit→Act→World→Prop)(ops:Array Oper)(rd:List (List Nat))(Fs:List (List Value→World→Prop))(V:Array Bool→World→Prop)(i:Nat)(o:Oper)(listed:Array Bool)(a:Act)(w:World):Prop:=
 ∀KK:Act→World→Prop,
  (∀v w',V (listed.setIfInBounds i true) w'→(∀j vs,listed.getD j false=true→Fs.getD j (fun _ _=>True) vs w→Fs.getD j (fun _ _=>True) vs w')→Fs.getD i (fun _ _=>True) ((rd.getD i []).map fun s=>(a.put o.dst v).tmps.getD s undef) w'→KK (a.put o.dst v) w') →
  if Region.wanted o (yielded ops a.tmps)=true then o.wp P a w KK Q else KK (a.put o.dst undef) w
theorem wpAny_inv(n : Nat)(rd : List (List Nat))(Fs : List (List Value → World → Prop))(ord : List Nat)(a0 : Act)(V : Array Bool → World → Prop)(hok : framesOk md ops n rd = true)(hord : orderOk md ops ord [] = true)
  (step:∀i o,ops[i]?=some o→∀listed a w,GV md ops rd Fs a0 V listed a w→listed.getD i false=false→(∀e∈needsOf md ops i,listed.getD e false=true)→GVStep P Q ops rd Fs V i o listed a w)
  (done:∀listed a w,GV md ops rd Fs a0 V listed a w→(∀i,i<ops.size→listed.getD i false=true)→Q .normal a w):
  ∀k listed a w,GV md ops rd Fs a0 V listed a w→unl ops.size listed=k→wpAny P md ops Q k listed a w
 | 0, listed, a, w, h, hk => by
  have hall:∀i,i<ops.size→listed.getD i false=true:=fun i hi=>by have h1:(List.range ops.size).filter (fun j => !listed.getD j false)=[]:=List.length_eq_zero_iff.1 hk;rw[List.filter_eq_nil_iff]at h1;have:=h1 i (List.mem_range.2 hi);simpa using this
  refine⟨?_,done listed a w h hall⟩
  cases hr:Region.ready md ops listed with
  | nil=>rfl
  | cons i l=>
   obtain⟨h1,h2,_⟩:=ready_mem (md:=md) (ops:=ops) (listed:=listed) (i:=i) (by rw[hr];exact List.mem_cons_self);rw[getD_or _ _ (by rw[h.size];exact h1),hall i h1]at h2
   cases h2
 | k + 1, listed, a, w, h, hk => by
  refine⟨fun hr => ?_,fun i hi => ?_⟩
  ·rcases order_all ord [] listed hord (fun i hi=>by cases hi) h.size with h1|⟨i,hi⟩
   ·exact done listed a w h h1
   ·rw[hr]at hi;cases hi
  ·obtain⟨hi1,hi2,o,ho,hd⟩:=ready_mem hi;rw[getD_or _ _ (by rw[h.size];omega)]at hi2;have hneed:∀e∈needsOf md ops i,listed.getD e false=true:=fun e he=>by
    obtain⟨e',h1,h2,rfl⟩:=(needs_mem i o ho e).1 he;exact hd e' h1 h2
   unfold wpOp;rw[ho];simp only
   have hs := step i o ho listed a w h hi2 hneed (wpAny P md ops Q k (listed.setIfInBounds i true)) (by
    intro v w' hb hkeep hnew;refine wpAny_inv n rd Fs ord a0 V hok hord step done k _ _ _ ?_ ?_
    ·have hput:∀s,dstIs ops i s=false→(a.put o.dst v).tmps.getD s undef=a.tmps.getD s undef:=fun s hs=>by
      unfold dstIs at hs;rw[ho]at hs
      cases hdst:o.dst with
      | none=>rfl
      | some d=>
       refine put_get _ _ _ _ ?_;rintro rfl;simp[hdst]at hs
     refine⟨by simp[h.size],?_,?_,?_,hb,?_,?_⟩
     ·cases hdst:o.dst<;>exact h.defers
     ·rw[←h.slots]
      cases hdst:o.dst with
      | none=>rfl
      | some d=>simp[Act.put]
     ·intro s hs;have h1:=hs i (by rw[lget_set _ _ _ (by rw[h.size];omega),if_pos rfl]);rw[hput s h1];refine h.old s fun j hj=>hs j ?_;rw[lget_set _ _ _ (by rw[h.size];omega)];split
      ·rfl
      ·exact hj
     ·intro j hj;rw[lget_set _ _ _ (by rw[h.size];omega)]at hj;by_cases hij:i=j
      ·subst hij;exact hnew
      ·rw[if_neg hij]at hj;have h5:=hkeep j _ hj (h.facts j hj);have e:((rd.getD j []).map fun s=>(a.put o.dst v).tmps.getD s undef)=((rd.getD j []).map fun s=>a.tmps.getD s undef):=by
        apply List.map_congr_left;intro s hs;refine hput s ?_;unfold framesOk at hok;rw[List.all_eq_true]at hok;have h6:=hok i (List.mem_range.2 hi1);rw[Bool.and_eq_true,List.all_eq_true,List.all_eq_true]at h6;by_cases hjs:j<ops.size
        ·have h7:=h6.2 j (List.mem_range.2 hjs);rw[List.all_eq_true]at h7;have h8:=h7 s hs;rw[Bool.or_eq_true,Bool.or_eq_true]at h8;rcases h8 with(h8|h8)|h8
         ·simpa using h8
         ·exact absurd (by simpa using h8) hij
         ·have hm:i∈reachOf md ops n j:=by simpa using h8
          have:=reachN_sound (md:=md) (ops:=ops) (T:=fun j=>listed.getD j false=true) (fun x hx j hj=>h.down x hx j hj) n _ (h.down j hj) i hm;rw[hi2]at this
          cases this
        ·have:listed.getD j false=false:=by
          simp only[Array.getD_eq_getD_getElem?];rw[Array.getElem?_eq_none (by rw[h.size];omega)];rfl
         rw[this]at hj
         cases hj
       rw[e];exact h5
     ·intro j hj e he;rw[lget_set _ _ _ (by rw[h.size];omega)]at hj ⊢;by_cases hie:i=e
      ·rw[if_pos hie]
      ·rw[if_neg hie];by_cases hij:i=j
       ·subst hij;exact hneed e he
       ·rw[if_neg hij]at hj;exact h.down j hj e he
    ·have:=unl_set ops.size listed i hi1 (by rw[h.size];omega) hi2;omega)
   by_cases hw:Region.wanted o (yielded ops a.tmps)=true
   ·rw[if_pos hw]at hs ⊢;exact .inl hs
   ·rw[if_neg hw]at hs ⊢;exact hs
theorem wp_region_inv{id:Nat}{a0:Act}{w0:World}(V:Array Bool→World→Prop)(hV0:V (Array.replicate ops.size false) w0.drew)(n:Nat)(rd:List (List Nat))(Fs:List (List Value→World→Prop))(ord:List Nat)(hmx:P.follows .mixedOrders=true)(hok:framesOk .any ops n rd=true)(hord:orderOk .any ops ord []=true)
  (step:∀i o,ops[i]?=some o→∀listed a w,GV .any ops rd Fs a0 V listed a w→listed.getD i false=false→(∀e∈needsOf .any ops i,listed.getD e false=true)→GVStep P Q ops rd Fs V i o listed a w)
  (done:∀listed a w,GV .any ops rd Fs a0 V listed a w→(∀i,i<ops.size→listed.getD i false=true)→Q .normal a w):(Code.region id ops true).wp P Q a0 w0:=by
 have hrep:∀i,(Array.replicate ops.size false).getD i false=false:=fun i=>by
  simp only[Array.getD_eq_getD_getElem?];by_cases h:i<ops.size
  ·rw[Array.getElem?_eq_getElem (by simpa using h)];simp
  ·rw[Array.getElem?_eq_none (by simpa using Nat.le_of_not_lt h)];rfl
 refine wp_region_any hmx ?_;have hu:unl ops.size (Array.replicate ops.size false)=ops.size:=by
  unfold unl;have:(List.range ops.size).filter (fun j => !(Array.replicate ops.size false).getD j false)=List.range ops.size:=by rw[List.filter_eq_self];intro j _;rw[hrep];rfl
  rw[this,List.length_range]
 exact wpAny_inv (P:=P) (Q:=Q) (md:=.any) n rd Fs ord a0 V hok hord step done ops.size (Array.replicate ops.size false) a0 w0.drew ⟨by simp,rfl,rfl,fun _ _=>rfl,hV0,fun i hl=>(by rw[hrep]at hl;cases hl),fun i hl=>(by rw[hrep]at hl;cases hl)⟩ hu
theorem GV.keptQ{md:Region.Mode}{rd:List (List Nat)}{Fs:List (List Value→World→Prop)}{a0:Act}{V:Array Bool→World→Prop}{listed:Array Bool}{a:Act}{w:World}(h:GV md ops rd Fs a0 V listed a w)(s:Nat)(hs:(List.range ops.size).all (fun j => !dstIs ops j s)=true):a.tmps.getD s undef=a0.tmps.getD s undef:=by
 refine h.old s fun j _ => ?_;rw[List.all_eq_true]at hs;by_cases hjs:j<ops.size
 ·simpa using hs j (List.mem_range.2 hjs)
 ·unfold dstIs;rw[Array.getElem?_eq_none (by omega)]
end
end
section
open Go.RowKit Go.Shelf
theorem own_storeK{w w':World}{B:Nat}{v:Value}{xs:List Int}{r:Nat}{x3 x4 x5 x6:Value}{k c:Int}{b:Bool}(h:Own 3 .i64 w B v xs)(hs:KyB w r x3 x4 x5 x6 k c b)(hb:Bt r w w'):Own 3 .i64 w' B v xs:=by
 refine⟨h.1,?_⟩;rcases h.2 with h0|⟨g,cap,cur,rfl,hg,hrow,q⟩
 ·exact .inl h0
 ·refine .inr ⟨g,cap,cur,rfl,hg,?_,q⟩;rw[hb.block g (Array.getElem?_eq_some_iff.1 hrow).1 (fun e=>by
   subst e;unfold KyB at hs;rw[hrow]at hs;injection hs with hs;injection hs with _ ht _;exact absurd ht (by decide))]
  exact hrow
def KyS (r:Nat)(w w':World):Prop:=KyB w r (.slice none 0 0) (.slice none 0 0) (.slice none 0 0) (.slice none 0 0) 0 0 false∧Bt r w w'
def Fg.num(r:Nat)(n:Int):Fg (KyS r):=⟨fun vs W=>RvO W (vs.getD 0 undef) n,fun vs w w' hb h=>by
 obtain⟨B,xs,h1,h2⟩:=h;exact⟨B,xs,h1.below hb,h2⟩,fun vs w w' hs h=>by
 obtain⟨B,xs,h1,h2⟩:=h;exact⟨B,xs,own_storeK h1 hs.1 hs.2,h2⟩⟩
def Fg.nv(r:Nat)(n:Int)(L:Nat):Fg (KyS r):=⟨fun vs W=>Nv W (vs.getD 0 undef) n L,fun vs w w' hb h=>h.old hb,fun vs w w' hs h=>h.apartK hs.1 hs.2⟩
def Fg.pa(r:Nat)(x y:Int)(L:Nat):Fg (KyS r):=⟨fun vs W=>∃vx vy,vs.getD 0 undef=.agg #[vx,vy,.bool false]∧Nv W vx x L∧Nv W vy y L,fun vs w w' hb h=>by
 obtain⟨vx,vy,h1,h2,h3⟩:=h;exact⟨vx,vy,h1,h2.old hb,h3.old hb⟩,fun vs w w' hs h=>by
 obtain⟨vx,vy,h1,h2,h3⟩:=h;exact⟨vx,vy,h1,h2.apartK hs.1 hs.2,h3.apartK hs.1 hs.2⟩⟩
def Fg.ka(r:Nat)(j x y:Int)(L:Nat):Fg (KyS r):=⟨fun vs W=>∃vx vy,vs.getD 0 undef=.agg #[.int .u8 1,.int .i64 j,vx,vy,.bool false,.slice none 0 0,.slice none 0 0]∧Nv W vx x L∧Nv W vy y L,fun vs w w' hb h=>by
 obtain⟨vx,vy,h1,h2,h3⟩:=h;exact⟨vx,vy,h1,h2.old hb,h3.old hb⟩,fun vs w w' hs h=>by
 obtain⟨vx,vy,h1,h2,h3⟩:=h;exact⟨vx,vy,h1,h2.apartK hs.1 hs.2,h3.apartK hs.1 hs.2⟩⟩
def Fg.st(r:Nat)(j x y:Int)(L:Nat):Fg (KyS r):=⟨fun vs W=>∃vx vy,KyB W r vx vy (.slice none 0 0) (.slice none 0 0) 1 j false∧Nv W vx x L∧Nv W vy y L,fun vs w w' hb h=>by
 obtain⟨vx,vy,h1,h2,h3⟩:=h;exact⟨vx,vy,blk_old h1 hb,h2.old hb,h3.old hb⟩,fun vs w w' hs h=>by
 obtain⟨vx,vy,h1,h2,h3⟩:=h;have h4:=hs.1;unfold KyB at h1 h4;rw[h1]at h4;injection h4 with h4;injection h4 with h4;exact absurd (congrArg (fun a=>a[0]?) h4) (by simp)⟩
def VK (w W1:World)(m:Nat)(listed:Array Bool)(W:World):Prop:=Below w.heap.size w W∧(listed.getD m false=false→Below W1.heap.size W1 W)
section
variable {ops : Array Oper} {rd : List (List Nat)} {a0 : Act} {w0 W1 : World} {m : Nat} {listed : Array Bool} {a : Act} {w : World}
theorem GV.yet{Fs:List (List Value→World→Prop)}(h:GV .any ops rd Fs a0 (VK w0 W1 m) listed a w){i:Nat}(hi:listed.getD i false=false)(hm:i∈needsOf .any ops m):listed.getD m false=false:=by
 cases hc:listed.getD m false with
 | false=>rfl
 | true=>have:=h.down m hc i hm;rw[hi]at this;cases this
theorem GV.growK{r:Nat}{fs:List (Fg (KyS r))}(h:GV .any ops rd (fs.map Fg.sem) a0 (VK w0 W1 m) listed a w){i:Nat}(him:i≠m){dst:Option Tmp}{KK:Act→World→Prop}
  (hK:∀v w',VK w0 W1 m (listed.setIfInBounds i true) w'→(∀j vs,listed.getD j false=true→(fs.map Fg.sem).getD j (fun _ _=>True) vs w→(fs.map Fg.sem).getD j (fun _ _=>True) vs w')→(fs.map Fg.sem).getD i (fun _ _=>True) ((rd.getD i []).map fun s=>(a.put dst v).tmps.getD s undef) w'→KK (a.put dst v) w') (v:Value) (w':World) (hb:Below w.heap.size w w') (hf:(fs.map Fg.sem).getD i (fun _ _=>True) ((rd.getD i []).map fun s=>(a.put dst v).tmps.getD s undef) w'):KK (a.put dst v) w':=
 hK v w' ⟨bstep h.inv.1 hb,fun hl=>by
  have e:(listed.setIfInBounds i true).getD m false=listed.getD m false:=by simp only[Array.getD_eq_getD_getElem?];rw[Array.getElem?_setIfInBounds_ne him]
  rw[e]at hl;exact bstep (h.inv.2 hl) hb⟩ (fun j vs _ hj=>fg_keep fs j vs hb hj) hf
theorem GV.fillK{r:Nat}{fs:List (Fg (KyS r))}(h:GV .any ops rd (fs.map Fg.sem) a0 (VK w0 W1 m) listed a w)(hms:m<listed.size){dst:Option Tmp}{KK:Act→World→Prop}
  (hK:∀v w',VK w0 W1 m (listed.setIfInBounds m true) w'→(∀j vs,listed.getD j false=true→(fs.map Fg.sem).getD j (fun _ _=>True) vs w→(fs.map Fg.sem).getD j (fun _ _=>True) vs w')→(fs.map Fg.sem).getD m (fun _ _=>True) ((rd.getD m []).map fun s=>(a.put dst v).tmps.getD s undef) w'→KK (a.put dst v) w') (v:Value) (w':World) (hr:w0.heap.size≤r) (hs:KyS r w w') (hf:(fs.map Fg.sem).getD m (fun _ _=>True) ((rd.getD m []).map fun s=>(a.put dst v).tmps.getD s undef) w'):KK (a.put dst v) w':=
 hK v w' ⟨h.inv.1.trans (hs.2.below hr h.inv.1.size),fun hl=>by
  have e:(listed.setIfInBounds m true).getD m false=true:=by simp only[Array.getD_eq_getD_getElem?];rw[Array.getElem?_setIfInBounds_self_of_lt hms];rfl
  rw[e]at hl
  cases hl⟩ (fun j vs _ hj=>fg_store fs j vs hs hj) hf
end
end
section
open Go.RowKit
end
section
open Go.Shelf Go.RowKit
end
section
open Go.RowKit Go.ChangeShapes Go.WideShapes Go.ChangeShapes
theorem trod_struct3{H:Type}{enc:TypeId × Value→H}{P:Program}{w:World}{base:Nat}{spare:Nat→Bool}{held:Bool}{t:TypeId}{f0 f1 f2:Field}{fuel:Nat}{cs:List Value}{x:DataW H × List MemPlace}(ht:P.underlying t=some (.struct #[f0,f1,f2]))(h:DataW.trod enc P w base spare held fuel t cs=some x):
  ∃y0 y1 y2 n,cs.length=P.cellsOf t∧DataW.trod enc P w base spare held n f0.type ((cs.drop f0.offset).take (P.cellsOf f0.type))=some y0 ∧
   DataW.trod enc P w base spare held n f1.type ((cs.drop f1.offset).take (P.cellsOf f1.type))=some y1∧DataW.trod enc P w base spare held n f2.type ((cs.drop f2.offset).take (P.cellsOf f2.type))=some y2:=by
 obtain⟨xs,n,_,rfl,hl,hlen,hf⟩:=DataW.trod_struct ht h;match xs,hlen with
 | [y0,y1,y2],_=>exact⟨y0,y1,y2,n,hl,by simpa using hf 0 f0 rfl,by simpa using hf 1 f1 rfl,by simpa using hf 2 f2 rfl⟩
theorem open_nat{H:Type}{enc:TypeId × Value→H}{w:World}{held:Bool}{n:Nat}(v:Value)(y:DataW H × List MemPlace)(g:DataW.trod enc Tryz.prog w 0 (fun _=>true) held n 24 [v]=some y):∃a l c z,v=.slice a l c∧Came .u64 w a l c z:=by
 rcases open_ints Tryz.underlying24 Tryz.underlying47 (by kernel_rfl) g with⟨hcs,_⟩|⟨x,l,c,zs,hcs,_,hl,hm,hz,_,hcell,hwz⟩
 ·cases hcs
  exact⟨none,0,0,[],rfl,.inl ⟨rfl,rfl,rfl,rfl⟩⟩
 ·cases hcs
  exact⟨_,_,_,zs,rfl,.inr ⟨_,rfl,hl,hm,by simpa using hz,hcell,hwz⟩⟩
theorem ptFields:∃f0 f1 f2:Field,Tryz.prog.underlying 26=some (.struct #[f0,f1,f2])∧f0.offset=0∧f1.offset=1∧f2.offset=2∧f0.type=24∧f1.type=24∧f2.type=4:=⟨_,_,_,Tryz.underlying26,rfl,rfl,rfl,rfl,rfl,rfl⟩
theorem open_pt{H:Type}{enc:TypeId × Value→H}{w:World}{held:Bool}{fuel:Nat}{cs:Array Value}{x:DataW H × List MemPlace}(h:DataW.trod enc Tryz.prog w 0 (fun _=>true) held fuel 26 cs.toList=some x):
  ∃(a1:Option Addr) (l1 c1:Nat) (z1:List Int) (a2:Option Addr) (l2 c2:Nat) (z2:List Int) (b:Bool),cs=#[.slice a1 l1 c1,.slice a2 l2 c2,.bool b]∧Came .u64 w a1 l1 c1 z1∧Came .u64 w a2 l2 c2 z2:=by
 obtain⟨f0,f1,f2,hu,o0,o1,o2,t0,t1,t2⟩:=ptFields;have hc:Tryz.prog.cellsOf 24=1:=by kernel_rfl
 have hcb:Tryz.prog.cellsOf 4=1:=by kernel_rfl
 have hc3:Tryz.prog.cellsOf 26=3:=by kernel_rfl
 obtain⟨y0,y1,y2,n,hl,g0,g1,g2⟩:=trod_struct3 hu h;rw[hc3]at hl;rw[o0,t0,hc]at g0;rw[o1,t1,hc]at g1;rw[o2,t2,hcb]at g2;obtain⟨v0,v1,v2,hcs⟩:∃v0 v1 v2,cs.toList=[v0,v1,v2]:=by
  match hh:cs.toList,hl with
  | [v0,v1,v2],_=>exact⟨v0,v1,v2,rfl⟩
 rw[hcs]at g0 g1 g2;simp only[List.drop_zero,List.drop_succ_cons,List.take_succ_cons,List.take_zero]at g0 g1 g2;obtain⟨a1,l1,c1,z1,rfl,w1⟩:=open_nat _ _ g0;obtain⟨a2,l2,c2,z2,rfl,w2⟩:=open_nat _ _ g1;obtain⟨b,rfl⟩:∃b,v2=.bool b:=by
  obtain⟨b,e0,_⟩:=DataW.trod_bool Tryz.underlying4 g2
  cases e0
  exact⟨b,rfl⟩
 exact⟨a1,l1,c1,z1,a2,l2,c2,z2,b,Array.ext' hcs,w1,w2⟩
theorem sgFields:∃f0 f1:Field,Tryz.prog.underlying 32=some (.struct #[f0,f1])∧f0.offset=0∧f1.offset=1∧f0.type=5∧f1.type=5:=⟨_,_,Tryz.underlying32,rfl,rfl,rfl,rfl⟩
theorem open_sg{H:Type}{enc:TypeId × Value→H}{w:World}{held:Bool}{fuel:Nat}{cs:Array Value}{x:DataW H × List MemPlace}(h:DataW.trod enc Tryz.prog w 0 (fun _=>true) held fuel 32 cs.toList=some x):
  ∃(k s:Int),cs=#[.int .u8 k,.int .u8 s]∧(0≤k∧k<256)∧(0≤s∧s<256):=by
 obtain⟨f0,f1,hu,o0,o1,t0,t1⟩:=sgFields;have hc:Tryz.prog.cellsOf 5=1:=by kernel_rfl
 have hc2:Tryz.prog.cellsOf 32=2:=by kernel_rfl
 obtain⟨y0,y1,n,_,hl,g0,g1⟩:=trod_struct2 hu h;rw[hc2]at hl;rw[o0,t0,hc]at g0;rw[o1,t1,hc]at g1;obtain⟨v0,v1,hcs⟩:∃v0 v1,cs.toList=[v0,v1]:=by
  match hh:cs.toList,hl with
  | [v0,v1],_=>exact⟨v0,v1,rfl⟩
 rw[hcs]at g0 g1;simp only[List.drop_zero,List.drop_succ_cons,List.take_succ_cons,List.take_zero]at g0 g1;have one:∀(v:Value) (y:DataW H × List MemPlace),DataW.trod enc Tryz.prog w 0 (fun _=>true) held n 5 [v]=some y→∃t,v=.int .u8 t∧(0≤t∧t<256):=fun v y g=>by
  obtain⟨z,e0,_,hz⟩:=DataW.trod_int (k:=.u8) Tryz.underlying5 g
  cases e0
  exact⟨z,rfl,word_u8 hz⟩
 obtain⟨k,rfl,hk⟩:=one _ _ g0;obtain⟨s,rfl,hs⟩:=one _ _ g1;exact⟨k,s,Array.ext' hcs,hk,hs⟩
end
section
open Go.RowKit Go.Shelf
section
variable {P N : Nat} [NeZero P] {K : Cz}
theorem mt_rounds(g:GoodK K P){G:Pz}(hG:Gd K P G)(hN:Mt K P G N noZ){a:Nat}{p:Pz}(h:Mt K P G a p)(k:Nat):Mt K P G (a+k*N) p:=by
 induction k with
 | zero=>rwa [Nat.zero_mul,Nat.add_zero]
 | succ k ih=>rw[Nat.succ_mul,←Nat.add_assoc];exact Mt.round g hG hN ih
theorem mt_same(g:GoodK K P){G:Pz}(hG:Gd K P G)(hN:Mt K P G N noZ){a b:Nat}(hab:a%N=b%N){p:Pz}(h:Mt K P G a p):Mt K P G b p:=by
 obtain⟨q,hq⟩:=mt_ex g hG (a%N);have h1:=mt_rounds g hG hN hq (a/N);have h2:=mt_rounds g hG hN hq (b/N);rw[Nat.mul_comm,Nat.mod_add_div]at h1;rw[hab,Nat.mul_comm,Nat.mod_add_div]at h2;have h2':Mt K P G b q:=by have:=mt_rounds g hG hN hq (b/N);rw[hab,Nat.mul_comm,Nat.mod_add_div]at this;exact this
 rwa [Mt.uniq g h h1]
theorem mt_comp(g:GoodK K P){G:Pz}(hG:Gd K P G){a:Nat}{q:Pz}(hq:Mt K P G a q)(k:Nat):∀p,Mt K P q k p→Mt K P G (k*a) p:=by
 have hgq:=hq.gd hG;induction k with
 | zero=>
  intro p hp;rw[Nat.zero_mul,Mt.uniq g hp Mt.zero];exact Mt.zero
 | succ k ih=>
  intro p hp;obtain⟨p0,h0⟩:=mt_ex g hgq k;obtain⟨s,hs⟩:=add_some g p0 q;obtain⟨s1,e1,h1⟩:=Mt.add g hgq h0 (Mt.one g hgq) hs;injection e1 with e1;subst e1;rw[Mt.uniq g hp h1,Nat.succ_mul];obtain⟨s2,e2,h2⟩:=Mt.add g hG (ih p0 h0) hq hs;injection e2 with e2;subst e2;exact h2
theorem mt_fin(R:RightK K P N)(hp:PrimeN N)(hb:(baseZ K).inf=false){m:Nat}(h0:0<m)(hm:m<N){q:Pz}(h:Mt K P (baseZ K) m q):q.inf=false:=by
 cases hi:q.inf with
 | false=>rfl
 | true =>
  exfalso;have hN0:0<N:=by omega
  have e : q = noZ := by
   have h1:=h.1;unfold RdP at h1;rw[hi,if_pos rfl]at h1;first
    | exact h1
    | (obtain ⟨qx, qy, qi⟩ := q
       simp only at h1 hi;unfold noZ;obtain⟨ha,hb⟩:=h1;subst ha hb hi;rfl)
  rw[e]at h;have hg:=gd_prime hp (m:Int) (by omega) (by omega);obtain⟨i,hi0,hi1,hi2⟩:=inv_ex (m:=(N:Int)) (a:=(m:Int)) (by omega) hg;have h2:=Mt.times R.good R.base h i.toNat;have e2:(i.toNat*m)%N=1%N:=by
   have:=hi2.emod;have e3:((i.toNat*m:Nat):Int)=i*m:=by rw[Int.natCast_mul];congr 1;omega
   rw[←e3]at this
   exact_mod_cast this
  have h3:=mt_same R.good R.base R.ord e2 h2;have h4:=Mt.uniq R.good h3 (Mt.one R.good R.base);rw[←h4]at hb
  cases hb
theorem sgn_ver(R:RightK K P N)(hp:PrimeN N){z secret draw r s:Int}{q:Pz}(h1:0<secret)(h2:secret<N)(hd:0<draw∧draw<N)(hq:Mt K P (baseZ K) secret.toNat q)(h:SgnZ K P z secret draw r s):VerZ K P q z r s true:=by
 obtain⟨p,i,hpp,hpi,rfl,hr0,⟨hi0,hi1,hi2⟩,hs,hs0⟩:=h;have hN0:(0:Int)<N:=by omega
 have hqi:=mt_fin R hp rfl (by omega) (by omega) hq;have hon:=on_good R.good (hq.gd R.base);have hn:=R.n;rw[hn]at hi1 hi2 hs hr0 ⊢;obtain⟨r,hr⟩:∃r,p.x%(N:Int)=r:=⟨_,rfl⟩
 rw[hr]at hs hr0 ⊢;have rr:0≤r∧r<N:=by rw[←hr];exact⟨Int.emod_nonneg _ (by omega),Int.emod_lt_of_pos _ hN0⟩
 have rs:0≤s∧s<N:=by rw[hs];exact⟨Int.emod_nonneg _ (by omega),Int.emod_lt_of_pos _ hN0⟩
 have hg:=gd_prime hp s (by omega) rs.2;obtain⟨y,hy0,hy1,hy2⟩:=inv_ex (m:=(N:Int)) (a:=s) hN0 hg;obtain⟨p1,hp1⟩:=mt_ex R.good R.base ((z*y)%(N:Int)).toNat;obtain⟨p2,hp2⟩:=mt_ex R.good (hq.gd R.base) ((r*y)%(N:Int)).toNat;obtain⟨p3,hp3⟩:=add_some R.good p1 p2;have hc:=mt_comp R.good R.base hq _ _ hp2;obtain⟨p4,e4,h4⟩:=Mt.add R.good R.base hp1 hc hp3;injection e4 with e4;subst e4;have g1:=Int.emod_nonneg (z*y) (b:=(N:Int)) (by omega);have g2:=Int.emod_nonneg (r*y) (b:=(N:Int)) (by omega);have key:Cg (N:Int) ((z*y)%N+(r*y)%N*secret) draw:=by
  have c1:Cg (N:Int) ((z*y)%N+(r*y)%N*secret) (z*y+r*y*secret):=(Cg.mod _ _).add ((Cg.mod _ _).mul (Cg.refl _ _));have c2:Cg (N:Int) s ((z+r*secret)*i):=by rw[hs];exact(Cg.mod _ _).trans (((Cg.mod _ _).trans ((Cg.refl _ _).add (Cg.mod _ _))).mul (Cg.refl _ _))
  have c3:Cg (N:Int) (y*((z+r*secret)*i)*draw) draw:=by
   have:=((Cg.refl (N:Int) y).mul c2).symm.trans hy2;have:=this.mul (Cg.refl _ draw)
   rwa [Int.one_mul]at this
  have c4:Cg (N:Int) (y*((z+r*secret)*i)*draw) (z*y+r*y*secret):=by
   have:=(Cg.refl (N:Int) (z*y+r*y*secret)).mul hi2;rw[Int.mul_one]at this;refine Cg.trans (Cg.of_eq ?_) this
   grind
  exact c1.trans (c4.symm.trans c3)
 have e5:(((z*y)%(N:Int)).toNat+((r*y)%(N:Int)).toNat*secret.toNat)%N=draw.toNat%N:=by
  have:=key.emod;have e6:(((((z*y)%(N:Int)).toNat+((r*y)%(N:Int)).toNat*secret.toNat:Nat)):Int)=(z*y)%N+(r*y)%N*secret:=by rw[Int.natCast_add,Int.natCast_mul,Int.toNat_of_nonneg g1,Int.toNat_of_nonneg g2,Int.toNat_of_nonneg (by omega)]
  have e7:((draw.toNat:Nat):Int)=draw:=by omega
  rw[←e6,←e7]at this
  exact_mod_cast this
 have h5:=mt_same R.good R.base R.ord e5 h4;have e8:=Mt.uniq R.good h5 hpp;subst e8;refine .inr ⟨?_,y,p1,p2,p3,?_,?_,?_,hp3,?_⟩
 ·unfold VerNo;rw[hn,hqi,hon,hg];intro hno;rcases hno with h|h|h|h|h
  ·cases h
  ·cases h
  ·exact h ⟨by omega,rr.2⟩
  ·exact h ⟨by omega,rs.2⟩
  ·exact h rfl
 ·rw[hn];exact⟨hy0,hy1,hy2⟩
 ·rw[hn];exact hp1
 ·rw[hn];exact hp2
 ·rw[hpi,hn,hr];simp
end
theorem curS31(j:Nat):S31 (curZ j).p∧S31 (curZ j).a∧S31 (curZ j).b∧S31 (curZ j).gx∧S31 (curZ j).gy∧S31 (curZ j).n:=by unfold curZ S31;split<;>decide
theorem curN(j:Nat)(hj:j<3):0<(curZ j).n:=by
 match j,hj with
 | 0,_=>decide
 | 1,_=>decide
 | 2,_=>decide
theorem primeN0:PrimeN 271:=prime_below (by decide) (by decide +kernel)
theorem primeN1:PrimeN 9851:=prime_below (by decide) (by decide +kernel)
theorem primeN2:PrimeN 65761:=by
 refine prime_root fun d h2 hd => ?_;have hl:d<300:=by
  rcases Nat.lt_or_ge d 300 with h3|h3
  ·exact h3
  ·have:=Nat.mul_le_mul h3 h3;omega
 have h:∀d,d<300→2≤d→65761%d≠0∨65761<d*d:=by decide +kernel
 rcases h d hl h2 with h4|h4
 ·exact h4
 ·omega
theorem curRightN(j:Nat)(hj:j<3):∃P N,∃_:NeZero P,RightK (curZ j) P N∧PrimeN N∧270<N∧N<65762∧2<P:=by
 match j,hj with
 | 0,_=>exact⟨251,271,inferInstance,right0,primeN0,by decide,by decide,by decide⟩
 | 1,_=>exact⟨10007,9851,inferInstance,right1,primeN1,by decide,by decide,by decide⟩
 | 2,_=>exact⟨65521,65761,inferInstance,right2,primeN2,by decide,by decide,by decide⟩
end
end Go.Proofs.YtkhnnhbmchnajaaGreat
