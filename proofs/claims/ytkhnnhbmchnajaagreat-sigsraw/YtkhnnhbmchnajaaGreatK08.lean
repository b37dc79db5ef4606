import Derived.Test.YtkhnnhbmchnajaaGreatK07
import Derived.Test.YtkhnnhbmchnajaaGreatK05
import Derived.Test.YtkhnnhbmchnajaaGreatK00
import Derived.Test.YtkhnnhbmchnajaaGreatK06
import Derived.Test.YtkhnnhbmchnajaaGreatK01
import Derived.Test.YtkhnnhbmchnajaaGreatK02
import Derived.Test.YtkhnnhbmchnajaaGreatK03
import Derived.RangeFuncNested
import Derived.RangeFuncBound
import Derived.RangeFuncCalls
import Derived.RangeFuncLeaves
import Derived.Shelf.Abstract
import Derived.Shelf.RegionOpen
import Derived.OwnWalkIn
import Derived.TacticsInMore
import Derived.LoopNIn
import Derived.LoopIn
import Derived.Stop.RegionWithIn
import Derived.Maps.OwnIn
set_option maxRecDepth 100000
set_option maxHeartbeats 40000000
set_option linter.unusedVariables false
set_option linter.unusedSimpArgs false
namespace Go.Proofs.YtkhnnhbmchnajaaGreat
section
open Go.Shelf Go.RowKit
structure Pc where
 t:UInt8
 b:Bs
 p:Option Addr
 c:Nat
def Pc.cells(x:Pc):List Value:=[.int .u8 (x.t.toNat:Int),.slice x.p x.b.length x.c]
def cellsP(l:List Pc):List Value:=l.flatMap Pc.cells
def pcsOf(l:List Pc):List (UInt8 × Bs):=l.map fun x=>(x.t,x.b)
theorem cellsP_app(a b:List Pc):cellsP a++cellsP b=cellsP (a++b):=by simp[cellsP]
theorem infoTlv:∃z,(Tryz.prog.info? 93).map (fun i=>(i.zero,i.size,i.bytes))=some (some z,2,32)∧z.cells.size=2:=⟨.agg #[.int .u8 0,.slice none 0 0],by kernel_rfl,rfl⟩
structure Pcs(w:World)(B:Nat)(P:Nat→Prop)(v:Value)(l:List Pc):Prop where
 own:w.ownsRow B 93 2 v l.length (cellsP l)
 at_:∀x∈l,ByV w P x.p x.c x.b
theorem allD_more:∀(m k:Nat) (bs:Bs),bs.length≤m→bs.length≤k→allD m bs=allD k bs
 | 0,k,bs,hm,hk=>by
  have:bs=[]:=List.eq_nil_of_length_eq_zero (by omega);subst this
  cases k with
  | zero=>rfl
  | succ k=>rfl
 | m+1,0,bs,hm,hk=>by
  have:bs=[]:=List.eq_nil_of_length_eq_zero (by omega);subst this;rfl
 | m + 1, k + 1, bs, hm, hk => by
  simp only[allD];by_cases h:bs=[]
  ·rw[if_pos h,if_pos h]
  rw[if_neg h,if_neg h]
  cases hr:readD bs with
  | error e=>rfl
  | ok q=>
   obtain⟨⟨t,b⟩,r⟩:=q;have:=(read_len hr).1;simp only[];rw[allD_more m k r (by omega) (by omega)]
def pcsD (bs:Bs):List (UInt8 × Bs) × Nat:=allD bs.length bs
theorem pcsD_err{bs:Bs}{k:Nat}(h0:bs≠[])(h:readD bs=.error k):pcsD bs=([],k):=by
 obtain⟨m,hm⟩:∃m,bs.length=m+1:=⟨bs.length-1,by have:bs.length≠0:=fun e=>h0 (List.eq_nil_of_length_eq_zero e);omega⟩
 unfold pcsD;rw[hm];simp only[allD];rw[if_neg h0,h]
theorem pcsD_ok{bs:Bs}{t:UInt8}{b r:Bs}(h:readD bs=.ok ((t,b),r)):pcsD bs=((t,b)::(pcsD r).1,(pcsD r).2):=by
 have hl:=(read_len h).1;obtain⟨m,hm⟩:∃m,bs.length=m+1:=⟨bs.length-1,by omega⟩
 have h0:bs≠[]:=by intro e;rw[e]at hm;cases hm
 unfold pcsD;rw[hm];simp only[allD];rw[if_neg h0,h];simp only[];rw[allD_more m r.length r (by omega) (Nat.le_refl _)]
def lenOfS:Value→Nat
 | .slice _ n _=>n
 | _=>0
def LsPost(w:World)(P:World→Nat→Prop)(R:List (UInt8 × Bs) × Nat)(e:Ending)(w':World):Prop:=
 Below w.heap.size w w'∧((R.2≠0∧e=.returned (.tuple #[.slice none 0 0,.int .i64 (R.2:Int)]))∨(R.2=0∧∃l v,pcsOf l=R.1∧e=.returned (.tuple #[v,.int .i64 0])∧Pcs w' w.heap.size (P w) v l))
def intsB(l:Bs):List Int:=l.map fun b=>(b.toNat:Int)
theorem intsB_len(l:Bs):(intsB l).length=l.length:=by simp[intsB]
theorem intsB_dg(l:Bs):Dg 256 (intsB l):=by intro x hx;simp only[intsB,List.mem_map]at hx;obtain⟨b,_,rfl⟩:=hx;have:=b.toNat_lt;omega
theorem intsB_get(l:Bs)(i:Nat)(hi:i<l.length):(intsB l).getD i 0=((l.getD i 0).toNat:Int):=by simp[intsB,List.getD,hi]
theorem numIn_bat{w:World}{p:Option Addr}{n c:Nat}{l:Bs}(h:BAt w p n l)(hl:l.length=n)(h0:0<n)(hc:n≤c)(hc2:c≤9223372036854775807)(hn:n≤1000000):NumIn .u8 256 w p n c (intsB l):=by obtain⟨b,o,rfl,hcl⟩:=h h0;refine⟨⟨(by rw[intsB_len,hl]),.inr ⟨b,o,rfl,?_,fun i hi=>(by rw[hcl i hi,intsB_get l i (by omega)])⟩⟩,hc,(by unfold maxLen;omega),(fun e=>by cases e),intsB_dg l,(by omega)⟩;exact World.block_lt_of_cell? w ⟨b,o+0,none⟩ (hcl 0 h0)
def intL:Bs→Option Bs
 | []=>none
 | a::xs=>if 128≤a.toNat then none else if a.toNat=0∧0<xs.length then (if (xs.getD 0 0).toNat<128 then none else some xs) else some (a::xs)
theorem intL_cons(a:UInt8)(xs:Bs):intL (a::xs)=if 128≤a.toNat then none else if a.toNat=0∧0<xs.length then (if (xs.getD 0 0).toNat<128 then none else some xs) else some (a::xs):=rfl
def IntPost(w:World)(t:Nat)(b:Bs)(e:Ending)(w':World):Prop:=
 Below w.heap.size w w'∧(((t≠2∨intL b=none)∧e=.returned (.tuple #[.slice none 0 0,.int .i64 30])) ∨
  ∃l,t=2∧intL b=some l∧((512<l.length∧e=.returned (.tuple #[.slice none 0 0,.int .i64 3]))∨(l.length≤512∧∃v,e=.returned (.tuple #[v,.int .i64 0])∧NumOut .u64 B64 w w' v (val 256 (intsB l).reverse) 64)))
theorem NumOut.later{w w1 w':World}{v:Value}{n:Int}{L:Nat}(hb:Below w.heap.size w w1)(h:NumOut .u64 B64 w1 w' v n L):NumOut .u64 B64 w w' v n L:=by obtain⟨ao,len,cap,xs,e,h1,h2,h3,h4,h5⟩:=h;exact⟨ao,len,cap,xs,e,h1,h2,h3,h4,hb.trans (h5.mono hb.size)⟩
theorem derInt(t:Nat)(ht:t<256)(p:Option Addr)(n c:Nat)(l:Bs)(P:Nat→Prop)(w:World)(hl:l.length=n)(h:ByV w P p c l)(hn:n≤1000000):
  Calls Tryz.prog 37 #[.agg #[.int .u8 (t:Int),.slice p n c]] w (IntPost w t l):=by
 have hcap:=h.cap;have hbig:=h.big;rw[hl]at hcap;obtain⟨W1,hW1⟩:∃W1,w.alloc (.cells #[.int .u8 (t:Int),.slice p n c] 93)=W1:=⟨_,rfl⟩
 have b1:Below w.heap.size w W1:=by rw[←hW1];exact(Below.refl _ _).alloc (Nat.le_refl _) _
 have s1:Tl W1 w.heap.size (.int .u8 (t:Int)) (.slice p n c):=by rw[←hW1];exact Tl.new w _ _
 obtain⟨g0,g1,g2,g3⟩:=s1.facts;have HB:Hid (Below w.heap.size w W1):=b1;have HBAD:Hid (t≠2∨intL l=none→IntPost w t l (.returned (.tuple #[.slice none 0 0,.int .i64 30])) W1):=fun hh=>⟨b1,.inl ⟨hh,rfl⟩⟩
 have HRD:Hid (∀(q:Option Addr) (m d:Nat) (l':Bs),t=2→intL l=some l'→l'.length=m→0<m→m≤d→d≤9223372036854775807→m≤1000000→BAt W1 q m l'→Calls Tryz.prog 44 #[.slice q m d] W1 fun e w'=>∃v k,e=.returned (.tuple #[v,k])∧IntPost w t l e w'):=by
  intro q m d l' h2 hi hm h0 hd hd2 hm2 hb;by_cases hbg:512<m
  ·refine(Read_no q m d W1 hbg (by unfold maxLen;omega)).mono ?_;rintro e w' ⟨rfl,rfl⟩;exact⟨_,_,rfl,b1,.inr ⟨l',h2,hi,.inl ⟨by omega,rfl⟩⟩⟩
  ·refine(Read_yes q m d (intsB l') W1 (numIn_bat hb hm h0 hd hd2 hm2) (by omega)).mono ?_;rintro e w' ⟨v,rfl,hv⟩;have hv':=hv.later b1;exact⟨_,_,rfl,by obtain⟨_,_,_,_,_,_,_,_,_,h5⟩:=hv';exact h5,.inr ⟨l',h2,hi,.inr ⟨by omega,v,rfl,hv'⟩⟩⟩
 clear b1 s1;by_cases q2:t=2
 rotate_left
 ·have e2:((t:Int)==2)=false:=by simp;omega
  have e3:((t:Int) != 2)=true:=by simp;omega
  go_enter Tryz.func37,Tryz.ntmps37;go_wp2_with fail
  go_ret2
  exact HBAD.out (.inl q2)
 have e2:((t:Int)==2)=true:=by simp;omega
 have e3:((t:Int) != 2)=false:=by simp;omega
 have HT2:Hid (t=2):=q2;clear q2
 cases l with
 | nil=>
  simp at hl;subst hl;go_enter Tryz.func37,Tryz.ntmps37;go_wp2_with fail
  go_ret2
  exact HBAD.out (.inr rfl)
 | cons a xs =>
  obtain⟨b,o,rfl,hcl⟩:=h.lies (by simp);have HCL:Hid (∀i,i<(a::xs).length→W1.cell? ⟨b,o+i,none⟩=some (.int .u8 (((a::xs).getD i 0).toNat:Int))):=fun i hi=>(HB.out.cell (p:=⟨b,o+i,none⟩) (World.block_lt_of_cell? w _ (hcl i hi))).trans (hcl i hi);have c0:W1.cell? ⟨b,o,none⟩=some (.int .u8 (a.toNat:Int)):=by simpa using HCL.out 0 (by simp)
  have ha:=a.toNat_lt;have hn0:0<n:=by simp at hl;omega
  have hz:((n:Int)==0)=false:=by simp;omega
  have hnI:(0:Int)<(n:Int):=by omega
  have hcI:(n:Int)≤(c:Int):=by omega
  obtain⟨A,hA⟩:∃A,a.toNat=A:=⟨_,rfl⟩
  have HL:Hid ((a::xs).length=n∧a.toNat=A∧xs.length=n-1):=⟨hl,hA,by simp at hl;omega⟩
  rw[hA]at c0 ha;clear hl hcl h hA;by_cases q3:128≤A
  ·have q3I:(128:Int)≤(A:Int):=by omega
   go_enter Tryz.func37,Tryz.ntmps37;go_wp2_with fail
   go_ret2
   exact HBAD.out (.inr (by rw[intL_cons,if_pos (by rw[HL.out.2.1];exact q3)]))
  have q3I:¬(128:Int)≤(A:Int):=by omega
  have HWH:Hid (BAt W1 (some ⟨b,o,none⟩) n (a::xs)):=fun _=>⟨b,o,rfl,fun i hi=>HCL.out i (by rw[HL.out.1];exact hi)⟩
  by_cases q4:A=0
  ·subst q4;by_cases q5:1<n
   ·have q5I:(1:Int)<(n:Int):=by omega
    have q6I:(1:Int)≤(n:Int):=by omega
    have q7I:(1:Int)≤(c:Int):=by omega
    have hc1:¬c=1:=by omega
    have hn1:(0:Int)<(n:Int)-1:=by omega
    have c1:W1.cell? ⟨b,o+1,none⟩=some (.int .u8 ((xs.getD 0 0).toNat:Int)):=by simpa using HCL.out 1 (by rw[HL.out.1];omega)
    obtain⟨X,hX⟩:∃X,(xs.getD 0 0).toNat=X:=⟨_,rfl⟩
    have hx:=(xs.getD 0 0).toNat_lt;rw[hX]at c1 hx;have HX:Hid ((xs.getD 0 0).toNat=X):=hX;clear hX;by_cases q8:X<128
    ·have q8I:(X:Int)<128:=by omega
     go_enter Tryz.func37,Tryz.ntmps37;go_wp2_with fail
     go_ret2
     exact HBAD.out (.inr (by rw[intL_cons,if_neg (by rw[HL.out.2.1];omega),if_pos ⟨HL.out.2.1,by rw[HL.out.2.2];omega⟩,if_pos (by rw[HX.out];exact q8)]))
    ·have q8I:¬(X:Int)<128:=by omega
     have HR:=HRD.out (some ⟨b,o+1,none⟩) (n-1) (c-1) xs HT2.out (by rw[intL_cons,if_neg (by rw[HL.out.2.1];omega),if_pos ⟨HL.out.2.1,by rw[HL.out.2.2];omega⟩,if_neg (by rw[HX.out];exact q8)]) HL.out.2.2 (by omega) (by omega) (by omega) (by omega) (fun _=>⟨b,o+1,rfl,fun i hi=>by have:=HCL.out (i+1) (by rw[HL.out.1];omega);rw[show o+1+i=o+(i+1) by omega];simpa using this⟩);go_enter Tryz.func37,Tryz.ntmps37;go_wp2_with (go_at_call 44;refine HR.mono ?_;rintro e w' ⟨v,k,rfl,hp⟩;have HP:Hid (IntPost w t (a::xs) (.returned (.tuple #[v,k])) w'):=hp;clear hp)
     go_ret2
     exact HP.out
   ·have q5I:¬(1:Int)<(n:Int):=by omega
    have HR:=HRD.out (some ⟨b,o,none⟩) n c (a::xs) HT2.out (by rw[intL_cons,if_neg (by rw[HL.out.2.1];omega),if_neg (by rw[HL.out.2.2];omega)]) HL.out.1 (by omega) (by omega) (by omega) (by omega) HWH.out;go_enter Tryz.func37,Tryz.ntmps37;go_wp2_with (go_at_call 44;refine HR.mono ?_;rintro e w' ⟨v,k,rfl,hp⟩;have HP:Hid (IntPost w t (a::xs) (.returned (.tuple #[v,k])) w'):=hp;clear hp)
    go_ret2
    exact HP.out
  have q4I:((A:Int)==0)=false:=by simp;omega
  have HR:=HRD.out (some ⟨b,o,none⟩) n c (a::xs) HT2.out (by rw[intL_cons,if_neg (by rw[HL.out.2.1];omega),if_neg (by rw[HL.out.2.1];omega)]) HL.out.1 (by omega) (by omega) (by omega) (by omega) HWH.out;go_enter Tryz.func37,Tryz.ntmps37;go_wp2_with (go_at_call 44;refine HR.mono ?_;rintro e w' ⟨v,k,rfl,hp⟩;have HP:Hid (IntPost w t (a::xs) (.returned (.tuple #[v,k])) w'):=hp;clear hp)
  go_ret2
  exact HP.out
def wholeR(bs:Bs):Option (Bs × Bs):=match pieceR bs 2 with
 | none=>none
 | some (b,r)=>match intL b with
  | none=>none
  | some x=>some (x,r)
def twoR (b:Bs):Option (Bs × Bs):=match wholeR b with
 | none=>none
 | some (x,r1)=>if 512<x.length then none else match wholeR r1 with
  | none=>none
  | some (y,r2)=>if 512<y.length∨0<r2.length then none else some (x,y)
def pairR(bs:Bs):Option (Bs × Bs):=match pieceR bs 48 with
 | none=>none
 | some (b,r)=>if 0<r.length then none else twoR b
def intO (t:Nat)(b:Bs):Option Bs:=if t=2 then (match intL b with
 | none=>none
 | some x=>if 512<x.length then none else some x) else none
def pairOf(R:List (UInt8 × Bs) × Nat):Option (Bs × Bs):=if R.2≠0 then none else match R.1 with
 | [(t1, b1), (t2, b2)] => (match intO t1.toNat b1 with
  | none=>none
  | some x=>match intO t2.toNat b2 with
   | none=>none
   | some y=>some (x,y))
 | _=>none
theorem whole_err{bs:Bs}{k:Nat}(h:readD bs=.error k):wholeR bs=none:=by unfold wholeR;rw[pieceR_err h]
theorem whole_ok{bs:Bs}{t:UInt8}{b r:Bs}(h:readD bs=.ok ((t,b),r)):wholeR bs=if t.toNat=2 then (match intL b with
  | none=>none
  | some x=>some (x,r)) else none:=by
 unfold wholeR pieceR;rw[h];simp only[];by_cases h2:t.toNat=2
 ·rw[if_pos h2,if_pos h2]
 ·rw[if_neg h2,if_neg h2]
theorem pcs_more{bs:Bs}(h0:bs≠[]):(pcsD bs).2≠0∨∃x l,(pcsD bs).1=x::l:=by
 cases hr:readD bs with
 | error k=>
  left;rw[pcsD_err h0 hr];have:=read_err hr;omega
 | ok q=>
  obtain⟨⟨t,b⟩,r⟩:=q;right;rw[pcsD_ok hr];exact⟨_,_,rfl⟩
theorem two_of(b : Bs) : twoR b = pairOf (pcsD b) := by
 by_cases h0:b=[]
 ·subst h0;rfl
 cases hr:readD b with
 | error k=>
  have hk:=read_err hr;unfold twoR pairOf;rw[whole_err hr,pcsD_err h0 hr,if_pos (show(([],k):List (UInt8 × Bs) × Nat).2≠0 by show k≠0;omega)]
 | ok q =>
  obtain⟨⟨t1,b1⟩,r1⟩:=q;rw[pcsD_ok hr];have hw:=whole_ok hr;by_cases h1:r1=[]
  ·subst h1;have e1:pairOf ((t1,b1)::(pcsD []).1,(pcsD []).2)=none:=rfl;rw[e1];have e2:wholeR []=none:=rfl;unfold twoR;rw[hw];by_cases ht:t1.toNat=2
   ·rw[if_pos ht]
    cases intL b1 with
    | none=>rfl
    | some x =>
     simp only[];by_cases h5:512<x.length
     ·rw[if_pos h5]
     ·rw[if_neg h5,e2]
   ·rw[if_neg ht]
  cases hr1:readD r1 with
  | error k =>
   have hk:=read_err hr1;rw[pcsD_err h1 hr1];have e1:pairOf ((t1,b1)::(([],k):List (UInt8 × Bs) × Nat).1,(([],k):List (UInt8 × Bs) × Nat).2)=none:=by unfold pairOf;rw[if_pos (show k≠0 by omega)]
   rw[e1];unfold twoR;rw[hw];by_cases ht:t1.toNat=2
   ·rw[if_pos ht]
    cases intL b1 with
    | none=>rfl
    | some x =>
     simp only[];by_cases h5:512<x.length
     ·rw[if_pos h5]
     ·rw[if_neg h5,whole_err hr1]
   ·rw[if_neg ht]
  | ok q =>
   obtain⟨⟨t2,b2⟩,r2⟩:=q;rw[pcsD_ok hr1];have hw1:=whole_ok hr1;by_cases h2:r2=[]
   ·subst h2;have e1:pairOf ((t1,b1)::((t2,b2)::(pcsD []).1,(pcsD []).2).1,((t2,b2)::(pcsD []).1,(pcsD []).2).2)=(match intO t1.toNat b1 with
     | none=>none
     | some x=>match intO t2.toNat b2 with
      | none=>none
      | some y=>some (x,y)):=rfl
    rw[e1];unfold twoR;rw[hw];unfold intO;by_cases ht:t1.toNat=2
    ·rw[if_pos ht,if_pos ht]
     cases intL b1 with
     | none=>rfl
     | some x =>
      simp only[];by_cases h5:512<x.length
      ·rw[if_pos h5,if_pos h5]
      ·rw[if_neg h5,if_neg h5,hw1];by_cases ht2:t2.toNat=2
       ·rw[if_pos ht2,if_pos ht2]
        cases intL b2 with
        | none=>rfl
        | some y =>
         simp only[];by_cases h6:512<y.length
         ·rw[if_pos (.inl h6),if_pos h6]
         ·rw[if_neg (by simp;omega),if_neg h6]
       ·rw[if_neg ht2,if_neg ht2]
    ·rw[if_neg ht,if_neg ht]
   ·have e1:pairOf ((t1,b1)::((t2,b2)::(pcsD r2).1,(pcsD r2).2).1,((t2,b2)::(pcsD r2).1,(pcsD r2).2).2)=none:=by
     unfold pairOf;simp only[];rcases pcs_more h2 with h|⟨y,l,h⟩
     ·rw[if_pos h]
     ·rw[h];by_cases h7:(pcsD r2).2≠0
      ·rw[if_pos h7]
      ·rw[if_neg h7]
    rw[e1];have hl:0<r2.length:=by
     rcases Nat.eq_zero_or_pos r2.length with h|h
     ·exact absurd (List.eq_nil_of_length_eq_zero h) h2
     ·exact h
    unfold twoR;rw[hw];by_cases ht:t1.toNat=2
    ·rw[if_pos ht]
     cases intL b1 with
     | none=>rfl
     | some x =>
      simp only[];by_cases h5:512<x.length
      ·rw[if_pos h5]
      ·rw[if_neg h5,hw1];by_cases ht2:t2.toNat=2
       ·rw[if_pos ht2]
        cases intL b2 with
        | none=>rfl
        | some y=>
         simp only[];rw[if_pos (.inr hl)]
       ·rw[if_neg ht2]
    ·rw[if_neg ht]
end
section
open Go.RowKit
theorem pow256_2(m:Nat):(256:Int)^(2*m)=D16^m:=by rw[Int.pow_mul];rfl
theorem Own.spot{e:TypeId}{k:IntKind}{w:World}{base:Nat}{v:Value}{xs:List Int}(h:Own e k w base v xs)(h0:0<xs.length):
  ∃g cap,v=.slice (some ⟨g,0,none⟩) xs.length cap∧base≤g∧g<w.heap.size∧xs.length≤cap∧cap≤maxLen∧(∀j,j<xs.length→w.cell? ⟨g,j,none⟩=some (.int k (xs.getD j 0)))∧(∀j,w.frozen? ⟨g,j,none⟩=false) ∧
   ∀j y,j<xs.length→Own e k (w.setCell ⟨g,j,none⟩ (.int k y)) base v (xs.set j y):=by
 rcases h.2 with⟨rfl,h1⟩|⟨g,cap,cur,rfl,hg,hrow,h1,h2,h3,h4⟩
 ·omega
 ·refine⟨g,cap,rfl,hg,(Array.getElem?_eq_some_iff.1 hrow).1,h1,h2,fun j hj => ?_,fun j=>frozen_of_row w g j cur e hrow,fun j y hj=>⟨by simp,.inr ⟨g,cap,cur.set! j (.int k y),?_,hg,heap_setCell_same w g j _ e _ hrow,?_,h2,?_,?_⟩⟩⟩
  ·rw[cell_of_row w g j cur e (0,0) hrow];have:(cur.toList.take (xs.length*1))[j]?=(xs.map (Value.int k))[j]?:=by rw[h4]
   rw[List.getElem?_take,if_pos (by omega)]at this;rw[←Array.getElem?_toList,this];simp[hj]
  ·simp
  ·simpa using h1
  ·simpa using h3
  ·have e1:(cur.set! j (Value.int k y)).toList=cur.toList.set j (.int k y):=by simp
   rw[e1,List.length_set,List.take_set,h4,List.map_set]
def RReads(rb:List Int)(i:Nat)(ds:List Int):Prop:=
 ds.length=(i+1)/2∧Dg D16 ds∧(i%2=1→ds.getD (i/2) 0<256)∧val D16 ds=low 256 rb i
theorem RReads.even{rb:List Int}{m:Nat}{ds:List Int}(h:RReads rb (2*m) ds)(hd:0≤rb.getD (2*m) 0∧rb.getD (2*m) 0<256):RReads rb (2*m+1) (ds++[rb.getD (2*m) 0]):=by
 obtain⟨h1,h2,h3,h4⟩:=h;have hl:ds.length=m:=by omega
 refine⟨by simp[hl];omega,h2.append (Dg.cons (by unfold D16;omega) (Dg.nil _)),fun _ => ?_,?_⟩
 ·rw[show(2*m+1)/2=m by omega];have:(ds++[rb.getD (2*m) 0]).getD m 0=rb.getD (2*m) 0:=by simp[List.getD,List.getElem?_append,hl]
  rw[this];exact hd.2
 ·rw[val_snoc,low_succ,h4,hl,pow256_2]
theorem RReads.odd{rb:List Int}{m:Nat}{ds:List Int}(h:RReads rb (2*m+1) ds)(hd:0≤rb.getD (2*m+1) 0∧rb.getD (2*m+1) 0<256):RReads rb (2*m+1+1) (ds.set m (ds.getD m 0+256*rb.getD (2*m+1) 0)):=by
 obtain⟨h1,h2,h3,h4⟩:=h;have hl:ds.length=m+1:=by omega
 have h3':=h3 (by omega);rw[show(2*m+1)/2=m by omega]at h3';have g:=h2.getD D16_pos m;refine⟨by simp[hl];omega,h2.set _ ⟨by omega,by unfold D16;omega⟩,fun e=>by omega,?_⟩;rw[val_set _ _ _ _ (by omega),low_succ,h4,Int.pow_succ,pow256_2];generalize D16^m=p at *
 grind
theorem rRead_any(ao:Option Addr)(n ca:Nat)(bs:List Int)(w:World)(h:NumIn .u8 256 w ao n ca bs)(hn:n≤2000):
  Calls Tryz.prog 28 #[.slice ao n ca] w fun e w'=>∃v,e=.returned v∧NumOut .i64 D16 w w' v (val 256 bs.reverse) 1001:=by
 have hl:=h.len;go_enter Tryz.func28,Tryz.ntmps28;go_wp2;go_loopw [3,4] (fun vo vi wr=>∃(i:Nat) (ds:List Int),i≤n∧vi=.int .i64 i∧Own 3 .i64 wr w.heap.size vo ds∧RReads bs.reverse i ds∧Below w.heap.size w wr) (fun _ vi _=>n-(intOf vi).toNat)
 case atStart=>exact⟨0,[],Nat.zero_le _,rfl,Own.nil _ _ _ _,⟨rfl,Dg.nil _,fun e=>by omega,by simp[val,low_zero]⟩,Below.refl _ _⟩
 case round=>
  obtain⟨i,ds,hi,rfl,hown,hs,hb⟩:=hrel;by_cases hlt:i<n
  ·have hx:=h.lies.old hb;obtain⟨b,off,rfl,hblk,hcs⟩:=hx.at (by omega);have hcell:=hcs (n-1-i) (by omega);have gx:=h.dg.getD (by decide) (n-1-i);have er:=getD_reverse bs i (by omega);rw[hl]at er;have hlen:=hs.1;have hbs:=hb.size;obtain⟨p,hp⟩:∃p,n-1-i=p:=⟨_,rfl⟩
   rw[hp]at hcell gx er;have hpn:p<n:=by omega
   have hpe:n=p+1+i:=by omega
   clear hp;rw[←er]at gx hcell;rcases(show i%2=0∨i%2=1 by omega) with hpar|hpar
   ·obtain⟨m,rfl⟩:∃m,i=2*m:=⟨i/2,by omega⟩
    have HS:Hid (RReads bs.reverse (2*m+1) (ds++[bs.reverse.getD (2*m) 0])):=hs.even gx;have HLB:Hid (ds.length<1073741824):=by unfold Hid;omega
    generalize bs.reverse.getD (2*m) 0=x at *;obtain⟨i,hie⟩:∃i,2*m=i:=⟨_,rfl⟩
    rw[hie]at hlt hi hpe HS hlen ⊢;have hev:(i:Int)%2=0:=by omega
    have ek:(n:Int)-1-(i:Int)=(p:Int):=by omega
    clear hs hx hcs h hl er hpar hlen hie hpe;go_wp2_with (at_builtin;refine wpList_append_one rfl _ _ 55 rfl 3 .i64 8 Tryz.underlying55 Tryz.infoI w.heap.size u3 ds x (by rfl) hown (by rfl) HLB.out (by decide) w hb hbs ?_)
    intro v' w' hown' hb';clear hown hb hbs;go_wp2;go_roundw
    case rel=>exact⟨i+1,_,by omega,by go_num,hown',HS.out,hb'⟩
    case measure=>simp[intOf]<;>omega
   ·obtain⟨m,rfl⟩:∃m,i=2*m+1:=⟨i/2,by omega⟩
    have HS:Hid (RReads bs.reverse (2*m+1+1) (ds.set m (ds.getD m 0+256*bs.reverse.getD (2*m+1) 0))):=hs.odd gx;obtain⟨g,cap,hv,hg1,hg2,hg3,hg4,hcl,hfz,hset⟩:=hown.spot (by omega);have hm:m<ds.length:=by omega
    have hcg:=hcl m hm;have hfr:=hfz m;have gd:=hs.2.1.getD D16_pos m;have gd0:=gd.1;have gd1:ds.getD m 0<65536:=gd.2;have hbne:b<w.heap.size:=by obtain⟨b',off',e,hlt',_⟩:=h.lies.at (by omega);injection e with e;injection e with e;omega
    have hne:b≠g:=by omega
    have HO:Hid (Own 3 .i64 (wr.setCell ⟨g,m,none⟩ (.int .i64 (ds.getD m 0+256*bs.reverse.getD (2*m+1) 0))) w.heap.size (.slice (some ⟨g,0,none⟩) ds.length cap) (ds.set m (ds.getD m 0+256*bs.reverse.getD (2*m+1) 0))):=by have:=hset m (ds.getD m 0+256*bs.reverse.getD (2*m+1) 0) hm;rw[hv]at this;exact this
    have HB:Hid (Below w.heap.size w wr):=hb;subst hv;generalize bs.reverse.getD (2*m+1) 0=x at *;generalize ds.getD m 0=y at *;obtain⟨i,hie⟩:∃i,2*m+1=i:=⟨_,rfl⟩
    rw[hie]at hlt hi hpe HS hlen ⊢;have hev:(i:Int)%2=1:=by omega
    have ehalf:(i:Int)/2=(m:Int):=by omega
    have ek:(n:Int)-1-(i:Int)=(p:Int):=by omega
    have hmi:(m:Int)<(ds.length:Int):=by omega
    generalize ds.length=L at *;clear hs hx hcs h hl er hpar hlen hie hpe hset hcl hfz hown hb gd;go_wp2;go_region
    all_goals
     go_wp2;go_roundw
     case rel=>exact⟨i+1,_,by omega,by go_num,HO.out,HS.out,(HB.out.setCell (by assumption) _).drew⟩
     case measure=>simp[intOf]<;>omega
  ·obtain rfl:i=n:=by omega
   have hlen:=hs.1;obtain⟨a2,c2,hv,hnum⟩:=hown.num hs.2.1 (by omega);have HV:Hid (val D16 ds=val 256 bs.reverse):=by
    unfold Hid;have e:bs.reverse.length=i:=by simp[hl]
    rw[hs.2.2.2,←e,low_len]
   have HN:Hid (NumIn .i64 D16 wr a2 ds.length c2 ds):=hnum;have HB:Hid (Below w.heap.size w wr):=hb;have HL:Hid (ds.length≤1001):=by unfold Hid;omega
   subst hv;clear hown hs hnum hb h hlen;go_wp2_with fail
   refine(rtrim_any a2 ds.length c2 ds wr HN.out).mono ?_;rintro e w4 ⟨rfl,rfl⟩;go_wp2;go_ret;exact⟨_,rfl,HN.out.out HB.out _ HV.out _ HL.out⟩
theorem byte_even(ds:List Int)(hd:Dg D16 ds)(m:Nat):ds.getD m 0%256=byteAt (val D16 ds) (2*m):=by unfold byteAt;rw[digit_at D16_pos ds hd m,pow256_2];generalize val D16 ds/D16^m=Y;unfold D16;omega
theorem byte_odd(ds:List Int)(hd:Dg D16 ds)(m:Nat):ds.getD m 0/256%256=byteAt (val D16 ds) (2*m+1):=by unfold byteAt;have hp:(0:Int)<D16^m:=Int.pow_pos D16_pos;rw[digit_at D16_pos ds hd m,Int.pow_succ,pow256_2,←Int.ediv_ediv_of_nonneg (by omega)];generalize val D16 ds/D16^m=Y;unfold D16;omega
theorem rBytes_big(ao:Option Addr)(la ca:Nat)(ds:List Int)(n:Nat)(w:World)(h:NumIn .i64 D16 w ao la ca ds)(hn:n≤1000)(hV:val D16 ds<256^n):
  Calls Tryz.prog 31 #[.slice ao la ca,.int .i64 n] w fun e w'=>∃v,e=.returned v∧BytesOut w w' v n (val D16 ds):=by
 have hl:=h.len;have HV:Hid (0≤val D16 ds∧val D16 ds<256^n):=⟨val_nonneg D16_pos h.dg,hV⟩
 clear hV;go_enter Tryz.func31,Tryz.ntmps31;go_wp2_with (at_make;refine wpList_make_row _ rfl _ _ 33 rfl 5 .u8 1 Tryz.underlying33 Tryz.infoB _ _ _ _ n rfl rfl rfl rfl (by omega) (by unfold maxLen;omega) ?_)
 intro w3 hrow hbel;go_wp2;go_loopw [6] (fun vi wr=>∃(k:Nat) (cur:List Int),k≤n∧vi=.int .i64 k∧Row 5 .u8 wr w.heap.size cur∧Wrts (val D16 ds) n k cur∧Below w.heap.size w wr) (fun vi _=>n-(intOf vi).toNat)
 case atStart=>exact⟨0,_,Nat.zero_le _,rfl,hrow,Wrts.zero _ _,hbel⟩
 case round=>
  obtain⟨k,cur,hk,rfl,hrw,ha,hb⟩:=hrel;clear hrow hbel;by_cases hlt:k<n
  ·have hx:=h.lies.old hb;have hln:=ha.1;have HS:Hid (Wrts (val D16 ds) n (k+1) (cur.set (n-1-k) (byteAt (val D16 ds) k))):=ha.step hlt;have HR:Hid (Row 5 .u8 (wr.setCell ⟨w.heap.size,n-1-k,none⟩ (.int .u8 (byteAt (val D16 ds) k))) w.heap.size (cur.set (n-1-k) (byteAt (val D16 ds) k))):=hrw.set (n-1-k) (byteAt (val D16 ds) k);have HB:Hid (Below w.heap.size w wr):=hb;obtain⟨m,hm⟩:∃m,k/2=m:=⟨_,rfl⟩
   have hx0:=h.dg.getD D16_pos m;have x0:=hx0.1;have x1:ds.getD m 0<65536:=hx0.2;have heven:k%2=0→byteAt (val D16 ds) k=ds.getD m 0%256:=fun e=>by rw[byte_even ds h.dg m];congr 1;omega
   have hodd:k%2=1→byteAt (val D16 ds) k=ds.getD m 0/256%256:=fun e=>by rw[byte_odd ds h.dg m];congr 1;omega
   have hfr:=hrw.frozen (n-1-k);have hcl:=hrw.cell (n-1-k) (by omega);have ehalf:(k:Int)/2=(m:Int):=by omega
   obtain⟨p,hp⟩:∃p,n-1-k=p:=⟨_,rfl⟩
   have ek:(n:Int)-1-(k:Int)=(p:Int):=by omega
   have hpn:p<n:=by omega
   rw[hp]at hfr hcl HS HR;generalize cur.getD p 0=y at *;have hout:¬m<la→ds.getD m 0=0:=fun hk=>by simp[List.getD,List.getElem?_eq_none (show ds.length≤m by omega)]
   have hin:m<la→∃b2 off2,ao=some ⟨b2,off2,none⟩∧wr.cell? ⟨b2,off2+m,none⟩=some (.int .i64 (ds.getD m 0)):=fun hk=>by obtain⟨b2,off2,e,_,hc2⟩:=hx.at (by omega);exact⟨b2,off2,e,hc2 m hk⟩
   clear h hrw ha hln hb hx HV hl hp hx0;generalize ds.getD m 0=x at *;rcases(show k%2=0∨k%2=1 by omega) with hpar|hpar
   ·have hb8:=heven hpar;rw[hb8]at HS HR;have hev:(k:Int)%2=0:=by omega
    clear heven hodd hb8 hpar hm;by_cases hma:m<la
    ·obtain⟨b2,off2,rfl,hc2⟩:=hin hma;clear hin hout;go_wp2;go_roundw
     case rel=>exact⟨k+1,_,by omega,by go_num,HR.out,HS.out,HB.out.setCell (Nat.le_refl _) _⟩
     case measure=>simp[intOf]<;>omega
    ·obtain rfl:=hout hma;clear hin hout;rw[show(0:Int)%256=0 from rfl]at HR HS;go_wp2;go_roundw
     case rel=>exact⟨k+1,_,by omega,by go_num,HR.out,HS.out,HB.out.setCell (Nat.le_refl _) _⟩
     case measure=>simp[intOf]<;>omega
   ·have hb8:=hodd hpar;rw[hb8]at HS HR;have hev:(k:Int)%2=1:=by omega
    clear heven hodd hb8 hpar hm;by_cases hma:m<la
    ·obtain⟨b2,off2,rfl,hc2⟩:=hin hma;clear hin hout;go_wp2;go_roundw
     case rel=>exact⟨k+1,_,by omega,by go_num,HR.out,HS.out,HB.out.setCell (Nat.le_refl _) _⟩
     case measure=>simp[intOf]<;>omega
    ·obtain rfl:=hout hma;clear hin hout;rw[show(0:Int)/256%256=0 from rfl]at HR HS;go_wp2;go_roundw
     case rel=>exact⟨k+1,_,by omega,by go_num,HR.out,HS.out,HB.out.setCell (Nat.le_refl _) _⟩
     case measure=>simp[intOf]<;>omega
  ·obtain rfl:k=n:=by omega
   have HF:Hid (BytesOut w wr (.slice (some ⟨w.heap.size,0,none⟩) k k) k (val D16 ds)):=⟨_,cur,rfl,hrw,ha.1,ha.2.1,ha.done HV.out.1 HV.out.2,hb⟩
   clear hrw ha hb h HV;go_wp2;go_ret;exact⟨_,rfl,HF.out⟩
theorem rBytes_any(ao:Option Addr)(la ca:Nat)(ds:List Int)(n:Nat)(w:World)(h:NumIn .i64 D16 w ao la ca ds)(hn:n≤512)(hV:val D16 ds<256^n):
  Calls Tryz.prog 31 #[.slice ao la ca,.int .i64 n] w fun e w'=>∃v,e=.returned v∧BytesOut w w' v n (val D16 ds):=rBytes_big ao la ca ds n w h (by omega) hV
theorem Row.drewN{e:TypeId}{k:IntKind}{w:World}{g:Nat}{xs:List Int}(h:Row e k w g xs)(n:Nat):Row e k (w.drewN n) g xs:=h
def RMuls(xs ys:List Int)(n i k:Nat)(cur:List Int)(c:Int):Prop:=
 cur.length=n∧Dg D16 cur∧0≤c∧c<65536∧val D16 cur+D16^(i+k)*c=low D16 xs i*val D16 ys+D16^i*(xs.getD i 0*low D16 ys k)
theorem RMuls.zero(xs ys:List Int)(n:Nat):RMuls xs ys n 0 0 (List.replicate n 0) 0:=
 ⟨by simp,Dg.zeros D16_pos _,by decide,by decide,by rw[val_replicate,low_zero,low_zero];simp⟩
theorem RMuls.top{xs ys:List Int}{n i k:Nat}{cur:List Int}{c:Int}(h:RMuls xs ys n i k cur c)(hx:Dg D16 xs)(hy:Dg D16 ys)(hi:i<xs.length)(hc:0<c):k≤ys.length:=by
 obtain⟨h1,h2,h3,h4,h5⟩:=h;by_cases hk:k≤ys.length
 ·exact hk
 ·exfalso;have hv:=val_nonneg D16_pos h2;have hlow:low D16 ys k=val D16 ys:=low_all _ _ _ (by have:=top_le ys;omega);rw[hlow]at h5;have hY:=val_lt D16_pos hy;have hY0:=val_nonneg D16_pos hy;have e1:low D16 xs i*val D16 ys+D16^i*(xs.getD i 0*val D16 ys)=low D16 xs (i+1)*val D16 ys:=by rw[low_succ];grind
  rw[e1]at h5;have hX:low D16 xs (i+1)<D16^(i+1):=by
   have a:=val_lt D16_pos (hx.take (i+1));have b:(xs.take (i+1)).length=i+1:=by simp;omega
   rw[b]at a;exact a
  have hX0:0≤low D16 xs (i+1):=val_nonneg D16_pos (hx.take _);have hp1:0<D16^(i+1):=Int.pow_pos D16_pos;have hp2:0<D16^ys.length:=Int.pow_pos D16_pos;have m1:low D16 xs (i+1)*val D16 ys≤low D16 xs (i+1)*D16^ys.length:=Int.mul_le_mul_of_nonneg_left (by omega) hX0;have m2:(low D16 xs (i+1)+1)*D16^ys.length≤D16^(i+1)*D16^ys.length:=Int.mul_le_mul_of_nonneg_right (by omega) (by omega);rw[Int.add_mul,←Int.pow_add]at m2;have m3:=pow_mono (B:=D16) (by decide) (show i+1+ys.length≤i+k by omega);have m4:D16^(i+k)*1≤D16^(i+k)*c:=Int.mul_le_mul_of_nonneg_left (by omega) (by have:0<D16^(i+k):=Int.pow_pos D16_pos;omega);omega
theorem prod16(x y:Int)(hx:0≤x∧x<65536)(hy:0≤y∧y<65536):0≤x*y∧x*y≤4294836225:=by have a:=Int.mul_nonneg hx.1 hy.1;have b:x*y≤65535*65535:=Int.mul_le_mul (by omega) (by omega) hy.1 (by decide);omega
theorem RMuls.step{xs ys:List Int}{n i k:Nat}{cur:List Int}{c:Int}(h:RMuls xs ys n i k cur c)(hx:Dg D16 xs)(hy:Dg D16 ys)(hn:i+k<n):
  RMuls xs ys n i (k+1) (cur.set (i+k) ((cur.getD (i+k) 0+c+xs.getD i 0*ys.getD k 0)%65536)) ((cur.getD (i+k) 0+c+xs.getD i 0*ys.getD k 0)/65536):=by
 obtain⟨h1,h2,h3,h4,h5⟩:=h;have gx:=hx.getD D16_pos i;have gy:=hy.getD D16_pos k;have gc:=h2.getD D16_pos (i+k);have hD:D16=65536:=rfl;have hp:=prod16 (xs.getD i 0) (ys.getD k 0) (by rw[hD]at gx;exact gx) (by rw[hD]at gy;exact gy);rw[hD]at gc;refine⟨by simp[h1],h2.set _ (by rw[hD];omega),by omega,by omega,?_⟩;rw[val_set _ _ _ _ (by omega),low_succ,show i+(k+1)=(i+k)+1 by omega,Int.pow_succ];have e:cur.getD (i+k) 0+c+xs.getD i 0*ys.getD k 0=(cur.getD (i+k) 0+c+xs.getD i 0*ys.getD k 0)%65536+65536*((cur.getD (i+k) 0+c+xs.getD i 0*ys.getD k 0)/65536):=by omega
 generalize (cur.getD (i+k) 0+c+xs.getD i 0*ys.getD k 0)%65536=r at *;generalize (cur.getD (i+k) 0+c+xs.getD i 0*ys.getD k 0)/65536=q at *;generalize cur.getD (i+k) 0=z at *;generalize xs.getD i 0=x at *;generalize ys.getD k 0=y at *;generalize val D16 cur=V at *;generalize low D16 ys k=L at *;generalize low D16 xs i=X at *;generalize val D16 ys=Y at *;have e2:D16^(i+k)=D16^i*D16^k:=Int.pow_add _ _ _;rw[e2]at h5 ⊢;generalize D16^i=p at *;generalize D16^k=s at *;rw[hD];have e3:r=z+c+x*y-65536*q:=by omega
 rw[e3]
 grind
theorem RMuls.next{xs ys:List Int}{n i k:Nat}{cur:List Int}(h:RMuls xs ys n i k cur 0)(hk:ys.length≤k):RMuls xs ys n (i+1) 0 cur 0:=by
 obtain⟨h1,h2,h3,h4,h5⟩:=h;refine⟨h1,h2,h3,h4,?_⟩;have hlow:low D16 ys k=val D16 ys:=low_all _ _ _ (by have:=top_le ys;omega);rw[hlow]at h5;rw[low_succ,low_zero]
 grind
theorem RMuls.done{xs ys:List Int}{n k:Nat}{cur:List Int}(h:RMuls xs ys n xs.length 0 cur 0):val D16 cur=val D16 xs*val D16 ys:=by have:=h.2.2.2.2;rw[low_zero,low_len]at this;simpa using this
theorem rMul_any(ao bo:Option Addr)(la ca lb cb:Nat)(xs ys:List Int)(w:World)(h:NumIn .i64 D16 w ao la ca xs)(h':NumIn .i64 D16 w bo lb cb ys)(hla:la≤1000000)(hlb:lb≤1000000):
  Calls Tryz.prog 66 #[.slice ao la ca,.slice bo lb cb] w fun e w'=>∃v,e=.returned v∧NumOut .i64 D16 w w' v (val D16 xs*val D16 ys) (la+lb+1):=by
 have hl:=h.len;have hl':=h'.len;go_enter Tryz.func66,Tryz.ntmps66;go_wp2_with (at_make;refine wpList_make_row _ rfl _ _ 55 rfl 3 .i64 8 Tryz.underlying55 Tryz.infoI _ _ _ _ (la+lb+1) rfl rfl (by omega) (by omega) (by omega) (by unfold maxLen;omega) ?_)
 intro w3 hrow hbel;go_wp2;go_loopw [6] (fun vi wr=>∃(i:Nat) (cur:List Int),i≤la∧vi=.int .i64 i∧Row 3 .i64 wr w.heap.size cur∧RMuls xs ys (la+lb+1) i 0 cur 0∧Below w.heap.size w wr) (fun vi _=>la-(intOf vi).toNat)
 case atStart=>exact⟨0,_,Nat.zero_le _,rfl,hrow,RMuls.zero _ _ _,hbel⟩
 case round =>
  obtain⟨i,cur0,hi,rfl,hrw0,hm0,hb0⟩:=hrel;clear hrow hbel;by_cases hlt:i<la
  ·have HR0:Hid (Row 3 .i64 wr w.heap.size cur0):=hrw0;have HM0:Hid (RMuls xs ys (la+lb+1) i 0 cur0 0):=hm0;have HB0:Hid (Below w.heap.size w wr):=hb0;clear hrw0 hm0 hb0;go_wp2;go_loopw [7,8] (fun vc vk wr=>∃(k:Nat) (c:Int) (cur:List Int),vk=.int .i64 k∧vc=.int .i64 c∧Row 3 .i64 wr w.heap.size cur∧RMuls xs ys (la+lb+1) i k cur c∧Below w.heap.size w wr) (fun _ vk _=>lb+1-(intOf vk).toNat)
   case atStart=>exact⟨0,0,cur0,rfl,rfl,HR0.out,HM0.out,HB0.out⟩
   case round=>
    obtain⟨k,c,cur,rfl,rfl,hrw,hm,hb⟩:=hrel;clear HR0 HM0 HB0;have hc0:=hm.2.2.1;have hc1:=hm.2.2.2.1;by_cases hgo:k<lb∨0<c
    ·have hk:k≤lb:=by
      rcases hgo with hgo|hgo
      ·omega
      ·have:=hm.top h.dg h'.dg (by omega) hgo;omega
     have hlen:=hm.1;have hx:=h.lies.old hb;obtain⟨b,off,rfl,hblk,hcs⟩:=hx.at (by omega);have hcx:=hcs i hlt;have hfr:=hrw.frozen (i+k);have hcl:=hrw.cell (i+k) (by omega);have gx:=h.dg.getD D16_pos i;have gy:=h'.dg.getD D16_pos k;have gz:=hm.2.1.getD D16_pos (i+k);have HS:Hid (RMuls xs ys (la+lb+1) i (k+1) (cur.set (i+k) ((cur.getD (i+k) 0+c+xs.getD i 0*ys.getD k 0)%65536)) ((cur.getD (i+k) 0+c+xs.getD i 0*ys.getD k 0)/65536)):=hm.step h.dg h'.dg (by omega);have HB:Hid (Below w.heap.size w wr):=hb;have HR:Hid (Row 3 .i64 wr w.heap.size cur):=hrw;have hp:=prod16 (xs.getD i 0) (ys.getD k 0) gx gy;by_cases hkl:k<lb
     ·have hy:=h'.lies.old hb;obtain⟨b2,off2,rfl,hblk2,hcs2⟩:=hy.at (by omega);have hcy:=hcs2 k hkl;have hp1:=hp.1;have hp2:=hp.2;have gz1:=gz.1;have gz2:cur.getD (i+k) 0<65536:=gz.2;generalize cur.getD (i+k) 0=z at *;have HX:Hid (xs.getD i 0*ys.getD k 0=xs.getD i 0*ys.getD k 0):=rfl;generalize xs.getD i 0=x at *;generalize ys.getD k 0=y at *;have hmul:IntKind.i64.wrap (x*y)=x*y:=IntWalk.i64_in _ (by omega);clear hrw hm hb hx hcs hy hcs2 h h' hgo gx gy gz hp HX;go_wp2;go_quiet (fail)
      go_wp2;go_roundw
      case rel=>exact⟨k+1,_,_,by go_num,rfl,(HR.out.drewN _).set _ _,HS.out,(HB.out.trans (Drew.below ⟨_,rfl⟩ _)).setCell (Nat.le_refl _) _⟩
      case measure=>simp[intOf]<;>omega
     ·have hz:ys.getD k 0=0:=by simp[List.getD,List.getElem?_eq_none (show ys.length≤k by omega)]
      rw[hz]at HS;simp only[Int.mul_zero,Int.add_zero]at HS;have gz1:=gz.1;have gz2:cur.getD (i+k) 0<65536:=gz.2;generalize cur.getD (i+k) 0=z at *;have hcp:0<c:=by omega
      clear hrw hm hb hx hcs h h' hgo gx gy gz hp hcx;go_wp2;go_roundw
      case rel=>exact⟨k+1,_,_,by go_num,rfl,HR.out.set _ _,HS.out,HB.out.setCell (Nat.le_refl _) _⟩
      case measure=>simp[intOf]<;>omega
    ·obtain rfl:c=0:=by omega
     have hkl:lb≤k:=by omega
     have HS:Hid (RMuls xs ys (la+lb+1) (i+1) 0 cur 0):=hm.next (by omega);clear hm h h' hgo hc0 hc1;go_wp2;go_roundw
     case rel=>exact⟨i+1,cur,by omega,by go_num,hrw,HS.out,hb⟩
     case measure=>simp[intOf]<;>omega
  ·obtain rfl:i=la:=by omega
   have hlen:=hm0.1;have HV:Hid (val D16 cur0=val D16 xs*val D16 ys):=by rw[←hl]at hm0;exact hm0.done (k:=0)
   have HR:Hid (NumIn .i64 D16 wr (some ⟨w.heap.size,0,none⟩) (i+lb+1) (i+lb+1) cur0):=by have:=hrw0.num hm0.2.1 (by omega);rw[hlen]at this;exact this
   have HB:Hid (Below w.heap.size w wr):=hb0;clear hm0 hb0 hrw0 hlen h h';go_wp2_with fail
   refine(rtrim_any _ _ _ _ _ HR.out).mono ?_;rintro e w4 ⟨rfl,rfl⟩;go_wp2;go_ret;exact⟨_,rfl,HR.out.out HB.out _ HV.out _ (by omega)⟩
def NumNew(k:IntKind)(B:Int)(w w':World)(v:Value)(n:Int)(L:Nat):Prop:=
 ∃ao len cap xs,v=.slice ao len cap∧NumIn k B w' ao len cap xs∧Canon xs∧val B xs=n∧len≤L∧Below w.heap.size w w'∧∀b off s,ao=some ⟨b,off,s⟩→w.heap.size≤b
theorem Own.fresh{e:TypeId}{k:IntKind}{w:World}{base:Nat}{ao:Option Addr}{len cap:Nat}{xs:List Int}(h:Own e k w base (.slice ao len cap) xs):∀b off s,ao=some ⟨b,off,s⟩→base≤b:=by
 intro b off s ha;rcases h.2 with⟨h1,_⟩|⟨g,cap',cur,h1,hg,_⟩
 ·injection h1 with h1;rw[h1]at ha;cases ha
 ·injection h1 with h1;rw[h1]at ha;injection ha with ha;injection ha with ha;omega
theorem NumIn.fresh{k:IntKind}{B:Int}{w w':World}{ao:Option Addr}{len cap:Nat}{xs:List Int}(h:NumIn k B w' ao len cap xs)(hb:Below w.heap.size w w')(n:Int)(hv:val B xs=n)(L:Nat)(hL:len≤L)(hf:∀b off s,ao=some ⟨b,off,s⟩→w.heap.size≤b):
  NumNew k B w w' (.slice ao (top xs) cap) n L:=by
 have hl:=h.len;have ht:=top_le xs;exact⟨ao,top xs,cap,xs.take (top xs),rfl,h.take _ (by omega),canon_take_top xs,by rw[val_take_top,hv],by omega,hb,hf⟩
def RSubs(xs ys:List Int)(i:Nat)(ds:List Int)(c:Int):Prop:=
 ds.length=i∧Dg D16 ds∧0≤c∧c≤1∧val D16 ds=low D16 xs i-low D16 ys i+D16^i*c
theorem RSubs.step{xs ys:List Int}{i:Nat}{ds:List Int}{c:Int}(h:RSubs xs ys i ds c){d c':Int}(hd:0≤d∧d<D16)(hc:0≤c'∧c'≤1)(he:d=xs.getD i 0-c-ys.getD i 0+65536*c'):RSubs xs ys (i+1) (ds++[d]) c':=by
 obtain⟨h1,h2,h3,h4,h5⟩:=h;refine⟨by simp[h1],h2.append (Dg.cons hd (Dg.nil _)),hc.1,hc.2,?_⟩;rw[val_snoc,low_succ,low_succ,h1,Int.pow_succ,h5,he];have hD:D16=65536:=rfl;generalize D16^i=p at *;rw[hD]
 grind
theorem RSubs.done{xs ys:List Int}{ds:List Int}{c:Int}(h:RSubs xs ys xs.length ds c)(hy:ys.length≤xs.length)(hle:val D16 ys≤val D16 xs):val D16 ds=val D16 xs-val D16 ys:=by
 obtain⟨h1,h2,h3,h4,h5⟩:=h;rw[low_len,low_all D16 ys xs.length (by have:=top_le ys;omega)]at h5;have hc:c=0:=by
  have a:=val_lt D16_pos h2;rw[h1]at a;rcases(show c=0∨c=1 by omega) with e|e
  ·exact e
  ·rw[e]at h5;omega
 rw[hc]at h5;simpa using h5
theorem rSub_new(ao bo:Option Addr)(la ca lb cb:Nat)(xs ys:List Int)(w:World)(h:NumIn .i64 D16 w ao la ca xs)(h':NumIn .i64 D16 w bo lb cb ys)(hx:Canon xs)(hy:Canon ys)(hle:val D16 ys≤val D16 xs)(hla:la≤1000000)(hlb:lb≤1000000):
  Calls Tryz.prog 119 #[.slice ao la ca,.slice bo lb cb] w fun e w'=>∃v,e=.returned v∧NumNew .i64 D16 w w' v (val D16 xs-val D16 ys) la:=by
 have hl:=h.len;have hl':=h'.len;have hyx:lb≤la:=by have:=top_mono D16_one h'.dg h.dg hle;unfold Canon at hx hy;omega
 clear hx hy;go_enter Tryz.func119,Tryz.ntmps119;go_wp2;go_loopw [5,6,7] (fun vo vc vi wr=>∃(i:Nat) (c:Int) (ds:List Int),i≤la∧vi=.int .i64 i∧vc=.int .i64 c∧Own 3 .i64 wr w.heap.size vo ds∧RSubs xs ys i ds c∧Below w.heap.size w wr) (fun _ _ vi _=>la-(intOf vi).toNat)
 case atStart=>exact⟨0,0,[],Nat.zero_le _,rfl,rfl,Own.nil _ _ _ _,⟨rfl,Dg.nil _,by decide,by decide,by simp[val,low_zero]⟩,Below.refl _ _⟩
 case round=>
  obtain⟨i,c,ds,hi,rfl,rfl,hown,hs,hb⟩:=hrel;by_cases hlt:i<la
  ·have hx:=h.lies.old hb;obtain⟨b,off,rfl,hblk,hcs⟩:=hx.at (by omega);have hcx:=hcs i hlt;have hlen:=hs.1;have hc0:=hs.2.2.1;have hc1:=hs.2.2.2.1;have gx:=h.dg.getD D16_pos i;have gy:=h'.dg.getD D16_pos i;have HS:Hid (∀d c',(0≤d∧d<D16)→(0≤c'∧c'≤1)→d=xs.getD i 0-c-ys.getD i 0+65536*c'→RSubs xs ys (i+1) (ds++[d]) c'):=fun d c' h1 h2 h3=>hs.step h1 h2 h3;have HLB:Hid (ds.length<1073741824):=by unfold Hid;omega
   have hbs:=hb.size;have x0:=gx.1;have x1:xs.getD i 0<65536:=gx.2;have y0:=gy.1;have y1:ys.getD i 0<65536:=gy.2;have hin:i<lb→∃b2 off2,bo=some ⟨b2,off2,none⟩∧wr.cell? ⟨b2,off2+i,none⟩=some (.int .i64 (ys.getD i 0)):=fun hk=>by obtain⟨b2,off2,e,_,hc2⟩:=(h'.lies.old hb).at (by omega);exact⟨b2,off2,e,hc2 i hk⟩
   have hout:¬i<lb→ys.getD i 0=0:=fun hk=>by simp[List.getD,List.getElem?_eq_none (show ys.length≤i by omega)]
   generalize xs.getD i 0=x at *;generalize ys.getD i 0=y at *;clear hs hx hcs h h' hle hl hl' gx gy hlen;by_cases hk:i<lb
   ·obtain⟨b2,off2,rfl,hcy⟩:=hin hk;clear hin hout;by_cases hneg:x-c-y<0
    ·have HF:=HS.out (x-c-y+65536) 1 (by unfold D16;omega) (by omega) (by omega);replace HS:Hid (RSubs xs ys (i+1) (ds++[x-c-y+65536]) 1):=HF;clear HF;go_wp2_with (at_builtin;refine wpList_append_one rfl _ _ 55 rfl 3 .i64 8 Tryz.underlying55 Tryz.infoI w.heap.size u5 ds (x-c-y+65536) (by rfl) hown (by rfl) HLB.out (by decide) w hb hbs ?_)
     intro v' w' hown' hb';clear hown hb hbs;go_wp2;go_roundw
     case rel=>exact⟨i+1,_,_,by omega,by go_num,rfl,hown',HS.out,hb'⟩
     case measure=>simp[intOf]<;>omega
    ·have HF:=HS.out (x-c-y) 0 (by unfold D16;omega) (by omega) (by omega);replace HS:Hid (RSubs xs ys (i+1) (ds++[x-c-y]) 0):=HF;clear HF;go_wp2_with (at_builtin;refine wpList_append_one rfl _ _ 55 rfl 3 .i64 8 Tryz.underlying55 Tryz.infoI w.heap.size u5 ds (x-c-y) (by rfl) hown (by rfl) HLB.out (by decide) w hb hbs ?_)
     intro v' w' hown' hb';clear hown hb hbs;go_wp2;go_roundw
     case rel=>exact⟨i+1,_,_,by omega,by go_num,rfl,hown',HS.out,hb'⟩
     case measure=>simp[intOf]<;>omega
   ·have hz:=hout hk;subst hz;clear hin hout y0 y1;by_cases hneg:x-c<0
    ·have HF:=HS.out (x-c+65536) 1 (by unfold D16;omega) (by omega) (by omega);replace HS:Hid (RSubs xs ys (i+1) (ds++[x-c+65536]) 1):=HF;clear HF;go_wp2_with (at_builtin;refine wpList_append_one rfl _ _ 55 rfl 3 .i64 8 Tryz.underlying55 Tryz.infoI w.heap.size u5 ds (x-c+65536) (by rfl) hown (by rfl) HLB.out (by decide) w hb hbs ?_)
     intro v' w' hown' hb';clear hown hb hbs;go_wp2;go_roundw
     case rel=>exact⟨i+1,_,_,by omega,by go_num,rfl,hown',HS.out,hb'⟩
     case measure=>simp[intOf]<;>omega
    ·have HF:=HS.out (x-c) 0 (by unfold D16;omega) (by omega) (by omega);replace HS:Hid (RSubs xs ys (i+1) (ds++[x-c]) 0):=HF;clear HF;go_wp2_with (at_builtin;refine wpList_append_one rfl _ _ 55 rfl 3 .i64 8 Tryz.underlying55 Tryz.infoI w.heap.size u5 ds (x-c) (by rfl) hown (by rfl) HLB.out (by decide) w hb hbs ?_)
     intro v' w' hown' hb';clear hown hb hbs;go_wp2;go_roundw
     case rel=>exact⟨i+1,_,_,by omega,by go_num,rfl,hown',HS.out,hb'⟩
     case measure=>simp[intOf]<;>omega
  ·obtain rfl:i=la:=by omega
   have hlen:=hs.1;obtain⟨a2,c2,hv,hnum⟩:=hown.num hs.2.1 (by omega);have HV:Hid (val D16 ds=val D16 xs-val D16 ys):=by rw[←hl]at hs;exact hs.done (by omega) hle
   have HN:Hid (NumIn .i64 D16 wr a2 ds.length c2 ds):=hnum;have HB:Hid (Below w.heap.size w wr):=hb;have HL:Hid (ds.length=i):=hlen;subst hv;have HFR:Hid (∀b off s,a2=some ⟨b,off,s⟩→w.heap.size≤b):=hown.fresh;clear hown hs hnum hb h h' hle hlen;go_wp2_with fail
   refine(rtrim_any a2 ds.length c2 ds wr HN.out).mono ?_;rintro e w4 ⟨rfl,rfl⟩;go_wp2;go_ret;exact⟨_,rfl,HN.out.fresh HB.out _ HV.out _ (by have:=HL.out;omega) HFR.out⟩
def Smls (n:Int)(ds:List Int)(x:Int):Prop:=
 Dg D16 ds∧0≤x∧val D16 ds+D16^ds.length*x=n∧∀j,ds.length=j+1→D16^j≤n
theorem Smls.step{n:Int}{ds:List Int}{x:Int}(h:Smls n ds x)(hx:0<x):Smls n (ds++[x%65536]) (x/65536):=by
 obtain⟨h1,h2,h3,h4⟩:=h;have hD:D16=65536:=rfl;refine⟨h1.append (Dg.cons (by rw[hD];omega) (Dg.nil _)),by omega,?_,fun j hj => ?_⟩
 ·rw[val_snoc,List.length_append,List.length_cons,List.length_nil,Int.pow_succ,←h3];have e:x=x%65536+65536*(x/65536):=by omega
  generalize x%65536=r at *;generalize x/65536=q at *;rw[e];generalize D16^ds.length=p at *;rw[hD]
  grind
 ·simp at hj;rw[←hj,←h3];have v0:=val_nonneg D16_pos h1;have:D16^ds.length*1≤D16^ds.length*x:=Int.mul_le_mul_of_nonneg_left (by omega) (by have:0<D16^ds.length:=Int.pow_pos D16_pos;omega);omega
theorem Smls.few{n:Int}{ds:List Int}{x:Int}(h:Smls n ds x)(hn:n<9223372036854775808):ds.length≤4:=by
 cases hl:ds.length with
 | zero=>omega
 | succ j =>
  have a:=h.2.2.2 j hl;by_cases hj:j<4
  ·omega
  ·have b:=pow_mono (B:=D16) (by decide) (show 4≤j by omega);rw[D16_4]at b;unfold B64 at b;omega
theorem Smls.done{n:Int}{ds:List Int}(h:Smls n ds 0):val D16 ds=n∧Canon ds:=by
 obtain⟨h1,h2,h3,h4⟩:=h;have hv:val D16 ds=n:=by simpa using h3
 refine⟨hv,?_⟩
 cases hl:ds.length with
 | zero=>rw[List.eq_nil_of_length_eq_zero hl];exact Canon.nil
 | succ j=>exact canon_of_ge D16_one h1 j hl (by rw[hv];exact h4 j hl)
theorem rSmall_any(n:Int)(w:World)(h0:0≤n)(h1:n<9223372036854775808):
  Calls Tryz.prog 16 #[.int .i64 n] w fun e w'=>∃v,e=.returned v∧NumOut .i64 D16 w w' v n 4:=by
 go_enter Tryz.func16,Tryz.ntmps16;go_wp2;go_loopw [0,3] (fun vx vo wr=>∃(x:Int) (ds:List Int),vx=.int .i64 x∧x≤n∧Own 3 .i64 wr w.heap.size vo ds∧Smls n ds x∧Below w.heap.size w wr) (fun vx _ _=>(intOf vx).toNat)
 case atStart=>exact⟨n,[],rfl,Int.le_refl _,Own.nil _ _ _ _,⟨Dg.nil _,h0,by simp[val],fun j h=>by simp at h⟩,Below.refl _ _⟩
 case round=>
  obtain⟨x,ds,rfl,hxn,hown,hs,hb⟩:=hrel;have hx0:=hs.2.1;have hfew:=hs.few h1;by_cases hx:0<x
  ·have HS:Hid (Smls n (ds++[x%65536]) (x/65536)):=hs.step hx;have HLB:Hid (ds.length<1073741824):=by unfold Hid;omega
   have hbs:=hb.size;clear hs hfew;go_wp2_with (at_builtin;refine wpList_append_one rfl _ _ 55 rfl 3 .i64 8 Tryz.underlying55 Tryz.infoI w.heap.size u3 ds (x%65536) (by rfl) hown (by rfl) HLB.out (by decide) w hb hbs ?_)
   intro v' w' hown' hb';clear hown hb hbs;go_wp2;go_roundw
   case rel=>exact⟨x/65536,_,rfl,by omega,hown',HS.out,hb'⟩
   case measure=>simp[intOf]<;>omega
  ·obtain rfl:x=0:=by omega
   obtain⟨a2,c2,hv,hnum⟩:=hown.num hs.1 (by omega);have HF:Hid (NumOut .i64 D16 w wr (.slice a2 ds.length c2) n 4):=⟨_,_,_,_,rfl,hnum,hs.done.2,hs.done.1,hfew,hb⟩
   subst hv;clear hown hs hnum hb hfew;go_wp2;go_ret;exact⟨_,rfl,HF.out⟩
theorem low_le{B:Int}(hB:0<B)(xs:List Int)(hd:Dg B xs)(i:Nat):low B xs i≤val B xs:=by have h:=val_append B (xs.take i) (xs.drop i);rw[List.take_append_drop]at h;have a:=val_nonneg hB (hd.drop i);have hp:0<B^(xs.take i).length:=Int.pow_pos hB;have b:=Int.mul_nonneg (Int.le_of_lt hp) a;unfold low;omega
theorem times_ok(rs ys:List Int)(hr:Dg D16 rs)(hy:Dg D16 ys)(m:Nat)(hm:ys.length=m+1)(s:Int)(hs0:0≤s)(hs:s*(ys.getD m 0+1)≤rs.getD m 0+65536*rs.getD (m+1) 0):s*val D16 ys≤val D16 rs:=by
 have hD:D16=65536:=rfl;have hp:0<D16^m:=Int.pow_pos D16_pos;have e1:val D16 ys=low D16 ys m+D16^m*ys.getD m 0:=by rw[←low_succ,←hm,low_len]
 have l1:low D16 ys m<D16^m:=by
  have a:=val_lt D16_pos (hy.take m);have b:(ys.take m).length=m:=by simp;omega
  rw[b]at a;exact a
 have e2:low D16 rs (m+1+1)=low D16 rs m+D16^m*(rs.getD m 0+65536*rs.getD (m+1) 0):=by
  rw[low_succ,low_succ,Int.pow_succ];generalize D16^m=p at *;rw[hD]
  grind
 have l2:=low_le D16_pos rs hr (m+1+1);have l3:0≤low D16 rs m:=val_nonneg D16_pos (hr.take m);have m1:s*val D16 ys≤s*(D16^m*(ys.getD m 0+1)):=by refine Int.mul_le_mul_of_nonneg_left ?_ hs0;rw[e1,Int.mul_add];omega
 have m2:D16^m*(s*(ys.getD m 0+1))≤D16^m*(rs.getD m 0+65536*rs.getD (m+1) 0):=Int.mul_le_mul_of_nonneg_left hs (by omega);have e3:s*(D16^m*(ys.getD m 0+1))=D16^m*(s*(ys.getD m 0+1)):=by grind
 omega
theorem set_zero(q:List Int)(i:Nat)(h:q.getD i 0=0):q.set i 0=q:=by
 apply List.ext_getElem
 ·simp
 ·intro j h1 h2;rw[List.getElem_set];split
  ·rename_i e;subst e;simp only[List.getD]at h;rw[List.getElem?_eq_getElem (by simpa using h1)]at h;simpa using h.symm
  ·rfl
def RDivs(xs ys:List Int)(kk:Nat)(q:List Int)(R:Int):Prop:=
 q.length=xs.length∧Dg D16 q∧(∀j,j<kk→q.getD j 0=0)∧0≤R∧R<val D16 ys∧val D16 (xs.drop kk)=val D16 (q.drop kk)*val D16 ys+R
def RDivIn(xs ys:List Int)(i:Nat)(T:Int)(q0 q:List Int)(t R:Int):Prop:=
 q=q0.set i t∧0≤t∧t<65536∧0≤R∧t*val D16 ys+R=T
theorem rdrop_cons(xs:List Int)(i:Nat)(h:i<xs.length):xs.drop i=xs.getD i 0::xs.drop (i+1):=by rw[List.drop_eq_getElem_cons h];simp[List.getD,List.getElem?_eq_getElem h]
theorem RDivs.enter{xs ys:List Int}{i:Nat}{q:List Int}{R:Int}(h:RDivs xs ys (i+1) q R)(hx:Dg D16 xs):RDivIn xs ys i (xs.getD i 0+D16*R) q q 0 (xs.getD i 0+D16*R):=by obtain⟨h1,h2,h3,h4,h5,h6⟩:=h;have g:=hx.getD D16_pos i;refine⟨(set_zero q i (h3 i (by omega))).symm,by omega,by omega,?_,by omega⟩;have:0≤D16*R:=Int.mul_nonneg (by decide) h4;omega
theorem RDivs.top{xs ys:List Int}{i:Nat}{q:List Int}{R:Int}(h:RDivs xs ys (i+1) q R)(hx:Dg D16 xs):xs.getD i 0+D16*R<D16*val D16 ys:=by obtain⟨h1,h2,h3,h4,h5,h6⟩:=h;have g:=hx.getD D16_pos i;have:D16*(R+1)≤D16*val D16 ys:=Int.mul_le_mul_of_nonneg_left (by omega) (by decide);rw[Int.mul_add]at this;omega
theorem RDivIn.step{xs ys:List Int}{i:Nat}{T:Int}{q0 q:List Int}{t R s:Int}(h:RDivIn xs ys i T q0 q t R)(hT:T<D16*val D16 ys)(hY:0<val D16 ys)(hs:1≤s)(hsR:s*val D16 ys≤R):RDivIn xs ys i T q0 (q.set i (t+s)) (t+s) (R-s*val D16 ys):=by
 obtain⟨h1,h2,h3,h4,h5⟩:=h;refine⟨by rw[h1];simp,by omega,?_,by omega,by rw[Int.add_mul];omega⟩;by_cases e:t+s<65536
 ·exact e
 ·exfalso;have:D16*val D16 ys≤(t+s)*val D16 ys:=Int.mul_le_mul_of_nonneg_right (by unfold D16;omega) (by omega);rw[Int.add_mul]at this;omega
theorem RDivIn.leave{xs ys:List Int}{i:Nat}{T:Int}{q0 q:List Int}{t R R0:Int}(h:RDivIn xs ys i T q0 q t R)(hd:RDivs xs ys (i+1) q0 R0)(hi:i<xs.length)(hT:T=xs.getD i 0+D16*R0)(hR:R<val D16 ys):RDivs xs ys i q R:=by
 obtain⟨h1,h2,h3,h4,h5⟩:=h;obtain⟨d1,d2,d3,d4,d5,d6⟩:=hd;subst h1;refine⟨by simp[d1],d2.set _ ⟨h2,by unfold D16;omega⟩,fun j hj => ?_,h4,hR,?_⟩
 ·rw[getD_set _ _ _ _ (by omega),if_neg (by omega)];exact d3 j (by omega)
 ·rw[rdrop_cons xs i hi,rdrop_cons (q0.set i t) i (by simp;omega),val_cons,val_cons,getD_set _ _ _ _ (by omega),if_pos rfl,d6];have e:(q0.set i t).drop (i+1)=q0.drop (i+1):=by rw[List.drop_set_of_lt (by omega)]
  rw[e];rw[hT]at h5
  grind
theorem RDivs.done{xs ys:List Int}{q:List Int}{R:Int}(h:RDivs xs ys 0 q R):val D16 q=val D16 xs/val D16 ys∧R=val D16 xs%val D16 ys:=by
 obtain⟨h1,h2,h3,h4,h5,h6⟩:=h;simp only[List.drop_zero]at h6;rw[h6];constructor
 ·rw[Int.add_comm,Int.add_mul_ediv_right _ _ (by omega),Int.ediv_eq_zero_of_lt h4 h5];omega
 ·rw[Int.add_comm,Int.add_mul_emod_self_right,Int.emod_eq_of_lt h4 h5]
def cellNat(w:World)(a:Addr):Nat:=(intOf ((w.cell? a).getD undef)).toNat
theorem cellNat_row{e:TypeId}{w:World}{g:Nat}{xs:List Int}(h:Row e .i64 w g xs)(j:Nat)(hj:j<xs.length):cellNat w ⟨g,j,none⟩=(xs.getD j 0).toNat:=by unfold cellNat;rw[h.cell j hj];rfl
theorem NumIn.kept{k:IntKind}{B:Int}{w w':World}{ao:Option Addr}{len cap:Nat}{xs:List Int}(h:NumIn k B w ao len cap xs){row:Option Nat}(hg:w.grownBy w' row)(hne:∀b off s,ao=some ⟨b,off,s⟩→some b≠row):NumIn k B w' ao len cap xs:=
 ⟨h.lies.kept hg hne,h.lc,h.cm,h.nn,h.dg,h.sm⟩
def Rem (w:World)(g:Nat)(v:Value)(R:Int)(L:Nat):Prop:=
 ∃ao len cap rs,v=.slice ao len cap∧NumIn .i64 D16 w ao len cap rs∧Canon rs∧val D16 rs=R∧len≤L∧∀b off s,ao=some ⟨b,off,s⟩→g<b
theorem Rem.old{w w':World}{g:Nat}{v:Value}{R:Int}{L:Nat}(h:Rem w g v R L)(hb:Below w.heap.size w w'):Rem w' g v R L:=by obtain⟨ao,len,cap,rs,e1,e2,e3,e4,e5,e6⟩:=h;exact⟨ao,len,cap,rs,e1,e2.old hb,e3,e4,e5,e6⟩
theorem Rem.len{w:World}{g:Nat}{v:Value}{R:Int}{L:Nat}{ys:List Int}(h:Rem w g v R L)(hy:Dg D16 ys)(hR:R<val D16 ys):Rem w g v R ys.length:=by obtain⟨ao,len,cap,rs,e1,e2,e3,e4,e5,e6⟩:=h;refine⟨ao,len,cap,rs,e1,e2,e3,e4,?_,e6⟩;have:=top_mono D16_one e2.dg hy (by omega);have:=top_le ys;have:=e2.len;unfold Canon at e3;omega
end
section
open Go.Shelf Go.RowKit
def Rv (w:World)(v:Value)(n:Int)(L:Nat):Prop:=∃ao l c xs,v=.slice ao l c∧NumIn .i64 D16 w ao l c xs∧Canon xs∧val D16 xs=n∧l≤L
theorem Rv.old{w w':World}{v:Value}{n:Int}{L:Nat}(h:Rv w v n L)(hb:Below w.heap.size w w'):Rv w' v n L:=by obtain⟨ao,l,c,xs,rfl,h1,h2⟩:=h;exact⟨ao,l,c,xs,rfl,h1.old hb,h2⟩
theorem rv_of{w w':World}{v:Value}{n:Int}{L:Nat}(h:NumOut .i64 D16 w w' v n L):Rv w' v n L∧Below w.heap.size w w':=by obtain⟨ao,l,c,xs,rfl,h1,h2,h3,h4,h5⟩:=h;exact⟨⟨ao,l,c,xs,rfl,h1,h2,h3,h4⟩,h5⟩
theorem val_full(B:Int):∀d:Nat,val B (List.replicate d (B-1))=B^d-1
 | 0=>by simp[val]
 | d+1=>by
  rw[List.replicate_succ,val_cons,val_full B d,Int.pow_succ];generalize B^d=q
  grind
theorem fit_len{B:Int}(hB:1<B){xs:List Int}(hd:Dg B xs)(hc:Canon xs){d:Nat}(h:val B xs<B^d):xs.length≤d:=by
 have h1:=len_fit (B:=B) hB hd hc (ys:=List.replicate d (B-1)) (fun x hx=>by rw[(List.mem_replicate.1 hx).2];omega) (by rw[val_full];omega)
 rwa [List.length_replicate]at h1
theorem Rv.fit{w:World}{v:Value}{n:Int}{L d:Nat}(h:Rv w v n L)(hn:n<D16^d):Rv w v n d:=by obtain⟨ao,l,c,xs,rfl,h1,h2,h3,h4⟩:=h;exact⟨ao,l,c,xs,rfl,h1,h2,h3,by have:=fit_len D16_one h1.dg h2 (by rw[h3];exact hn);rw[h1.len]at this;exact this⟩
theorem rv_eq{w w':World}{v:Value}{n n':Int}{L d:Nat}(h:NumOut .i64 D16 w w' v n L)(e:n=n')(hd:n'<D16^d):Rv w' v n' d∧Below w.heap.size w w':=by subst e;exact⟨(rv_of h).1.fit hd,(rv_of h).2⟩
theorem rNat_nv(v:Value)(n:Int)(L d:Nat)(w:World)(h:Rv w v n L)(hL:L≤1000)(hd:n<B64^d):
  Calls Tryz.prog 13 #[v] w fun e w'=>∃r,e=.returned r∧Nv w' r n d∧Below w.heap.size w w':=by
 obtain⟨a1,a2,a3,a4,rfl,a5,a6,a7,a8⟩:=h;refine(rNat_any a1 a2 a3 a4 w a5 a6 (by omega)).mono ?_;rintro e w' ⟨v,rfl,q1,q2,q3,q4,rfl,h1,h2,h3,h4,h5⟩;rw[a7]at h3;exact⟨_,rfl,⟨q1,q2,q3,q4,rfl,h1,h3,by have:=fit_len B64_one h1.dg h2 (by rw[h3];exact hd);rw[h1.len]at this;exact this⟩,h5⟩
theorem rOf_rv(v:Value)(n:Int)(L:Nat)(w:World)(h:Nv w v n L)(hL:L≤1000):
  Calls Tryz.prog 56 #[v] w fun e w'=>∃r,e=.returned r∧Rv w' r n (4*L)∧Below w.heap.size w w':=by
 obtain⟨a1,a2,a3,a4,rfl,a5,a6,a7⟩:=h;refine(rOf_any a1 a2 a3 a4 w a5 (by omega)).mono ?_;rintro e w' ⟨v,rfl,q1,q2,q3,q4,rfl,h1,h2,h3,h4,h5⟩;exact⟨_,rfl,⟨q1,q2,q3,q4,rfl,h1,h2,by rw[h3,a6],by omega⟩,h5⟩
theorem rCmp_rv(a b:Value)(x y:Int)(L L':Nat)(w:World)(ha:Rv w a x L)(hb:Rv w b y L')(hL:L≤1000000)(hL':L'≤1000000):
  Calls Tryz.prog 57 #[a,b] w fun e w'=>e=.returned (.int .i64 (cmpI x y))∧Below w.heap.size w w':=by
 obtain⟨a1,a2,a3,a4,rfl,a5,a6,a7,a8⟩:=ha;obtain⟨b1,b2,b3,b4,rfl,b5,b6,b7,b8⟩:=hb;refine(rCmp_any a1 b1 a2 a3 b2 b3 a4 b4 w a5 b5 a6 b6 (by omega) (by omega)).mono ?_;rintro e w' ⟨rfl,hd⟩;rw[a7,b7];exact⟨rfl,hd.below _⟩
theorem rlen_rv(v:Value)(n:Int)(L:Nat)(w:World)(h:Rv w v n L)(hL:L≤1000000):
  Calls Tryz.prog 30 #[v] w fun e w'=>e=.returned (.int .i64 (blen n.toNat))∧w'=w:=by
 obtain⟨a1,a2,a3,a4,rfl,a5,a6,a7,a8⟩:=h;have:=rLen_any a1 a2 a3 a4 w a5 a6 (by omega)
 rwa [a7]at this
theorem rbit_rv(v:Value)(n:Int)(L i:Nat)(w:World)(h:Rv w v n L)(hi:i<1000000000):
  Calls Tryz.prog 41 #[v,.int .i64 i] w fun e w'=>e=.returned (.int .i64 (bitAt n i))∧w'=w:=by
 obtain⟨a1,a2,a3,a4,rfl,a5,a6,a7,a8⟩:=h;have:=rBit_any a1 a2 a3 a4 i w a5 hi
 rwa [a7]at this
theorem rsmall_rv(n:Int)(w:World)(h0:0≤n)(h1:n<9223372036854775808):
  Calls Tryz.prog 16 #[.int .i64 n] w fun e w'=>∃v,e=.returned v∧Rv w' v n 4∧Below w.heap.size w w':=by
 refine(rSmall_any n w h0 h1).mono ?_;rintro e w' ⟨v,rfl,h⟩;exact⟨v,rfl,(rv_of h).1,(rv_of h).2⟩
theorem Rv.nonneg{w:World}{v:Value}{n:Int}{L:Nat}(h:Rv w v n L):0≤n:=by obtain⟨ao,l,c,xs,rfl,h1,h2,h3,h4⟩:=h;rw[←h3];exact val_nonneg D16_pos h1.dg
def nI (x:Bs):Int:=val 256 (intsB x).reverse
def WhPost(w:World)(P:Nat→Prop)(R:Option (Bs × Bs))(e:Ending)(w':World):Prop:=
 Below w.heap.size w w'∧((R=none∧e=.returned (.tuple #[.slice none 0 0,.slice none 0 0,.bool false]))∨∃x r v p2 c2,R=some (x,r)∧e=.returned (.tuple #[v,.slice p2 r.length c2,.bool (decide (x.length≤512))])∧Rv w' v (nI x) 1001∧ByV w' P p2 c2 r)
theorem byv_num{w:World}{P:Nat→Prop}{p:Option Addr}{c:Nat}{l:Bs}(h:ByV w P p c l)(hl:l.length≤5000)(h0:0<l.length):NumIn .u8 256 w p l.length c (intsB l):=
 numIn_bat h.lies rfl h0 h.cap h.big (by omega)
theorem int_cut{l x:Bs}(h:intL l=some x):∃a xs,l=a::xs∧a.toNat<128∧((a.toNat=0∧nI x=nI xs∧decide (x.length≤512)=decide (xs.length≤512)∧¬(0<xs.length∧(xs.getD 0 0).toNat<128))∨(a.toNat≠0∧x=a::xs)):=by
 cases l with
 | nil=>cases h
 | cons a xs =>
  rw[intL_cons]at h;by_cases h1:128≤a.toNat
  ·rw[if_pos h1]at h;cases h
  rw[if_neg h1]at h;refine⟨a,xs,rfl,by omega,?_⟩;by_cases h2:a.toNat=0∧0<xs.length
  ·rw[if_pos h2]at h;by_cases h3:(xs.getD 0 0).toNat<128
   ·rw[if_pos h3]at h;cases h
   ·rw[if_neg h3]at h
    cases h
    exact .inl ⟨h2.1,rfl,rfl,fun h=>h3 h.2⟩
  ·rw[if_neg h2]at h
   cases h
   by_cases h4:a.toNat=0
   ·have hx:xs=[]:=by
     rcases Nat.eq_zero_or_pos xs.length with h5|h5
     ·exact List.eq_nil_of_length_eq_zero h5
     ·exact absurd ⟨h4,h5⟩ h2
    subst hx;refine .inl ⟨h4,?_,rfl,fun h=>by simp at h⟩;unfold nI intsB;simp[val,h4]
   ·exact .inr ⟨h4,rfl⟩
theorem int_none{a:UInt8}{xs:Bs}(h:intL (a::xs)=none):128≤a.toNat∨(a.toNat<128∧a.toNat=0∧0<xs.length∧(xs.getD 0 0).toNat<128):=by
 rw[intL_cons]at h;by_cases h1:128≤a.toNat
 ·exact .inl h1
 rw[if_neg h1]at h;by_cases h2:a.toNat=0∧0<xs.length
 ·rw[if_pos h2]at h;by_cases h3:(xs.getD 0 0).toNat<128
  ·exact .inr ⟨by omega,h2.1,h2.2,h3⟩
  ·rw[if_neg h3]at h;cases h
 ·rw[if_neg h2]at h;cases h
theorem rWhole(p:Option Addr)(n c:Nat)(bs:Bs)(P:Nat→Prop)(w:World)(hn:bs.length=n)(h:ByV w P p c bs)(hn2:n≤2000):
  Calls Tryz.prog 59 #[.slice p n c] w (WhPost w P (wholeR bs)):=by
 have HPI:=rPiece p n c bs P 2 (by decide) w hn h;have hw:wholeR bs=match pieceR bs 2 with
  | none=>none
  | some (b,r)=>match intL b with
   | none=>none
   | some x=>some (x,r):=rfl
 obtain⟨R,hR⟩:∃R,wholeR bs=R:=⟨_,rfl⟩
 rw[hR]at hw ⊢;have hlen:∀b r,pieceR bs 2=some (b,r)→b.length≤2000:=fun b r he=>by
  unfold pieceR at he
  cases hr:readD bs with
  | error k=>rw[hr]at he;cases he
  | ok q =>
   obtain⟨⟨t,b'⟩,r'⟩:=q;have:=read_len hr;rw[hr]at he;simp only[]at he;by_cases ht:t.toNat=2
   ·rw[if_pos ht]at he
    cases he
    omega
   ·rw[if_neg ht]at he;cases he
 have HBAD:Hid (R=none→∀W,Below w.heap.size w W→WhPost w P R (.returned (.tuple #[.slice none 0 0,.slice none 0 0,.bool false])) W):=fun hk W hW=>⟨hW,.inl ⟨hk,rfl⟩⟩
 cases hp:pieceR bs 2 with
 | none=>
  rw[hp]at HPI hw;have HR:Hid (R=none):=hw;clear hw hlen hp hR h hn;go_enter Tryz.func59,Tryz.ntmps59;go_wp2_with (go_at_call 58;refine HPI.mono ?_;intro e w2 hq;obtain⟨hb2,(⟨_,he⟩|⟨_,_,_,_,_,_,hno,_⟩)⟩:=hq;rotate_left;cases hno;subst he;clear HPI)
  go_ret3
  exact HBAD.out HR.out _ hb2
 | some q =>
  obtain⟨l,r⟩:=q;rw[hp]at HPI hw;have hll:=hlen l r hp;simp only[]at hw;obtain⟨L,hL⟩:∃L,l.length=L:=⟨_,rfl⟩
  obtain⟨Lr,hLr⟩:∃L,r.length=L:=⟨_,rfl⟩
  rw[hL]at hll;clear hlen hp hR h hn;have HPJ:Calls Tryz.prog 58 #[.slice p n c,.int .u8 2] w fun e w2=>∃p1 c1 p2 c2,e=.returned (.tuple #[.slice p1 L c1,.slice p2 Lr c2,.bool true])∧Below w.heap.size w w2∧ByV w2 P p1 c1 l∧ByV w2 P p2 c2 r:=by
   refine HPI.mono ?_;rintro e w2 ⟨hb2,(⟨hno,_⟩|⟨b',r',p1,c1,p2,c2,hs,he,hv1,hv2⟩)⟩
   ·cases hno
   ·cases hs
    rw[hL,hLr]at he;exact⟨p1,c1,p2,c2,he,hb2,hv1,hv2⟩
  clear HPI
  cases l with
  | nil=>
   simp at hL;subst hL;have HR:Hid (R=none):=hw;clear hw;go_enter Tryz.func59,Tryz.ntmps59;go_wp2_with fail
   refine HPJ.mono ?_;rintro e w2 ⟨p1,c1,p2,c2,rfl,hb2,-,-⟩;clear HPJ;go_wp2_with fail
   go_ret3
   exact HBAD.out HR.out _ hb2
  | cons a xs =>
   have ha:=a.toNat_lt;obtain⟨A,hA⟩:∃A,a.toNat=A:=⟨_,rfl⟩
   obtain⟨X,hX⟩:∃X,(xs.getD 0 0).toNat=X:=⟨_,rfl⟩
   have hx:=(xs.getD 0 0).toNat_lt;have hxl:xs.length=L-1:=by simp at hL;omega
   have hL1:0<L:=by simp at hL;omega
   rw[hA]at ha;rw[hX]at hx;have HL:Hid ((a::xs).length=L∧xs.length=L-1∧r.length=Lr∧a.toNat=A∧(xs.getD 0 0).toNat=X):=⟨hL,hxl,hLr,hA,hX⟩
   have hz:((L:Int)==0)=false:=by simp;omega
   have HFIN:Hid (∀(x:Bs) (v p2:_) (c2:Nat) (bb:Bool) (w2 w3:World),R=some (x,r)→decide (x.length≤512)=bb→Below w.heap.size w w2→ByV w2 P p2 c2 r→NumOut .i64 D16 w2 w3 v (nI x) 1001→WhPost w P R (.returned (.tuple #[v,.slice p2 Lr c2,.bool bb])) w3):=fun x v p2 c2 bb w2 w3 h1 h2 h3 h4 h5=>by obtain⟨h6,h7⟩:=rv_of h5;refine⟨h3.trans (h7.mono h3.size),.inr ⟨x,r,v,p2,c2,h1,?_,h6,h4.keep (fun g _ hlt=>h7.block g hlt)⟩⟩;rw[h2,HL.out.2.2.1]
   cases hi:intL (a::xs) with
   | none =>
    rw[hi]at hw;have HR:Hid (R=none):=hw;clear hw;rcases int_none hi with h1|⟨h1,h2,h3,h4⟩
    ·rw[hA]at h1;have h1I:(128:Int)≤(A:Int):=by omega
     have hLI:(0:Int)<(L:Int):=by omega
     clear hi hL hLr hA hX hxl h1;go_enter Tryz.func59,Tryz.ntmps59;go_wp2_with fail
     refine HPJ.mono ?_;rintro e w2 ⟨p1,c1,p2,c2,rfl,hb2,hv1,-⟩;obtain⟨b,o,rfl,hcl⟩:=hv1.lies (by simp);have k0:w2.cell? ⟨b,o,none⟩=some (.int .u8 (A:Int)):=by have:=hcl 0 (by simp);rw[←HL.out.2.2.2.1];simpa using this
     clear HPJ hcl hv1;go_wp2_with fail
     go_ret3
     exact HBAD.out HR.out _ hb2
    ·rw[hA]at h1 h2;rw[hX]at h4;rw[hxl]at h3;subst h2;have hLI:(0:Int)<(L:Int):=by omega
     have hLJ:(1:Int)<(L:Int):=by omega
     have h4I:(X:Int)<128:=by omega
     clear hi hL hLr hA hX hxl h1 h3 h4;go_enter Tryz.func59,Tryz.ntmps59;go_wp2_with fail
     refine HPJ.mono ?_;rintro e w2 ⟨p1,c1,p2,c2,rfl,hb2,hv1,-⟩;obtain⟨b,o,rfl,hcl⟩:=hv1.lies (by simp);have k0:w2.cell? ⟨b,o,none⟩=some (.int .u8 0):=by have:=hcl 0 (by simp);rw[show((a::xs).getD 0 0).toNat=0 from HL.out.2.2.2.1]at this;simpa using this
     have k1:w2.cell? ⟨b,o+1,none⟩=some (.int .u8 (X:Int)):=by have:=hcl 1 (by rw[HL.out.1];omega);rw[show((a::xs).getD 1 0).toNat=X from by rw[←HL.out.2.2.2.2];rfl]at this;exact this
     clear HPJ hcl hv1;go_wp2_with fail
     go_ret3
     exact HBAD.out HR.out _ hb2
   | some x =>
    rw[hi]at hw;have HR:Hid (R=some (x,r)):=hw;clear hw;obtain⟨a',xs',e,hA2,hcase⟩:=int_cut hi
    cases e
    rw[hA]at hA2 hcase;have hLI:(0:Int)<(L:Int):=by omega
    have hA3:¬(128:Int)≤(A:Int):=by omega
    rcases hcase with⟨h0,hn1,hd,hno⟩|⟨h0,rfl⟩
    ·subst h0;rw[hX,hxl]at hno;have HV2:Hid (nI x=nI xs∧decide (x.length≤512)=decide (L-1≤512)):=⟨hn1,by rw[hd,hxl]⟩
     clear hi hn1 hd;by_cases hL2:1<L
     ·have hLJ:(1:Int)<(L:Int):=by omega
      have hX2:¬(X:Int)<128:=by omega
      have hLK:(1:Int)≤(L:Int):=by omega
      clear hL hLr hA hX hxl hno hA2;obtain⟨bb,hbb⟩:∃bb,decide (L-1≤512)=bb:=⟨_,rfl⟩
      have hbI:decide ((L:Int)-1≤512)=bb:=by rw[←hbb];exact decide_eq_decide.2 (by omega)
      have hbJ:decide (((L-1:Nat):Int)≤512)=bb:=by rw[←hbb];exact decide_eq_decide.2 (by omega)
      have HBB:Hid (decide (x.length≤512)=bb):=HV2.out.2.trans hbb;clear hbb;go_enter Tryz.func59,Tryz.ntmps59;go_wp2_with fail
      refine HPJ.mono ?_;rintro e w2 ⟨p1,c1,p2,c2,rfl,hb2,hv1,hv2⟩;have hvd:=hv1.drop 1 (by rw[HL.out.1];omega);have hcap:=hv1.cap;rw[HL.out.1]at hcap;obtain⟨b,o,rfl,hcl⟩:=hv1.lies (by simp);have k0:w2.cell? ⟨b,o,none⟩=some (.int .u8 0):=by have:=hcl 0 (by simp);rw[show((a::xs).getD 0 0).toNat=0 from HL.out.2.2.2.1]at this;simpa using this
      have k1:w2.cell? ⟨b,o+1,none⟩=some (.int .u8 (X:Int)):=by have:=hcl 1 (by rw[HL.out.1];omega);rw[show((a::xs).getD 1 0).toNat=X from by rw[←HL.out.2.2.2.2];rfl]at this;exact this
      rw[if_neg (by omega),Option.map_some,Addr.add_mid]at hvd;have hnum:=byv_num hvd (by show xs.length≤5000;rw[HL.out.2.1];omega) (by show 0<xs.length;rw[HL.out.2.1];omega);have hrd:=rRead_any (some ⟨b,o+1,none⟩) (L-1) (c1-1) (intsB xs) w2 (by have e1:(List.drop 1 (a::xs)).length=L-1:=HL.out.2.1;rw[e1]at hnum;exact hnum) (by omega);have HK:Hid (Below w.heap.size w w2∧ByV w2 P p2 c2 r):=⟨hb2,hv2⟩
      have hc1:¬c1=1:=by omega
      have hcI:(1:Int)≤(c1:Int):=by omega
      have hcJ:(L:Int)≤(c1:Int):=by omega
      clear HPJ hcl hv1 hvd hnum hb2 hv2;go_wp2_with (go_at_call 28;refine hrd.mono ?_;rintro e w3 ⟨v,rfl,ho⟩;have HO:Hid (NumOut .i64 D16 w2 w3 v (nI x) 1001):=(by rw[HV2.out.1];exact ho);obtain⟨o1,o2,o3,o4,rfl,-⟩:=ho;clear hrd)
      all_goals (go_ret3;exact HFIN.out x _ p2 c2 bb w2 w3 HR.out HBB.out HK.out.1 HK.out.2 HO.out)
     ·have hL3:L=1:=by omega
      subst hL3;have hxe:xs=[]:=List.eq_nil_of_length_eq_zero (by rw[hxl]);have HBB:Hid (decide (x.length≤512)=true):=by rw[show Hid (decide (x.length≤512)=true)=(decide (x.length≤512)=true) from rfl,HV2.out.2];rfl
      clear hL hLr hA hX hxl hno hA2 hL2;go_enter Tryz.func59,Tryz.ntmps59;go_wp2_with fail
      refine HPJ.mono ?_;rintro e w2 ⟨p1,c1,p2,c2,rfl,hb2,hv1,hv2⟩;have hcap:=hv1.cap;have hbig:=hv1.big;rw[HL.out.1]at hcap;obtain⟨b,o,rfl,hcl⟩:=hv1.lies (by simp);have k0:w2.cell? ⟨b,o,none⟩=some (.int .u8 0):=by have:=hcl 0 (by simp);rw[show((a::xs).getD 0 0).toNat=0 from HL.out.2.2.2.1]at this;simpa using this
      have hrd:=fun q d (hd:d≤9223372036854775807)=>rRead_any (some q) 0 d (intsB []) w2 ⟨Lies.empty _ _ _,Nat.zero_le _,by unfold maxLen;omega,fun e=>(by cases e),Dg.nil _,by omega⟩ (by omega);have HK:Hid (Below w.heap.size w w2∧ByV w2 P p2 c2 r∧nI x=val 256 (intsB []).reverse):=⟨hb2,hv2,by rw[HV2.out.1,hxe];rfl⟩
      have hcI:(1:Int)≤(c1:Int):=by omega
      clear HPJ hcl hv1 hb2 hv2 hxe;by_cases hc1:c1=1
      ·subst hc1;go_wp2_with (go_at_call 28;refine(hrd _ _ (by omega)).mono ?_;rintro e w3 ⟨v,rfl,ho⟩;have HO:Hid (NumOut .i64 D16 w2 w3 v (nI x) 1001):=(by rw[HK.out.2.2];exact ho);obtain⟨o1,o2,o3,o4,rfl,-⟩:=ho;clear hrd)
       all_goals (go_ret3;exact HFIN.out x _ p2 c2 true w2 w3 HR.out HBB.out HK.out.1 HK.out.2.1 HO.out)
      ·go_wp2_with (go_at_call 28;refine(hrd _ _ (by omega)).mono ?_;rintro e w3 ⟨v,rfl,ho⟩;have HO:Hid (NumOut .i64 D16 w2 w3 v (nI x) 1001):=(by rw[HK.out.2.2];exact ho);obtain⟨o1,o2,o3,o4,rfl,-⟩:=ho;clear hrd)
       all_goals (go_ret3;exact HFIN.out x _ p2 c2 true w2 w3 HR.out HBB.out HK.out.1 HK.out.2.1 HO.out)
    ·have hA0:((A:Int)==0)=false:=by simp;omega
     clear hi;obtain⟨bb,hbb⟩:∃bb,decide ((a::xs).length≤512)=bb:=⟨_,rfl⟩
     have hbI:decide ((L:Int)≤512)=bb:=by rw[←hbb,hL];exact decide_eq_decide.2 (by omega)
     have HBB:Hid (decide ((a::xs).length≤512)=bb):=hbb;clear hbb hL hLr hA hX hxl hA2;go_enter Tryz.func59,Tryz.ntmps59;go_wp2_with fail
     refine HPJ.mono ?_;rintro e w2 ⟨p1,c1,p2,c2,rfl,hb2,hv1,hv2⟩;have hcap:=hv1.cap;rw[HL.out.1]at hcap;obtain⟨b,o,rfl,hcl⟩:=hv1.lies (by simp);have k0:w2.cell? ⟨b,o,none⟩=some (.int .u8 (A:Int)):=by have:=hcl 0 (by simp);rw[←HL.out.2.2.2.1];simpa using this
     have hnum:=byv_num hv1 (by rw[HL.out.1];omega) (by rw[HL.out.1];omega);have hrd:=rRead_any (some ⟨b,o,none⟩) L c1 (intsB (a::xs)) w2 (by rw[HL.out.1]at hnum;exact hnum) (by omega);have HK:Hid (Below w.heap.size w w2∧ByV w2 P p2 c2 r):=⟨hb2,hv2⟩
     by_cases hL2:1<L
     ·have hLJ:(1:Int)<(L:Int):=by omega
      clear HPJ hcl hv1 hnum hb2 hv2;go_wp2_with (go_at_call 28;refine hrd.mono ?_;rintro e w3 ⟨v,rfl,ho⟩;have HO:Hid (NumOut .i64 D16 w2 w3 v (nI (a::xs)) 1001):=ho;obtain⟨o1,o2,o3,o4,rfl,-⟩:=ho;clear hrd)
      all_goals (go_ret3;exact HFIN.out (a::xs) _ p2 c2 bb w2 w3 HR.out HBB.out HK.out.1 HK.out.2 HO.out)
     ·have hLJ:¬(1:Int)<(L:Int):=by omega
      clear HPJ hcl hv1 hnum hb2 hv2;go_wp2_with (go_at_call 28;refine hrd.mono ?_;rintro e w3 ⟨v,rfl,ho⟩;have HO:Hid (NumOut .i64 D16 w2 w3 v (nI (a::xs)) 1001):=ho;obtain⟨o1,o2,o3,o4,rfl,-⟩:=ho;clear hrd)
      all_goals (go_ret3;exact HFIN.out (a::xs) _ p2 c2 bb w2 w3 HR.out HBB.out HK.out.1 HK.out.2 HO.out)
def PrPost(w:World)(R:Option (Bs × Bs))(e:Ending)(w':World):Prop:=
 Below w.heap.size w w'∧∃a1 l1 k1 a2 l2 k2 b,e=.returned (.tuple #[.slice a1 l1 k1,.slice a2 l2 k2,.bool b])∧((R=none∧b=false)∨∃x y,R=some (x,y)∧b=true∧Rv w' (.slice a1 l1 k1) (nI x) 1001∧Rv w' (.slice a2 l2 k2) (nI y) 1001)
theorem piece_len{bs b r:Bs}{t:Nat}(h:pieceR bs t=some (b,r)):b.length≤bs.length∧r.length≤bs.length:=by
 unfold pieceR at h
 cases hr:readD bs with
 | error k=>rw[hr]at h;cases h
 | ok q =>
  obtain⟨⟨t',b'⟩,r'⟩:=q;have:=read_len hr;rw[hr]at h;simp only[]at h;by_cases ht:t'.toNat=t
  ·rw[if_pos ht]at h
   cases h
   omega
  ·rw[if_neg ht]at h;cases h
theorem whole_len{bs x r:Bs}(h:wholeR bs=some (x,r)):r.length≤bs.length:=by
 unfold wholeR at h
 cases hp:pieceR bs 2 with
 | none=>rw[hp]at h;cases h
 | some q =>
  obtain⟨b,r'⟩:=q;rw[hp]at h;simp only[]at h;have:=(piece_len hp).2
  cases hi:intL b with
  | none=>rw[hi]at h;cases h
  | some x'=>
   rw[hi]at h
   cases h
   exact this
theorem rPair(p:Option Addr)(n c:Nat)(bs:Bs)(P:Nat→Prop)(w:World)(hn:bs.length=n)(h:ByV w P p c bs)(hn2:n≤2000):
  Calls Tryz.prog 26 #[.slice p n c] w (PrPost w (pairR bs)):=by
 have HPI:=rPiece p n c bs P 48 (by decide) w hn h;obtain⟨R,hR⟩:∃R,pairR bs=R:=⟨_,rfl⟩
 rw[hR];unfold pairR at hR;have HBAD:Hid (R=none→∀W a1 l1 k1 a2 l2 k2,Below w.heap.size w W→PrPost w R (.returned (.tuple #[.slice a1 l1 k1,.slice a2 l2 k2,.bool false])) W):=fun hk W a1 l1 k1 a2 l2 k2 hW=>⟨hW,a1,l1,k1,a2,l2,k2,false,rfl,.inl ⟨hk,rfl⟩⟩
 cases hp:pieceR bs 48 with
 | none =>
  rw[hp]at HPI hR;have HR:Hid (R=none):=hR.symm;clear hp hR h hn;go_enter Tryz.func26,Tryz.ntmps26;go_wp2_with fail
  refine HPI.mono ?_;rintro e w2 ⟨hb2,(⟨_,rfl⟩|⟨_,_,_,_,_,_,hno,_⟩)⟩
  rotate_left
  ·cases hno
  clear HPI;go_wp2_with fail
  go_ret3
  exact HBAD.out HR.out _ _ _ _ _ _ _ hb2
 | some q =>
  obtain⟨l,r⟩:=q;have hll:=piece_len hp;rw[hp]at HPI hR;simp only[]at hR;obtain⟨L,hL⟩:∃L,l.length=L:=⟨_,rfl⟩
  obtain⟨Lr,hLr⟩:∃L,r.length=L:=⟨_,rfl⟩
  rw[hn,hL]at hll;have HPJ:Calls Tryz.prog 58 #[.slice p n c,.int .u8 48] w fun e w2=>∃p1 c1 p2 c2,e=.returned (.tuple #[.slice p1 L c1,.slice p2 Lr c2,.bool true])∧Below w.heap.size w w2∧ByV w2 P p1 c1 l:=by
   refine HPI.mono ?_;rintro e w2 ⟨hb2,(⟨hno,_⟩|⟨b',r',p1,c1,p2,c2,hs,he,hv1,hv2⟩)⟩
   ·cases hno
   ·cases hs
    rw[hL,hLr]at he;exact⟨p1,c1,p2,c2,he,hb2,hv1⟩
  clear HPI hp h hn;by_cases h0:0<r.length
  ·rw[if_pos h0]at hR;have HR:Hid (R=none):=hR.symm;rw[hLr]at h0;have h0I:(0:Int)<(Lr:Int):=by omega
   clear hR h0 hLr hL hll;go_enter Tryz.func26,Tryz.ntmps26;go_wp2_with fail
   refine HPJ.mono ?_;rintro e w2 ⟨p1,c1,p2,c2,rfl,hb2,-⟩;clear HPJ;go_wp2_with fail
   go_ret3
   exact HBAD.out HR.out _ _ _ _ _ _ _ hb2
  rw[if_neg h0]at hR;rw[hLr]at h0;have h0I:¬(0:Int)<(Lr:Int):=by omega
  unfold twoR at hR;have HLL:Hid (l.length=L∧L≤2000):=⟨hL,by omega⟩
  clear h0 hLr hL hll
  cases hw1:wholeR l with
  | none =>
   rw[hw1]at hR;have HR:Hid (R=none):=hR.symm;clear hR;go_enter Tryz.func26,Tryz.ntmps26;go_wp2_with fail
   refine HPJ.mono ?_;rintro e w2 ⟨p1,c1,p2,c2,rfl,hb2,hv1⟩;have hW:=rWhole p1 L c1 l P w2 HLL.out.1 hv1 HLL.out.2;rw[hw1]at hW;have HB2:Hid (Below w.heap.size w w2):=hb2;clear HPJ hv1 hb2;go_wp2_with fail
   refine hW.mono ?_;rintro e w3 ⟨hb3,(⟨_,rfl⟩|⟨_,_,_,_,_,hno,_⟩)⟩
   rotate_left
   ·cases hno
   clear hW;go_wp2_with fail
   go_ret3
   exact HBAD.out HR.out _ _ _ _ _ _ _ (HB2.out.trans (hb3.mono HB2.out.size))
  | some q1 =>
   obtain⟨x,r1⟩:=q1;have hl1:=whole_len hw1;rw[hw1]at hR;simp only[]at hR;obtain⟨L1,hL1⟩:∃L,r1.length=L:=⟨_,rfl⟩
   rw[hL1,HLL.out.1]at hl1;obtain⟨bx,hbx⟩:∃bx,decide (x.length≤512)=bx:=⟨_,rfl⟩
   have HWH:∀p1 c1 w2,ByV w2 P p1 c1 l→Calls Tryz.prog 59 #[.slice p1 L c1] w2 fun e w3=>∃a1 k1 m1 p2 c2,e=.returned (.tuple #[.slice a1 k1 m1,.slice p2 L1 c2,.bool bx])∧Below w2.heap.size w2 w3∧ByV w3 P p2 c2 r1∧Rv w3 (.slice a1 k1 m1) (nI x) 1001:=fun p1 c1 w2 hv1=>by
    have hW:=rWhole p1 L c1 l P w2 HLL.out.1 hv1 HLL.out.2;rw[hw1]at hW;refine hW.mono ?_;rintro e w3 ⟨hb3,(⟨hno,_⟩|⟨x',r',v,p2,c2,hs,he,hrv,hv⟩)⟩
    ·cases hno
    cases hs
    obtain⟨a1,k1,m1,_,rfl,-⟩:=id hrv;rw[hL1,hbx]at he;exact⟨a1,k1,m1,p2,c2,he,hb3,hv,hrv⟩
   have HL1:Hid (r1.length=L1∧L1≤2000):=⟨hL1,by have:=HLL.out.2;omega⟩
   clear hw1 hl1 hL1;by_cases h5:512<x.length
   ·rw[if_pos h5]at hR;have HR:Hid (R=none):=hR.symm;obtain rfl:bx=false:=by rw[←hbx];exact decide_eq_false (by omega)
    clear hR hbx h5;go_enter Tryz.func26,Tryz.ntmps26;go_wp2_with fail
    refine HPJ.mono ?_;rintro e w2 ⟨p1,c1,p2,c2,rfl,hb2,hv1⟩;have hW:=HWH p1 c1 w2 hv1;have HB2:Hid (Below w.heap.size w w2):=hb2;clear HPJ hv1 hb2 HWH;go_wp2_with fail
    refine hW.mono ?_;rintro e w3 ⟨a1,k1,m1,p3,c3,rfl,hb3,-,-⟩;clear hW;go_wp2_with fail
    go_ret3
    exact HBAD.out HR.out _ _ _ _ _ _ _ (HB2.out.trans (hb3.mono HB2.out.size))
   rw[if_neg h5]at hR;obtain rfl:bx=true:=by rw[←hbx];exact decide_eq_true (by omega)
   clear hbx h5
   cases hw2:wholeR r1 with
   | none =>
    rw[hw2]at hR;have HR:Hid (R=none):=hR.symm;clear hR;go_enter Tryz.func26,Tryz.ntmps26;go_wp2_with fail
    refine HPJ.mono ?_;rintro e w2 ⟨p1,c1,p2,c2,rfl,hb2,hv1⟩;have hW:=HWH p1 c1 w2 hv1;have HB2:Hid (Below w.heap.size w w2):=hb2;clear HPJ hv1 hb2 HWH;go_wp2_with fail
    refine hW.mono ?_;rintro e w3 ⟨a1,k1,m1,p3,c3,rfl,hb3,hv3,-⟩;clear hW;have hW:=rWhole p3 L1 c3 r1 P w3 HL1.out.1 hv3 HL1.out.2;rw[hw2]at hW;have HB3:Hid (Below w.heap.size w w3):=HB2.out.trans (hb3.mono HB2.out.size);clear hv3 hb3 HB2;go_wp2_with fail
    refine hW.mono ?_;rintro e w4 ⟨hb4,(⟨_,rfl⟩|⟨_,_,_,_,_,hno,_⟩)⟩
    rotate_left
    ·cases hno
    clear hW;go_wp2_with fail
    go_ret3
    exact HBAD.out HR.out _ _ _ _ _ _ _ (HB3.out.trans (hb4.mono HB3.out.size))
   | some q2 =>
    obtain⟨y,r2⟩:=q2;rw[hw2]at hR;simp only[]at hR;obtain⟨L2,hL2⟩:∃L,r2.length=L:=⟨_,rfl⟩
    rw[hL2]at hR;obtain⟨bY,hby⟩:∃bx,decide (y.length≤512)=bx:=⟨_,rfl⟩
    have HFIN:Hid (∀W a1 k1 m1 a2 k2 m2 bb,(bb=(bY&&((L2:Int)==0)))→Below w.heap.size w W→Rv W (.slice a1 k1 m1) (nI x) 1001→Rv W (.slice a2 k2 m2) (nI y) 1001→PrPost w R (.returned (.tuple #[.slice a1 k1 m1,.slice a2 k2 m2,.bool bb])) W):=fun W a1 k1 m1 a2 k2 m2 bb hbb hW h1 h2=>by
     refine⟨hW,a1,k1,m1,a2,k2,m2,bb,rfl,?_⟩;by_cases h7:512<y.length∨0<L2
     ·rw[if_pos h7]at hR;refine .inl ⟨hR.symm,?_⟩;rw[hbb,←hby];rcases h7 with h8|h8
      ·rw[decide_eq_false (by omega)];rfl
      ·rw[show((L2:Int)==0)=false from by simp;omega];simp
     ·rw[if_neg h7]at hR;refine .inr ⟨x,y,hR.symm,?_,h1,h2⟩;rw[hbb,←hby,decide_eq_true (by omega),show((L2:Int)==0)=true from by simp;omega];rfl
    have HWI:∀p1 c1 w2,ByV w2 P p1 c1 r1→Calls Tryz.prog 59 #[.slice p1 L1 c1] w2 fun e w3=>∃a1 k1 m1 p2 c2,e=.returned (.tuple #[.slice a1 k1 m1,.slice p2 L2 c2,.bool bY])∧Below w2.heap.size w2 w3∧Rv w3 (.slice a1 k1 m1) (nI y) 1001:=fun p1 c1 w2 hv1=>by
     have hW:=rWhole p1 L1 c1 r1 P w2 HL1.out.1 hv1 HL1.out.2;rw[hw2]at hW;refine hW.mono ?_;rintro e w3 ⟨hb3,(⟨hno,_⟩|⟨x',r',v,p2,c2,hs,he,hrv,hv⟩)⟩
     ·cases hno
     cases hs
     obtain⟨a1,k1,m1,_,rfl,-⟩:=id hrv;rw[hL2,hby]at he;exact⟨a1,k1,m1,p2,c2,he,hb3,hrv⟩
    clear hw2 hL2 hby hR;go_enter Tryz.func26,Tryz.ntmps26;go_wp2_with fail
    refine HPJ.mono ?_;rintro e w2 ⟨p1,c1,p2,c2,rfl,hb2,hv1⟩;have hW:=HWH p1 c1 w2 hv1;have HB2:Hid (Below w.heap.size w w2):=hb2;clear HPJ hv1 hb2 HWH;go_wp2_with fail
    refine hW.mono ?_;rintro e w3 ⟨a1,k1,m1,p3,c3,rfl,hb3,hv3,hx3⟩;clear hW;have hW:=HWI p3 c3 w3 hv3;have HB3:Hid (Below w.heap.size w w3∧Rv w3 (.slice a1 k1 m1) (nI x) 1001):=⟨HB2.out.trans (hb3.mono HB2.out.size),hx3⟩
    clear hv3 hb3 HB2 hx3 HWI;go_wp2_with fail
    refine hW.mono ?_;rintro e w4 ⟨a2,k2,m2,p4,c4,rfl,hb4,hy4⟩;have HB4:Hid (Below w.heap.size w w4∧Rv w4 (.slice a1 k1 m1) (nI x) 1001∧Rv w4 (.slice a2 k2 m2) (nI y) 1001):=⟨HB3.out.1.trans (hb4.mono HB3.out.1.size),HB3.out.2.old hb4,hy4⟩
    clear hW hb4 hy4 HB3
    cases bY with
    | false=>
     go_wp2_with fail
     go_ret3
     exact HFIN.out _ _ _ _ _ _ _ _ rfl HB4.out.1 HB4.out.2.1 HB4.out.2.2
    | true=>
     go_wp2_with fail
     go_ret3
     exact HFIN.out _ _ _ _ _ _ _ _ (by simp) HB4.out.1 HB4.out.2.1 HB4.out.2.2
theorem range_new{α:Type}{P:Program}{n:Nat}{g:Operand}{ps:Array Tmp}{assign body:Code}{Q:Exit→Act→World→Prop}{a:Act}{w:World}{gf:Nat}{lb:Array Value}(hn:1≤n)(Gd:List α→α→Prop)
  (hg:a.eval g=.func (.func gf) #[] lb) (eg:∀args w,(callFunc gf args).run P w=.ok (.enter gf args) w)
  (E:α→Array Value) (hps:∀x,(E x).size=ps.size) (Y:Nat→α→World→Prop) (S Sp:List α→Prop) (I:List α→World→Prop) (Ix:Code→List α→World→Prop)
  (hit : ∀ (l : Nat) (r : Loop) (J Jx : List α → World → Prop), (∀ pre W, J pre W → I pre W) → (∀ pre W W', J pre W → Below W.heap.size W W' → J pre W') →
   (∀pre x W0 W1,J pre W0→Gd pre x→Below W0.heap.size W0 W1→Y W0.heap.size x W1→YieldAt Fence.wide (n-1-1) P l (E x) W1 fun e W'=>(e=.returned (.bool true)∧J (pre++[x]) W')∨(e=.returned (.bool false)∧Jx (pre++[x]) W')) →
   J [] ((w.alloc (.deferred (some []))).alloc (.loop r)) →
   CallsIn Fence.wide (n-1) P gf (#[.func (.yield l) #[] #[]]++lb) ((w.alloc (.deferred (some []))).alloc (.loop r)) fun e W'=>(∃v,e=.returned v)∧((∃xs,S xs∧J xs W')∨(∃pre,Sp pre∧Jx pre W')))
  (hIb:∀pre W W',I pre W→Below W.heap.size W W'→I pre W')
  (hIp:∀pre W r o o',I pre W→w.heap.size≤r→W.heap[r]?=some o→o.isCells=false→I pre (W.putObj r o'))
  (hXp:∀c pre W r o o',Ix c pre W→w.heap.size≤r→W.heap[r]?=some o→o.isCells=false→Ix c pre (W.putObj r o'))
  (h0:I [] w)
  (hround : ∀ (l : Nat) (r : Loop) (pre : List α) (x : α) (W0 W : World), Gd pre x → w.heap.size ≤ l → l < W0.heap.size → W.heap[l]? = some (.loop r) → I pre W0 → Below W0.heap.size W0 W → I pre W → Y W0.heap.size x W →
   assign.wpIn (Fence.wide.inRound l) (n-1-1) P (Exit.then (fun a1 W1=>Below W.heap.size W W1∧∀o',body.wpIn (Fence.wide.inRound l) (n-1-1) P (ownPostG w.heap.size (fun _ _=>True) I Ix (pre++[x]) (W1.putObj l o')) a1 (W1.putObj l o')) (fun _ _ _=>False))
    { tmps:=(ps.zip (E x)).foldl (fun t (p,v)=>t.setIfInBounds p v) a.tmps,defers:=[] } W)
  (hdone:∀(D:Nat) (xs:List α) (W:World),w.heap.size≤D→S xs→I xs W→W.heap[D]?=some (.deferred (some []))→Q .normal { a with defers:={ target:=.collected D,args:=#[] }::a.defers } W)
  (hstop:∀(D:Nat) (c:Code) (pre:List α) (W:World),w.heap.size≤D→Sp pre→Ix c pre W→W.heap[D]?=some (.deferred (some []))→c.wpIn Fence.wide n P Q { a with defers:={ target:=.collected D,args:=#[] }::a.defers } W):
  (Code.rangeFunc g ps assign body).wpIn Fence.wide n P Q a w:=by
 refine wpIn_rangeFunc ?_;intro fn _;obtain⟨st,hst⟩:∃st:LoopState→Option Code→Loop,st=fun s pe=>{ state:=s,pending:=pe,fn:=fn,tmps:=a.tmps,params:=ps,assign:=assign,body:=body,defers:=w.heap.size }:=⟨_,rfl⟩
 have hd1:((w.alloc (.deferred (some []))).alloc (.loop (st .ready none))).heap[w.heap.size]?=some (.deferred (some [])):=(Below.heap_alloc _ _ _ (by simp)).trans (World.alloc_heap_new w _);have hl1:((w.alloc (.deferred (some []))).alloc (.loop (st .ready none))).heap[w.heap.size+1]?=some (.loop (st .ready none)):=by
  have:=World.alloc_heap_new (w.alloc (.deferred (some []))) (.loop (st .ready none))
  rwa [World.size_alloc]at this
 have hb1:Below w.heap.size w ((w.alloc (.deferred (some []))).alloc (.loop (st .ready none))):=((Below.refl _ w).alloc (Nat.le_refl _) _).alloc (by simp) _;refine⟨w.heap.size+1,[{ target:=.collected w.heap.size,args:=#[] }],(w.alloc (.deferred (some []))).alloc (.loop (st .ready none)),{ target:=.fn (.func gf) lb,args:=#[.func (.yield (w.heap.size+1)) #[] #[]] },(w.alloc (.deferred (some []))).alloc (.loop (st .ready none)),gf,#[.func (.yield (w.heap.size+1)) #[] #[]]++lb,(w.alloc (.deferred (some []))).alloc (.loop (st .ready none)),by rw[hst];exact run_enterLoop_outer _ _ _ _ _,by simp only[resolve,hg];simp[go_sem],fun _ _=>trivial,by simp[invoke,go_sem,eg],fun _=>hn,?_⟩;refine(hit (w.heap.size+1) (st .ready none)
  (fun pre W=>I pre W∧W.heap[w.heap.size+1]?=some (.loop (st .ready none))∧W.heap[w.heap.size]?=some (.deferred (some [])))
  (fun pre W=>∃c,Ix c pre W∧W.heap[w.heap.size+1]?=some (.loop (st .done (some c)))∧W.heap[w.heap.size]?=some (.deferred (some [])))
  (fun _ _ h=>h.1)
  (fun pre W W' h hb=>⟨hIb pre W W' h.1 hb,(hb.block _ (Array.getElem?_eq_some_iff.1 h.2.1).1).trans h.2.1,(hb.block _ (Array.getElem?_eq_some_iff.1 h.2.2).1).trans h.2.2⟩) ?_ ⟨hIb _ _ _ h0 hb1,hl1,hd1⟩).mono ?_
 ·rintro pre x W0 W ⟨hi,hl0,hd0⟩ hlen hb hy;have hlt0:w.heap.size+1<W0.heap.size:=(Array.getElem?_eq_some_iff.1 hl0).1;have hl:W.heap[w.heap.size+1]?=some (.loop (st .ready none)):=(hb.block _ hlt0).trans hl0;have hd:W.heap[w.heap.size]?=some (.deferred (some [])):=(hb.block _ (by omega)).trans hd0;have hlt:w.heap.size+1<W.heap.size:=(Array.getElem?_eq_some_iff.1 hl).1;have hyr:=run_yield (P:=P) (args:=E x) hl (by rw[hst];exact hps x);rw[hst]at hyr;refine⟨fn,_,assign,body,hyr,roundIn_of_wpIn trivial ?_⟩;refine wpIn_mono (hround (w.heap.size+1) (st .ready none) pre x W0 W hlen (by omega) hlt0 hl hi hb (hIb _ _ _ hi hb) hy) ?_;rintro e a1 W1 hp
  cases e with
  | normal =>
   obtain⟨hb1,hbody⟩:=hp;have hl2:W1.heap[w.heap.size+1]?=some (.loop (st .ready none)):=(hb1.block _ hlt).trans hl;have hd2:W1.heap[w.heap.size]?=some (.deferred (some [])):=(hb1.block _ (by omega)).trans hd;have hlt2:w.heap.size+1<W1.heap.size:=(Array.getElem?_eq_some_iff.1 hl2).1;refine⟨_,run_beginRound hl2 (by rw[hst]),?_⟩;refine wpIn_mono (hbody _) ?_;have hl3:(W1.putObj (w.heap.size+1) (.loop { st .ready none with state:=.busy })).heap[w.heap.size+1]?=some (.loop { st .ready none with state:=.busy }):=World.putObj_heap_same hlt2;have hd3:(W1.putObj (w.heap.size+1) (.loop { st .ready none with state:=.busy })).heap[w.heap.size]?=some (.deferred (some [])):=(World.putObj_heap_other (by omega)).trans hd2;have fin:∀(jump:Option Code) (W3:World),KeepsFrom w.heap.size (W1.putObj (w.heap.size+1) (.loop { st .ready none with state:=.busy })) W3 →
     (Instr.endRound (w.heap.size+1) jump).run P W3=.ok (.bool jump.isNone) (W3.putObj (w.heap.size+1) (.loop (st (if jump.isNone then .ready else .done) jump))) ∧
     W3.heap[w.heap.size+1]?=some (.loop { st .ready none with state:=.busy }) ∧
     (W3.putObj (w.heap.size+1) (.loop (st (if jump.isNone then .ready else .done) jump))).heap[w.heap.size+1]?=some (.loop (st (if jump.isNone then .ready else .done) jump)) ∧
     (W3.putObj (w.heap.size+1) (.loop (st (if jump.isNone then .ready else .done) jump))).heap[w.heap.size]?=some (.deferred (some [])):=fun jump W3 hk3=>by
    have h3:=hk3.same _ _ (by omega) hl3 rfl;have:=run_endRound (P:=P) jump h3;rw[hst]at this ⊢;exact⟨this,by rw[hst]at h3;exact h3,World.putObj_heap_same (Array.getElem?_eq_some_iff.1 h3).1,(World.putObj_heap_other (by omega)).trans (hk3.same _ _ (Nat.le_refl _) hd3 rfl)⟩
   rintro e a3 W3 hp
   cases e with
   | normal=>
    obtain⟨hk3,_,hi3⟩:=hp;obtain⟨hr,h3,h4,h5⟩:=fin none W3 hk3;exact⟨_,_,hr,.inl ⟨rfl,hIp _ _ _ _ _ hi3 (by omega) h3 rfl,h4,h5⟩⟩
   | ret=>
    obtain⟨hk3,hi3⟩:=hp;obtain⟨hr,h3,h4,h5⟩:=fin (some .ret) W3 hk3;exact⟨_,_,hr,.inr ⟨rfl,.ret,hXp _ _ _ _ _ _ hi3 (by omega) h3 rfl,h4,h5⟩⟩
   | exit id=>
    obtain⟨hk3,hi3⟩:=hp;obtain⟨hr,h3,h4,h5⟩:=fin (some (.exit id)) W3 hk3;exact⟨_,_,hr,.inr ⟨rfl,.exit id,hXp _ _ _ _ _ _ hi3 (by omega) h3 rfl,h4,h5⟩⟩
   | goto t=>
    obtain⟨hk3,hi3⟩:=hp;obtain⟨hr,h3,h4,h5⟩:=fin (some (.goto t)) W3 hk3;exact⟨_,_,hr,.inr ⟨rfl,.goto t,hXp _ _ _ _ _ _ hi3 (by omega) h3 rfl,h4,h5⟩⟩
   | panic ch=>exact hp.elim
   | outgrown=>exact hp.elim
  | ret=>exact hp.elim
  | exit id=>exact hp.elim
  | goto t=>exact hp.elim
  | panic ch=>exact hp.elim
  | outgrown=>exact hp.elim
 ·rintro e W2 ⟨⟨v,rfl⟩,(⟨xs,hS,hi,hl,hk⟩|⟨pre,hSp,c,hi,hl,hk⟩)⟩
  ·exact⟨none,_,by have:=run_endLoop (P:=P) hl (by rw[hst];simp);rw[hst]at this;exact this,hdone _ xs _ (Nat.le_refl _) hS (hIp _ _ _ _ _ hi (by omega) hl rfl) ((World.putObj_heap_other (by omega)).trans hk)⟩
  ·exact⟨some c,_,by have:=run_endLoop (P:=P) hl (by rw[hst];simp);rw[hst]at this;exact this,hstop _ c pre _ (Nat.le_refl _) hSp (hXp _ _ _ _ _ _ hi (by omega) hl rfl) ((World.putObj_heap_other (by omega)).trans hk)⟩
attribute [local go_sem] Oper.semAt_some
structure Ye where
 pc:Pc
 k:Nat
abbrev encY(y:Ye):Array Value:=#[.agg #[.int .u8 (y.pc.t.toNat:Int),.slice y.pc.p y.pc.b.length y.pc.c],.int .i64 (y.k:Int)]
def seqD (bs:Bs):List ((UInt8 × Bs) × Nat):=(pcsD bs).1.map (fun x=>(x,0))++(if (pcsD bs).2=0 then [] else [((0,[]),(pcsD bs).2)])
def yOf (l:List Ye):List ((UInt8 × Bs) × Nat):=l.map fun y=>((y.pc.t,y.pc.b),y.k)
theorem yOf_app(a b:List Ye):yOf (a++b)=yOf a++yOf b:=by simp[yOf]
theorem seqD_nil:seqD []=[]:=rfl
theorem seqD_err{bs:Bs}{k:Nat}(h0:bs≠[])(h:readD bs=.error k):seqD bs=[((0,[]),k)]:=by unfold seqD;rw[pcsD_err h0 h];have:=read_err h;simp;omega
theorem seqD_ok{bs:Bs}{t:UInt8}{b r:Bs}(h:readD bs=.ok ((t,b),r)):seqD bs=((t,b),0)::seqD r:=by unfold seqD;rw[pcsD_ok h];rfl
theorem seqD_len:∀(bs:Bs),(seqD bs).length≤bs.length:=by
 intro bs;induction hn:bs.length using Nat.strongRecOn generalizing bs with
 | _ n ih =>
  by_cases h0:bs=[]
  ·subst h0;simp[seqD_nil]
  cases hr:readD bs with
  | error k=>
   rw[seqD_err h0 hr];have:bs.length≠0:=fun e=>h0 (List.eq_nil_of_length_eq_zero e);simp;omega
  | ok q=>
   obtain⟨⟨t,b⟩,r⟩:=q;have hl:=read_len hr;rw[seqD_ok hr];have:=ih r.length (by omega) r rfl;simp;omega
theorem seqD_pos{bs:Bs}(h0:bs≠[]):0<(seqD bs).length:=by
 cases hr:readD bs with
 | error k=>rw[seqD_err h0 hr];simp
 | ok q=>
  obtain⟨⟨t,b⟩,r⟩:=q;rw[seqD_ok hr];simp
def Yn (M:Nat)(y:Ye)(W:World):Prop:=ByV W (fun b=>M≤b) y.pc.p y.pc.c y.pc.b
theorem all_iter(n:Nat)(hn:1≤n)(go:Nat)(p:Option Addr)(L c:Nat)(bs:Bs)(B:Nat→Prop)(l:Nat)(J Jx:List Ye→World→Prop)(W:World)
  (hcell:W.cell? ⟨go,0,none⟩=some (.slice p L c)) (hL:bs.length=L) (hv:ByV W (B) p c bs) (hL2:L≤100000)
  (hk:∀pre W',J pre W'→∀k,B k→W'.heap[k]?=W.heap[k]?) (hBW:∀k,B k→k<W.heap.size)
  (hJb:∀pre W W',J pre W→Below W.heap.size W W'→J pre W')
  (hY:∀pre x W0 W1,J pre W0→(pre.length<L∧yOf (pre++[x]) <+: seqD bs)→Below W0.heap.size W0 W1→Yn W0.heap.size x W1→YieldAt Fence.wide (n-1) Tryz.prog l (encY x) W1 fun e W'=>(e=.returned (.bool true)∧J (pre++[x]) W')∨(e=.returned (.bool false)∧Jx (pre++[x]) W'))
  (h0:J [] W):
  CallsIn Fence.wide n Tryz.prog 122 (#[.func (.yield l) #[] #[]]++#[.pointer (some ⟨go,0,none⟩)]) W fun e W'=>(∃v,e=.returned v)∧((∃xs,yOf xs=seqD bs∧J xs W')∨(∃pre,yOf pre <+: seqD bs∧Jx pre W')):=by
 have H:Hid ((∀pre W',J pre W'→∀k,B k→W'.heap[k]?=W.heap[k]?)∧(∀pre W W',J pre W→Below W.heap.size W W'→J pre W')∧bs.length=L∧ByV W (B) p c bs):=⟨hk,hJb,hL,hv⟩
 have HY:Hid (∀pre x W0 W1,J pre W0→(pre.length<L∧yOf (pre++[x]) <+: seqD bs)→Below W0.heap.size W0 W1→Yn W0.heap.size x W1→YieldAt Fence.wide (n-1) Tryz.prog l (encY x) W1 fun e W'=>(e=.returned (.bool true)∧J (pre++[x]) W')∨(e=.returned (.bool false)∧Jx (pre++[x]) W')):=hY;have HJ0:Hid (J [] W):=h0;clear hk hJb hL hv hY h0;refine callsIn_of_wp Tryz.func122 rfl trivial ?_ rfl;simp only[Tryz.ntmps122,List.size_toArray,List.length_cons,List.length_nil,Nat.reduceAdd,Nat.reduceSub,Array.replicate_succ,Array.replicate_zero,List.push_toArray,List.append_toArray,List.nil_append,List.cons_append]
 gi_wp2
 gi_loopw [3] (fun v3 wr=>∃(pre:List Ye) (ys:Bs) (K:Nat) (q:Option Addr) (d:Nat),v3=.slice q K d∧ys.length=K∧K≤L∧ByV wr (B) q d ys∧J pre wr∧yOf pre++seqD ys=seqD bs) (fun v3 _=>lenOfS v3)
 case atStart=>exact⟨[],bs,L,p,c,rfl,H.out.2.2.1,Nat.le_refl _,H.out.2.2.2,HJ0.out,rfl⟩
 case round =>
  obtain⟨pre,ys,K,q,d,rfl,hK,hKL,hv,hJ,hseq⟩:=hrel;clear hcell HJ0;by_cases q5:K=0
  ·have q5I:¬(0:Int)<(K:Int):=by omega
   have hys:ys=[]:=List.eq_nil_of_length_eq_zero (by omega);have HR:Hid (yOf pre=seqD bs∧J pre wr):=by rw[hys,seqD_nil,List.append_nil]at hseq;exact⟨hseq,hJ⟩
   clear hseq hys hK hv hJ
   gi_wp2
   go_end0
   exact⟨⟨_,rfl⟩,.inl ⟨pre,HR.out⟩⟩
  have q5I:(0:Int)<(K:Int):=by omega
  have HSP:=derSplit q K d ys (B) wr hK hv;have hy0:ys≠[]:=by intro e;rw[e]at hK;exact q5 hK.symm
  have HI:Hid (J pre wr∧yOf pre++seqD ys=seqD bs):=⟨hJ,hseq⟩
  have HN:Hid (pre.length<L):=by
   have h1:=congrArg List.length hseq;have h2:=seqD_len bs;have h3:0<(seqD ys).length:=seqD_pos hy0;rw[H.out.2.2.1]at h2;rw[List.length_append]at h1;have h4:(yOf pre).length=pre.length:=by simp[yOf]
   show pre.length<L;omega
  clear hv hJ hseq
  cases hr:readD ys with
  | error k =>
   rw[hr]at HSP;have hk:=read_err hr;have hkb:((k:Int) != 0)=true:=by simp;omega
   have HR:Hid (yOf (pre++[⟨⟨0,[],none,0⟩,k⟩])=seqD bs):=by show yOf (pre++[⟨⟨0,[],none,0⟩,k⟩])=seqD bs;rw[yOf_app,←HI.out.2,seqD_err hy0 hr];rfl
   clear hr hk hK
   gi_wp2_with (refine⟨trivial,?_⟩;gi_at_call 67;refine(callsIn_wide.2 HSP).mono ?_;intro e w2 hp;obtain⟨hb2,he⟩:=hp.errx;subst he;clear hp;have hb3:Below wr.heap.size wr (w2.alloc (.cells #[.int .u8 0,.slice none 0 0] 93)):=hb2.alloc hb2.size _;obtain⟨fn,tmps,assign,body,hy,hR⟩:=HY.out pre ⟨⟨0,[],none,0⟩,k⟩ wr _ HI.out.1 ⟨HN.out,by rw[HR.out];exact List.prefix_refl _⟩ hb3 (ByV.nil _ _);change (Instr.yield l #[.agg #[.int .u8 0,.slice none 0 0],.int .i64 (k:Int)]).run _ _=_ at hy;clear hb2 hb3 HSP)
   refine hR.mono ?_;clear hR hy;rintro e W3 (⟨rfl,hJ3⟩|⟨rfl,hJ3⟩)
   ·gi_wp2
    refine bodyPost_ret (results_none rfl _ _ _) rfl ?_;exact⟨⟨_,rfl⟩,.inl ⟨_,HR.out,hJ3⟩⟩
   ·gi_wp2
    refine bodyPost_ret (results_none rfl _ _ _) rfl ?_;exact⟨⟨_,rfl⟩,.inr ⟨_,by rw[HR.out];exact List.prefix_refl _,hJ3⟩⟩
  | ok x =>
   obtain⟨⟨t,b⟩,r⟩:=x;rw[hr]at HSP;have hlens:=read_len hr;obtain⟨TN,hTN⟩:∃T,t.toNat=T:=⟨_,rfl⟩
   obtain⟨LB,hLB⟩:∃T,b.length=T:=⟨_,rfl⟩
   obtain⟨Lr,hLr⟩:∃T,r.length=T:=⟨_,rfl⟩
   have hLr2:Lr+2≤K:=by rw[←hLr,←hK];exact hlens.1
   have hLB2:LB≤K:=by rw[←hLB,←hK];omega
   have HR:Hid (t.toNat=TN∧b.length=LB∧r.length=Lr∧∀(p':Option Addr) (c':Nat),yOf (pre++[⟨⟨t,b,p',c'⟩,0⟩])++seqD r=seqD bs):=⟨hTN,hLB,hLr,fun p' c'=>by rw[yOf_app,←HI.out.2,seqD_ok hr];simp[yOf]⟩
   clear hr hlens hK hy0
   gi_wp2_with (first
    | (refine⟨trivial,?_⟩;gi_at_call 67;refine(callsIn_wide.2 HSP).mono ?_;intro e w2 hp;obtain⟨hb2,p1,c1,p2,c2,he,hv1,hv2⟩:=hp.okx;subst he;rw[hTN,hLB,hLr];have HB2:Hid (Below wr.heap.size wr w2∧BAt w2 p1 LB b∧ByV w2 (B) p2 c2 r):=⟨hb2,by rw[←hLB];exact hv1.lies,hv2⟩;clear hp hb2 hv1 hv2 HSP)
    | (refine⟨trivial,?_⟩;gi_at_call 123;refine(callsIn_wide.2 (derCopied TN p1 LB c1 b (w2.alloc (.cells #[.int .u8 (TN:Int),.slice p1 LB c1] 93)) hLB (HB2.out.2.1.below ((Below.refl _ _).alloc (Nat.le_refl _) _)) (by omega))).mono ?_;rintro e w4 ⟨hb4,p',c',rfl,hv4⟩;have hb5:Below wr.heap.size wr w4:=HB2.out.1.trans ((((Below.refl _ w2).alloc (Nat.le_refl _) _).trans (hb4.mono (alloc_le _ _))).mono HB2.out.1.size);obtain⟨fn,tmps,assign,body,hy,hR⟩:=HY.out pre ⟨⟨t,b,p',c'⟩,0⟩ wr w4 HI.out.1 ⟨HN.out,by rw[←HR.out.2.2.2 p' c'];exact List.prefix_append _ _⟩ hb5 (hv4.mono (fun k hk _=>Nat.le_trans HB2.out.1.size (Nat.le_trans (alloc_le _ _) hk)));change (Instr.yield l #[.agg #[.int .u8 (t.toNat:Int),.slice p' b.length c'],.int .i64 0]).run _ _=_ at hy;rw[hTN,hLB]at hy;have HB4:Hid (Below wr.heap.size wr w4):=hb5;clear hb4 hv4 hb5))
   refine hR.mono ?_;clear hR hy;rintro e W3 (⟨rfl,hJ3⟩|⟨rfl,hJ3⟩)
   ·gi_wp2
    go_roundw
    case rel=>
     refine⟨_,r,Lr,p2,c2,rfl,HR.out.2.2.1,by omega,?_,hJ3,HR.out.2.2.2 p' c'⟩;have hbr:=HB2.out.1;refine HB2.out.2.2.keep (fun g hg hlt => ?_);have hwr:g<wr.heap.size:=by
      have h1:=H.out.1 pre wr HI.out.1 g hg;obtain⟨ob,h2⟩:∃ob,W.heap[g]?=some ob:=⟨_,Array.getElem?_eq_getElem (hBW g hg)⟩
      rw[h2]at h1;exact(Array.getElem?_eq_some_iff.1 h1).1
     exact(H.out.1 _ _ hJ3 g hg).trans ((H.out.1 pre wr HI.out.1 g hg).symm.trans (hbr.block g hwr).symm)
    case measure=>simp only[lenOfS];omega
   ·gi_wp2
    refine bodyPost_ret (results_none rfl _ _ _) rfl ?_;exact⟨⟨_,rfl⟩,.inr ⟨_,by rw[←HR.out.2.2.2 p' c'];exact List.prefix_append _ _,hJ3⟩⟩
end
section
open Go.Shelf Go.RowKit
attribute [local go_sem] Oper.semAt_some
def Kx (W:World)(b:Nat)(v:Value):Prop:=W.cell? ⟨b,0,none⟩=some v∧W.frozen? ⟨b,0,none⟩=false
theorem kx_new(W:World)(v:Value)(t:TypeId):Kx (W.alloc (.cells #[v] t)) W.heap.size v:=⟨by simp,by simp⟩
theorem kx_block{W W':World}{b:Nat}{v:Value}(h:Kx W b v)(hb:W'.heap[b]?=W.heap[b]?):Kx W' b v:=⟨(World.cell?_of_block (w:=W) hb).trans h.1,(World.frozen?_of_block (w:=W) hb).trans h.2⟩
theorem kx_lt{W:World}{b:Nat}{v:Value}(h:Kx W b v):b<W.heap.size:=World.block_lt_of_cell? W _ h.1
theorem kx_below{W W':World}{b:Nat}{v:Value}(h:Kx W b v)(hb:Below W.heap.size W W'):Kx W' b v:=kx_block h (hb.block b (kx_lt h))
theorem kx_put{W:World}{b:Nat}{v:Value}(h:Kx W b v){r:Nat}{o:Obj}(o':Obj)(hr:W.heap[r]?=some o)(ho:o.isCells=false):Kx (W.putObj r o') b v:=
 ⟨cell_kept h.1 (grownBy_putObj' W r o') (fun k e=>by cases e;exact⟨o,hr,ho⟩),(frozen_kept h.1 (grownBy_putObj' W r o') (fun k e=>by cases e;exact⟨o,hr,ho⟩)).trans h.2⟩
theorem kx_set{W:World}{b:Nat}{v:Value}(h:Kx W b v)(u:Value):Kx (W.setCell ⟨b,0,none⟩ u) b u:=⟨World.cell?_setCell_same _ _ _ h.1,by rw[World.frozen?_setCell];exact h.2⟩
theorem kx_other{W:World}{b c:Nat}{v:Value}(h:Kx W b v)(hne:c≠b)(u:Value):Kx (W.setCell ⟨c,0,none⟩ u) b v:=kx_block h (Below.heap_setCell _ _ _ _ (fun e=>hne e.symm))
theorem ByV.put{W:World}{P:Nat→Prop}{p:Option Addr}{c:Nat}{l:Bs}(h:ByV W P p c l){r:Nat}{o:Obj}(o':Obj)(hr:W.heap[r]?=some o)(ho:o.isCells=false):ByV (W.putObj r o') P p c l:=
 ⟨h.cap, h.big, fun h0 => by
  obtain⟨b,f,e,hc⟩:=h.lies h0;exact⟨b,f,e,fun i hi=>cell_kept (hc i hi) (grownBy_putObj' W r o') (fun k e=>by cases e;exact⟨o,hr,ho⟩)⟩,h.ok⟩
theorem owns_put{W:World}{base:Nat}{e:TypeId}{s:Nat}{v:Value}{n:Nat}{xs:List Value}(h:W.ownsRow base e s v n xs){r:Nat}{o:Obj}(o':Obj)(hr:W.heap[r]?=some o)(ho:o.isCells=false):(W.putObj r o').ownsRow base e s v n xs:=
 owns_keep h (fun g hg=>by
  have hne:g≠r:=by
   rintro rfl;obtain⟨_,_,cur,hc⟩:=owns_lt h hg;rw[hc]at hr
   cases hr
   cases ho
  exact(grownBy_putObj' W r o').block g (owns_lt h hg).2.1 (fun e=>hne (by injection e)))
theorem seqD_take(bs:Bs):seqD (bs.take 4097)=seqD bs:=by
 by_cases h:bs.length≤4097
 ·rw[List.take_of_length_le h]
 have h1:readD bs=.error 3:=by unfold readD;rw[if_pos (by omega)]
 have h2:readD (bs.take 4097)=.error 3:=by unfold readD;rw[if_pos (by rw[List.length_take];omega)]
 rw[seqD_err (by intro e;rw[e]at h;simp at h) h1,seqD_err (by intro e;have:=congrArg List.length e;rw[List.length_take]at this;simp at this;rw[this]at h;simp at h) h2]
theorem all_any(p:Option Addr)(n c:Nat)(bs:Bs)(P:Nat→Prop)(w:World)(hn:bs.length=n)(h:ByV w P p c bs):
  Calls Tryz.prog 93 #[.slice p n c] w fun e w'=>Below w.heap.size w w'∧∃g p' L c' bs',e=.returned (.func (.func 122) #[] #[.pointer (some ⟨g,0,none⟩)])∧w'.cell? ⟨g,0,none⟩=some (.slice p' L c')∧w.heap.size≤g∧bs'.length=L∧L≤4097∧ByV w' (fun b=>w.heap.size≤b) p' c' bs'∧seqD bs'=seqD bs:=by
 have hmf:∀(fn:Fn) (first cap:Array Value) (w:World),(Instr.makeFunc fn first cap).run Tryz.prog w=.ok (.func fn first cap) w:=fun _ _ _ _=>rfl;have hcap:=h.cap;have hbig:=h.big;rw[hn]at hcap;obtain⟨m,hm⟩:∃m,min n 4097=m:=⟨_,rfl⟩
 have hmI:min (n:Int) 4097=(m:Int):=by omega
 have hm1:m≤n:=by omega
 have hm2:m≤4097:=by omega
 have hmc:(m:Int)≤(c:Int):=by omega
 have hnI:(n:Int)≤9223372036854775807:=by omega
 have hcI:(c:Int)≤9223372036854775807:=by omega
 have hlen:(bs.take 4097).length=m:=by rw[List.length_take,hn];omega
 have hv:BAt w p m (bs.take 4097):=by
  have h1:=(h.take m (by omega)).lies;have h2:bs.take m=bs.take 4097:=by rw[List.take_eq_take_iff];omega
  rw[h2,hlen]at h1;exact h1
 have HC:=clone_any p m c (bs.take 4097) w hlen hv (by omega);have HH:Hid ((bs.take 4097).length=m∧m≤4097):=⟨hlen,hm2⟩
 clear hm hlen hv h hn;go_enter Tryz.func93,Tryz.ntmps93;go_wp2_with (go_at_call 121;refine HC.mono ?_;rintro e w1 ⟨hb1,p',c',rfl,hv1⟩)
 go_ret;refine⟨hb1.alloc hb1.size _,_,p',m,c',bs.take 4097,rfl,(kx_new _ _ _).1,hb1.size,HH.out.1,HH.out.2,hv1.keep (fun k _ hk=>((Below.refl w1.heap.size w1).alloc (Nat.le_refl _) _).block k hk),seqD_take bs⟩
theorem wpListIn_append_pc{F:Fence}{nF:Nat}{w:World}{ops:Array Oper}{rest:List Oper}{o:Oper}{a:Act}{Q:Exit→Act→World→Prop}(hgd:o.guard=none)(s x:Operand)
  (ho:o.op=.call { callee:=.builtin .append,args:=#[s,x],argTypes:=#[87,87] }) (base:Nat) (v:Value) (hs:a.eval s=v) (old:List Pc) (m:Nat) (hown:w.ownsRow base 93 2 v m (cellsP old)) (ad:Addr) (c:Nat) (y:Pc) (hx:a.eval x=.slice (some ad) 1 c) (h0:w.cell? (ad.add 0)=some (.int .u8 (y.t.toNat:Int))) (h1:w.cell? (ad.add 1)=some (.slice y.p y.b.length y.c)) (hlen:m+1≤1000000) (hbase:base≤w.heap.size)
  (h:∀v' w',w'.ownsRow base 93 2 v' (m+1) (cellsP (old++[y]))→w.grownBy w' v.ownBlock→(v'.ownBlock=v.ownBlock∨v'.ownBlock=some w.heap.size)→wpListIn F nF Tryz.prog ops Q rest (a.put o.dst v') w'):wpListIn F nF Tryz.prog ops Q (o::rest) a w:=by
 obtain⟨z,hz,hzs⟩:=infoTlv;obtain⟨i0,hi0,hz0,hz1,hz2⟩:=info_parts hz;refine wpListIn_append_own_at (w:=w) hgd s x _ ho base 93 i0 z 2 32 Tryz.underlying87 hi0 hz0 hz1 hz2 hzs (by decide) v m (cellsP old) hs hown ad 1 c (cellsP [y]) hx rfl ?_ (by intro u hu;simp[cellsP,Pc.cells]at hu;rcases hu with rfl|rfl<;>rfl) (by unfold maxLen;omega) (by omega) hbase ?_
 ·intro j u hj;match j with
  | 0=>simp[cellsP,Pc.cells]at hj;subst hj;exact h0
  | 1=>simp[cellsP,Pc.cells]at hj;subst hj;exact h1
  | j+2=>simp[cellsP,Pc.cells]at hj
 ·intro v' w' hown' hgr _ hat;rw[cellsP_app]at hown';exact h v' w' hown' hgr hat
structure LIv(w w6:World)(pre:List Ye)(v:Value)(W:World):Prop where
 r0:Kx W w.heap.size (.slice none 0 0)
 r1:Kx W (w.heap.size+1) (.int .i64 0)
 r2:Kx W (w.heap.size+1+1) v
 own:W.ownsRow w6.heap.size 93 2 v pre.length (cellsP (pre.map Ye.pc))
 at_:∀y∈pre,y.k=0∧ByV W (fun b=>w6.heap.size≤b∧v.ownBlock≠some b) y.pc.p y.pc.c y.pc.b
 low:Below w.heap.size w W
 sz:w6.heap.size≤W.heap.size
 mid:∀k,w.heap.size+1+1+1≤k→k<w6.heap.size→W.heap[k]?=w6.heap[k]?
theorem LIv.below{w w6:World}{pre:List Ye}{v:Value}{W W':World}(h:LIv w w6 pre v W)(hb:Below W.heap.size W W'):LIv w w6 pre v W':=
 ⟨kx_below h.r0 hb,kx_below h.r1 hb,kx_below h.r2 hb,owns_keep h.own (fun g hg=>hb.block g (owns_lt h.own hg).2.1),fun y hy=>⟨(h.at_ y hy).1,(h.at_ y hy).2.keep (fun g _ hlt=>hb.block g hlt)⟩,h.low.trans (hb.mono h.low.size),Nat.le_trans h.sz hb.size,fun k h1 h2=>(hb.block k (Nat.lt_of_lt_of_le h2 h.sz)).trans (h.mid k h1 h2)⟩
theorem LIv.put{w w6:World}{pre:List Ye}{v:Value}{W:World}(h:LIv w w6 pre v W){r:Nat}{o:Obj}(o':Obj)(h6:w.heap.size≤w6.heap.size)(hr6:w6.heap.size≤r)(hr:W.heap[r]?=some o)(ho:o.isCells=false):LIv w w6 pre v (W.putObj r o'):=
 ⟨kx_put h.r0 o' hr ho, kx_put h.r1 o' hr ho, kx_put h.r2 o' hr ho, owns_put h.own o' hr ho, fun y hy => ⟨(h.at_ y hy).1, (h.at_ y hy).2.put o' hr ho⟩,
  h.low.trans ⟨rfl,rfl,rfl,(grownBy_putObj' W r o').size,fun k hk=>(grownBy_putObj' W r o').block k (by have:=h.low.size;omega) (fun e=>by injection e with e;omega)⟩,Nat.le_trans h.sz (grownBy_putObj' W r o').size,fun k h1 h2=>((grownBy_putObj' W r o').block k (by have:=h.sz;omega) (fun e=>by injection e with e;omega)).trans (h.mid k h1 h2)⟩
theorem LIv.app{w w6:World}{pre:List Ye}{v:Value}{W2 W3:World}(h:LIv w w6 pre v W2)(o:Obj)(gr:(W2.alloc o).grownBy W3 v.ownBlock){v3:Value}{y:Ye}(o3:W3.ownsRow w6.heap.size 93 2 v3 (pre.length+1) (cellsP (pre.map Ye.pc++[y.pc])))(hk:y.k=0)(hy:ByV W2 (fun b=>w6.heap.size≤b∧v.ownBlock≠some b) y.pc.p y.pc.c y.pc.b)(hv3:v3.ownBlock=v.ownBlock∨v3.ownBlock=some (W2.alloc o).heap.size)(h6:w.heap.size+1+1+1≤w6.heap.size):LIv w w6 (pre++[y]) v3 (W3.setCell ⟨w.heap.size+1+1,0,none⟩ v3):=by
 have hsz:=h.sz;have haz:=alloc_sz W2 o;have low:∀k,k<W2.heap.size→v.ownBlock≠some k→W3.heap[k]?=W2.heap[k]?:=fun k hk hne=>(gr.block k (by omega) (fun e=>hne e.symm)).trans (Below.heap_alloc _ _ _ hk);have hob:∀k,k<w6.heap.size→v.ownBlock≠some k:=fun k hk e=>by have:=(owns_lt h.own e).1;omega
 have hgz:=gr.size;have st:∀k,k≠w.heap.size+1+1→(W3.setCell ⟨w.heap.size+1+1,0,none⟩ v3).heap[k]?=W3.heap[k]?:=fun k hk=>Below.heap_setCell _ _ _ _ hk;have kz:∀u:Ye,ByV W2 (fun b=>w6.heap.size≤b∧v.ownBlock≠some b) u.pc.p u.pc.c u.pc.b→ByV (W3.setCell ⟨w.heap.size+1+1,0,none⟩ v3) (fun b=>w6.heap.size≤b∧v3.ownBlock≠some b) u.pc.p u.pc.c u.pc.b:=fun u hu=>by
  have h1:ByV W2 (fun b=>(w6.heap.size≤b∧v.ownBlock≠some b)∧b<W2.heap.size) u.pc.p u.pc.c u.pc.b:=hu.mono (fun g hg hlt=>⟨hg,hlt⟩);refine(h1.keep (fun g hg hlt=>(st g (by omega)).trans (low g hlt hg.1.2))).mono (fun g hg _=>⟨hg.1.1,fun e => ?_⟩);rcases hv3 with e3|e3
  ·exact hg.1.2 (e3 ▸ e)
  ·rw[e3]at e;injection e with e;omega
 refine⟨kx_other (kx_block h.r0 (low _ (kx_lt h.r0) (hob _ (by omega)))) (by omega) _,kx_other (kx_block h.r1 (low _ (kx_lt h.r1) (hob _ (by omega)))) (by omega) _,kx_set (kx_block h.r2 (low _ (kx_lt h.r2) (hob _ (by omega)))) _,?_,?_,?_,?_,?_⟩
 ·rw[List.length_append,List.map_append];exact owns_keep o3 (fun g hg=>st g (by have:=(owns_lt o3 hg).1;omega))
 ·intro u hu;rcases List.mem_append.1 hu with hu|hu
  ·exact⟨(h.at_ u hu).1,kz u (h.at_ u hu).2⟩
  ·simp at hu;subst hu;exact⟨hk,kz u hy⟩
 ·have hl:=h.low.size;exact h.low.trans ⟨gr.os,gr.tape,gr.output,by show _≤(W3.heap.modify _ _).size;rw[Array.size_modify];omega,fun k hk=>(st k (by omega)).trans (low k (by omega) (hob k (by omega)))⟩
 ·show _≤(W3.heap.modify _ _).size;rw[Array.size_modify];omega
 ·intro k h1 h2;exact(st k (by omega)).trans ((low k (by omega) (hob k h2)).trans (h.mid k h1 h2))
end
end Go.Proofs.YtkhnnhbmchnajaaGreat
