import Derived.Test.YtcgikjkpbpjgdabGreatK26
import Derived.Test.YtcgikjkpbpjgdabGreatK25
import Derived.Test.YtcgikjkpbpjgdabGreatK18
import Derived.Test.YtcgikjkpbpjgdabGreatK00
import Derived.Test.YtcgikjkpbpjgdabGreatK06
import Derived.Test.YtcgikjkpbpjgdabGreatK19
import Derived.Test.YtcgikjkpbpjgdabGreatK14
import Derived.Test.YtcgikjkpbpjgdabGreatK15
set_option maxRecDepth 100000
set_option maxHeartbeats 40000000
set_option linter.unusedVariables false
set_option linter.unusedSimpArgs false
namespace Go.Proofs.YtcgikjkpbpjgdabGreat
open Go.Shelf Go.RowKit
structure Pc where
 t:UInt8
 b:Bs
 p:Option Addr
 c:Nat
def Pc.cells (x:Pc):List Value:=[.int .u8 (x.t.toNat:Int),.slice x.p x.b.length x.c]
def cellsP (l:List Pc):List Value:=l.flatMap Pc.cells
def pcsOf (l:List Pc):List (UInt8 × Bs):=l.map fun x=>(x.t,x.b)
theorem cellsP_app (a b:List Pc):cellsP a++cellsP b=cellsP (a++b):=by simp[cellsP]
theorem infoTlv:∃z,(Tryz.prog.info? 94).map (fun i=>(i.zero,i.size,i.bytes))=some (some z,2,32)∧z.cells.size=2:=⟨.agg #[.int .u8 0,.slice none 0 0],by kernel_rfl,rfl⟩
structure Pcs (w:World) (B:Nat) (P:Nat→Prop) (v:Value) (l:List Pc):Prop where
 own:w.ownsRow B 94 2 v l.length (cellsP l)
 at_:∀x∈l,ByV w P x.p x.c x.b
theorem allD_more:∀(m k:Nat) (bs:Bs),bs.length≤m→bs.length≤k→allD m bs=allD k bs
 | 0,k,bs,hm,hk=>by
  have:bs=[]:=List.eq_nil_of_length_eq_zero (by omega);subst this
  cases k with
  | zero=>rfl
  | succ k=>rfl
 | m+1,0,bs,hm,hk=>by
  have:bs=[]:=List.eq_nil_of_length_eq_zero (by omega);subst this;rfl
 | m + 1, k + 1, bs, hm, hk => by
  simp only[allD];by_cases h:bs=[]
  ·rw[if_pos h,if_pos h]
  rw[if_neg h,if_neg h]
  cases hr:readD bs with
  | error e=>rfl
  | ok q=>
   obtain⟨⟨t,b⟩,r⟩:=q;have:=(read_len hr).1;simp only[];rw[allD_more m k r (by omega) (by omega)]
def pcsD (bs:Bs):List (UInt8 × Bs) × Nat:=allD bs.length bs
theorem pcsD_err {bs:Bs} {k:Nat} (h0:bs≠[]) (h:readD bs=.error k):pcsD bs=([],k):=by
 obtain⟨m,hm⟩:∃m,bs.length=m+1:=⟨bs.length-1,by have:bs.length≠0:=fun e=>h0 (List.eq_nil_of_length_eq_zero e);omega⟩
 unfold pcsD;rw[hm];simp only[allD];rw[if_neg h0,h]
theorem pcsD_ok {bs:Bs} {t:UInt8} {b r:Bs} (h:readD bs=.ok ((t,b),r)):pcsD bs=((t,b)::(pcsD r).1,(pcsD r).2):=by
 have hl:=(read_len h).1;obtain⟨m,hm⟩:∃m,bs.length=m+1:=⟨bs.length-1,by omega⟩
 have h0:bs≠[]:=by intro e;rw[e]at hm;cases hm
 unfold pcsD;rw[hm];simp only[allD];rw[if_neg h0,h];simp only[];rw[allD_more m r.length r (by omega) (Nat.le_refl _)]
def lenOfS:Value→Nat
 | .slice _ n _=>n
 | _=>0
def LsPost (w:World) (P:World→Nat→Prop) (R:List (UInt8 × Bs) × Nat) (e:Ending) (w':World):Prop:=
 Below w.heap.size w w'∧((R.2≠0∧e=.returned (.tuple #[.slice none 0 0,.int .i64 (R.2:Int)]))∨(R.2=0∧∃l v,pcsOf l=R.1∧e=.returned (.tuple #[v,.int .i64 0])∧Pcs w' w.heap.size (P w) v l))
def intsB (l:Bs):List Int:=l.map fun b=>(b.toNat:Int)
theorem intsB_len (l:Bs):(intsB l).length=l.length:=by simp[intsB]
theorem intsB_dg (l:Bs):Dg 256 (intsB l):=by intro x hx;simp only[intsB,List.mem_map]at hx;obtain⟨b,_,rfl⟩:=hx;have:=b.toNat_lt;omega
theorem intsB_get (l:Bs) (i:Nat) (hi:i<l.length):(intsB l).getD i 0=((l.getD i 0).toNat:Int):=by simp[intsB,List.getD,hi]
theorem numIn_bat {w:World} {p:Option Addr} {n c:Nat} {l:Bs} (h:BAt w p n l) (hl:l.length=n) (h0:0<n) (hc:n≤c) (hc2:c≤9223372036854775807) (hn:n≤1000000):NumIn .u8 256 w p n c (intsB l):=by obtain⟨b,o,rfl,hcl⟩:=h h0;refine⟨⟨(by rw[intsB_len,hl]),.inr ⟨b,o,rfl,?_,fun i hi=>(by rw[hcl i hi,intsB_get l i (by omega)])⟩⟩,hc,(by unfold maxLen;omega),(fun e=>by cases e),intsB_dg l,(by omega)⟩;exact World.block_lt_of_cell? w ⟨b,o+0,none⟩ (hcl 0 h0)
def intL:Bs→Option Bs
 | []=>none
 | a::xs=>if 128≤a.toNat then none else if a.toNat=0∧0<xs.length then (if (xs.getD 0 0).toNat<128 then none else some xs) else some (a::xs)
theorem intL_cons (a:UInt8) (xs:Bs):intL (a::xs)=if 128≤a.toNat then none else if a.toNat=0∧0<xs.length then (if (xs.getD 0 0).toNat<128 then none else some xs) else some (a::xs):=rfl
def IntPost (w:World) (t:Nat) (b:Bs) (e:Ending) (w':World):Prop:=
 Below w.heap.size w w'∧(((t≠2∨intL b=none)∧e=.returned (.tuple #[.slice none 0 0,.int .i64 30])) ∨
  ∃l,t=2∧intL b=some l∧((512<l.length∧e=.returned (.tuple #[.slice none 0 0,.int .i64 3]))∨(l.length≤512∧∃v,e=.returned (.tuple #[v,.int .i64 0])∧NumOut .u64 B64 w w' v (val 256 (intsB l).reverse) 64)))
theorem NumOut.later {w w1 w':World} {v:Value} {n:Int} {L:Nat} (hb:Below w.heap.size w w1) (h:NumOut .u64 B64 w1 w' v n L):NumOut .u64 B64 w w' v n L:=by obtain⟨ao,len,cap,xs,e,h1,h2,h3,h4,h5⟩:=h;exact⟨ao,len,cap,xs,e,h1,h2,h3,h4,hb.trans (h5.mono hb.size)⟩
theorem derInt (t:Nat) (ht:t<256) (p:Option Addr) (n c:Nat) (l:Bs) (P:Nat→Prop) (w:World) (hl:l.length=n) (h:ByV w P p c l) (hn:n≤1000000):
  Calls Tryz.prog 38 #[.agg #[.int .u8 (t:Int),.slice p n c]] w (IntPost w t l):=by
 have hcap:=h.cap;have hbig:=h.big;rw[hl]at hcap;obtain⟨W1,hW1⟩:∃W1,w.alloc (.cells #[.int .u8 (t:Int),.slice p n c] 94)=W1:=⟨_,rfl⟩
 have b1:Below w.heap.size w W1:=by rw[←hW1];exact(Below.refl _ _).alloc (Nat.le_refl _) _
 have s1:Tl W1 w.heap.size (.int .u8 (t:Int)) (.slice p n c):=by rw[←hW1];exact Tl.new w _ _
 obtain⟨g0,g1,g2,g3⟩:=s1.facts;have HB:Hid (Below w.heap.size w W1):=b1;have HBAD:Hid (t≠2∨intL l=none→IntPost w t l (.returned (.tuple #[.slice none 0 0,.int .i64 30])) W1):=fun hh=>⟨b1,.inl ⟨hh,rfl⟩⟩
 have HRD:Hid (∀(q:Option Addr) (m d:Nat) (l':Bs),t=2→intL l=some l'→l'.length=m→0<m→m≤d→d≤9223372036854775807→m≤1000000→BAt W1 q m l'→Calls Tryz.prog 41 #[.slice q m d] W1 fun e w'=>∃v k,e=.returned (.tuple #[v,k])∧IntPost w t l e w'):=by
  intro q m d l' h2 hi hm h0 hd hd2 hm2 hb;by_cases hbg:512<m
  ·refine(Read_no q m d W1 hbg (by unfold maxLen;omega)).mono ?_;rintro e w' ⟨rfl,rfl⟩;exact⟨_,_,rfl,b1,.inr ⟨l',h2,hi,.inl ⟨by omega,rfl⟩⟩⟩
  ·refine(Read_yes q m d (intsB l') W1 (numIn_bat hb hm h0 hd hd2 hm2) (by omega)).mono ?_;rintro e w' ⟨v,rfl,hv⟩;have hv':=hv.later b1;exact⟨_,_,rfl,by obtain⟨_,_,_,_,_,_,_,_,_,h5⟩:=hv';exact h5,.inr ⟨l',h2,hi,.inr ⟨by omega,v,rfl,hv'⟩⟩⟩
 clear b1 s1;by_cases q2:t=2
 rotate_left
 ·have e2:((t:Int)==2)=false:=by simp;omega
  have e3:((t:Int) != 2)=true:=by simp;omega
  go_enter Tryz.func38,Tryz.ntmps38;go_wp2_with fail
  go_ret2
  exact HBAD.out (.inl q2)
 have e2:((t:Int)==2)=true:=by simp;omega
 have e3:((t:Int) != 2)=false:=by simp;omega
 have HT2:Hid (t=2):=q2;clear q2
 cases l with
 | nil=>
  simp at hl;subst hl;go_enter Tryz.func38,Tryz.ntmps38;go_wp2_with fail
  go_ret2
  exact HBAD.out (.inr rfl)
 | cons a xs =>
  obtain⟨b,o,rfl,hcl⟩:=h.lies (by simp);have HCL:Hid (∀i,i<(a::xs).length→W1.cell? ⟨b,o+i,none⟩=some (.int .u8 (((a::xs).getD i 0).toNat:Int))):=fun i hi=>(HB.out.cell (p:=⟨b,o+i,none⟩) (World.block_lt_of_cell? w _ (hcl i hi))).trans (hcl i hi);have c0:W1.cell? ⟨b,o,none⟩=some (.int .u8 (a.toNat:Int)):=by simpa using HCL.out 0 (by simp)
  have ha:=a.toNat_lt;have hn0:0<n:=by simp at hl;omega
  have hz:((n:Int)==0)=false:=by simp;omega
  have hnI:(0:Int)<(n:Int):=by omega
  have hcI:(n:Int)≤(c:Int):=by omega
  obtain⟨A,hA⟩:∃A,a.toNat=A:=⟨_,rfl⟩
  have HL:Hid ((a::xs).length=n∧a.toNat=A∧xs.length=n-1):=⟨hl,hA,by simp at hl;omega⟩
  rw[hA]at c0 ha;clear hl hcl h hA;by_cases q3:128≤A
  ·have q3I:(128:Int)≤(A:Int):=by omega
   go_enter Tryz.func38,Tryz.ntmps38;go_wp2_with fail
   go_ret2
   exact HBAD.out (.inr (by rw[intL_cons,if_pos (by rw[HL.out.2.1];exact q3)]))
  have q3I:¬(128:Int)≤(A:Int):=by omega
  have HWH:Hid (BAt W1 (some ⟨b,o,none⟩) n (a::xs)):=fun _=>⟨b,o,rfl,fun i hi=>HCL.out i (by rw[HL.out.1];exact hi)⟩
  by_cases q4:A=0
  ·subst q4;by_cases q5:1<n
   ·have q5I:(1:Int)<(n:Int):=by omega
    have q6I:(1:Int)≤(n:Int):=by omega
    have q7I:(1:Int)≤(c:Int):=by omega
    have hc1:¬c=1:=by omega
    have hn1:(0:Int)<(n:Int)-1:=by omega
    have c1:W1.cell? ⟨b,o+1,none⟩=some (.int .u8 ((xs.getD 0 0).toNat:Int)):=by simpa using HCL.out 1 (by rw[HL.out.1];omega)
    obtain⟨X,hX⟩:∃X,(xs.getD 0 0).toNat=X:=⟨_,rfl⟩
    have hx:=(xs.getD 0 0).toNat_lt;rw[hX]at c1 hx;have HX:Hid ((xs.getD 0 0).toNat=X):=hX;clear hX;by_cases q8:X<128
    ·have q8I:(X:Int)<128:=by omega
     go_enter Tryz.func38,Tryz.ntmps38;go_wp2_with fail
     go_ret2
     exact HBAD.out (.inr (by rw[intL_cons,if_neg (by rw[HL.out.2.1];omega),if_pos ⟨HL.out.2.1,by rw[HL.out.2.2];omega⟩,if_pos (by rw[HX.out];exact q8)]))
    ·have q8I:¬(X:Int)<128:=by omega
     have HR:=HRD.out (some ⟨b,o+1,none⟩) (n-1) (c-1) xs HT2.out (by rw[intL_cons,if_neg (by rw[HL.out.2.1];omega),if_pos ⟨HL.out.2.1,by rw[HL.out.2.2];omega⟩,if_neg (by rw[HX.out];exact q8)]) HL.out.2.2 (by omega) (by omega) (by omega) (by omega) (fun _=>⟨b,o+1,rfl,fun i hi=>by have:=HCL.out (i+1) (by rw[HL.out.1];omega);rw[show o+1+i=o+(i+1) by omega];simpa using this⟩);go_enter Tryz.func38,Tryz.ntmps38;go_wp2_with (go_at_call 41;refine HR.mono ?_;rintro e w' ⟨v,k,rfl,hp⟩;have HP:Hid (IntPost w t (a::xs) (.returned (.tuple #[v,k])) w'):=hp;clear hp)
     go_ret2
     exact HP.out
   ·have q5I:¬(1:Int)<(n:Int):=by omega
    have HR:=HRD.out (some ⟨b,o,none⟩) n c (a::xs) HT2.out (by rw[intL_cons,if_neg (by rw[HL.out.2.1];omega),if_neg (by rw[HL.out.2.2];omega)]) HL.out.1 (by omega) (by omega) (by omega) (by omega) HWH.out;go_enter Tryz.func38,Tryz.ntmps38;go_wp2_with (go_at_call 41;refine HR.mono ?_;rintro e w' ⟨v,k,rfl,hp⟩;have HP:Hid (IntPost w t (a::xs) (.returned (.tuple #[v,k])) w'):=hp;clear hp)
    go_ret2
    exact HP.out
  have q4I:((A:Int)==0)=false:=by simp;omega
  have HR:=HRD.out (some ⟨b,o,none⟩) n c (a::xs) HT2.out (by rw[intL_cons,if_neg (by rw[HL.out.2.1];omega),if_neg (by rw[HL.out.2.1];omega)]) HL.out.1 (by omega) (by omega) (by omega) (by omega) HWH.out;go_enter Tryz.func38,Tryz.ntmps38;go_wp2_with (go_at_call 41;refine HR.mono ?_;rintro e w' ⟨v,k,rfl,hp⟩;have HP:Hid (IntPost w t (a::xs) (.returned (.tuple #[v,k])) w'):=hp;clear hp)
  go_ret2
  exact HP.out
def wholeR (bs:Bs):Option (Bs × Bs):=match pieceR bs 2 with
 | none=>none
 | some (b,r)=>match intL b with
  | none=>none
  | some x=>some (x,r)
def twoR (b:Bs):Option (Bs × Bs):=match wholeR b with
 | none=>none
 | some (x,r1)=>if 512<x.length then none else match wholeR r1 with
  | none=>none
  | some (y,r2)=>if 512<y.length∨0<r2.length then none else some (x,y)
def pairR (bs:Bs):Option (Bs × Bs):=match pieceR bs 48 with
 | none=>none
 | some (b,r)=>if 0<r.length then none else twoR b
def intO (t:Nat) (b:Bs):Option Bs:=if t=2 then (match intL b with
 | none=>none
 | some x=>if 512<x.length then none else some x) else none
def pairOf (R:List (UInt8 × Bs) × Nat):Option (Bs × Bs):=if R.2≠0 then none else match R.1 with
 | [(t1, b1), (t2, b2)] => (match intO t1.toNat b1 with
  | none=>none
  | some x=>match intO t2.toNat b2 with
   | none=>none
   | some y=>some (x,y))
 | _=>none
theorem whole_err {bs:Bs} {k:Nat} (h:readD bs=.error k):wholeR bs=none:=by unfold wholeR;rw[pieceR_err h]
theorem whole_ok {bs:Bs} {t:UInt8} {b r:Bs} (h:readD bs=.ok ((t,b),r)):wholeR bs=if t.toNat=2 then (match intL b with
  | none=>none
  | some x=>some (x,r)) else none:=by
 unfold wholeR pieceR;rw[h];simp only[];by_cases h2:t.toNat=2
 ·rw[if_pos h2,if_pos h2]
 ·rw[if_neg h2,if_neg h2]
theorem pcs_more {bs:Bs} (h0:bs≠[]):(pcsD bs).2≠0∨∃x l,(pcsD bs).1=x::l:=by
 cases hr:readD bs with
 | error k=>
  left;rw[pcsD_err h0 hr];have:=read_err hr;omega
 | ok q=>
  obtain⟨⟨t,b⟩,r⟩:=q;right;rw[pcsD_ok hr];exact⟨_,_,rfl⟩
theorem two_of (b : Bs) : twoR b = pairOf (pcsD b) := by
 by_cases h0:b=[]
 ·subst h0;rfl
 cases hr:readD b with
 | error k=>
  have hk:=read_err hr;unfold twoR pairOf;rw[whole_err hr,pcsD_err h0 hr,if_pos (show(([],k):List (UInt8 × Bs) × Nat).2≠0 by show k≠0;omega)]
 | ok q =>
  obtain⟨⟨t1,b1⟩,r1⟩:=q;rw[pcsD_ok hr];have hw:=whole_ok hr;by_cases h1:r1=[]
  ·subst h1;have e1:pairOf ((t1,b1)::(pcsD []).1,(pcsD []).2)=none:=rfl;rw[e1];have e2:wholeR []=none:=rfl;unfold twoR;rw[hw];by_cases ht:t1.toNat=2
   ·rw[if_pos ht]
    cases intL b1 with
    | none=>rfl
    | some x =>
     simp only[];by_cases h5:512<x.length
     ·rw[if_pos h5]
     ·rw[if_neg h5,e2]
   ·rw[if_neg ht]
  cases hr1:readD r1 with
  | error k =>
   have hk:=read_err hr1;rw[pcsD_err h1 hr1];have e1:pairOf ((t1,b1)::(([],k):List (UInt8 × Bs) × Nat).1,(([],k):List (UInt8 × Bs) × Nat).2)=none:=by unfold pairOf;rw[if_pos (show k≠0 by omega)]
   rw[e1];unfold twoR;rw[hw];by_cases ht:t1.toNat=2
   ·rw[if_pos ht]
    cases intL b1 with
    | none=>rfl
    | some x =>
     simp only[];by_cases h5:512<x.length
     ·rw[if_pos h5]
     ·rw[if_neg h5,whole_err hr1]
   ·rw[if_neg ht]
  | ok q =>
   obtain⟨⟨t2,b2⟩,r2⟩:=q;rw[pcsD_ok hr1];have hw1:=whole_ok hr1;by_cases h2:r2=[]
   ·subst h2;have e1:pairOf ((t1,b1)::((t2,b2)::(pcsD []).1,(pcsD []).2).1,((t2,b2)::(pcsD []).1,(pcsD []).2).2)=(match intO t1.toNat b1 with
     | none=>none
     | some x=>match intO t2.toNat b2 with
      | none=>none
      | some y=>some (x,y)):=rfl
    rw[e1];unfold twoR;rw[hw];unfold intO;by_cases ht:t1.toNat=2
    ·rw[if_pos ht,if_pos ht]
     cases intL b1 with
     | none=>rfl
     | some x =>
      simp only[];by_cases h5:512<x.length
      ·rw[if_pos h5,if_pos h5]
      ·rw[if_neg h5,if_neg h5,hw1];by_cases ht2:t2.toNat=2
       ·rw[if_pos ht2,if_pos ht2]
        cases intL b2 with
        | none=>rfl
        | some y =>
         simp only[];by_cases h6:512<y.length
         ·rw[if_pos (.inl h6),if_pos h6]
         ·rw[if_neg (by simp;omega),if_neg h6]
       ·rw[if_neg ht2,if_neg ht2]
    ·rw[if_neg ht,if_neg ht]
   ·have e1:pairOf ((t1,b1)::((t2,b2)::(pcsD r2).1,(pcsD r2).2).1,((t2,b2)::(pcsD r2).1,(pcsD r2).2).2)=none:=by
     unfold pairOf;simp only[];rcases pcs_more h2 with h|⟨y,l,h⟩
     ·rw[if_pos h]
     ·rw[h];by_cases h7:(pcsD r2).2≠0
      ·rw[if_pos h7]
      ·rw[if_neg h7]
    rw[e1];have hl:0<r2.length:=by
     rcases Nat.eq_zero_or_pos r2.length with h|h
     ·exact absurd (List.eq_nil_of_length_eq_zero h) h2
     ·exact h
    unfold twoR;rw[hw];by_cases ht:t1.toNat=2
    ·rw[if_pos ht]
     cases intL b1 with
     | none=>rfl
     | some x =>
      simp only[];by_cases h5:512<x.length
      ·rw[if_pos h5]
      ·rw[if_neg h5,hw1];by_cases ht2:t2.toNat=2
       ·rw[if_pos ht2]
        cases intL b2 with
        | none=>rfl
        | some y=>
         simp only[];rw[if_pos (.inr hl)]
       ·rw[if_neg ht2]
    ·rw[if_neg ht]
def nI (x:Bs):Int:=val 256 (intsB x).reverse
def FewX (w w':World) (e:Ending) (B:Bs):Prop:=Below w.heap.size w w'∧∃p m c,e=.returned (.slice p m c)∧B.length=m∧w'.ownsRow w.heap.size 5 1 (.slice p m c) m (Lib.byteCells B)
def IntB (b:Bs) (n:Int):Prop:=b.length≤16∧∃x,intL b=some x∧nI x=n∧x.length≤16
theorem rWrite_x (t:Nat) (ht:t<256) (p:Option Addr) (n c:Nat) (l:Bs) (w0 w:World) (hl:l.length=n) (h:BAt w p n l) (hn:n<65536) (hb:Below w0.heap.size w0 w):Calls Tryz.prog 31 #[.int .u8 (t:Int),.slice p n c] w fun e w'=>FewX w0 w' e (writeD (UInt8.ofNat t) l):=by
 refine(rWrite_any t ht p n c l w hl h hn).mono ?_;rintro e w' ⟨hb1,v,rfl,ho⟩;obtain⟨q,d,rfl⟩:=owns_slice ho;have hW:writeD (UInt8.ofNat t) l=UInt8.ofNat t::(headD n++l):=by unfold writeD;rw[hl]
 refine⟨hb.trans (hb1.mono hb.size),q,_,d,rfl,?_,?_⟩
 ·rw[hW];simp;omega
 ·rw[hW];refine⟨ho.1,?_⟩;rcases ho.2 with h1|⟨g,cap,cur,e1,h1,h2⟩
  ·exact .inl h1
  ·exact .inr ⟨g,cap,cur,e1,by have:=hb.size;omega,h2⟩
theorem ints_toB {y:List Int} (h:Dg 256 y):intsB (toB y)=y:=by
 unfold intsB toB;rw[List.map_map];conv=>rhs;rw[←List.map_id y]
 apply List.map_congr_left;intro z hz;have:=h z hz;simp[UInt8.toNat_ofNat];omega
theorem nI_toB {y:List Int} (h:Dg 256 y):nI (toB y)=val 256 y.reverse:=by unfold nI;rw[ints_toB h]
theorem int_zero:IntB [UInt8.ofNat 0] 0:=⟨by decide,[UInt8.ofNat 0],by decide,by decide,by decide⟩
theorem toB_head {Y:Int} {ys:List Int} (hY:0≤Y∧Y<256):toB (Y::ys)=UInt8.ofNat Y.toNat::toB ys∧(UInt8.ofNat Y.toNat).toNat=Y.toNat:=by refine⟨rfl,?_⟩;simp[UInt8.toNat_ofNat];omega
theorem int_high {y:List Int} {n:Int} (hd:Dg 256 y) (hl:y.length≤15) (hv:val 256 y.reverse=n) (h0:0<y.length) (h8:128≤y.getD 0 0):IntB (UInt8.ofNat 0::toB y) n:=by
 refine⟨by simp[toB_len];omega,toB y,?_,by rw[nI_toB hd];exact hv,by rw[toB_len];omega⟩;match y,h0,h8,hd with
 | Y::ys,_,h8,hd=>
  have hY:=hd Y (by simp);simp at h8;obtain⟨e1,e2⟩:=toB_head (ys:=ys) hY;rw[intL_cons,if_neg (by decide),if_pos ⟨by decide,by rw[e1];simp⟩,e1,List.getD_cons_zero,e2,if_neg (by omega)]
theorem int_low {y:List Int} {n:Int} (hd:Dg 256 y) (hl:y.length≤16) (hv:val 256 y.reverse=n) (h0:0<y.length) (hn:(256:Int)^(y.length-1)≤n) (h8:¬128≤y.getD 0 0):IntB (toB y) n:=by
 refine⟨by rw[toB_len];omega,toB y,?_,by rw[nI_toB hd];exact hv,by rw[toB_len];omega⟩;match y,h0,h8,hd,hv,hn with
 | Y :: ys, _, h8, hd, hv, hn =>
  have hY:=hd Y (by simp);simp at h8;obtain⟨e1,e2⟩:=toB_head (ys:=ys) hY;have hY0:Y≠0:=by rintro rfl;rw[List.reverse_cons,val_snoc]at hv;have hlt:=val_lt (B:=256) (by decide) (fun z hz=>hd z (List.mem_cons_of_mem _ (List.mem_reverse.1 hz)):Dg 256 ys.reverse);rw[List.length_reverse]at hlt;simp at hn hv;omega
  rw[e1,intL_cons,e2,if_neg (by omega),if_neg (by omega)]
theorem blen_low {n:Int} (h0:0<n):(256:Int)^((blen n.toNat+7)/8-1)≤n:=by
 have h1:=blen_ge n.toNat (by omega);have h2:(2:Nat)^(8*((blen n.toNat+7)/8-1))≤2^(blen n.toNat-1):=Nat.pow_le_pow_right (by decide) (by omega);rw[Nat.pow_mul]at h2;have h3:((2^8)^((blen n.toNat+7)/8-1):Nat)≤n.toNat:=Nat.le_trans h2 h1;have h4:(((2^8)^((blen n.toNat+7)/8-1):Nat):Int)=256^((blen n.toNat+7)/8-1):=by simp
 omega
theorem hIntX (v:Value) (n:Int) (L:Nat) (w:World) (h:Rv w v n L) (hL:L≤1000) (hn:n<16777216):
  Calls Tryz.prog 32 #[v] w fun e w'=>∃b,FewX w w' e (writeD (UInt8.ofNat 2) b)∧IntB b n:=by
 have hn0:=h.nonneg;have HLN:=rlen_rv v n L w h (by omega);have hbl:blen n.toNat≤24:=blen_le _ _ (by omega);have hroom:=blen_room n hn0;have hlow:0<n→(256:Int)^((blen n.toNat+7)/8-1)≤n:=blen_low;have hzer:n≠0→0<(blen n.toNat+7)/8:=fun h=>by have:=blen_pos n.toNat (by omega);omega
 have hnul:n=0→(blen n.toNat+7)/8=0:=fun h=>by rw[h];rfl
 obtain⟨BL,hBL⟩:∃B,blen n.toNat=B:=⟨_,rfl⟩
 rw[hBL]at hroom hbl HLN hlow hzer hnul;obtain⟨NB,hNB⟩:∃B,(BL+7)/8=B:=⟨_,rfl⟩
 rw[hNB]at hroom hlow hzer hnul;have hNBI:((BL:Int)+7)/8=(NB:Int):=by omega
 have hNB2:NB≤3:=by omega
 obtain⟨a1,a2,a3,a4,rfl,a5,a6,a7,a8⟩:=h;have HBY:=rBytes_big a1 a2 a3 a4 NB w a5 (by omega) (by rw[a7];exact hroom);rw[a7]at HBY;clear a5 a6 a7 a8 hroom hBL hNB;go_enter Tryz.func32,Tryz.ntmps32;go_wp2_with fail
 refine HLN.mono ?_;rintro e w1 ⟨rfl,hw1⟩;obtain rfl:w=w1:=hw1.symm;clear HLN hw1;go_wp2_with fail
 refine HBY.mono ?_;rintro e w3 ⟨v3,rfl,g3,y3,rfl,r3,l3,d3,vy3,b3⟩;clear HBY;have HB3:Hid (Below w.heap.size w w3∧BAt w3 (some ⟨g3,0,none⟩) NB (toB y3)∧(toB y3).length=NB):=⟨b3,row_bat r3 l3 d3,by rw[toB_len];exact l3⟩
 have HYN:Hid (Dg 256 y3∧y3.length=NB∧val 256 y3.reverse=n∧(NB=0→n=0)∧(0<NB→(256:Int)^(NB-1)≤n)):=⟨d3,l3,vy3,fun h=>by
  by_cases hz:n=0
  ·exact hz
  ·have:=hzer hz;omega,fun h=>hlow (by
  by_cases hz:n=0
  ·have:=hnul hz;omega
  ·omega)⟩
 have HCL:0<NB→w3.cell? ⟨g3,0,none⟩=some (.int .u8 (y3.getD 0 0))∧0≤y3.getD 0 0:=fun h0=>by
  unfold Row at r3;refine⟨?_,(d3.getD (by decide) 0).1⟩;rw[cell_of_row _ _ 0 _ _ _ r3];match y3,l3 with
  | [],l3=>simp at l3;omega
  | y::ys,_=>rfl
 have HWR:=fun p5 m5 c5 l5 w5 (h1:BAt w5 p5 m5 l5) (h2:l5.length=m5) (h3:m5≤16) (h4:Below w.heap.size w w5)=>(rWrite_x 2 (by omega) p5 m5 c5 l5 w w5 h2 h1 (by omega) h4)
 clear r3 l3 d3 b3 vy3 hlow hzer hnul;by_cases h0:NB=0
 ·subst h0;clear HCL;go_wp2_with (at_builtin;refine wpList_append_wt rfl (.tmp 19) (.tmp 20) rfl w3.heap.size (.slice (some ⟨w3.heap.size,0,none⟩) 1 1) rfl [UInt8.ofNat 0] 1 rfl (owns_lit1 w3 w3.heap.size 0 (by omega) (Nat.le_refl _)) (some ⟨g3,0,none⟩) 0 0 (toB y3) HB3.out.2.2 rfl (HB3.out.2.1.below ((Below.refl _ _).alloc (Nat.le_refl _) _)) (by omega) (by simp) ?_;intro v5 w5 o5 gr5 at5;have B5:Below w3.heap.size w3 w5:=below_grownT ((Below.refl _ _).alloc (Nat.le_refl _) _) (Nat.le_refl _) (owns_lit1 w3 w3.heap.size 0 (by omega) (Nat.le_refl _)) gr5;have HL5:([UInt8.ofNat 0]++toB y3).length=1+0:=(by rw[List.length_append,HB3.out.2.2];rfl);obtain⟨p5,c5,rfl,hv5⟩:=own_byv (l:=[UInt8.ofNat 0]++toB y3) (by rw[HL5];exact o5);rw[HL5];have HW5:Hid (BAt w5 p5 (1+0) ([UInt8.ofNat 0]++toB y3)∧([UInt8.ofNat 0]++toB y3).length=1+0∧Below w.heap.size w w5):=⟨(by have:=hv5.lies;rw[HL5]at this;exact this),HL5,HB3.out.1.trans (B5.mono HB3.out.1.size)⟩;clear at5 gr5 o5 B5 hv5 HL5)
  have HB:IntB ([UInt8.ofNat 0]++toB y3) n:=by have e0:y3=[]:=List.eq_nil_of_length_eq_zero HYN.out.2.1;rw[HYN.out.2.2.2.1 (by trivial),e0];exact int_zero
  refine(HWR p5 (1+0) c5 _ w5 HW5.out.1 HW5.out.2.1 (by omega) HW5.out.2.2).mono ?_;intro e w6 h6;have H6:Hid (∃b,FewX w w6 e (writeD (UInt8.ofNat 2) b)∧IntB b n):=⟨_,h6,HB⟩
  obtain⟨-,p6,m6,c6,rfl,-⟩:=h6;clear HWR HB;go_wp2_with fail
  go_ret;exact H6.out
 have h0b:((NB:Int)==0)=false:=by simp;omega
 have h0I:(0:Int)<(NB:Int):=by omega
 obtain⟨k0,ky⟩:=HCL (by omega);obtain⟨Y,hY⟩:∃Y,y3.getD 0 0=Y:=⟨_,rfl⟩
 rw[hY]at k0 ky;have HY8:Hid (y3.getD 0 0=Y):=hY;clear hY HCL;by_cases h8:128≤Y
 ·go_wp2_with (at_builtin;refine wpList_append_wt rfl (.tmp 19) (.tmp 20) rfl w3.heap.size (.slice (some ⟨w3.heap.size,0,none⟩) 1 1) rfl [UInt8.ofNat 0] 1 rfl (owns_lit1 w3 w3.heap.size 0 (by omega) (Nat.le_refl _)) (some ⟨g3,0,none⟩) NB NB (toB y3) HB3.out.2.2 rfl (HB3.out.2.1.below ((Below.refl _ _).alloc (Nat.le_refl _) _)) (by omega) (by simp) ?_;intro v5 w5 o5 gr5 at5;have B5:Below w3.heap.size w3 w5:=below_grownT ((Below.refl _ _).alloc (Nat.le_refl _) _) (Nat.le_refl _) (owns_lit1 w3 w3.heap.size 0 (by omega) (Nat.le_refl _)) gr5;have HL5:([UInt8.ofNat 0]++toB y3).length=1+NB:=(by rw[List.length_append,HB3.out.2.2];rfl);obtain⟨p5,c5,rfl,hv5⟩:=own_byv (l:=[UInt8.ofNat 0]++toB y3) (by rw[HL5];exact o5);rw[HL5];have HW5:Hid (BAt w5 p5 (1+NB) ([UInt8.ofNat 0]++toB y3)∧([UInt8.ofNat 0]++toB y3).length=1+NB∧Below w.heap.size w w5):=⟨(by have:=hv5.lies;rw[HL5]at this;exact this),HL5,HB3.out.1.trans (B5.mono HB3.out.1.size)⟩;clear at5 gr5 o5 B5 hv5 HL5)
  refine(HWR p5 (1+NB) c5 _ w5 HW5.out.1 HW5.out.2.1 (by omega) HW5.out.2.2).mono ?_;intro e w6 h6;have H6:Hid (∃b,FewX w w6 e (writeD (UInt8.ofNat 2) b)∧IntB b n):=⟨_,h6,int_high HYN.out.1 (by have:=HYN.out.2.1;omega) HYN.out.2.2.1 (by have:=HYN.out.2.1;omega) (by rw[HY8.out];exact h8)⟩
  obtain⟨-,p6,m6,c6,rfl,-⟩:=h6;clear HWR;go_wp2_with fail
  go_ret;exact H6.out
 ·go_wp2_with fail
  refine(HWR (some ⟨g3,0,none⟩) NB NB _ w3 HB3.out.2.1 HB3.out.2.2 (by omega) HB3.out.1).mono ?_;intro e w6 h6;have H6:Hid (∃b,FewX w w6 e (writeD (UInt8.ofNat 2) b)∧IntB b n):=⟨_,h6,int_low HYN.out.1 (by have:=HYN.out.2.1;omega) HYN.out.2.2.1 (by have:=HYN.out.2.1;omega) (by rw[HYN.out.2.1];exact HYN.out.2.2.2.2 (by omega)) (by rw[HY8.out];omega)⟩
  obtain⟨-,p6,m6,c6,rfl,-⟩:=h6;clear HWR;go_wp2_with fail
  go_ret;exact H6.out
theorem two_ex (j:Nat) (hj:j<3) {P N:Nat} [NeZero P] (R:RightK (curZ j) P N):∃q,Mt (curZ j) P (baseZ (curZ j)) 2 q∧q.inf=false∧q.x%(curZ j).n≠0∧q.x%(curZ j).n≠(curZ j).gx%(curZ j).n∧(curZ j).gx%(curZ j).n≠0:=by
 have h1:=Mt.one R.good R.base;have go:∀q:Pz,AddZ (curZ j) (baseZ (curZ j)) (baseZ (curZ j)) (some q)→Mt (curZ j) P (baseZ (curZ j)) 2 q:=fun q h=>by obtain⟨s,e,hs⟩:=Mt.add R.good R.base h1 h1 h;injection e with e;rw[e];exact hs
 obtain rfl|rfl|rfl:j=0∨j=1∨j=2:=by omega
 ·refine⟨⟨200,9,false⟩,go _ ?_,rfl,by decide +kernel,by decide +kernel,by decide +kernel⟩;unfold AddZ;rw[if_neg (by decide +kernel),if_neg (by decide +kernel),if_neg (by decide +kernel)];unfold AddN;rw[if_neg (by decide +kernel),if_neg (by decide +kernel)];exact⟨82,by decide +kernel,by decide +kernel,⟨49,by decide +kernel⟩,by simp only[Option.some.injEq,Pz.mk.injEq,and_true];decide +kernel⟩
 ·refine⟨⟨1643,429,false⟩,go _ ?_,rfl,by decide +kernel,by decide +kernel,by decide +kernel⟩;unfold AddZ;rw[if_neg (by decide +kernel),if_neg (by decide +kernel),if_neg (by decide +kernel)];unfold AddN;rw[if_neg (by decide +kernel),if_neg (by decide +kernel)];exact⟨1377,by decide +kernel,by decide +kernel,⟨1261,by decide +kernel⟩,by simp only[Option.some.injEq,Pz.mk.injEq,and_true];decide +kernel⟩
 ·refine⟨⟨4001,4976,false⟩,go _ ?_,rfl,by decide +kernel,by decide +kernel,by decide +kernel⟩;unfold AddZ;rw[if_neg (by decide +kernel),if_neg (by decide +kernel),if_neg (by decide +kernel)];unfold AddN;rw[if_neg (by decide +kernel),if_neg (by decide +kernel)];exact⟨36728,by decide +kernel,by decide +kernel,⟨33039,by decide +kernel⟩,by simp only[Option.some.injEq,Pz.mk.injEq,and_true];decide +kernel⟩
section
variable {P : Nat} [NeZero P] {K : Cz} {N : Nat}
theorem no_sum (R:RightK K P N) (hp:PrimeN N) {z secret draw:Int} (hd:0<draw∧draw<N) {p:Pz} (hpt:Mt K P (baseZ K) draw.toNat p) (hr0:p.x%K.n≠0) (h:SgnNo K P z secret draw):Cg N (z+p.x*secret) 0:=by
 obtain⟨q,hq,h⟩:=h;have e:=Mt.uniq R.good hq hpt;subst e;have hn:=R.n;have hi:=mt_fin R hp rfl (by omega) (by omega) hq;rw[hn]at h hr0;rcases h with h|h|h|⟨i,h1,h2⟩
 ·rw[hi]at h
  cases h
 ·exact absurd h hr0
 ·exact absurd (gd_prime hp draw (by omega) hd.2) h
 ·have c1:Cg (N:Int) (((z+(q.x%N*secret)%N)%N)*i) ((z+q.x*secret)*i):=((Cg.mod _ _).trans ((Cg.refl _ _).add ((Cg.mod _ _).trans ((Cg.mod _ _).mul (Cg.refl _ _))))).mul (Cg.refl _ _);have c2:Cg (N:Int) ((z+q.x*secret)*i) 0:=c1.symm.trans (by
   have:=Cg.mod (N:Int) (((z+(q.x%N*secret)%N)%N)*i);rw[h2]at this;exact this.symm)
  have c3:=c2.mul (Cg.refl (N:Int) draw);have c4:=(Cg.refl (N:Int) (z+q.x*secret)).mul h1;rw[Int.mul_one]at c4;rw[Int.zero_mul,Int.mul_assoc]at c3;exact c4.symm.trans c3
theorem cg_cancel (hp:PrimeN N) {a b:Int} (h:Cg N (a*b) 0) (hb:0<b∧b<N):a%(N:Int)=0:=by
 have hN0:(0:Int)<N:=by omega
 obtain⟨y,_,_,hy⟩:=inv_ex (m:=(N:Int)) (a:=b) hN0 (gd_prime hp b (by omega) hb.2);have h1:=(Cg.refl (N:Int) y).mul h;have h2:Cg (N:Int) (y*(a*b)) a:=by have:=(Cg.refl (N:Int) a).mul hy;rw[Int.mul_one]at this;exact Cg.trans (Cg.of_eq (by grind)) this
 rw[Int.mul_zero]at h1;have:=(h2.symm.trans h1).emod;simpa using this
theorem draw_at {m d0 t:Int} (hm:0<m) (h0:0≤d0) (ht:0≤t) (ht2:t<m):∃i:Nat,(i:Int)<m∧(d0+i)%m=t:=by have h1:=Int.emod_nonneg (t-d0) (b:=m) (by omega);have h2:=Int.emod_lt_of_pos (t-d0) hm;refine⟨((t-d0)%m).toNat,by omega,?_⟩;rw[Int.toNat_of_nonneg h1];have:Cg m (d0+(t-d0)%m) t:=((Cg.refl m d0).add (Cg.mod m (t-d0))).trans (Cg.of_eq (by omega));rw[this.emod,Int.emod_eq_of_lt ht ht2]
end
theorem sgn_some (j:Nat) (hj:j<3) {P N:Nat} [NeZero P] (R:RightK (curZ j) P N) (hp:PrimeN N) (hN:270<N) {z secret d0:Int} (hs:0<secret∧secret<N) (h0:0≤d0) (h:∀i:Nat,(i:Int)<(curZ j).n→SgnNo (curZ j) P z secret (1+(d0+i)%((curZ j).n-1))):False:=by have hn:=R.n;obtain⟨q,hq,hqi,hq0,hqg,hg0⟩:=two_ex j hj R;rw[hn]at h;obtain⟨i,hi,ei⟩:=draw_at (m:=(N:Int)-1) (d0:=d0) (t:=0) (by omega) h0 (by omega) (by omega);obtain⟨k,hk,ek⟩:=draw_at (m:=(N:Int)-1) (d0:=d0) (t:=1) (by omega) h0 (by omega) (by omega);have a1:=h i (by omega);have a2:=h k (by omega);rw[ei]at a1;rw[ek]at a2;have b1:=no_sum R hp (draw:=1+0) (by omega) (p:=baseZ (curZ j)) (by exact Mt.one R.good R.base) hg0 a1;have b2:=no_sum R hp (draw:=1+1) (by omega) (p:=q) (by exact hq) hq0 a2;have b3:=b2.sub b1;have b4:Cg (N:Int) ((q.x-(curZ j).gx)*secret) 0:=Cg.trans (Cg.of_eq (by unfold baseZ;grind)) b3;have b5:=cg_cancel hp b4 hs;apply hqg;rw[hn];have b6:Cg (N:Int) (q.x-(curZ j).gx) 0:=((Cg.mod _ _).symm).trans (Cg.of_eq b5);have b7:=b6.add (Cg.refl (N:Int) (curZ j).gx);have b8:=b7.emod;rw[show q.x-(curZ j).gx+(curZ j).gx=q.x by omega,Int.zero_add]at b8;exact b8
end Go.Proofs.YtcgikjkpbpjgdabGreat
