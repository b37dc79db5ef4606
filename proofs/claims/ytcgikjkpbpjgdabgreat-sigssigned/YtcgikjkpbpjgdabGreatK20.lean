import Derived.Test.YtcgikjkpbpjgdabGreatK19
import Derived.Deep.RegionHeld3
import Derived.BigRegion
import Derived.RangeFuncRecord
set_option maxRecDepth 100000
set_option maxHeartbeats 40000000
set_option linter.unusedVariables false
set_option linter.unusedSimpArgs false
namespace Go.Proofs.YtcgikjkpbpjgdabGreat
open Go.RowKit
theorem getD_set_same (l:List Int) (i:Nat) (x:Int) (h:i<l.length):(l.set i x).getD i 0=x:=by simp[List.getD,h]
theorem getD_set_other (l:List Int) (i j:Nat) (x:Int) (h:i≠j):(l.set i x).getD j 0=l.getD j 0:=by simp[List.getD,List.getElem?_set_ne h]
theorem getD_take (l:List Int) (n j:Nat) (h:j<n):(l.take n).getD j 0=l.getD j 0:=by simp[List.getD,List.getElem?_take,h]
theorem ext_getD (l m:List Int) (h:l.length=m.length) (hj:∀j,j<l.length→l.getD j 0=m.getD j 0):l=m:=by apply List.ext_getElem h;intro j h1 h2;have:=hj j h1;simpa [List.getD,h1,h2] using this
theorem pw_bounds (b:List Int) (hd:Dg 256 b) (i:Nat):∀k,0≤pw b i k∧pw b i k<256^k
 | 0=>by simp[pw]
 | k+1=>by
  have h1:=pw_bounds b hd i k;have h2:=hd.getD (by decide) (4*i+k);rw[pw,Int.pow_succ];omega
def SchA (b:List Int) (i k:Nat) (cur:List Int):Prop:=
 cur.length=64∧(∀j,j<i→cur.getD j 0=pw b j 4)∧cur.getD i 0=pw b i k∧∀j,i<j→cur.getD j 0=0
theorem SchA.zero (b:List Int):SchA b 0 0 (List.replicate 64 0):=⟨by simp,fun j h=>by omega,getD_zeros _ _,fun j _=>getD_zeros _ _⟩
theorem SchA.step {b cur:List Int} {i k:Nat} (h:SchA b i k cur) (hi:i<16):SchA b i (k+1) (cur.set i (cur.getD i 0*256+b.getD (4*i+k) 0)):=by
 obtain⟨h1,h2,h3,h4⟩:=h;refine⟨by simpa using h1,fun j hj => ?_,?_,fun j hj => ?_⟩
 ·rw[getD_set_other _ _ _ _ (by omega)];exact h2 j hj
 ·rw[getD_set_same _ _ _ (by omega),h3];rfl
 ·rw[getD_set_other _ _ _ _ (by omega)];exact h4 j hj
theorem SchA.next {b cur:List Int} {i:Nat} (h:SchA b i 4 cur):SchA b (i+1) 0 cur:=by
 obtain⟨h1,h2,h3,h4⟩:=h;refine⟨h1,fun j hj => ?_,?_,fun j hj=>h4 j (by omega)⟩
 ·by_cases e:j=i
  ·rw[e];exact h3
  ·exact h2 j (by omega)
 ·rw[h4 (i+1) (by omega)];rfl
theorem words16_length (b:List Int):(words16 b).length=16:=by simp[words16]
theorem words16_get (b:List Int) (j:Nat) (h:j<16):(words16 b).getD j 0=pw b j 4:=by simp[words16,List.getD,h]
theorem schedGo_length:∀(n:Nat) (l:List Int),(schedGo n l).length=l.length+n
 | 0,l=>by simp[schedGo]
 | n+1,l=>by rw[schedGo,schedGo_length n];simp;omega
theorem schedGo_succ:∀(n:Nat) (l:List Int),schedGo (n+1) l=schedGo n l++[wNext (schedGo n l) (l.length+n)]
 | 0,l=>by simp[schedGo]
 | n+1,l=>by
  rw[schedGo,schedGo_succ n];have:(l++[wNext l l.length]).length+n=l.length+(n+1):=by simp;omega
  rw[this];rfl
theorem wNext_take (l:List Int) (i:Nat) (h:16≤i):wNext (l.take i) i=wNext l i:=by unfold wNext;rw[getD_take _ _ _ (by omega),getD_take _ _ _ (by omega),getD_take _ _ _ (by omega),getD_take _ _ _ (by omega)]
def SchB (b:List Int) (i:Nat) (cur:List Int):Prop:=cur.length=64∧cur.take i=schedGo (i-16) (words16 b)
theorem SchA.done {b cur:List Int} (h:SchA b 16 0 cur):SchB b 16 cur:=by
 refine⟨h.1,?_⟩;apply ext_getD
 ·rw[schedGo_length,words16_length];have:=h.1;simp;omega
 ·intro j hj;have hj':j<16:=by have:=h.1;simp at hj;omega
  rw[getD_take _ _ _ hj',h.2.1 j hj'];exact(words16_get b j hj').symm
theorem take_succ_set (l:List Int) (i:Nat) (x:Int) (h:i<l.length):(l.set i x).take (i+1)=l.take i++[x]:=by rw[List.take_succ_eq_append_getElem (by simpa using h)];simp[List.take_set_of_le]
theorem SchB.step {b cur:List Int} {i:Nat} (h:SchB b i cur) (h1:16≤i) (h2:i<64):SchB b (i+1) (cur.set i (wNext cur i)):=by obtain⟨hl,ht⟩:=h;refine⟨by simpa using hl,?_⟩;rw[take_succ_set _ _ _ (by omega),ht,show i+1-16=(i-16)+1 by omega,schedGo_succ,words16_length,show 16+(i-16)=i by omega,←ht,wNext_take _ _ h1]
theorem SchB.done {b cur:List Int} (h:SchB b 64 cur):cur=sched b:=by obtain⟨hl,ht⟩:=h;rw[List.take_of_length_le (by omega)]at ht;exact ht
theorem Row.setOther {e:TypeId} {k:IntKind} {w:World} {g:Nat} {xs:List Int} (h:Row e k w g xs) {p:Addr} (hp:g≠p.block) (v:Value):Row e k (w.setCell p v) g xs:=by unfold Row;rw[heap_setCell_other w p g v hp];exact h
theorem or_byte (a d:Int) (ha:0≤a) (ha':a<16777216) (hd:0≤d) (hd':d<256):bits .or .u32 (a*256) d=a*256+d:=by
 obtain⟨x,rfl⟩:=Int.eq_ofNat_of_zero_le ha;obtain⟨y,rfl⟩:=Int.eq_ofNat_of_zero_le hd;show IntKind.u32.wrap ((BitVec.ofInt 32 ((x:Int)*256)|||BitVec.ofInt 32 (y:Int)).toNat:Int)=_;rw[BitVec.toNat_or,show((x:Int)*256)=((x*256:Nat):Int) by omega,ofInt_u32 (x*256) (by omega),ofInt_u32 y (by omega)];have:x*256|||y=x*256+y:=by have:=Nat.two_pow_add_eq_or_of_lt (i:=8) (b:=y) (by omega) x;rw[Nat.mul_comm];exact this.symm
 rw[this,IntKind.wrap_u32];omega
theorem schedule_any (b off cap : Nat) (bs : List Int) (w : World) (h : Lies .u8 w (some ⟨b, off, none⟩) 64 bs) (hd : Dg 256 bs) (hcap : 64 ≤ cap) (hc2 : cap ≤ maxLen) :
  Calls Tryz.prog 133 #[.slice (some ⟨b,off,none⟩) 64 cap] w fun e w'=>e=.returned (ag .u32 (sched bs))∧Below w.heap.size w w':=by
 have HL:Hid (Lies .u8 w (some ⟨b,off,none⟩) 64 bs):=h;have HD:Hid (Dg 256 bs):=hd;unfold maxLen at hc2;clear h hd;go_enter Tryz.func133,Tryz.ntmps133;go_wp2_with (refine wpList_alloc_row rfl 173 rfl .u32 64 Tryz.infoW64 ?_;intro w1 hr1 hb1 hs1)
 rename_i w0 hr0 hb0 hs0 K0 hK0;have HR2:Hid (Row 173 .u32 w1 (w.heap.size+1) (List.replicate 64 0)∧Row 173 .u32 w1 w.heap.size (List.replicate 64 0)∧Below w.heap.size w w1):=
  ⟨by rw[←hs0];exact hr1,hr0.below hb1 (by omega),hb0.trans (hb1.mono (by omega))⟩
 clear hr0 hb0 hs0 hr1 hb1 hs1 w0;go_wp2;go_loopw [12] (fun vi wr=>∃(i:Nat) (cur:List Int),i≤16∧vi=.int .i64 i∧Row 173 .u32 wr (w.heap.size+1) cur∧SchA bs i 0 cur∧Row 173 .u32 wr w.heap.size (List.replicate 64 0)∧Below w.heap.size w wr) (fun vi _=>16-(intOf vi).toNat)
 case atStart=>exact⟨0,_,by omega,rfl,HR2.out.1,SchA.zero bs,HR2.out.2.1,HR2.out.2.2⟩
 case round =>
  obtain⟨i,cur0,hi,rfl,hrw0,hm0,hro0,hb0⟩:=hrel;clear HR2;have HR0:Hid (Row 173 .u32 wr (w.heap.size+1) cur0∧SchA bs i 0 cur0∧Row 173 .u32 wr w.heap.size (List.replicate 64 0)∧Below w.heap.size w wr):=⟨hrw0,hm0,hro0,hb0⟩
  clear hrw0 hm0 hro0 hb0;by_cases hlt:i<16
  ·go_wp2;go_loopw [23] (fun vk wr=>∃(k:Nat) (cur:List Int),k≤4∧vk=.int .i64 k∧Row 173 .u32 wr (w.heap.size+1) cur∧SchA bs i k cur∧Row 173 .u32 wr w.heap.size (List.replicate 64 0)∧Below w.heap.size w wr) (fun vk _=>4-(intOf vk).toNat)
   case atStart=>exact⟨0,_,by omega,rfl,HR0.out⟩
   case round=>
    obtain⟨k,cur,hk,rfl,hrw,hm,hro,hb⟩:=hrel;clear HR0;by_cases hlk:k<4
    ·have hl:=hm.1;have hc:=hrw.cell i (by omega);have hf:=hrw.frozen i;have hcb:wr.cell? ⟨b,off+i*4+k,none⟩=some (.int .u8 (bs.getD (4*i+k) 0)):=by
      obtain⟨b',off',e,_,hcs⟩:=(HL.out.old hb).at (by omega)
      cases e
      rw[show off+i*4+k=off+(4*i+k) by omega];exact hcs _ (by omega)
     have gd:=HD.out.getD (by decide) (4*i+k);have gp:=pw_bounds bs HD.out i k;have gp2:(256:Int)^k≤16777216:=by
      have:k=0∨k=1∨k=2∨k=3:=by omega
      rcases this with rfl|rfl|rfl|rfl<;>decide
     have HM:Hid (SchA bs i (k+1) (cur.set i (cur.getD i 0*256+bs.getD (4*i+k) 0))):=hm.step hlt;have HF:Hid (bits .or .u32 (cur.getD i 0*256%4294967296) (bs.getD (4*i+k) 0%4294967296)=cur.getD i 0*256+bs.getD (4*i+k) 0):=by unfold Hid;rw[hm.2.2.1,Int.emod_eq_of_lt (show 0≤pw bs i k*256 by omega) (by omega),Int.emod_eq_of_lt gd.1 (by omega)];exact or_byte _ _ gp.1 (by omega) gd.1 gd.2
     have HRW:Hid (Row 173 .u32 wr (w.heap.size+1) cur∧Row 173 .u32 wr w.heap.size (List.replicate 64 0)∧Below w.heap.size w wr):=⟨hrw,hro,hb⟩
     generalize cur.getD i 0=x at *;generalize bs.getD (4*i+k) 0=d at *;clear hrw hm hro hb hl gd gp gp2;go_wp2;go_roundw
     case rel=>
      refine⟨k+1,cur.set i (x*256+d),by omega,by go_num,?_,HM.out,?_,?_⟩
      ·rw[←HF.out];exact HRW.out.1.set i _
      ·exact HRW.out.2.1.setOther (by simp) _
      ·exact HRW.out.2.2.setCell (by simp) _
     case measure=>simp[intOf]<;>omega
    ·obtain rfl:k=4:=by omega
     have HM:Hid (SchA bs (i+1) 0 cur):=hm.next;clear hm;go_wp2;go_roundw
     case rel=>exact⟨i+1,cur,by omega,by go_num,hrw,HM.out,hro,hb⟩
     case measure=>simp[intOf]<;>omega
  ·have HB0:Hid (SchB bs 16 cur0):=by
    have:=HR0.out.2.1;rw[show i=16 by omega]at this;exact this.done
   clear hi;generalize i=i0 at *;go_wp2;go_loopw [7] (fun vi wr=>∃(i:Nat) (cur:List Int),16≤i∧i≤64∧vi=.int .i64 i∧Row 173 .u32 wr (w.heap.size+1) cur∧SchB bs i cur∧Row 173 .u32 wr w.heap.size (List.replicate 64 0)∧Below w.heap.size w wr) (fun vi _=>64-(intOf vi).toNat)
   case atStart=>exact⟨16,cur0,by omega,by omega,rfl,HR0.out.1,HB0.out,HR0.out.2.2⟩
   case round =>
    obtain⟨i,cur,hi1,hi2,rfl,hrw,hm,hro,hb⟩:=hrel;clear HR0 HB0;have HRW:Hid (Row 173 .u32 wr (w.heap.size+1) cur∧Row 173 .u32 wr w.heap.size (List.replicate 64 0)∧Below w.heap.size w wr):=⟨hrw,hro,hb⟩
    by_cases hlt:i<64
    ·have hl:=hm.1;have c0:=hrw.cell (i-16) (by omega);have c1:=hrw.cell (i-15) (by omega);have c2:=hrw.cell (i-7) (by omega);have c3:=hrw.cell (i-2) (by omega);have ci:=hrw.cell i (by omega);have hf:=hrw.frozen i;have HM:Hid (SchB bs (i+1) (cur.set i (wNext cur i))):=hm.step hi1 hlt;have HF:Hid (wNext cur i=(cur.getD (i-16) 0+bits .xor .u32 (bits .xor .u32 (rot (cur.getD (i-15) 0) 7) (rot (cur.getD (i-15) 0) 18)) (cur.getD (i-15) 0/8)+cur.getD (i-7) 0+bits .xor .u32 (bits .xor .u32 (rot (cur.getD (i-2) 0) 17) (rot (cur.getD (i-2) 0) 19)) (cur.getD (i-2) 0/1024))%4294967296):=by
      unfold Hid wNext sg0 sg1 M32;omega
     generalize cur.getD (i-16) 0=x0 at *;generalize cur.getD (i-15) 0=x1 at *;generalize cur.getD (i-7) 0=x2 at *;generalize cur.getD (i-2) 0=x3 at *;have H7:=fun w=>rotr_any x1 7 w (by omega) (by omega);have H18:=fun w=>rotr_any x1 18 w (by omega) (by omega);have H17:=fun w=>rotr_any x3 17 w (by omega) (by omega);have H19:=fun w=>rotr_any x3 19 w (by omega) (by omega);clear hrw hm hro hb hl;go_wp2;go_quiet (fail)
     all_goals
      go_wp2_with (go_at_call 134;first|(refine(H7 _).mono ?_;rintro e w' ⟨rfl,rfl⟩)|(refine(H18 _).mono ?_;rintro e w' ⟨rfl,rfl⟩)|(refine(H17 _).mono ?_;rintro e w' ⟨rfl,rfl⟩)|(refine(H19 _).mono ?_;rintro e w' ⟨rfl,rfl⟩))
      go_region
      all_goals
       go_wp2;go_roundw
       case rel=>
        refine⟨i+1,cur.set i (wNext cur i),by omega,by omega,by go_num,?_,HM.out,?_,?_⟩
        ·rw[HF.out];exact(HRW.out.1.drewN _).set i _
        ·exact(HRW.out.2.1.drewN _).setOther (by simp) _
        ·exact(HRW.out.2.2.trans (Drew.below ⟨_,rfl⟩ _)).setCell (Nat.le_succ _) _
       case measure=>simp[intOf]<;>omega
    ·obtain rfl:i=64:=by omega
     have HF:Hid (cur=sched bs):=hm.done;have HLN:Hid (cur.length=64):=hm.1;clear hrw hm hro hb;go_wp2_with (first|(refine wpList_load_nums rfl 173 _ rfl .u32 173 115 64 Tryz.underlying173 Tryz.sizeW64 _ cur rfl HRW.out.1 HLN.out ?_)|(refine wpList_store_nums rfl 173 _ _ rfl .u32 173 64 Tryz.sizeW64 _ (List.replicate 64 0) cur rfl rfl HRW.out.2.1 (by simp) HLN.out ?_;intro w4 hr4 hb4 hs4 ho4))
     rw[HF.out]at hr4;refine bodyPost_ret (v:=ag .u32 (sched bs)) (results_nums rfl _ _ _ 173 115 .u32 64 _ rfl hr4 Tryz.underlying173 Tryz.sizeW64 (by rw[←HF.out];exact HLN.out)) rfl ⟨rfl,HRW.out.2.2.trans hb4⟩
theorem sched_length (b:List Int):(sched b).length=64:=by unfold sched;rw[schedGo_length,words16_length]
theorem int_eq {k:IntKind} {x y:Int} (h:x=y):Value.int k x=Value.int k y:=by rw[h]
theorem rnd_a (a b c d e f g h k w:Int):((h+bits .xor .u32 (bits .xor .u32 (rot e 6) (rot e 11)) (rot e 25)+bits .xor .u32 (bits .and .u32 e f) (bits .and .u32 (bits .xor .u32 (if IntKind.u32.signed=true then -1 else IntKind.u32.max) e) g)+k+w)%4294967296+(bits .xor .u32 (bits .xor .u32 (rot a 2) (rot a 13)) (rot a 22)+bits .xor .u32 (bits .xor .u32 (bits .and .u32 a b) (bits .and .u32 a c)) (bits .and .u32 b c))%4294967296)%4294967296=(rnd ⟨a,b,c,d,e,f,g,h⟩ k w).a:=by have e0:(if IntKind.u32.signed=true then -1 else IntKind.u32.max)=(4294967295:Int):=rfl;rw[e0];simp only[rnd,t1,t2,big0,big1,chI,majI,M32];omega
theorem rnd_e (a b c d e f g h k w:Int):(d+(h+bits .xor .u32 (bits .xor .u32 (rot e 6) (rot e 11)) (rot e 25)+bits .xor .u32 (bits .and .u32 e f) (bits .and .u32 (bits .xor .u32 (if IntKind.u32.signed=true then -1 else IntKind.u32.max) e) g)+k+w)%4294967296)%4294967296=(rnd ⟨a,b,c,d,e,f,g,h⟩ k w).e:=by have e0:(if IntKind.u32.signed=true then -1 else IntKind.u32.max)=(4294967295:Int):=rfl;rw[e0];simp only[rnd,t1,t2,big0,big1,chI,majI,M32];omega
theorem mix_any (old K:List Int) (b off cap:Nat) (bs:List Int) (w:World) (ho:old.length=8) (hk:K.length=64) (h:Lies .u8 w (some ⟨b,off,none⟩) 64 bs) (hd:Dg 256 bs) (hcap:64≤cap) (hc2:cap≤maxLen):
  Calls Tryz.prog 105 #[ag .u32 old,.slice (some ⟨b,off,none⟩) 64 cap,ag .u32 K] w fun e w'=>e=.returned (ag .u32 (mixS K old bs))∧Below w.heap.size w w':=by
 have HS:∀w',Below w.heap.size w w'→Calls Tryz.prog 133 #[.slice (some ⟨b,off,none⟩) 64 cap] w' fun e w''=>e=.returned (ag .u32 (sched bs))∧Below w'.heap.size w' w'':=fun w' hb=>schedule_any b off cap bs w' (h.old hb) hd hcap hc2;have HLN:Hid (old.length=8∧K.length=64∧(sched bs).length=64):=⟨ho,hk,sched_length bs⟩
 have HFIN:Hid (mixS K old bs=addS old (runS K (sched bs) (s8 old) 64)):=rfl;generalize sched bs=W at *;clear h hd ho hk;go_enter Tryz.func105,Tryz.ntmps105;go_wp2_with (first
  | (refine wpList_box_row rfl 143 _ (by with_reducible rfl) .u32 old (by rfl) ?_;intro w1 hr1 hb1 hs1)
  | (refine wpList_box_row rfl 173 _ (by with_reducible rfl) .u32 K (by rfl) ?_;intro w2 hr2 hb2 hs2)
  | (refine wpList_alloc_row rfl 143 (by with_reducible rfl) .u32 8 Tryz.infoW8 ?_;intro w3 hr3 hb3 hs3))
 have HW3:Hid (Row 143 .u32 w3 w.heap.size old∧Row 173 .u32 w3 (w.heap.size+1) K∧Row 143 .u32 w3 (w.heap.size+1+1) (List.replicate 8 0)∧Below w.heap.size w w3∧w3.heap.size=w.heap.size+3):=
  ⟨(hr1.below hb2 (by omega)).below hb3 (by omega),by rw[←hs1];exact hr2.below hb3 (by omega),by rw[←hs1,←hs2];exact hr3,(hb1.trans (hb2.mono (by omega))).trans (hb3.mono (by omega)),by omega⟩
 clear hr1 hb1 hs1 hr2 hb2 hs2 hr3 hb3 hs3;refine(HS _ HW3.out.2.2.2.1).mono ?_;rintro e w4 ⟨rfl,hb4⟩;have HW4:Hid (Row 143 .u32 w4 w.heap.size old∧Row 173 .u32 w4 (w.heap.size+1) K∧Row 143 .u32 w4 (w.heap.size+1+1) (List.replicate 8 0)∧Below w.heap.size w w4∧w.heap.size+3≤w4.heap.size):=by obtain⟨a1,a2,a3,a4,a5⟩:=HW3.out;exact⟨a1.below hb4 (by omega),a2.below hb4 (by omega),a3.below hb4 (by omega),a4.trans (hb4.mono (by omega)),by have:=hb4.size;omega⟩
 clear HW3 hb4 HS;go_wp2_with (first
  | (refine wpList_alloc_row rfl 173 rfl .u32 64 Tryz.infoW64 ?_;intro w5 hr5 hb5 hs5)
  | (refine wpList_store_nums rfl 173 _ _ rfl .u32 173 64 Tryz.sizeW64 _ (List.replicate 64 0) W rfl rfl hr5 (by simp) HLN.out.2.2 ?_;intro w6 hr6 hb6 hs6 ho6))
 generalize hg7:w4.heap.size=g7 at *;have HW6:Hid (Row 143 .u32 w6 w.heap.size old∧Row 173 .u32 w6 (w.heap.size+1) K∧Row 143 .u32 w6 (w.heap.size+1+1) (List.replicate 8 0)∧Row 173 .u32 w6 g7 W∧Below w.heap.size w w6):=by obtain⟨a1,a2,a3,a4,a5⟩:=HW4.out;have hb46:Below g7 w4 w6:=hb5.trans hb6;exact⟨a1.below hb46 (by omega),a2.below hb46 (by omega),a3.below hb46 (by omega),hr6,a4.trans (hb46.mono (by omega))⟩
 clear HW4 hr5 hb5 hs5 hr6 hb6 hs6 ho6 hg7;have hc:∀j,j<8→w6.cell? ⟨w.heap.size,j,none⟩=some (.int .u32 (old.getD j 0)):=fun j hj=>HW6.out.1.cell j (by have:=HLN.out;omega);have c0:=hc 0 (by omega);have c1:=hc 1 (by omega);have c2:=hc 2 (by omega);have c3:=hc 3 (by omega);have c4:=hc 4 (by omega);have c5:=hc 5 (by omega);have c6:=hc 6 (by omega);have c7:=hc 7 (by omega);clear hc;have HS8:Hid (s8 old=⟨old.getD 0 0,old.getD 1 0,old.getD 2 0,old.getD 3 0,old.getD 4 0,old.getD 5 0,old.getD 6 0,old.getD 7 0⟩):=rfl;have HAD:Hid (∀s,addS old s=[(old.getD 0 0+s.a)%M32,(old.getD 1 0+s.b)%M32,(old.getD 2 0+s.c)%M32,(old.getD 3 0+s.d)%M32,(old.getD 4 0+s.e)%M32,(old.getD 5 0+s.f)%M32,(old.getD 6 0+s.g)%M32,(old.getD 7 0+s.h)%M32]):=fun _=>rfl;generalize old.getD 0 0=o0 at *;generalize old.getD 1 0=o1 at *;generalize old.getD 2 0=o2 at *;generalize old.getD 3 0=o3 at *;generalize old.getD 4 0=o4 at *;generalize old.getD 5 0=o5 at *;generalize old.getD 6 0=o6 at *;generalize old.getD 7 0=o7 at *;go_simp;go_quiet (fail)
 go_wp2;go_quiet (fail)
 go_wp2;go_loopw [8,9,10,11,12,13,14,15,37] (fun va vb vc vd ve vf vg vh vi wr=>∃(i:Nat) (s:S8),i≤64∧vi=.int .i64 i∧va=.int .u32 s.a∧vb=.int .u32 s.b∧vc=.int .u32 s.c∧vd=.int .u32 s.d∧ve=.int .u32 s.e∧vf=.int .u32 s.f∧vg=.int .u32 s.g∧vh=.int .u32 s.h∧s=runS K W (s8 old) i∧Drew w6 wr) (fun _ _ _ _ _ _ _ _ vi _=>64-(intOf vi).toNat)
 case atStart=>exact⟨0,s8 old,by omega,rfl,by rw[HS8.out],by rw[HS8.out],by rw[HS8.out],by rw[HS8.out],by rw[HS8.out],by rw[HS8.out],by rw[HS8.out],by rw[HS8.out],rfl,((Drew.refl _).more _).more _⟩
 case round=>
  obtain⟨i,s,hi,rfl,rfl,rfl,rfl,rfl,rfl,rfl,rfl,rfl,hs,hdr⟩:=hrel;by_cases hlt:i<64
  ·have ck:=(hdr.cell _).trans (HW6.out.2.1.cell i (by have:=HLN.out;omega));have cw:=(hdr.cell _).trans (HW6.out.2.2.2.1.cell i (by have:=HLN.out;omega));have HN:Hid (runS K W (s8 old) (i+1)=rnd s (K.getD i 0) (W.getD i 0)):=by unfold Hid;rw[hs];rfl
   clear hs c0 c1 c2 c3 c4 c5 c6 c7;generalize K.getD i 0=kk at *;generalize W.getD i 0=ww at *;obtain⟨a,b',c,d,e,f,g,h⟩:=s;have HR:∀(x:Int) (n:Nat) (w:World),1≤n→n≤31→Calls Tryz.prog 134 #[.int .u32 x,.int .i64 n] w fun e w'=>e=.returned (.int .u32 (rot x n))∧w'=w:=fun x n w h1 h2=>rotr_any x n w h1 h2;have R6:=fun w=>HR e 6 w (by omega) (by omega);have R11:=fun w=>HR e 11 w (by omega) (by omega);have R25:=fun w=>HR e 25 w (by omega) (by omega);have R2:=fun w=>HR a 2 w (by omega) (by omega);have R13:=fun w=>HR a 13 w (by omega) (by omega);have R22:=fun w=>HR a 22 w (by omega) (by omega);clear HR;have HDR:Hid (Drew w6 wr):=hdr;clear hdr;go_wp2;go_quiet ((go_at_call 134;first|exact Calls.quiet_of_same (R6 _)|exact Calls.quiet_of_same (R11 _)|exact Calls.quiet_of_same (R25 _)))
   go_wp2_with (go_at_call 134;first|(refine(R2 _).mono ?_;rintro e w' ⟨rfl,rfl⟩)|(refine(R13 _).mono ?_;rintro e w' ⟨rfl,rfl⟩)|(refine(R22 _).mono ?_;rintro e w' ⟨rfl,rfl⟩))
   refine⟨⟨i+1,rnd ⟨a,b',c,d,e,f,g,h⟩ kk ww,by omega,by go_num,int_eq (rnd_a a b' c d e f g h kk ww),rfl,rfl,rfl,int_eq (rnd_e a b' c d e f g h kk ww),rfl,rfl,rfl,HN.out.symm,HDR.out.more _⟩,?_⟩;simp[intOf];omega
  ·have d0:=(hdr.cell _).trans c0;have d1:=(hdr.cell _).trans c1;have d2:=(hdr.cell _).trans c2;have d3:=(hdr.cell _).trans c3;have d4:=(hdr.cell _).trans c4;have d5:=(hdr.cell _).trans c5;have d6:=(hdr.cell _).trans c6;have d7:=(hdr.cell _).trans c7;have HF:Hid (mixS K old bs=[(o0+s.a)%M32,(o1+s.b)%M32,(o2+s.c)%M32,(o3+s.d)%M32,(o4+s.e)%M32,(o5+s.f)%M32,(o6+s.g)%M32,(o7+s.h)%M32]):=by
    unfold Hid;rw[HFIN.out,HAD.out,hs,show i=64 by omega]
   have HDR:Hid (Drew w6 wr):=hdr;have HW:Hid (Row 143 .u32 wr (w.heap.size+1+1) (List.replicate 8 0)∧Below w.heap.size w wr):=by obtain⟨n,rfl⟩:=hdr;exact⟨HW6.out.2.2.1.drewN n,HW6.out.2.2.2.2.trans (Drew.below ⟨n,rfl⟩ _)⟩
   clear hs c0 c1 c2 c3 c4 c5 c6 c7 hdr HW6 HFIN HAD HS8;obtain⟨a,b',c,d,e,f,g,h⟩:=s;go_wp2_with (refine wpList_store_nums (by with_reducible rfl) 143 _ _ (by with_reducible rfl) .u32 143 8 Tryz.sizeW8 _ (List.replicate 8 0) [(o0+a)%M32,(o1+b')%M32,(o2+c)%M32,(o3+d)%M32,(o4+e)%M32,(o5+f)%M32,(o6+g)%M32,(o7+h)%M32] (by rfl) (by rfl) HW.out.1 (by simp) (by rfl) ?_;intro w7 hr7 hb7 hs7 ho7)
   rw[←HF.out]at hr7;refine bodyPost_ret (v:=ag .u32 (mixS K old bs)) (results_nums rfl _ _ _ 143 115 .u32 8 _ rfl hr7 Tryz.underlying143 Tryz.sizeW8 rfl) rfl ⟨rfl,HW.out.2.trans (hb7.mono (by omega))⟩
theorem hb_append (xs ys:List Int):∀n,64*n≤xs.length→hb (xs++ys) n=hb xs n
 | 0,_=>rfl
 | n+1,h=>by
  rw[hb,hb,hb_append xs ys n (by omega)];congr 1
  rw[List.drop_append_of_le_length (by omega),List.take_append_of_le_length (by simp;omega)]
theorem hb_length (xs:List Int):∀n,(hb xs n).length=8
 | 0=>rfl
 | n+1=>rfl
structure Holds (all ws rs:List Int):Prop where
 words:64≤all.length→ws=hb all (all.length/64)
 rest:rs.take (all.length%64)=all.drop (64*(all.length/64))
 bytes:Dg 256 rs
 good:Dg 256 all
 len:all.length≤1000000000000000
theorem full_block {all ws rs bs:List Int} (h:Holds all ws rs) (hr:rs.length=64) (r:Nat) (hrr:all.length%64=r) (m:Nat) (hm:r+m=64) (hb:m≤bs.length) (h0:0<r):
  rs.take r++bs.take m++rs.drop (r+m)=((all++bs).drop (64*(all.length/64))).take 64:=by
 have h1:=h.rest;rw[hrr]at h1;rw[h1,hm,List.drop_eq_nil_of_le (show rs.length≤64 by omega),List.append_nil,List.drop_append_of_le_length (by omega)];have hl:(all.drop (64*(all.length/64))).length=r:=by simp;omega
 rw[List.take_append,List.take_of_length_le (show(all.drop (64*(all.length/64))).length≤64 by omega),hl,show 64-r=m by omega]
theorem drop_after {all bs:List Int} (r:Nat) (hrr:all.length%64=r) (m:Nat) (hm:r+m=64):(all++bs).drop (64*(all.length/64+1))=bs.drop m:=by
 have e:64*(all.length/64+1)=all.length+m:=by omega
 rw[e,List.drop_length_add_append]
theorem drop_none {all bs:List Int} (hrr:all.length%64=0):(all++bs).drop (64*(all.length/64))=bs:=by
 have e:64*(all.length/64)=all.length+0:=by omega
 rw[e,List.drop_length_add_append,List.drop_zero]
theorem holds_done {T ws rs1:List Int} (D ln:Nat) (hw:ws=hb T D) (hl:(T.drop (64*D)).length=ln) (hln:ln<64) (hD:64*D≤T.length) (hd:Dg 256 T) (hr:Dg 256 rs1) (hT:T.length≤1000000000000000):
  Holds T ws (rs1.take 0++(T.drop (64*D)).take ln++rs1.drop (0+ln)):=by
 have e1:T.length/64=D:=by simp at hl;omega
 have e2:T.length%64=ln:=by simp at hl;omega
 refine⟨fun _=>by rw[e1];exact hw,?_,?_,hd,hT⟩
 ·rw[e1,e2,List.take_zero,List.nil_append,List.take_append_of_le_length (by simp at hl ⊢;omega),List.take_take,Nat.min_self,List.take_of_length_le (by omega)]
 ·exact(((hr.take 0).append ((hd.drop _).take _)).append (hr.drop _))
theorem holds_few {all ws rs bs:List Int} (h:Holds all ws rs) (hr:rs.length=64) (r:Nat) (hrr:all.length%64=r) (hb:r+bs.length<64) (hd:Dg 256 bs) (hT:all.length+bs.length≤1000000000000000):
  Holds (all++bs) ws (rs.take r++bs.take bs.length++rs.drop (r+bs.length)):=by
 have e1:(all++bs).length/64=all.length/64:=by simp;omega
 have e2:(all++bs).length%64=r+bs.length:=by simp;omega
 refine⟨fun hh => ?_,?_,?_,h.good.append hd,by simpa using hT⟩
 ·rw[e1,hb_append _ _ _ (by omega)];exact h.words (by simp at hh;omega)
 ·have h1:=h.rest;rw[hrr]at h1;rw[e1,e2,List.take_append_of_le_length (by simp;omega),List.take_of_length_le (by simp;omega),h1,List.drop_append_of_le_length (by omega),List.take_of_length_le (Nat.le_refl _)]
 ·exact(((h.bytes.take _).append (hd.take _)).append (h.bytes.drop _))
theorem Tryz.arrayLenR:Tryz.prog.arrayLen 144=64:=by kernel_rfl
theorem Tryz.elemR:Tryz.prog.elem 144=5:=by kernel_rfl
theorem Tryz.undR:Tryz.prog.underlying 144=some (.array (Tryz.prog.arrayLen 144) (Tryz.prog.elem 144)):=by rw[Tryz.arrayLenR,Tryz.elemR];exact Tryz.underlying144
theorem slice_rest (g r:Nat) (hr:r<64) (w:World):(Instr.sliceAt 144 (.pointer (some ⟨g,9,none⟩)) (some (.int .i64 r)) none none).run Tryz.prog w=.ok (.slice (some ⟨g,9+r,none⟩) (64-r) (64-r)) w:=by rw[run_sliceAt_array_l (t:=144) _ _ Tryz.undR _ _ (by omega) (by rw[Tryz.arrayLenR];omega),Tryz.arrayLenR,Tryz.elemR,Tryz.sizeOf5];simp only[Result.andThen_ok,slicedAt];rw[if_neg (by omega),Int.toNat_natCast,Nat.mul_one,Addr.add_mid]
theorem slice_all (g:Nat) (w:World):(Instr.sliceAt 144 (.pointer (some ⟨g,9,none⟩)) none none none).run Tryz.prog w=.ok (.slice (some ⟨g,9,none⟩) 64 64) w:=by rw[run_sliceAt_array_all (t:=144) _ _ Tryz.undR,Tryz.arrayLenR,Tryz.elemR,Tryz.sizeOf5];simp[Result.andThen_ok,slicedAt,Addr.add]
theorem results_noneS {P:Program} {fn:Func} (h:fn.results=#[]) (tmps:Array Value) (w:World):(results fn tmps).run P w=.ok (.tuple #[]) w:=by simp[results,h]
def HLD (t:TypeId) (p:Value):Sem Value:=Instr.loadAt t p
def HST (t:TypeId) (p v:Value):Sem Unit:=Instr.storeAt t p v
theorem keep_l8 (p:Value):Instr.loadAt 143 p=HLD 143 p:=rfl
theorem keep_l64 (p:Value):Instr.loadAt 173 p=HLD 173 p:=rfl
theorem keep_l32 (p:Value):Instr.loadAt 51 p=HLD 51 p:=rfl
theorem keep_s8 (p v:Value):Instr.storeAt 143 p v=HST 143 p v:=rfl
theorem keep_s32 (p v:Value):Instr.storeAt 51 p v=HST 51 p v:=rfl
theorem HRow.lda {w:World} {g:Nat} {n:Int} {ws rs:List Int} (h:HRow w g n ws rs):(HLD 143 (.pointer (some ⟨g,1,none⟩))).run Tryz.prog w=.ok (ag .u32 ws) w:=by
 refine run_loadAt_mid w g 1 143 (ws.map (Value.int .u32)) (.array 8 115) (fun j v hv => ?_) Tryz.underlying143 rfl (by rw[Tryz.sizeW8,List.length_map,h.lw]);have hj:j<8:=by have:=(List.getElem?_eq_some_iff.1 hv).1;rw[List.length_map,h.lw]at this;exact this
 rw[h.word j hj,←hv];simp[List.getD,show j<ws.length by rw[h.lw];exact hj]
theorem Row.lda {w:World} {g:Nat} {e:TypeId} {xs:List Int} (h:Row e .u32 w g xs) (hl:xs.length=64):(HLD 173 (.pointer (some ⟨g,0,none⟩))).run Tryz.prog w=.ok (ag .u32 xs) w:=by
 refine run_loadAt_mid w g 0 173 (xs.map (Value.int .u32)) (.array 64 115) (fun j v hv => ?_) Tryz.underlying173 rfl (by rw[Tryz.sizeW64,List.length_map,hl]);have hj:j<xs.length:=by have:=(List.getElem?_eq_some_iff.1 hv).1;rw[List.length_map]at this;exact this
 rw[Nat.zero_add,h.cell j hj,←hv];simp[List.getD,hj]
theorem HRow.sta {w:World} {g:Nat} {n:Int} {ws rs:List Int} (h:HRow w g n ws rs) (vs:List Int) (hv:vs.length=8):(HST 143 (.pointer (some ⟨g,1,none⟩)) (ag .u32 vs)).run Tryz.prog w=.ok () (w.setRow g (HC n vs rs).toArray):=by
 have hst:=h.store (P:=Tryz.prog) vs hv;have hi:=Tryz.sizeW8;unfold HST
 cases hq:Tryz.prog.info? 143 with
 | none=>simp[hq]at hi
 | some i=>
  have hs:i.size=8:=by simpa [hq] using hi
  simp[Instr.storeAt,Instr.sureAddr,ag,storeVar,sizeOf,typeInfo,hq,Value.cells,hs,hv,hst]
attribute [local go_sem ↓] keep_l8 keep_l64 keep_s8
theorem Tryz.sizeB:(Tryz.prog.info? 5).map (·.size)=some 1:=by kernel_rfl
theorem Row.range {e:TypeId} {k:IntKind} {w:World} {g:Nat} {xs:List Int} (h:Row e k w g xs):w.rangeAt g 0 (xs.map (Value.int k)):=fun j v hv=>by
 have hj:j<xs.length:=by have:=(List.getElem?_eq_some_iff.1 hv).1;rw[List.length_map]at this;exact this
 rw[Nat.zero_add,h.cell j hj,←hv];simp[List.getD,hj]
theorem lies_cut (b off len cap m:Nat) (bs:List Int) (hlc:len≤cap) (hm:m≤len):∃A:Addr,(if cap=m then some (⟨b,off,none⟩:Addr) else some ⟨b,off+m,none⟩)=some A∧Hid (∀wx,Lies .u8 wx (some ⟨b,off,none⟩) len bs→Lies .u8 wx (some A) (len-m) (bs.drop m)∧A.block=b∧A.spot=none):=by
 by_cases h:cap=m
 ·refine⟨⟨b,off,none⟩,by rw[if_pos h],fun wx hl=>⟨⟨by rw[List.length_drop,hl.1],.inl (by omega)⟩,rfl,rfl⟩⟩
 ·refine⟨⟨b,off+m,none⟩,by rw[if_neg h],fun wx hl=>⟨⟨by rw[List.length_drop,hl.1],?_⟩,rfl,rfl⟩⟩;by_cases h0:len-m=0
  ·exact .inl h0
  ·obtain⟨b',off',e,hlt,hc⟩:=hl.at (by omega)
   cases e
   refine .inr ⟨b,off+m,rfl,hlt,fun i hi => ?_⟩;rw[Nat.add_assoc,hc (m+i) (by omega)];simp[List.getD,List.getElem?_drop]
def PInv (w:World) (g g6 s:Nat) (T rs1:List Int) (k:Nat) (vb:Value) (wr:World):Prop:=
 ∃(D:Nat) (A:Option Addr) (cp:Nat) (ws':List Int),vb=.slice A k cp∧HRow wr g s ws' rs1∧ws'=hb T D∧Row 173 .u32 wr g6 KS∧Lies .u8 wr A k (T.drop (64*D))∧(∀b off s,A=some ⟨b,off,s⟩→b≠g)∧k≤cp∧cp≤2^63-1∧ButS g w wr∧64*D≤T.length∧g6≠g
theorem putBlocks_any (g : Nat) (all bs ws rs : List Int) (s r : Nat) (ao : Option Addr) (len cap : Nat) (w : World) (hs : all.length = s) (hr : s % 64 = r) (h : HRow w g s ws rs) (hh : Holds all ws rs) (hd : Dg 256 bs)
  (hl:Lies .u8 w ao len bs) (hne:∀b off s,ao=some ⟨b,off,s⟩→b≠g) (hlc:len≤cap) (hcm:cap≤maxLen) (hnn:ao=none→cap=0) (hfull:64≤r+len) (hsm:s+len≤1000000000000000):
  Calls Tryz.prog 81 #[.pointer (some ⟨g,0,none⟩),.int .i64 r,.slice ao len cap] w fun e w'=>(∃v,e=.returned v)∧∃ws' rs',HRow w' g s ws' rs'∧Holds (all++bs) ws' rs'∧ButS g w w':=by
 obtain⟨T,hT⟩:∃T,all++bs=T:=⟨_,rfl⟩
 rw[hT];have HT:Hid (all++bs=T):=hT;clear hT;have hsz:=h.size;have HW:Hid (HRow w g s ws rs∧Holds all ws rs∧Dg 256 bs∧Lies .u8 w ao len bs∧(∀b off s,ao=some ⟨b,off,s⟩→b≠g)∧all.length=s∧s%64=r):=⟨h,hh,hd,hl,hne,hs,hr⟩
 unfold maxLen at hcm;have hr64:r<64:=by omega
 have HBEG:=beginning_any;have HCON:=constants_any;by_cases hlt:s<64
 ·have hltI:((s:Int)<64):=by omega
  clear h hh hd hl hne hs;go_enter Tryz.func81,Tryz.ntmps81;go_wp2_with (first
   | (go_at_call 103;refine(HBEG _).mono ?_;rintro e w1 ⟨rfl,hb1⟩;have hr1:HRow w1 g s ws rs:=HW.out.1.old hb1 HW.out.1.lt)
   | (refine wpList_store_words (by with_reducible rfl) 143 _ _ (by with_reducible rfl) Tryz.sizeW8 g (s:Int) ws rs HS (by rfl) (by rfl) rfl hr1 ?_;intro w2 hr2 hb2 hs2))
  have HA:Hid (HRow w2 g s HS rs∧HS=hb T (s/64)∧ButS g w w2):=⟨hr2,by rw[show s/64=0 by omega];rfl,(ButS.ofBelow hb1).trans hb2⟩
  clear hb1 hr1 hr2 hb2 hs2 hsz;generalize HS=ws1 at *;refine(HCON _).mono ?_;rintro e wB ⟨rfl,hbB⟩;have HB:Hid (HRow wB g s ws1 rs∧ws1=hb T (s/64)∧ButS g w wB):=by obtain⟨a1,a2,a3⟩:=HA.out;exact⟨a1.old hbB a1.lt,a2,a3.trans (ButS.ofBelow hbB)⟩
  clear HA hbB HCON HBEG;by_cases hr0:0<r
  ·have hr0I:(0:Int)<(r:Int):=by omega
   obtain⟨m,hm⟩:∃m,64-r=m:=⟨_,rfl⟩
   have hSR:=slice_rest g r hr64;rw[hm]at hSR;obtain⟨b,off,rfl,hblk,_⟩:=HW.out.2.2.2.1.at (by omega);have hlies:Lies .u8 wB (some ⟨b,off,none⟩) len bs:=HB.out.2.2.lies HW.out.2.2.2.1 HW.out.2.2.2.2.1;obtain⟨A,hA,HAD⟩:∃A:Addr,(if cap=m then some (⟨b,off,none⟩:Addr) else some ⟨b,off+m,none⟩)=some A∧Hid (∀wx,Lies .u8 wx (some ⟨b,off,none⟩) len bs→Lies .u8 wx (some A) (len-m) (bs.drop m)∧A.block=b∧A.spot=none):=lies_cut b off len cap m bs hlc (by omega);have hmr:r+m=64:=by omega
   have hml:m≤len:=by omega
   have hmlI:(m:Int)≤(len:Int):=by omega
   clear hm;go_wp2_with (first
    | ((with_reducible show wpList _ _ _ (Oper.mk _ (Op.alloc _) _ _ _ _::_) _ _);refine wpList_alloc_row (w:=wB) (by with_reducible rfl) 173 (by with_reducible rfl) .u32 64 Tryz.infoW64 ?_;intro wC hrC hbC hsC)
    | ((with_reducible show wpList _ _ _ (Oper.mk _ (Op.store _ _ _) _ _ _ _::_) _ _);refine wpList_store_nums (w:=wC) (by with_reducible rfl) 173 _ _ (by with_reducible rfl) .u32 173 64 Tryz.sizeW64 _ (List.replicate 64 0) KS (by rfl) (by rfl) hrC (by simp) rfl ?_;intro wD hrD hbD hsD hoD;have hhD:HRow wD g s ws1 rs:=HB.out.1.old (hbC.trans hbD) HB.out.1.lt;have hlD:Lies .u8 wD (some ⟨b,off,none⟩) len bs:=hlies.old (hbC.trans hbD))
    | ((with_reducible show wpList _ _ _ (Oper.mk _ (Op.call { callee:=.builtin .copy,args:=_,argTypes:=_ }) _ _ _ _::_) _ _);refine wpList_copy_rest (w:=wD) (by with_reducible rfl) _ _ 24 24 (by with_reducible rfl) 5 Tryz.underlying24 Tryz.sizeB g r (some ⟨b,off,none⟩) _ _ _ _ (by rfl) (by rfl) (s:Int) ws1 rs bs hhD hlD (by omega) m (by omega) ?_;intro wE hhE hbE hsE))
   generalize hg6:wB.heap.size=g6 at *;obtain⟨rs1,hrs1⟩:∃rs1,rs.take r++bs.take m++rs.drop (r+m)=rs1:=⟨_,rfl⟩
   rw[hrs1]at hhE;have hKE:Row 173 .u32 wE g6 KS:=hbE.row hrD (by have:=HB.out.1.lt;omega);have hLE:Lies .u8 wE (some A) (len-m) (bs.drop m):=(HAD.out wE (hbE.lies hlD HW.out.2.2.2.2.1)).1;have HT1:Hid (rs1=(T.drop (64*(s/64))).take 64∧bs.drop m=T.drop (64*(s/64+1))∧A.block=b∧A.spot=none∧Dg 256 rs1):=by obtain⟨a1,a2,a3,a4,a5,a6,a7⟩:=HW.out;have e:=full_block a2 a1.lr r (by rw[a6];exact a7) m hmr (by rw[a4.len];exact hml) hr0;rw[hrs1,a6,HT.out]at e;have e2:=drop_after (all:=all) (bs:=bs) r (by rw[a6];exact a7) m hmr;rw[a6,HT.out]at e2;refine⟨e,e2.symm,(HAD.out wE (hbE.lies hlD a5)).2.1,(HAD.out wE (hbE.lies hlD a5)).2.2,?_⟩;rw[e,←HT.out];exact((a2.good.append a3).drop _).take _
   have HE:Hid (HRow wE g s ws1 rs1∧Row 173 .u32 wE g6 KS∧Lies .u8 wE (some A) (len-m) (bs.drop m)∧ButS g w wE∧g≠g6):=⟨hhE,hKE,hLE,HB.out.2.2.trans ((ButS.ofBelow ((hbC.trans hbD).mono (by omega))).trans hbE),by have:=HB.out.1.lt;omega⟩
   clear hrC hbC hsC hrD hbD hsD hoD hhD hlD hhE hbE hsE hKE hLE hrs1 hSR hlies;have hld:(HLD 143 (.pointer (some ⟨g,1,none⟩))).run Tryz.prog wE.drew=.ok (ag .u32 ws1) wE.drew:=(HE.out.1.drewN 1).lda;have hldk:(HLD 173 (.pointer (some ⟨g6,0,none⟩))).run Tryz.prog wE.drew=.ok (ag .u32 KS) wE.drew:=(HE.out.2.1.drewN 1).lda rfl;have hSA:=slice_all g;have HMX:=mix_any ws1 KS g 9 64 rs1 wE.drew HE.out.1.lw rfl ((HE.out.1.drewN 1).rest) HT1.out.2.2.2.2 (by omega) (by unfold maxLen;omega);go_region_with (first|(go_at_call 105;refine HMX.mono ?_;rintro e wF ⟨rfl,hbF⟩;have hst:=((HE.out.1.drewN 1).old hbF (HE.out.1.drewN 1).lt).sta (mixS KS ws1 rs1) rfl))
   all_goals
    have HI:Hid (PInv w g g6 s T rs1 (len-m) (.slice (some A) (len-m) (cap-m)) (wF.setRow g (HC s (mixS KS ws1 rs1) rs1).toArray)):=by
     obtain⟨a1,a2,a3,a4,a5⟩:=HE.out;obtain⟨b1,b2,b3,b4,b5⟩:=HT1.out;have hF:HRow wF g s ws1 rs1:=(a1.drewN 1).old hbF (a1.drewN 1).lt;have hbW:ButS g w wF:=a4.trans ((ButS.drewN g wE 1).trans (ButS.ofBelow hbF));have hbS:=ButS.setRow g wF (HC s (mixS KS ws1 rs1) rs1).toArray;refine⟨s/64+1,some A,cap-m,mixS KS ws1 rs1,rfl,hF.setWords _ rfl,?_,hbS.row ((a2.drewN 1).below hbF (a2.drewN 1).lt) (fun e=>a5 e.symm),?_,?_,by omega,by omega,hbW.trans hbS,?_,fun e=>a5 e.symm⟩
     ·rw[HB.out.2.1,b1];rfl
     ·rw[←b2];exact hbS.lies ((a3.old (Drew.below ⟨1,rfl⟩ _)).old hbF) (fun b0 off0 s0 e=>by cases e;simp only at b3;subst b3;exact HW.out.2.2.2.2.1 _ _ _ rfl)
     ·intro b0 off0 s0 e
      cases e
      simp only at b3;subst b3;exact HW.out.2.2.2.2.1 _ _ _ rfl
     ·have:=HW.out.2.2.2.2.2.1;have:=HW.out.2.2.2.1.len;rw[←HT.out];simp;omega
    have HTD:Hid (Dg 256 T∧T.length≤1000000000000000∧Dg 256 rs1):=by rw[←HT.out];exact⟨HW.out.2.1.good.append HW.out.2.2.1,by have:=HW.out.2.2.2.2.2.1;have:=HW.out.2.2.2.1.len;simp;omega,HT1.out.2.2.2.2⟩
    clear HE HT1 HMX hld hldk hbF hst HB HW HAD hA;go_wp2;go_loopg [2] (len-m) (fun k vb wr=>PInv w g g6 s T rs1 k vb wr)
    case atStart=>exact HI.out
    case round =>
     obtain⟨D,A1,cp1,ws2,rfl,hh2,hw2,hk2,hl2,hne2,hkc,hcp1,hbut,hDT,hg6n⟩:=hrel;clear HI;by_cases hk64:64≤gk
     ·obtain⟨b1,off1,rfl,hblk1,_⟩:=hl2.at (by omega);obtain⟨A2,hA2,HAD2⟩:=lies_cut b1 off1 gk cp1 64 (T.drop (64*D)) hkc hk64;have hldw:(HLD 143 (.pointer (some ⟨g,1,none⟩))).run Tryz.prog wr.drew=.ok (ag .u32 ws2) wr.drew:=(hh2.drewN 1).lda;have hldk:(HLD 173 (.pointer (some ⟨g6,0,none⟩))).run Tryz.prog wr.drew=.ok (ag .u32 KS) wr.drew:=(hk2.drewN 1).lda rfl;have HMX:=mix_any ws2 KS b1 off1 64 ((T.drop (64*D)).take 64) wr.drew hh2.lw rfl ((hl2.take 64 hk64).old (Drew.below ⟨1,rfl⟩ _)) ((HTD.out.1.drop _).take _) (by omega) (by unfold maxLen;omega);have HP:Hid (HRow wr g s ws2 rs1∧mixS KS ws2 ((T.drop (64*D)).take 64)=hb T (D+1)∧Row 173 .u32 wr g6 KS∧Lies .u8 wr (some ⟨b1,off1,none⟩) gk (T.drop (64*D))∧b1≠g∧ButS g w wr∧64*D+gk=T.length∧g6≠g):=
       ⟨hh2,by rw[hw2];rfl,hk2,hl2,hne2 b1 off1 none rfl,hbut,by have:=hl2.len;simp at this;omega,hg6n⟩
      have hk64I:(64:Int)≤(gk:Int):=by omega
      have hc64I:(64:Int)≤(cp1:Int):=by omega
      clear hh2 hw2 hk2 hl2 hne2 hbut hDT;generalize mixS KS ws2 ((T.drop (64*D)).take 64)=wsN at *;go_wp2;go_region_with (first|(go_at_call 105;refine HMX.mono ?_;rintro e wG ⟨rfl,hbG⟩;have hst:=((HP.out.1.drewN 1).old hbG (HP.out.1.drewN 1).lt).sta wsN (by rw[HP.out.2.1];rfl)))
      all_goals
       have HQ:Hid (PInv w g g6 s T rs1 (gk-64) (.slice (some A2) (gk-64) (cp1-64)) (wG.setRow g (HC s wsN rs1).toArray)):=by
        obtain⟨a1,a2,a3,a4,a5,a6,a7,a8⟩:=HP.out;have hG:HRow wG g s ws2 rs1:=(a1.drewN 1).old hbG (a1.drewN 1).lt;have hbW:ButS g w wG:=a6.trans ((ButS.drewN g wr 1).trans (ButS.ofBelow hbG));have hbS:=ButS.setRow g wG (HC s wsN rs1).toArray;have hlG:Lies .u8 wG (some ⟨b1,off1,none⟩) gk (T.drop (64*D)):=(a4.old (Drew.below ⟨1,rfl⟩ _)).old hbG;obtain⟨c1,c2,c3⟩:=HAD2.out _ (hbS.lies hlG (fun b0 off0 s0 e=>by cases e;exact a5));refine⟨D+1,some A2,cp1-64,wsN,rfl,hG.setWords _ (by rw[a2];rfl),a2,hbS.row ((a3.drewN 1).below hbG (a3.drewN 1).lt) a8,?_,?_,by omega,by omega,hbW.trans hbS,by omega,a8⟩
        ·rw[List.drop_drop]at c1;rw[show 64*(D+1)=64*D+64 by omega];exact c1
        ·intro b0 off0 s0 e
         cases e
         simp only at c2;subst c2;exact a5
       clear HP HMX hldw hldk hbG hst HAD2;go_wp2;go_roundg (gk-64)
       case measure=>omega
       case rel=>exact HQ.out
     ·have HFIN:Hid (∀w',HRow w' g s ws2 (rs1.take 0++(T.drop (64*D)).take gk++rs1.drop (0+gk))→ButS g wr w'→∃ws' rs',HRow w' g s ws' rs'∧Holds T ws' rs'∧ButS g w w'):=fun w' h1 h2=>
       ⟨_,_,h1,holds_done D gk hw2 hl2.len (by omega) hDT HTD.out.1 HTD.out.2.2 HTD.out.2.1,hbut.trans h2⟩
      have HH:Hid (HRow wr g s ws2 rs1∧Lies .u8 wr A1 gk (T.drop (64*D))):=⟨hh2,hl2⟩
      have hk64I:¬((64:Int)≤(gk:Int)):=by omega
      clear hh2 hw2 hk2 hl2 hne2 hbut hDT;generalize T.drop (64*D)=tl at *;go_wp2_with ((with_reducible show wpList _ _ _ (Oper.mk _ (Op.call { callee:=.builtin .copy,args:=_,argTypes:=_ }) _ _ _ _::_) _ _);refine wpList_copy_rest (w:=wr) (by with_reducible rfl) _ _ 24 24 (by with_reducible rfl) 5 Tryz.underlying24 Tryz.sizeB g 0 A1 _ _ _ _ (by rfl) (by rfl) (s:Int) ws2 rs1 tl HH.out.1 HH.out.2 (by omega) gk (by omega) ?_;intro wZ hhZ hbZ hsZ)
      exact⟨rfl,_,results_noneS rfl _ _,⟨_,rfl⟩,HFIN.out _ hhZ hbZ⟩
  ·have hr0I:¬((0:Int)<(r:Int)):=by omega
   have hSA:=slice_all g;go_wp2_with (first
    | ((with_reducible show wpList _ _ _ (Oper.mk _ (Op.alloc _) _ _ _ _::_) _ _);refine wpList_alloc_row (w:=wB) (by with_reducible rfl) 173 (by with_reducible rfl) .u32 64 Tryz.infoW64 ?_;intro wC hrC hbC hsC)
    | ((with_reducible show wpList _ _ _ (Oper.mk _ (Op.store _ _ _) _ _ _ _::_) _ _);refine wpList_store_nums (w:=wC) (by with_reducible rfl) 173 _ _ (by with_reducible rfl) .u32 173 64 Tryz.sizeW64 _ (List.replicate 64 0) KS (by rfl) (by rfl) hrC (by simp) rfl ?_;intro wD hrD hbD hsD hoD))
   generalize hg6:wB.heap.size=g6 at *;have HI:Hid (PInv w g g6 s T rs len (.slice ao len cap) wD):=by
    obtain⟨a1,a2,a3⟩:=HB.out;obtain⟨b1,b2,b3,b4,b5,b6,b7⟩:=HW.out;have hbBD:Below g6 wB wD:=hbC.trans hbD;have hlt:=a1.lt;refine⟨s/64,ao,cap,ws1,rfl,a1.old hbBD (by omega),a2,hrD,?_,b5,hlc,hcm,a3.trans (ButS.ofBelow (hbBD.mono (by omega))),?_,by omega⟩
    ·have e:=drop_none (all:=all) (bs:=bs) (by rw[b6];omega);rw[b6,HT.out]at e;rw[e];exact(a3.lies b4 b5).old (hbBD.mono (by omega))
    ·rw[←HT.out];have:=b4.len;simp;omega
   have HTD:Hid (Dg 256 T∧T.length≤1000000000000000∧Dg 256 rs):=by rw[←HT.out];exact⟨HW.out.2.1.good.append HW.out.2.2.1,by have:=HW.out.2.2.2.2.2.1;have:=HW.out.2.2.2.1.len;simp;omega,HW.out.2.1.bytes⟩
   clear HB HW hrC hbC hsC hrD hbD hsD hoD hg6;generalize rs=rs1 at *;go_wp2;go_loopg [2] len (fun k vb wr=>PInv w g g6 s T rs1 k vb wr)
   case atStart=>exact HI.out
   case round =>
    obtain⟨D,A1,cp1,ws2,rfl,hh2,hw2,hk2,hl2,hne2,hkc,hcp1,hbut,hDT,hg6n⟩:=hrel;clear HI;by_cases hk64:64≤gk
    ·obtain⟨b1,off1,rfl,hblk1,_⟩:=hl2.at (by omega);obtain⟨A2,hA2,HAD2⟩:=lies_cut b1 off1 gk cp1 64 (T.drop (64*D)) hkc hk64;have hldw:(HLD 143 (.pointer (some ⟨g,1,none⟩))).run Tryz.prog wr.drew=.ok (ag .u32 ws2) wr.drew:=(hh2.drewN 1).lda;have hldk:(HLD 173 (.pointer (some ⟨g6,0,none⟩))).run Tryz.prog wr.drew=.ok (ag .u32 KS) wr.drew:=(hk2.drewN 1).lda rfl;have HMX:=mix_any ws2 KS b1 off1 64 ((T.drop (64*D)).take 64) wr.drew hh2.lw rfl ((hl2.take 64 hk64).old (Drew.below ⟨1,rfl⟩ _)) ((HTD.out.1.drop _).take _) (by omega) (by unfold maxLen;omega);have HP:Hid (HRow wr g s ws2 rs1∧mixS KS ws2 ((T.drop (64*D)).take 64)=hb T (D+1)∧Row 173 .u32 wr g6 KS∧Lies .u8 wr (some ⟨b1,off1,none⟩) gk (T.drop (64*D))∧b1≠g∧ButS g w wr∧64*D+gk=T.length∧g6≠g):=
      ⟨hh2,by rw[hw2];rfl,hk2,hl2,hne2 b1 off1 none rfl,hbut,by have:=hl2.len;simp at this;omega,hg6n⟩
     have hk64I:(64:Int)≤(gk:Int):=by omega
     have hc64I:(64:Int)≤(cp1:Int):=by omega
     clear hh2 hw2 hk2 hl2 hne2 hbut hDT;generalize mixS KS ws2 ((T.drop (64*D)).take 64)=wsN at *;go_wp2;go_region_with (first|(go_at_call 105;refine HMX.mono ?_;rintro e wG ⟨rfl,hbG⟩;have hst:=((HP.out.1.drewN 1).old hbG (HP.out.1.drewN 1).lt).sta wsN (by rw[HP.out.2.1];rfl)))
     all_goals
      have HQ:Hid (PInv w g g6 s T rs1 (gk-64) (.slice (some A2) (gk-64) (cp1-64)) (wG.setRow g (HC s wsN rs1).toArray)):=by
       obtain⟨a1,a2,a3,a4,a5,a6,a7,a8⟩:=HP.out;have hG:HRow wG g s ws2 rs1:=(a1.drewN 1).old hbG (a1.drewN 1).lt;have hbW:ButS g w wG:=a6.trans ((ButS.drewN g wr 1).trans (ButS.ofBelow hbG));have hbS:=ButS.setRow g wG (HC s wsN rs1).toArray;have hlG:Lies .u8 wG (some ⟨b1,off1,none⟩) gk (T.drop (64*D)):=(a4.old (Drew.below ⟨1,rfl⟩ _)).old hbG;obtain⟨c1,c2,c3⟩:=HAD2.out _ (hbS.lies hlG (fun b0 off0 s0 e=>by cases e;exact a5));refine⟨D+1,some A2,cp1-64,wsN,rfl,hG.setWords _ (by rw[a2];rfl),a2,hbS.row ((a3.drewN 1).below hbG (a3.drewN 1).lt) a8,?_,?_,by omega,by omega,hbW.trans hbS,by omega,a8⟩
       ·rw[List.drop_drop]at c1;rw[show 64*(D+1)=64*D+64 by omega];exact c1
       ·intro b0 off0 s0 e
        cases e
        simp only at c2;subst c2;exact a5
      clear HP HMX hldw hldk hbG hst HAD2;go_wp2;go_roundg (gk-64)
      case measure=>omega
      case rel=>exact HQ.out
    ·have HFIN:Hid (∀w',HRow w' g s ws2 (rs1.take 0++(T.drop (64*D)).take gk++rs1.drop (0+gk))→ButS g wr w'→∃ws' rs',HRow w' g s ws' rs'∧Holds T ws' rs'∧ButS g w w'):=fun w' h1 h2=>
      ⟨_,_,h1,holds_done D gk hw2 hl2.len (by omega) hDT HTD.out.1 HTD.out.2.2 HTD.out.2.1,hbut.trans h2⟩
     have HH:Hid (HRow wr g s ws2 rs1∧Lies .u8 wr A1 gk (T.drop (64*D))):=⟨hh2,hl2⟩
     have hk64I:¬((64:Int)≤(gk:Int)):=by omega
     clear hh2 hw2 hk2 hl2 hne2 hbut hDT;generalize T.drop (64*D)=tl at *;go_wp2_with ((with_reducible show wpList _ _ _ (Oper.mk _ (Op.call { callee:=.builtin .copy,args:=_,argTypes:=_ }) _ _ _ _::_) _ _);refine wpList_copy_rest (w:=wr) (by with_reducible rfl) _ _ 24 24 (by with_reducible rfl) 5 Tryz.underlying24 Tryz.sizeB g 0 A1 _ _ _ _ (by rfl) (by rfl) (s:Int) ws2 rs1 tl HH.out.1 HH.out.2 (by omega) gk (by omega) ?_;intro wZ hhZ hbZ hsZ)
     exact⟨rfl,_,results_noneS rfl _ _,⟨_,rfl⟩,HFIN.out _ hhZ hbZ⟩
 ·have hltI:¬((s:Int)<64):=by omega
  have HA:Hid (HRow w g s ws rs∧ws=hb T (s/64)∧ButS g w w):=by refine⟨h,?_,ButS.refl _ _⟩;rw[←HT.out,hb_append _ _ _ (by omega)];have:=hh.words (by omega);rw[hs]at this;exact this
  clear h hh hd hl hne hs;go_enter Tryz.func81,Tryz.ntmps81;go_wp2_with fail
  clear hsz;generalize hws:ws=ws1 at HA;refine(HCON _).mono ?_;rintro e wB ⟨rfl,hbB⟩;have HB:Hid (HRow wB g s ws1 rs∧ws1=hb T (s/64)∧ButS g w wB):=by obtain⟨a1,a2,a3⟩:=HA.out;exact⟨a1.old hbB a1.lt,a2,a3.trans (ButS.ofBelow hbB)⟩
  clear HA hbB HCON HBEG;by_cases hr0:0<r
  ·have hr0I:(0:Int)<(r:Int):=by omega
   obtain⟨m,hm⟩:∃m,64-r=m:=⟨_,rfl⟩
   have hSR:=slice_rest g r hr64;rw[hm]at hSR;obtain⟨b,off,rfl,hblk,_⟩:=HW.out.2.2.2.1.at (by omega);have hlies:Lies .u8 wB (some ⟨b,off,none⟩) len bs:=HB.out.2.2.lies HW.out.2.2.2.1 HW.out.2.2.2.2.1;obtain⟨A,hA,HAD⟩:∃A:Addr,(if cap=m then some (⟨b,off,none⟩:Addr) else some ⟨b,off+m,none⟩)=some A∧Hid (∀wx,Lies .u8 wx (some ⟨b,off,none⟩) len bs→Lies .u8 wx (some A) (len-m) (bs.drop m)∧A.block=b∧A.spot=none):=lies_cut b off len cap m bs hlc (by omega);have hmr:r+m=64:=by omega
   have hml:m≤len:=by omega
   have hmlI:(m:Int)≤(len:Int):=by omega
   clear hm;go_wp2_with (first
    | ((with_reducible show wpList _ _ _ (Oper.mk _ (Op.alloc _) _ _ _ _::_) _ _);refine wpList_alloc_row (w:=wB) (by with_reducible rfl) 173 (by with_reducible rfl) .u32 64 Tryz.infoW64 ?_;intro wC hrC hbC hsC)
    | ((with_reducible show wpList _ _ _ (Oper.mk _ (Op.store _ _ _) _ _ _ _::_) _ _);refine wpList_store_nums (w:=wC) (by with_reducible rfl) 173 _ _ (by with_reducible rfl) .u32 173 64 Tryz.sizeW64 _ (List.replicate 64 0) KS (by rfl) (by rfl) hrC (by simp) rfl ?_;intro wD hrD hbD hsD hoD;have hhD:HRow wD g s ws1 rs:=HB.out.1.old (hbC.trans hbD) HB.out.1.lt;have hlD:Lies .u8 wD (some ⟨b,off,none⟩) len bs:=hlies.old (hbC.trans hbD))
    | ((with_reducible show wpList _ _ _ (Oper.mk _ (Op.call { callee:=.builtin .copy,args:=_,argTypes:=_ }) _ _ _ _::_) _ _);refine wpList_copy_rest (w:=wD) (by with_reducible rfl) _ _ 24 24 (by with_reducible rfl) 5 Tryz.underlying24 Tryz.sizeB g r (some ⟨b,off,none⟩) _ _ _ _ (by rfl) (by rfl) (s:Int) ws1 rs bs hhD hlD (by omega) m (by omega) ?_;intro wE hhE hbE hsE))
   generalize hg6:wB.heap.size=g6 at *;obtain⟨rs1,hrs1⟩:∃rs1,rs.take r++bs.take m++rs.drop (r+m)=rs1:=⟨_,rfl⟩
   rw[hrs1]at hhE;have hKE:Row 173 .u32 wE g6 KS:=hbE.row hrD (by have:=HB.out.1.lt;omega);have hLE:Lies .u8 wE (some A) (len-m) (bs.drop m):=(HAD.out wE (hbE.lies hlD HW.out.2.2.2.2.1)).1;have HT1:Hid (rs1=(T.drop (64*(s/64))).take 64∧bs.drop m=T.drop (64*(s/64+1))∧A.block=b∧A.spot=none∧Dg 256 rs1):=by obtain⟨a1,a2,a3,a4,a5,a6,a7⟩:=HW.out;have e:=full_block a2 a1.lr r (by rw[a6];exact a7) m hmr (by rw[a4.len];exact hml) hr0;rw[hrs1,a6,HT.out]at e;have e2:=drop_after (all:=all) (bs:=bs) r (by rw[a6];exact a7) m hmr;rw[a6,HT.out]at e2;refine⟨e,e2.symm,(HAD.out wE (hbE.lies hlD a5)).2.1,(HAD.out wE (hbE.lies hlD a5)).2.2,?_⟩;rw[e,←HT.out];exact((a2.good.append a3).drop _).take _
   have HE:Hid (HRow wE g s ws1 rs1∧Row 173 .u32 wE g6 KS∧Lies .u8 wE (some A) (len-m) (bs.drop m)∧ButS g w wE∧g≠g6):=⟨hhE,hKE,hLE,HB.out.2.2.trans ((ButS.ofBelow ((hbC.trans hbD).mono (by omega))).trans hbE),by have:=HB.out.1.lt;omega⟩
   clear hrC hbC hsC hrD hbD hsD hoD hhD hlD hhE hbE hsE hKE hLE hrs1 hSR hlies;have hld:(HLD 143 (.pointer (some ⟨g,1,none⟩))).run Tryz.prog wE.drew=.ok (ag .u32 ws1) wE.drew:=(HE.out.1.drewN 1).lda;have hldk:(HLD 173 (.pointer (some ⟨g6,0,none⟩))).run Tryz.prog wE.drew=.ok (ag .u32 KS) wE.drew:=(HE.out.2.1.drewN 1).lda rfl;have hSA:=slice_all g;have HMX:=mix_any ws1 KS g 9 64 rs1 wE.drew HE.out.1.lw rfl ((HE.out.1.drewN 1).rest) HT1.out.2.2.2.2 (by omega) (by unfold maxLen;omega);go_region_with (first|(go_at_call 105;refine HMX.mono ?_;rintro e wF ⟨rfl,hbF⟩;have hst:=((HE.out.1.drewN 1).old hbF (HE.out.1.drewN 1).lt).sta (mixS KS ws1 rs1) rfl))
   all_goals
    have HI:Hid (PInv w g g6 s T rs1 (len-m) (.slice (some A) (len-m) (cap-m)) (wF.setRow g (HC s (mixS KS ws1 rs1) rs1).toArray)):=by
     obtain⟨a1,a2,a3,a4,a5⟩:=HE.out;obtain⟨b1,b2,b3,b4,b5⟩:=HT1.out;have hF:HRow wF g s ws1 rs1:=(a1.drewN 1).old hbF (a1.drewN 1).lt;have hbW:ButS g w wF:=a4.trans ((ButS.drewN g wE 1).trans (ButS.ofBelow hbF));have hbS:=ButS.setRow g wF (HC s (mixS KS ws1 rs1) rs1).toArray;refine⟨s/64+1,some A,cap-m,mixS KS ws1 rs1,rfl,hF.setWords _ rfl,?_,hbS.row ((a2.drewN 1).below hbF (a2.drewN 1).lt) (fun e=>a5 e.symm),?_,?_,by omega,by omega,hbW.trans hbS,?_,fun e=>a5 e.symm⟩
     ·rw[HB.out.2.1,b1];rfl
     ·rw[←b2];exact hbS.lies ((a3.old (Drew.below ⟨1,rfl⟩ _)).old hbF) (fun b0 off0 s0 e=>by cases e;simp only at b3;subst b3;exact HW.out.2.2.2.2.1 _ _ _ rfl)
     ·intro b0 off0 s0 e
      cases e
      simp only at b3;subst b3;exact HW.out.2.2.2.2.1 _ _ _ rfl
     ·have:=HW.out.2.2.2.2.2.1;have:=HW.out.2.2.2.1.len;rw[←HT.out];simp;omega
    have HTD:Hid (Dg 256 T∧T.length≤1000000000000000∧Dg 256 rs1):=by rw[←HT.out];exact⟨HW.out.2.1.good.append HW.out.2.2.1,by have:=HW.out.2.2.2.2.2.1;have:=HW.out.2.2.2.1.len;simp;omega,HT1.out.2.2.2.2⟩
    clear HE HT1 HMX hld hldk hbF hst HB HW HAD hA;go_wp2;go_loopg [2] (len-m) (fun k vb wr=>PInv w g g6 s T rs1 k vb wr)
    case atStart=>exact HI.out
    case round =>
     obtain⟨D,A1,cp1,ws2,rfl,hh2,hw2,hk2,hl2,hne2,hkc,hcp1,hbut,hDT,hg6n⟩:=hrel;clear HI;by_cases hk64:64≤gk
     ·obtain⟨b1,off1,rfl,hblk1,_⟩:=hl2.at (by omega);obtain⟨A2,hA2,HAD2⟩:=lies_cut b1 off1 gk cp1 64 (T.drop (64*D)) hkc hk64;have hldw:(HLD 143 (.pointer (some ⟨g,1,none⟩))).run Tryz.prog wr.drew=.ok (ag .u32 ws2) wr.drew:=(hh2.drewN 1).lda;have hldk:(HLD 173 (.pointer (some ⟨g6,0,none⟩))).run Tryz.prog wr.drew=.ok (ag .u32 KS) wr.drew:=(hk2.drewN 1).lda rfl;have HMX:=mix_any ws2 KS b1 off1 64 ((T.drop (64*D)).take 64) wr.drew hh2.lw rfl ((hl2.take 64 hk64).old (Drew.below ⟨1,rfl⟩ _)) ((HTD.out.1.drop _).take _) (by omega) (by unfold maxLen;omega);have HP:Hid (HRow wr g s ws2 rs1∧mixS KS ws2 ((T.drop (64*D)).take 64)=hb T (D+1)∧Row 173 .u32 wr g6 KS∧Lies .u8 wr (some ⟨b1,off1,none⟩) gk (T.drop (64*D))∧b1≠g∧ButS g w wr∧64*D+gk=T.length∧g6≠g):=
       ⟨hh2,by rw[hw2];rfl,hk2,hl2,hne2 b1 off1 none rfl,hbut,by have:=hl2.len;simp at this;omega,hg6n⟩
      have hk64I:(64:Int)≤(gk:Int):=by omega
      have hc64I:(64:Int)≤(cp1:Int):=by omega
      clear hh2 hw2 hk2 hl2 hne2 hbut hDT;generalize mixS KS ws2 ((T.drop (64*D)).take 64)=wsN at *;go_wp2;go_region_with (first|(go_at_call 105;refine HMX.mono ?_;rintro e wG ⟨rfl,hbG⟩;have hst:=((HP.out.1.drewN 1).old hbG (HP.out.1.drewN 1).lt).sta wsN (by rw[HP.out.2.1];rfl)))
      all_goals
       have HQ:Hid (PInv w g g6 s T rs1 (gk-64) (.slice (some A2) (gk-64) (cp1-64)) (wG.setRow g (HC s wsN rs1).toArray)):=by
        obtain⟨a1,a2,a3,a4,a5,a6,a7,a8⟩:=HP.out;have hG:HRow wG g s ws2 rs1:=(a1.drewN 1).old hbG (a1.drewN 1).lt;have hbW:ButS g w wG:=a6.trans ((ButS.drewN g wr 1).trans (ButS.ofBelow hbG));have hbS:=ButS.setRow g wG (HC s wsN rs1).toArray;have hlG:Lies .u8 wG (some ⟨b1,off1,none⟩) gk (T.drop (64*D)):=(a4.old (Drew.below ⟨1,rfl⟩ _)).old hbG;obtain⟨c1,c2,c3⟩:=HAD2.out _ (hbS.lies hlG (fun b0 off0 s0 e=>by cases e;exact a5));refine⟨D+1,some A2,cp1-64,wsN,rfl,hG.setWords _ (by rw[a2];rfl),a2,hbS.row ((a3.drewN 1).below hbG (a3.drewN 1).lt) a8,?_,?_,by omega,by omega,hbW.trans hbS,by omega,a8⟩
        ·rw[List.drop_drop]at c1;rw[show 64*(D+1)=64*D+64 by omega];exact c1
        ·intro b0 off0 s0 e
         cases e
         simp only at c2;subst c2;exact a5
       clear HP HMX hldw hldk hbG hst HAD2;go_wp2;go_roundg (gk-64)
       case measure=>omega
       case rel=>exact HQ.out
     ·have HFIN:Hid (∀w',HRow w' g s ws2 (rs1.take 0++(T.drop (64*D)).take gk++rs1.drop (0+gk))→ButS g wr w'→∃ws' rs',HRow w' g s ws' rs'∧Holds T ws' rs'∧ButS g w w'):=fun w' h1 h2=>
       ⟨_,_,h1,holds_done D gk hw2 hl2.len (by omega) hDT HTD.out.1 HTD.out.2.2 HTD.out.2.1,hbut.trans h2⟩
      have HH:Hid (HRow wr g s ws2 rs1∧Lies .u8 wr A1 gk (T.drop (64*D))):=⟨hh2,hl2⟩
      have hk64I:¬((64:Int)≤(gk:Int)):=by omega
      clear hh2 hw2 hk2 hl2 hne2 hbut hDT;generalize T.drop (64*D)=tl at *;go_wp2_with ((with_reducible show wpList _ _ _ (Oper.mk _ (Op.call { callee:=.builtin .copy,args:=_,argTypes:=_ }) _ _ _ _::_) _ _);refine wpList_copy_rest (w:=wr) (by with_reducible rfl) _ _ 24 24 (by with_reducible rfl) 5 Tryz.underlying24 Tryz.sizeB g 0 A1 _ _ _ _ (by rfl) (by rfl) (s:Int) ws2 rs1 tl HH.out.1 HH.out.2 (by omega) gk (by omega) ?_;intro wZ hhZ hbZ hsZ)
      exact⟨rfl,_,results_noneS rfl _ _,⟨_,rfl⟩,HFIN.out _ hhZ hbZ⟩
  ·have hr0I:¬((0:Int)<(r:Int)):=by omega
   have hSA:=slice_all g;go_wp2_with (first
    | ((with_reducible show wpList _ _ _ (Oper.mk _ (Op.alloc _) _ _ _ _::_) _ _);refine wpList_alloc_row (w:=wB) (by with_reducible rfl) 173 (by with_reducible rfl) .u32 64 Tryz.infoW64 ?_;intro wC hrC hbC hsC)
    | ((with_reducible show wpList _ _ _ (Oper.mk _ (Op.store _ _ _) _ _ _ _::_) _ _);refine wpList_store_nums (w:=wC) (by with_reducible rfl) 173 _ _ (by with_reducible rfl) .u32 173 64 Tryz.sizeW64 _ (List.replicate 64 0) KS (by rfl) (by rfl) hrC (by simp) rfl ?_;intro wD hrD hbD hsD hoD))
   generalize hg6:wB.heap.size=g6 at *;have HI:Hid (PInv w g g6 s T rs len (.slice ao len cap) wD):=by
    obtain⟨a1,a2,a3⟩:=HB.out;obtain⟨b1,b2,b3,b4,b5,b6,b7⟩:=HW.out;have hbBD:Below g6 wB wD:=hbC.trans hbD;have hlt:=a1.lt;refine⟨s/64,ao,cap,ws1,rfl,a1.old hbBD (by omega),a2,hrD,?_,b5,hlc,hcm,a3.trans (ButS.ofBelow (hbBD.mono (by omega))),?_,by omega⟩
    ·have e:=drop_none (all:=all) (bs:=bs) (by rw[b6];omega);rw[b6,HT.out]at e;rw[e];exact(a3.lies b4 b5).old (hbBD.mono (by omega))
    ·rw[←HT.out];have:=b4.len;simp;omega
   have HTD:Hid (Dg 256 T∧T.length≤1000000000000000∧Dg 256 rs):=by rw[←HT.out];exact⟨HW.out.2.1.good.append HW.out.2.2.1,by have:=HW.out.2.2.2.2.2.1;have:=HW.out.2.2.2.1.len;simp;omega,HW.out.2.1.bytes⟩
   clear HB HW hrC hbC hsC hrD hbD hsD hoD hg6;generalize rs=rs1 at *;go_wp2;go_loopg [2] len (fun k vb wr=>PInv w g g6 s T rs1 k vb wr)
   case atStart=>exact HI.out
   case round =>
    obtain⟨D,A1,cp1,ws2,rfl,hh2,hw2,hk2,hl2,hne2,hkc,hcp1,hbut,hDT,hg6n⟩:=hrel;clear HI;by_cases hk64:64≤gk
    ·obtain⟨b1,off1,rfl,hblk1,_⟩:=hl2.at (by omega);obtain⟨A2,hA2,HAD2⟩:=lies_cut b1 off1 gk cp1 64 (T.drop (64*D)) hkc hk64;have hldw:(HLD 143 (.pointer (some ⟨g,1,none⟩))).run Tryz.prog wr.drew=.ok (ag .u32 ws2) wr.drew:=(hh2.drewN 1).lda;have hldk:(HLD 173 (.pointer (some ⟨g6,0,none⟩))).run Tryz.prog wr.drew=.ok (ag .u32 KS) wr.drew:=(hk2.drewN 1).lda rfl;have HMX:=mix_any ws2 KS b1 off1 64 ((T.drop (64*D)).take 64) wr.drew hh2.lw rfl ((hl2.take 64 hk64).old (Drew.below ⟨1,rfl⟩ _)) ((HTD.out.1.drop _).take _) (by omega) (by unfold maxLen;omega);have HP:Hid (HRow wr g s ws2 rs1∧mixS KS ws2 ((T.drop (64*D)).take 64)=hb T (D+1)∧Row 173 .u32 wr g6 KS∧Lies .u8 wr (some ⟨b1,off1,none⟩) gk (T.drop (64*D))∧b1≠g∧ButS g w wr∧64*D+gk=T.length∧g6≠g):=
      ⟨hh2,by rw[hw2];rfl,hk2,hl2,hne2 b1 off1 none rfl,hbut,by have:=hl2.len;simp at this;omega,hg6n⟩
     have hk64I:(64:Int)≤(gk:Int):=by omega
     have hc64I:(64:Int)≤(cp1:Int):=by omega
     clear hh2 hw2 hk2 hl2 hne2 hbut hDT;generalize mixS KS ws2 ((T.drop (64*D)).take 64)=wsN at *;go_wp2;go_region_with (first|(go_at_call 105;refine HMX.mono ?_;rintro e wG ⟨rfl,hbG⟩;have hst:=((HP.out.1.drewN 1).old hbG (HP.out.1.drewN 1).lt).sta wsN (by rw[HP.out.2.1];rfl)))
     all_goals
      have HQ:Hid (PInv w g g6 s T rs1 (gk-64) (.slice (some A2) (gk-64) (cp1-64)) (wG.setRow g (HC s wsN rs1).toArray)):=by
       obtain⟨a1,a2,a3,a4,a5,a6,a7,a8⟩:=HP.out;have hG:HRow wG g s ws2 rs1:=(a1.drewN 1).old hbG (a1.drewN 1).lt;have hbW:ButS g w wG:=a6.trans ((ButS.drewN g wr 1).trans (ButS.ofBelow hbG));have hbS:=ButS.setRow g wG (HC s wsN rs1).toArray;have hlG:Lies .u8 wG (some ⟨b1,off1,none⟩) gk (T.drop (64*D)):=(a4.old (Drew.below ⟨1,rfl⟩ _)).old hbG;obtain⟨c1,c2,c3⟩:=HAD2.out _ (hbS.lies hlG (fun b0 off0 s0 e=>by cases e;exact a5));refine⟨D+1,some A2,cp1-64,wsN,rfl,hG.setWords _ (by rw[a2];rfl),a2,hbS.row ((a3.drewN 1).below hbG (a3.drewN 1).lt) a8,?_,?_,by omega,by omega,hbW.trans hbS,by omega,a8⟩
       ·rw[List.drop_drop]at c1;rw[show 64*(D+1)=64*D+64 by omega];exact c1
       ·intro b0 off0 s0 e
        cases e
        simp only at c2;subst c2;exact a5
      clear HP HMX hldw hldk hbG hst HAD2;go_wp2;go_roundg (gk-64)
      case measure=>omega
      case rel=>exact HQ.out
    ·have HFIN:Hid (∀w',HRow w' g s ws2 (rs1.take 0++(T.drop (64*D)).take gk++rs1.drop (0+gk))→ButS g wr w'→∃ws' rs',HRow w' g s ws' rs'∧Holds T ws' rs'∧ButS g w w'):=fun w' h1 h2=>
      ⟨_,_,h1,holds_done D gk hw2 hl2.len (by omega) hDT HTD.out.1 HTD.out.2.2 HTD.out.2.1,hbut.trans h2⟩
     have HH:Hid (HRow wr g s ws2 rs1∧Lies .u8 wr A1 gk (T.drop (64*D))):=⟨hh2,hl2⟩
     have hk64I:¬((64:Int)≤(gk:Int)):=by omega
     clear hh2 hw2 hk2 hl2 hne2 hbut hDT;generalize T.drop (64*D)=tl at *;go_wp2_with ((with_reducible show wpList _ _ _ (Oper.mk _ (Op.call { callee:=.builtin .copy,args:=_,argTypes:=_ }) _ _ _ _::_) _ _);refine wpList_copy_rest (w:=wr) (by with_reducible rfl) _ _ 24 24 (by with_reducible rfl) 5 Tryz.underlying24 Tryz.sizeB g 0 A1 _ _ _ _ (by rfl) (by rfl) (s:Int) ws2 rs1 tl HH.out.1 HH.out.2 (by omega) gk (by omega) ?_;intro wZ hhZ hbZ hsZ)
     exact⟨rfl,_,results_noneS rfl _ _,⟨_,rfl⟩,HFIN.out _ hhZ hbZ⟩
end Go.Proofs.YtcgikjkpbpjgdabGreat
namespace Go.Proofs.YtcgikjkpbpjgdabGreat
open Go.RowKit
attribute [local go_sem ↓] keep_l8 keep_l64 keep_s8 keep_s32
def HashAt (w:World) (g:Nat) (all:List Int):Prop:=∃ws rs,HRow w g all.length ws rs∧Holds all ws rs
theorem put_grow {all bs:List Int} {s len:Nat} (hs:all.length=s) (hl:bs.length=len) {w:World} {g:Nat} {ws rs:List Int} (h:HRow w g ((s:Int)+(len:Int)) ws rs) (hh:Holds (all++bs) ws rs):HashAt w g (all++bs):=by
 refine⟨ws,rs,?_,hh⟩;rw[List.length_append,hs,hl];have e:((s+len:Nat):Int)=(s:Int)+(len:Int):=by omega
 rw[e];exact h
theorem Put_few (g:Nat) (all bs:List Int) (ao:Option Addr) (len cap:Nat) (w:World) (h:HashAt w g all) (hd:Dg 256 bs) (hl:Lies .u8 w ao len bs) (hne:0<len→∀b off s,ao=some ⟨b,off,s⟩→b≠g) (hlc:len≤cap) (hcm:cap≤maxLen) (hnn:ao=none→cap=0) (hsm:all.length+len≤1000000000000000):
  Calls Tryz.prog 46 #[.pointer (some ⟨g,0,none⟩),.slice ao len cap] w fun e w'=>(∃v,e=.returned v)∧HashAt w' g (all++bs)∧ButS g w w':=by
 obtain⟨ws,rs,hh,ho⟩:=h;obtain⟨s,hs⟩:∃s,all.length=s:=⟨_,rfl⟩
 obtain⟨r,hr⟩:∃r,s%64=r:=⟨_,rfl⟩
 rw[hs]at hh hsm;have hsz:=hh.size;have hrI:(s:Int)%64=(r:Int):=by omega
 have hr64:r<64:=by omega
 have hbl:=hl.len;by_cases hfew:r+len<64
 ·have hfI:((len:Int)<64-(r:Int)):=by omega
  have hSR:=slice_rest g r hr64;have HH:Hid (HRow w g s ws rs∧Lies .u8 w ao len bs):=⟨hh,hl⟩
  have HF:Hid (Holds (all++bs) ws (rs.take r++bs.take len++rs.drop (r+len))∧all.length=s∧bs.length=len):=by have:=holds_few ho hh.lr r (by rw[hs];exact hr) (by rw[hbl];exact hfew) hd (by rw[hs,hbl];exact hsm);rw[hbl]at this;exact⟨this,hs,hbl⟩
  clear ho hs hr hl hne hh;go_enter Tryz.func46,Tryz.ntmps46;go_wp2_with ((with_reducible show wpList _ _ _ (Oper.mk _ (Op.call { callee:=.builtin .copy,args:=_,argTypes:=_ }) _ _ _ _::_) _ _);refine wpList_copy_rest (w:=w) (by with_reducible rfl) _ _ 24 24 (by with_reducible rfl) 5 Tryz.underlying24 Tryz.sizeB g r ao _ _ _ _ (by rfl) (by rfl) (s:Int) ws rs bs HH.out.1 HH.out.2 (by omega) len (by omega) ?_;intro wZ hhZ hbZ hsZ;have hcz:=hhZ.size;have hfz:=hhZ.frozen 0)
  exact⟨rfl,_,results_noneS rfl _ _,⟨_,rfl⟩,put_grow HF.out.2.1 HF.out.2.2 (hhZ.setSize _) HF.out.1,hbZ.trans (ButS.setCell _ _ _ _)⟩
 ·have hfI:¬((len:Int)<64-(r:Int)):=by omega
  have HPB:=putBlocks_any g all bs ws rs s r ao len cap w hs hr hh ho hd hl (hne (by omega)) hlc hcm hnn (by omega) hsm;have HF:Hid (all.length=s∧bs.length=len):=⟨hs,hbl⟩
  clear ho hs hr hl hne hh;go_enter Tryz.func46,Tryz.ntmps46;go_wp2_with (go_at_call 81;refine HPB.mono ?_;rintro e wZ ⟨⟨v,rfl⟩,wsZ,rsZ,hhZ,hoZ,hbZ⟩;have hcz:=hhZ.size;have hfz:=hhZ.frozen 0)
  exact⟨rfl,_,results_noneS rfl _ _,⟨_,rfl⟩,put_grow HF.out.1 HF.out.2 (hhZ.setSize _) hoZ,hbZ.trans (ButS.setCell _ _ _ _)⟩
theorem Put_any (g:Nat) (all bs:List Int) (ao:Option Addr) (len cap:Nat) (w:World) (h:HashAt w g all) (hd:Dg 256 bs) (hl:Lies .u8 w ao len bs) (hne:∀b off s,ao=some ⟨b,off,s⟩→b≠g) (hlc:len≤cap) (hcm:cap≤maxLen) (hnn:ao=none→cap=0) (hsm:all.length+len≤1000000000000000):
  Calls Tryz.prog 46 #[.pointer (some ⟨g,0,none⟩),.slice ao len cap] w fun e w'=>(∃v,e=.returned v)∧HashAt w' g (all++bs)∧ButS g w w':=
 Put_few g all bs ao len cap w h hd hl (fun _=>hne) hlc hcm hnn hsm
end Go.Proofs.YtcgikjkpbpjgdabGreat
namespace Go.Proofs.YtcgikjkpbpjgdabGreat
open Go.RowKit
attribute [local go_sem ↓] keep_l8 keep_l64 keep_s8
theorem holds_nil (ws rs:List Int) (hr:Dg 256 rs):Holds [] ws rs:=⟨fun h=>by simp at h,rfl,hr,Dg.nil _,by simp⟩
def zeroC:List Value:=HC 0 (List.replicate 8 0) (List.replicate 64 0)
theorem Tryz.infoH:(Tryz.prog.info? 146).map (fun i=>(i.zero,i.size))=some (some (.agg zeroC.toArray),73):=by kernel_rfl
theorem Tryz.sizeH:(Tryz.prog.info? 146).map (·.size)=some 73:=(zero_of_info Tryz.infoH).2
theorem Tryz.builtH:Tryz.prog.built 146 []=some zeroC.toArray:=by kernel_rfl
theorem hrow_alloc (w:World) (n:Int) (ws rs:List Int) (hw:ws.length=8) (hr:rs.length=64):HRow (w.alloc (.cells (HC n ws rs).toArray 146)) w.heap.size n ws rs:=⟨heap_alloc_new w _,hw,hr⟩
theorem wpList_alloc_hash {w:World} {ops:Array Oper} {rest:List Oper} {o:Oper} {a:Act} {Q:Exit→Act→World→Prop} (hgd:o.guard=none) (hop:o.op=Op.alloc 146)
  (hK:∀w',HRow w' w.heap.size 0 (List.replicate 8 0) (List.replicate 64 0)→Below w.heap.size w w'→w'.heap.size=w.heap.size+1→wpList Tryz.prog ops Q rest (a.put o.dst (.pointer (some ⟨w.heap.size,0,none⟩))) w'):
  wpList Tryz.prog ops Q (o::rest) a w:=by
 refine wpList_plain hgd fun K hK' => ?_;have hr:=(zero_of_info Tryz.infoH).1 w;unfold Oper.wp;simp only[execOp,hop,Instr.alloc,Sem.run_bind,hr,Result.andThen_ok];exact hK' _ _ (hK (w.alloc (.cells zeroC.toArray 146)) (hrow_alloc w 0 _ _ (by simp) (by simp)) (below_alloc w _) (size_alloc' w _))
theorem wpList_box_hash {w:World} {ops:Array Oper} {rest:List Oper} {o:Oper} {a:Act} {Q:Exit→Act→World→Prop} (hgd:o.guard=none) (x:Operand) (hop:o.op=Op.box 146 x) (n:Int) (ws rs:List Int) (hx:a.eval x=.agg (HC n ws rs).toArray) (hw:ws.length=8) (hr:rs.length=64)
  (hK:∀w',HRow w' w.heap.size n ws rs→Below w.heap.size w w'→w'.heap.size=w.heap.size+1→wpList Tryz.prog ops Q rest (a.put o.dst (.pointer (some ⟨w.heap.size,0,none⟩))) w'):
  wpList Tryz.prog ops Q (o::rest) a w:=by
 refine wpList_plain hgd fun K hK' => ?_;unfold Oper.wp;simp only[execOp,hop,hx,Instr.box,Sem.run_bind,Result.andThen_ok];exact hK' _ _ (hK (w.alloc (.cells (HC n ws rs).toArray 146)) (hrow_alloc w n ws rs hw hr) (below_alloc w _) (size_alloc' w _))
theorem wpList_load_hash {w:World} {ops:Array Oper} {rest:List Oper} {o:Oper} {a:Act} {Q:Exit→Act→World→Prop} (hgd:o.guard=none) (x:Operand) (hop:o.op=Op.load 146 x) (g:Nat) (n:Int) (ws rs:List Int) (hx:a.eval x=.pointer (some ⟨g,0,none⟩)) (hr:HRow w g n ws rs)
  (h:wpList Tryz.prog ops Q rest (a.put o.dst (.agg (HC n ws rs).toArray)) w):wpList Tryz.prog ops Q (o::rest) a w:=
 wpList_load_row hgd 146 x hop g hx 146 _ (0,0) _ hr.blk Tryz.underlying146 rfl (by rw[Tryz.sizeH];simp[HC_length,hr.lw,hr.lr]) h
theorem wpList_store_hash {w:World} {ops:Array Oper} {rest:List Oper} {o:Oper} {a:Act} {Q:Exit→Act→World→Prop} (hgd:o.guard=none) (x y:Operand) (hop:o.op=Op.store 146 x y) (g:Nat) (n m:Int) (ws rs vs us:List Int) (hx:a.eval x=.pointer (some ⟨g,0,none⟩)) (hy:a.eval y=.agg (HC m vs us).toArray) (hr:HRow w g n ws rs) (hv:vs.length=8) (hu:us.length=64)
  (hK:∀w',HRow w' g m vs us→ButS g w w'→w'.heap.size=w.heap.size→wpList Tryz.prog ops Q rest (a.put o.dst undef) w'):wpList Tryz.prog ops Q (o::rest) a w:=
 wpList_store_row hgd 146 x y hop g _ hx hy 146 _ hr.blk (by rw[Tryz.sizeH];simp[HC_length,hv,hu]) (by simp[HC_length,hr.lw,hr.lr,hv,hu])
  (Array.all_eq_true_iff_forall_mem.2 fun v hv => by
   simp only[HC,List.mem_toArray,List.mem_cons,List.mem_append,List.mem_map]at hv;rcases hv with rfl|⟨x,_,rfl⟩|⟨x,_,rfl⟩<;>rfl)
  (hK _ ⟨setRow_heap w g _ _ _ (0,0) hr.blk,hv,hu⟩ (ButS.setRow _ _ _) (by simp))
theorem New_any (w:World):Calls Tryz.prog 45 #[] w fun e w'=>e=.returned (.pointer (some ⟨w.heap.size,0,none⟩))∧HashAt w' w.heap.size []∧Below w.heap.size w w':=by
 go_enter Tryz.func45,Tryz.ntmps45;go_wp2_with (first
  | ((with_reducible show wpList _ _ _ (Oper.mk _ (Op.build _ _) _ _ _ _::_) _ _);refine wpList_build (by with_reducible rfl) 146 #[] (by with_reducible rfl) (by simp[Tryz.builtH]) ?_;simp only[List.map_toArray,List.map_nil,Tryz.builtH,Option.getD_some])
  | ((with_reducible show wpList _ _ _ (Oper.mk _ (Op.box _ _) _ _ _ _::_) _ _);refine wpList_box_hash (w:=w) (by with_reducible rfl) _ (by with_reducible rfl) 0 (List.replicate 8 0) (List.replicate 64 0) (by rfl) (by simp) (by simp) ?_;intro w1 hr1 hb1 hs1))
 go_ret;exact⟨rfl,⟨_,_,hr1,holds_nil _ _ (Dg.zeros (by decide) _)⟩,hb1⟩
theorem gap_len (n:Nat):(n+(gapN n+9))%64=0∧64≤n+(gapN n+9):=by unfold gapN;omega
theorem lies_row {e:TypeId} {w:World} {g:Nat} {xs:List Int} {n:Nat} (h:Row e .u8 w g xs) (hn:xs.length=n):Lies .u8 w (some ⟨g,0,none⟩) n xs:=by have:=h.lies 0 xs.length (by omega);rw[hn]at this;simpa [hn,List.take_of_length_le (show xs.length≤n by omega)] using this
theorem Sum_any (g:Nat) (all:List Int) (w:World) (h:HashAt w g all) (hsm:all.length≤900000000000000):
  Calls Tryz.prog 47 #[.pointer (some ⟨g,0,none⟩)] w fun e w'=>e=.returned (ag .u8 (shaS all))∧Below w.heap.size w w':=by
 obtain⟨ws,rs,hh,ho⟩:=h;obtain⟨n,hn⟩:∃n,all.length=n:=⟨_,rfl⟩
 rw[hn]at hh hsm;have HEND:=fun w=>ending_any n w (by omega);have HPUT:=fun g w ao len cap h hl hne hlc hcm hnn hq=>Put_any g all (ending n) ao len cap w h
  (show Dg 256 (ending n) by
   unfold ending;exact Dg.cons (by decide) ((Dg.zeros (by decide) _).append (fun x hx=>by obtain⟨i,_,rfl⟩:=List.mem_map.1 hx;omega))) hl hne hlc hcm hnn hq
 have HSP:=spread_any;have hel:=ending_length n;obtain⟨L,hL⟩:∃L,gapN n+9=L:=⟨_,rfl⟩
 have HFIN:Hid (∀ws5 rs5,Holds (all++ending n) ws5 rs5→spreadS ws5=shaS all):=fun ws5 rs5 h5=>by have hg:=gap_len n;unfold shaS;rw[h5.words (by simp[hn,hel];omega),hn]
 have hL73:L≤73:=by have:gapN n<64:=Nat.mod_lt _ (by decide);omega
 rw[hL]at hel HEND;have HH:Hid (HRow w g n ws rs∧Holds all ws rs∧all.length=n∧(ending n).length=L∧gapN n+9=L):=⟨hh,ho,hn,hel,hL⟩
 clear hh ho hel hL hn;go_enter Tryz.func47,Tryz.ntmps47;go_wp2_with (first
  | ((with_reducible show wpList _ _ _ (Oper.mk _ (Op.alloc _) _ _ _ _::_) _ _);refine wpList_alloc_row (w:=w) (by with_reducible rfl) 51 (by with_reducible rfl) .u8 32 Tryz.infoB32 ?_;intro w1 hr1 hb1 hs1;have hh1:HRow w1 g n ws rs:=HH.out.1.old hb1 HH.out.1.lt)
  | ((with_reducible show wpList _ _ _ (Oper.mk _ (Op.load _ _) _ _ _ _::_) _ _);refine wpList_load_hash (w:=w1) (by with_reducible rfl) _ (by with_reducible rfl) g _ ws rs (by rfl) hh1 ?_)
  | ((with_reducible show wpList _ _ _ (Oper.mk _ (Op.alloc _) _ _ _ _::_) _ _);refine wpList_alloc_hash (w:=w1) (by with_reducible rfl) (by with_reducible rfl) ?_;intro w2 hr2 hb2 hs2)
  | ((with_reducible show wpList _ _ _ (Oper.mk _ (Op.store _ _ _) _ _ _ _::_) _ _);refine wpList_store_hash (w:=w2) (by with_reducible rfl) _ _ (by with_reducible rfl) w1.heap.size 0 n _ _ ws rs (by rfl) (by rfl) hr2 HH.out.1.lw HH.out.1.lr ?_;intro w3 hr3 hb3 hs3;have hc3:=((hh1.old hb2 hh1.lt).but hb3 (by have:=HH.out.1.lt;omega)).size))
 have HW3:Hid (HRow w3 (w.heap.size+1) n ws rs∧Row 51 .u8 w3 w.heap.size (List.replicate 32 0)∧Below w.heap.size w w3∧w.heap.size+2≤w3.heap.size):=by refine⟨by rw[←hs1];exact hr3,hb3.row (hr1.below hb2 (by omega)) (by omega),?_,by omega⟩;exact hb1.trans ((hb2.mono (by omega)).trans (hb3.below (by omega) (by omega)))
 clear hr1 hb1 hh1 hr2 hb2 hs2 hr3 hb3 hs3 hs1;refine(HEND w3).mono ?_;rintro e w4 ⟨rfl,hr4,hb4⟩;have HW4:Hid (HashAt w4 (w.heap.size+1) all∧Row 51 .u8 w4 w.heap.size (List.replicate 32 0)∧Below w.heap.size w w4∧Lies .u8 w4 (some ⟨w3.heap.size,0,none⟩) L (ending n)∧w.heap.size+2≤w4.heap.size∧w.heap.size+2≤w3.heap.size):=by obtain⟨a1,a2,a3,a4⟩:=HW3.out;obtain⟨b1,b2,b3,b4,b5⟩:=HH.out;exact⟨⟨ws,rs,by rw[b3];exact a1.old hb4 (by omega),b2⟩,a2.below hb4 (by omega),a3.trans (hb4.mono (by omega)),lies_row hr4 b4,by have:=hb4.size;omega,a4⟩
 clear HW3 hr4 hb4 hc3 HEND;go_wp2_with fail
 refine(HPUT (w.heap.size+1) w4 (some ⟨w3.heap.size,0,none⟩) L L HW4.out.1 HW4.out.2.2.2.1 (fun b off s e=>by cases e;have:=HW4.out.2.2.2.2.2;omega) (Nat.le_refl _) (by unfold maxLen;omega) (fun h=>by cases h) (by have:=HH.out.2.2.1;omega)).mono ?_;rintro e w5 ⟨⟨v,rfl⟩,⟨ws5,rs5,hh5,ho5⟩,hb5⟩;have hld5:(HLD 143 (.pointer (some ⟨w.heap.size+1,1,none⟩))).run Tryz.prog w5=.ok (ag .u32 ws5) w5:=hh5.lda;have HW5:Hid (spreadS ws5=shaS all∧ws5.length=8∧Row 51 .u8 w5 w.heap.size (List.replicate 32 0)∧Below w.heap.size w w5):=by obtain⟨a1,a2,a3,a4,a5,a6⟩:=HW4.out;exact⟨HFIN.out _ _ ho5,hh5.lw,hb5.row a2 (by omega),a3.trans (hb5.below (by omega) (by omega))⟩
 clear HW4 hh5 ho5 hb5 HFIN HPUT;have HSPL:=fun w=>HSP ws5 w HW5.out.2.1;rw[HW5.out.1]at HSPL;go_wp2_with fail
 refine(HSPL _).mono ?_;rintro e w6 ⟨rfl,hb6⟩;have hr6:=HW5.out.2.2.1.below hb6 (HW5.out.2.2.1).lt;have hln:(shaS all).length=32:=by unfold shaS;exact spreadS_length _
 go_wp2_with ((with_reducible show wpList _ _ _ (Oper.mk _ (Op.store _ _ _) _ _ _ _::_) _ _);refine wpList_store_nums (w:=w6) (by with_reducible rfl) 51 _ _ (by with_reducible rfl) .u8 51 32 Tryz.sizeB32 _ (List.replicate 32 0) (shaS all) (by rfl) (by rfl) hr6 (by simp) hln ?_;intro w7 hr7 hb7 hs7 ho7)
 refine bodyPost_ret (v:=ag .u8 (shaS all)) (results_nums rfl _ _ _ 51 5 .u8 32 _ rfl hr7 Tryz.underlying51 Tryz.sizeB32 hln) rfl ⟨rfl,HW5.out.2.2.2.trans ((hb6.mono (by have:=HW5.out.2.2.2.size;omega)).trans hb7)⟩
theorem HOf_few (bs:List Int) (ao:Option Addr) (len cap:Nat) (w:World) (hd:Dg 256 bs) (hl:Lies .u8 w ao len bs) (hlc:len≤cap) (hcm:cap≤maxLen) (hnn:ao=none→cap=0) (hsm:len≤900000000000000) (hold:0<len→∀b off s,ao=some ⟨b,off,s⟩→b<w.heap.size):
  Calls Tryz.prog 14 #[.slice ao len cap] w fun e w'=>e=.returned (ag .u8 (shaS bs))∧Below w.heap.size w w':=by
 have HL:Hid (Lies .u8 w ao len bs∧(0<len→∀b off s,ao=some ⟨b,off,s⟩→b<w.heap.size)):=⟨hl,hold⟩
 have HNEW:=New_any;clear hl hold;go_enter Tryz.func14,Tryz.ntmps14;go_wp2_with ((with_reducible show wpList _ _ _ (Oper.mk _ (Op.alloc _) _ _ _ _::_) _ _);refine wpList_alloc_row (w:=w) (by with_reducible rfl) 51 (by with_reducible rfl) .u8 32 Tryz.infoB32 ?_;intro w1 hr1 hb1 hs1)
 refine(HNEW w1).mono ?_;rintro e w2 ⟨rfl,hh2,hb2⟩;have HW2:Hid (HashAt w2 (w.heap.size+1) []∧Row 51 .u8 w2 w.heap.size (List.replicate 32 0)∧Below w.heap.size w w2∧Lies .u8 w2 ao len bs):=
  ⟨by rw[←hs1];exact hh2,hr1.below hb2 (by omega),hb1.trans (hb2.mono (by omega)),(HL.out.1.old hb1).old hb2⟩
 clear hh2 hb2 hr1 hb1;go_wp2_with fail
 refine(Put_few (w.heap.size+1) [] bs ao len cap w2 HW2.out.1 hd HW2.out.2.2.2 (fun h0 b off s e=>by have:=HL.out.2 h0 b off s e;omega) hlc hcm hnn (by simp;omega)).mono ?_;rintro e w3 ⟨⟨v,rfl⟩,hh3,hb3⟩;rw[List.nil_append]at hh3;have HW3:Hid (HashAt w3 (w.heap.size+1) bs∧Row 51 .u8 w3 w.heap.size (List.replicate 32 0)∧Below w.heap.size w w3):=
  ⟨hh3,hb3.row HW2.out.2.1 (by omega),HW2.out.2.2.1.trans (hb3.below (by omega) HW2.out.2.2.1.size)⟩
 have hbl:bs.length≤900000000000000:=by have:=HL.out.1.len;omega
 clear HW2 hh3 hb3;go_wp2_with fail
 refine(Sum_any (w.heap.size+1) bs w3 HW3.out.1 hbl).mono ?_;rintro e w6 ⟨rfl,hb6⟩;have hr6:=HW3.out.2.1.below hb6 (HW3.out.2.1).lt;have hln:(shaS bs).length=32:=by unfold shaS;exact spreadS_length _
 go_wp2_with ((with_reducible show wpList _ _ _ (Oper.mk _ (Op.store _ _ _) _ _ _ _::_) _ _);refine wpList_store_nums (w:=w6) (by with_reducible rfl) 51 _ _ (by with_reducible rfl) .u8 51 32 Tryz.sizeB32 _ (List.replicate 32 0) (shaS bs) (by rfl) (by rfl) hr6 (by simp) hln ?_;intro w7 hr7 hb7 hs7 ho7)
 refine bodyPost_ret (v:=ag .u8 (shaS bs)) (results_nums rfl _ _ _ 51 5 .u8 32 _ rfl hr7 Tryz.underlying51 Tryz.sizeB32 hln) rfl ⟨rfl,HW3.out.2.2.trans ((hb6.mono (by have:=HW3.out.2.2.size;omega)).trans hb7)⟩
theorem HOf_num (bs:List Int) (ao:Option Addr) (len cap:Nat) (w:World) (h:NumIn .u8 256 w ao len cap bs):Calls Tryz.prog 14 #[.slice ao len cap] w fun e w'=>e=.returned (ag .u8 (shaS bs))∧Below w.heap.size w w':=
 HOf_few bs ao len cap w h.dg h.lies h.lc h.cm h.nn (by have:=h.sm;omega) (fun h0 b off s e=>by
  obtain⟨b',off',e',hlt,_⟩:=h.lies.at h0;rw[e']at e
  cases e
  exact hlt)
end Go.Proofs.YtcgikjkpbpjgdabGreat
namespace Go.Proofs.YtcgikjkpbpjgdabGreat
open Go.RowKit
attribute [local go_sem ↓] keep_l8 keep_l64 keep_s8
theorem shaS_length (l:List Int):(shaS l).length=32:=by unfold shaS;exact spreadS_length _
end Go.Proofs.YtcgikjkpbpjgdabGreat
namespace Go.Proofs.YtcgikjkpbpjgdabGreat
open Go.RowKit
attribute [local go_sem ↓] keep_l8 keep_l64 keep_s8 keep_l32 keep_s32
theorem Tryz.infoB':(Tryz.prog.info? 5).map (fun i=>(i.zero,i.size,i.bytes))=some (some (.int .u8 0),1,1):=by kernel_rfl
theorem pad8_succ (n j:Nat) (h:j<8):(pad8 n).take (j+1)=(pad8 n).take j++[(8*n:Int)/2^(8*(7-j))%256]:=by
 rw[List.take_succ_eq_append_getElem (by rw[pad8_length];exact h)];have e:=pad8_get n j h;have e2:(pad8 n).getD j 0=(pad8 n)[j]'(by rw[pad8_length];exact h):=by simp[List.getD,pad8_length,h]
 rw[←e2,e,show 56-8*j=8*(7-j) by omega]
def WP (b:List Int) (i:Nat) (cur:List Int):Prop:=(i≤16→SchA b i 0 cur)∧(16≤i→SchB b i cur)
theorem WP.zero (b:List Int):WP b 0 (List.replicate 64 0):=⟨fun _=>SchA.zero b,fun h=>by omega⟩
theorem WP.low {b cur:List Int} {i:Nat} (h:SchA b i 4 cur) (hi:i<16):WP b (i+1) cur:=⟨fun _=>h.next,fun h16=>by have:=h.next;rw[show i+1=16 by omega]at this ⊢;exact this.done⟩
theorem WP.high {b cur:List Int} {i:Nat} (h:WP b i cur) (h1:16≤i) (h2:i<64):WP b (i+1) (cur.set i (wNext cur i)):=⟨fun h16=>by omega,fun _=>(h.2 h1).step h1 h2⟩
theorem WP.length {b cur:List Int} {i:Nat} (h:WP b i cur):cur.length=64:=by
 by_cases h1:i≤16
 ·exact(h.1 h1).1
 ·exact(h.2 (by omega)).1
theorem Row.drew {e:TypeId} {k:IntKind} {w:World} {g:Nat} {xs:List Int} (h:Row e k w g xs):Row e k w.drew g xs:=h
def lst (s:S8):List Int:=[s.a,s.b,s.c,s.d,s.e,s.f,s.g,s.h]
theorem lst_s8 (l:List Int) (h:l.length=8):lst (s8 l)=l:=by
 match l,h with
 | [a,b,c,d,e,f,g,i],_=>rfl
theorem addS_get (hs:List Int) (s:S8) (i:Nat) (h:i<8):(addS hs s).getD i 0=(hs.getD i 0+(lst s).getD i 0)%4294967296:=by
 have:i=0∨i=1∨i=2∨i=3∨i=4∨i=5∨i=6∨i=7:=by omega
 rcases this with rfl|rfl|rfl|rfl|rfl|rfl|rfl|rfl<;>rfl
def AddP (hs:List Int) (s:S8) (i:Nat) (cur:List Int):Prop:=cur.length=8∧(∀j,j<i→cur.getD j 0=(addS hs s).getD j 0)∧∀j,i≤j→cur.getD j 0=hs.getD j 0
theorem AddP.zero {hs:List Int} (s:S8) (h:hs.length=8):AddP hs s 0 hs:=⟨h,fun j hj=>by omega,fun j _=>rfl⟩
theorem AddP.step {hs cur:List Int} {s:S8} {i:Nat} (h:AddP hs s i cur) (hi:i<8):AddP hs s (i+1) (cur.set i ((cur.getD i 0+(lst s).getD i 0)%4294967296)):=by
 refine⟨by simpa using h.1,fun j hj => ?_,fun j hj => ?_⟩
 ·by_cases e:j=i
  ·subst e;rw[getD_set_same _ _ _ (by rw[h.1];exact hi),h.2.2 j (Nat.le_refl _),addS_get hs s j hi]
  ·rw[getD_set_other _ _ _ _ (fun e'=>e e'.symm)];exact h.2.1 j (by omega)
 ·rw[getD_set_other _ _ _ _ (by omega)];exact h.2.2 j (by omega)
theorem AddP.done {hs cur:List Int} {s:S8} (h:AddP hs s 8 cur):cur=addS hs s:=
 ext_getD _ _ (by rw[h.1];rfl) fun j hj=>h.2.1 j (by rw[h.1]at hj;exact hj)
theorem cell_alloc {w:World} {a:Addr} {v:Value} (o:Obj) (h:w.cell? a=some v):(w.alloc o).cell? a=some v:=by rw[World.cell?_alloc_lt _ _ _ (World.block_lt_of_cell? w _ h)];exact h
theorem Own.open {e:TypeId} {k:IntKind} {w:World} {base:Nat} {v:Value} {xs:List Int} (h:Own e k w base v xs):∃ao cap,v=.slice ao xs.length cap∧xs.length≤cap∧cap≤maxLen:=by
 rcases h.2 with⟨rfl,h0⟩|⟨g,cap,cur,rfl,hg,hrow,h1,h2,h3,h4⟩
 ·exact⟨none,0,by rw[h0],by omega,by simp[maxLen]⟩
 ·exact⟨_,cap,rfl,h1,h2⟩
theorem ownAt_alloc (e:TypeId) (k:IntKind) (w:World) (cs:Array Value) (xs:List Int) (n:Nat) (h:cs.toList=xs.map (Value.int k)) (hn:xs.length=n) (hl:n≤maxLen):OwnAt e k (w.alloc (.cells cs e)) w.heap.size n xs:=by
 subst hn;refine⟨⟨cs,World.alloc_heap_new w _,?_,?_⟩,Nat.le_refl _,hl⟩
 ·rw[h,List.take_of_length_le (by simp)]
 ·rw[←Array.length_toList,h,List.length_map]
def loopsOf:Code→List Code
 | .seq a b=>loopsOf a++loopsOf b
 | .cond _ a b=>loopsOf a++loopsOf b
 | .block _ c=>loopsOf c
 | .loop c=>c::loopsOf c
 | .scope c=>loopsOf c
 | .rangeFunc _ _ a b=>loopsOf a++loopsOf b
 | _=>[]
theorem inBlock_exit (id:Nat) (Q:Exit→Act→World→Prop) (a:Act) (w:World):Exit.inBlock id Q (.exit id) a w=Q .normal a w:=if_pos rfl
end Go.Proofs.YtcgikjkpbpjgdabGreat
