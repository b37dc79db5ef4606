import Derived.Test.YtkhnnhbmchnajaaGreatK03
import Derived.Test.YtkhnnhbmchnajaaGreatK02
import Derived.Laws.BitsAllLaws
import Derived.Deep.QuietTactic
import Derived.OwnWalk
set_option maxRecDepth 100000
set_option maxHeartbeats 40000000
set_option linter.unusedVariables false
set_option linter.unusedSimpArgs false
namespace Go.Proofs.YtkhnnhbmchnajaaGreat
section
open Go.Shelf Go.RowKit
theorem u8_and31(x:Nat)(hx:x<256):bits .and .u8 (x:Int) 31=((x%32:Nat):Int):=by
 have:∀n:Fin 256,bits .and .u8 ((n.val:Nat):Int) 31=((n.val%32:Nat):Int):=by decide +kernel
 exact this ⟨x,hx⟩
theorem isTag_any(t:Nat)(ht:t<256)(w:World):Calls Tryz.prog 91 #[.int .u8 (t:Int)] w fun e w'=>e=.returned (.bool (decide (t%32≠31)))∧w'=w:=by
 have h1:=u8_and31 t ht;by_cases h:t%32=31
 ·have h2:decide (t%32≠31)=false:=by simp[h]
  rw[h2];rw[h]at h1;go_enter Tryz.func91,Tryz.ntmps91;go_wp2;go_ret;exact⟨rfl,rfl⟩
 ·have h2:decide (t%32≠31)=true:=by simp[h]
  rw[h2];obtain⟨m,hm⟩:∃m,t%32=m:=⟨_,rfl⟩
  rw[hm]at h1 h;have h3:((m:Int) != 31)=true:=by simp;omega
  clear h2 hm;go_enter Tryz.func91,Tryz.ntmps91;go_wp2;go_ret;exact⟨rfl,rfl⟩
def digD (n:Nat):Nat:=if n<128 then 0 else if n<256 then 1 else 2
theorem digitsOf_any(n:Nat)(hn:n≤9223372036854775807)(w:World):Calls Tryz.prog 120 #[.int .i64 (n:Int)] w fun e w'=>e=.returned (.int .i64 (digD n:Int))∧w'=w:=by
 obtain⟨s,hs⟩:∃s,digD n=s:=⟨_,rfl⟩
 rw[hs];have HS:Hid (digD n=s):=hs;clear hs;have hnI:(n:Int)≤9223372036854775807:=by omega
 by_cases q0:n<128
 ·have q:(n:Int)<128:=by omega
  go_enter Tryz.func120,Tryz.ntmps120;go_wp2;go_ret;exact⟨by rw[←HS.out];simp[digD,q0],rfl⟩
 have p0:¬(n:Int)<128:=by omega
 by_cases q1:n<256
 ·have q:(n:Int)<256:=by omega
  go_enter Tryz.func120,Tryz.ntmps120;go_wp2;go_ret;exact⟨by rw[←HS.out];simp[digD,q0,q1],rfl⟩
 have p1:¬(n:Int)<256:=by omega
 go_enter Tryz.func120,Tryz.ntmps120;go_wp2;go_ret;exact⟨by rw[←HS.out];simp[digD,q0,q1],rfl⟩
def SlPost(w:World)(P:Nat→Prop)(R:Option (Nat × Bs))(e:Ending)(w':World):Prop:=
 Below w.heap.size w w'∧((∃m ys p c,R=some (m,ys)∧m<65536∧e=.returned (.tuple #[.int .i64 (m:Int),.slice p ys.length c,.bool true])∧ByV w P p c ys)∨(R=none∧∃s v,e=.returned (.tuple #[.int .i64 s,v,.bool false])))
theorem SlPost.yes{w w':World}{P:Nat→Prop}{R:Option (Nat × Bs)}(m:Nat)(ys:Bs)(p:Option Addr)(n c:Nat)(hR:R=some (m,ys))(hm:m<65536)(hn:ys.length=n)(hy:ByV w P p c ys)(hb:Below w.heap.size w w'):SlPost w P R (.returned (.tuple #[.int .i64 (m:Int),.slice p n c,.bool true])) w':=
 ⟨hb,.inl ⟨m,ys,p,c,hR,hm,by rw[hn],hy⟩⟩
theorem SlPost.no{w w':World}{P:Nat→Prop}{R:Option (Nat × Bs)}{s:Int}{v:Value}(hR:R=none)(hb:Below w.heap.size w w'):SlPost w P R (.returned (.tuple #[.int .i64 s,v,.bool false])) w':=⟨hb,.inr ⟨hR,s,v,rfl⟩⟩
theorem or8_nat(x y:Nat)(hy:y<256):256*x|||y=256*x+y:=by have h2:=Nat.two_pow_add_eq_or_of_lt (i:=8) (b:=y) (by omega) x;rw[show(2:Nat)^8=256 by rfl]at h2;exact h2.symm
theorem i64_or8(x y:Nat)(hx:x<256)(hy:y<256):bits .or .i64 ((x:Int)*256) (y:Int)=((x*256+y:Nat):Int):=by
 have h2:=or8_nat x y hy;have e:(x:Int)*256=((256*x:Nat):Int):=by omega
 rw[e];show IntKind.i64.wrap ((BitVec.ofInt 64 ((256*x:Nat):Int)|||BitVec.ofInt 64 (y:Int)).toNat:Int)=_;rw[BitVec.toNat_or,ofInt_u64 (256*x) (by omega),ofInt_u64 y (by omega),h2,Nat.mul_comm 256 x];clear h2 e;have h3:x*256+y<65536:=by omega
 generalize x*256+y=z at h3 ⊢;exact Go.IntWalk.i64_in _ (by omega)
theorem len1_no{l:Bs}(h:l.length<1):len1 l=none:=by
 cases l with
 | nil=>rfl
 | cons a l=>simp at h
theorem len2_no{l:Bs}(h:l.length<2):len2 l=none:=by
 match l,h with
 | [],_=>rfl
 | [_],_=>rfl
 | _::_::l,h=>simp at h;omega
theorem lenD_many{f:UInt8}{xs:Bs}(h:130<f.toNat):lenD (f::xs)=none:=by simp only[lenD];rw[if_neg (by omega),if_neg (by omega),if_neg (by omega)]
theorem lenD_80{f:UInt8}{xs:Bs}(h:f.toNat=128):lenD (f::xs)=none:=by simp only[lenD];rw[if_neg (by omega),if_neg (by omega),if_neg (by omega)]
theorem lenD_few{f:UInt8}{xs:Bs}(h:128+xs.length<f.toNat):lenD (f::xs)=none:=by
 simp only[lenD];rw[if_neg (by omega)];by_cases h1:f.toNat=129
 ·rw[if_pos h1,len1_no (by omega)]
 rw[if_neg h1];by_cases h2:f.toNat=130
 ·rw[if_pos h2,len2_no (by omega)]
 rw[if_neg h2]
theorem lenD_at0(f:UInt8)(xs:Bs)(hf:f.toNat=128+0)(hx:0≤xs.length):lenD (f::xs)=none:=lenD_80 hf
theorem lenD_at1(f:UInt8)(xs:Bs)(hf:f.toNat=128+1)(hx:1≤xs.length):lenD (f::xs)=if digD (bv (xs.take 1))=1 then some (bv (xs.take 1),xs.drop 1) else none:=by
 simp only[lenD];rw[if_neg (by omega),if_pos (by omega)]
 cases xs with
 | nil=>simp at hx
 | cons a xs =>
  have ha:=a.toNat_lt;have e:bv ((a::xs).take 1)=a.toNat:=by simp[bv]
  rw[e];simp only[len1];unfold digD;by_cases h:a.toNat<128
  ·rw[if_pos h,if_pos h];rfl
  ·rw[if_neg h,if_neg h,if_pos (show a.toNat<256 by omega)];rfl
theorem lenD_at2(f:UInt8)(xs:Bs)(hf:f.toNat=128+2)(hx:2≤xs.length):lenD (f::xs)=if digD (bv (xs.take 2))=2 then some (bv (xs.take 2),xs.drop 2) else none:=by
 simp only[lenD];rw[if_neg (by omega),if_neg (by omega),if_pos (by omega)];match xs,hx with
 | [],h=>simp at h
 | [_],h=>simp at h
 | a :: b :: xs, _ =>
  have ha:=a.toNat_lt;have hb:=b.toNat_lt;have e:bv ((a::b::xs).take 2)=a.toNat*256+b.toNat:=by simp[bv]
  rw[e];simp only[len2];unfold digD;by_cases h:a.toNat*256+b.toNat<256
  ·rw[if_pos h,if_pos h];by_cases h':a.toNat*256+b.toNat<128
   ·rw[if_pos h'];rfl
   ·rw[if_neg h'];rfl
  ·rw[if_neg h,if_neg (show ¬a.toNat*256+b.toNat<128 by omega),if_neg h];rfl
theorem splitLength_more(b o c n:Nat)(f:UInt8)(xs:Bs)(P:Nat→Prop)(w:World)(hn:xs.length+1=n)(h:ByV w P (some ⟨b,o,none⟩) c (f::xs))(hc:c≠1):
  Calls Tryz.prog 92 #[.slice (some ⟨b,o,none⟩) n c] w (SlPost w P (lenD (f::xs))):=by
 have hcap:=h.cap;have hbig:=h.big;simp only[List.length_cons,hn]at hcap;have hl:=h.lies;have hf:=f.toNat_lt;have c0:w.cell? ⟨b,o,none⟩=some (.int .u8 (f.toNat:Int)):=by
  obtain⟨b',o',e,hc⟩:=hl (by simp)
  cases e
  have:=hc 0 (by simp);simpa using this
 have hdr:=h.drop 1 (by simp);rw[if_neg hc]at hdr;have hdr1:ByV w P (some ⟨b,o+1,none⟩) (c-1) xs:=by simpa [Addr.add] using hdr
 obtain⟨m,hm⟩:∃m,xs.length=m:=⟨_,rfl⟩
 have hnm:n=m+1:=by omega
 subst hnm;have h1c:(1:Int)≤(c:Int):=by omega
 have hmI:(m:Int)≤9223372036854775806:=by omega
 have hcI:(c:Int)≤9223372036854775807:=by omega
 have hmc:(m:Int)+1≤(c:Int):=by omega
 obtain⟨R,hR⟩:∃R,lenD (f::xs)=R:=⟨_,rfl⟩
 rw[hR];have HR:Hid (lenD (f::xs)=R∧xs.length=m):=⟨hR,hm⟩
 have HD:Hid (ByV w P (some ⟨b,o+1,none⟩) (c-1) xs):=hdr1;obtain⟨F,hF⟩:∃F,f.toNat=F:=⟨_,rfl⟩
 rw[hF]at c0 hf;have HF:Hid (f.toNat=F):=hF;clear hF hR hm hn h hl hdr hdr1;by_cases q1:F<128
 ·have q1I:(F:Int)<128:=by omega
  go_enter Tryz.func92,Tryz.ntmps92;go_wp2_with fail
  go_quiet (fail)
  go_wp2_with fail
  go_ret3
  exact SlPost.yes F xs _ _ _ (by rw[←HR.out.1];simp only[lenD,HF.out,if_pos q1]) (by omega) HR.out.2 HD.out (below_drews (Below.refl _ _) _)
 have q1I:¬(F:Int)<128:=by omega
 by_cases q0:F=128+0
 ·subst q0;have hmin:¬min 2 (m:Int)<0:=by omega
  have hds:(0:Int)≤(c:Int)-1:=by omega
  have HX:=digitsOf_any (bv (xs.take 0));have HB:Hid (bv (xs.take 0)<256^0):=by have:=bv_lt (xs.take 0);rw[List.length_take,HR.out.2,Nat.min_eq_left (by omega)]at this;exact this
  obtain⟨B,hB⟩:∃B,bv (xs.take 0)=B:=⟨_,rfl⟩
  have hLD:R=none:=by rw[←HR.out.1];exact lenD_at0 f xs HF.out (by rw[HR.out.2];omega)
  rw[hB]at HX HB;have HBb:Hid (bv (xs.take 0)=B):=hB;have hBl:B<65536:=Nat.lt_of_lt_of_le HB.out (by decide);have HL:Hid (R=none):=hLD;clear hB hLD;have hmd:0≤m:=by omega
  have hcell:Hid (∀i,i<0→w.cell? ⟨b,o+1+i,none⟩=some (.int .u8 ((xs.getD i 0).toNat:Int))):=fun i hi=>by
   obtain⟨b',o',e,hc⟩:=HD.out.lies (by rw[HR.out.2];omega)
   cases e
   exact hc i (by rw[HR.out.2];omega)
  have HDR:Hid (ByV w P (if c-1=0 then some ⟨b,o+1,none⟩ else some ⟨b,o+1+0,none⟩) (c-1-0) (xs.drop 0)):=by
   have:=HD.out.drop 0 (by rw[HR.out.2];exact hmd);by_cases q:c-1=0
   ·rw[if_pos q]at this;rw[show(if c-1=0 then some (⟨b,o+1,none⟩:Addr) else some ⟨b,o+1+0,none⟩)=some ⟨b,o+1,none⟩ from if_pos q];exact this
   ·rw[if_neg q]at this;rw[show(if c-1=0 then some (⟨b,o+1,none⟩:Addr) else some ⟨b,o+1+0,none⟩)=some ⟨b,o+1+0,none⟩ from if_neg q];exact this
  go_enter Tryz.func92,Tryz.ntmps92;go_wp2_with fail
  go_quiet (fail)
  generalize hwq:World.drewN w nq=wq;have HW:Hid (Below w.heap.size w wq):=by rw[←hwq];exact below_drews (Below.refl _ _) _
  have hcw:Hid (∀i,i<0→wq.cell? ⟨b,o+1+i,none⟩=some (.int .u8 ((xs.getD i 0).toNat:Int))):=fun i hi=>by have:=hcell.out i hi;exact(HW.out.cell (p:=⟨b,o+1+i,none⟩) (World.block_lt_of_cell? w _ this)).trans this
  clear hwq;go_wp2_with fail
  go_loopw [8,35] (fun v8 v35 wr=>∃j:Nat,j≤0∧v35=.int .i64 (j:Int)∧v8=.int .i64 (bv (xs.take j):Int)∧wr=wq) (fun _ v35 _=>0-(intOf v35).toNat)
  case atStart=>exact⟨0,by omega,rfl,by simp[bv],rfl⟩
  case round=>
   obtain⟨j,hj,rfl,rfl,rfl⟩:=hrel;obtain⟨X,hX⟩:∃X,bv (xs.take j)=X:=⟨_,rfl⟩
   have hXl:X<256^j:=by have:=bv_lt (xs.take j);rw[List.length_take,HR.out.2,Nat.min_eq_left (by omega),hX]at this;exact this
   rcases Nat.lt_or_eq_of_le hj with hj|rfl
   ·have hjI:(j:Int)<0:=by omega
    have hj0:(0:Int)≤(j:Int):=by omega
    obtain⟨y,hy⟩:∃y,xs.getD j 0=y:=⟨_,rfl⟩
    have hc':=hcw.out j hj;rw[hy]at hc';have hyl:=y.toNat_lt;have hX7:X<256:=Nat.lt_of_lt_of_le hXl (Nat.le_trans (Nat.pow_le_pow_right (by decide) (show j≤1 by omega)) (by decide));have hor':=i64_or8 X y.toNat hX7 hyl;have hXI:(X:Int)<256:=by omega
    have hn:bv (xs.take (j+1))=X*256+y.toNat:=by
     have hjl:j<xs.length:=by rw[HR.out.2];omega
     rw[take_snoc (c:=y) (by rw[List.getElem?_eq_getElem hjl];simp[List.getD,hjl]at hy;rw[hy]),bv_snoc,hX]
    have HN:Hid (bv (xs.take (j+1))=X*256+y.toNat):=hn;rw[hX];clear hn hX hXl hX7 hy;go_wp2;exact⟨⟨j+1,by omega,by go_num,by rw[HN.out];push_cast;rfl,trivial⟩,by simp only[intOf];omega⟩
   ·have hXB:X=B:=by rw[←hX,HBb.out]
    rw[hX];subst hXB;clear hX hXl;have hXI:(X:Int)<65536:=by omega
    by_cases qc:c-1=0
    ·have HDR':=HDR.out;rw[if_pos qc]at HDR';rw[show c-1-0=0 by omega]at HDR';have HDQ:Hid (ByV w P (some ⟨b,o+1,none⟩) 0 (xs.drop 0)):=HDR';clear HDR';go_wp2_with fail
     go_quiet (fail)
     go_wp2_with fail
     go_ret3
     exact SlPost.no HL.out (below_drews HW.out _)
    ·have HDR':=HDR.out;rw[if_neg qc]at HDR';have HDQ:Hid (ByV w P (some ⟨b,o+1+0,none⟩) (c-1-0) (xs.drop 0)):=HDR';clear HDR';go_wp2_with fail
     go_quiet (fail)
     go_wp2_with fail
     go_ret3
     exact SlPost.no HL.out (below_drews HW.out _)
 by_cases q1:F=128+1
 ·subst q1;by_cases hfew:m<1
  ·have hR0:R=none:=by rw[←HR.out.1];exact lenD_few (by rw[HF.out,HR.out.2];omega)
   have hmin:min 2 (m:Int)<1:=by omega
   go_enter Tryz.func92,Tryz.ntmps92;go_wp2_with fail
   go_quiet (fail)
   go_wp2_with fail
   go_ret3
   exact SlPost.no hR0 (below_drews (Below.refl _ _) _)
  have hmin:¬min 2 (m:Int)<1:=by omega
  have hds:(1:Int)≤(c:Int)-1:=by omega
  have HX:=digitsOf_any (bv (xs.take 1));have HB:Hid (bv (xs.take 1)<256^1):=by have:=bv_lt (xs.take 1);rw[List.length_take,HR.out.2,Nat.min_eq_left (by omega)]at this;exact this
  obtain⟨B,hB⟩:∃B,bv (xs.take 1)=B:=⟨_,rfl⟩
  have hLD:R=if digD B=1 then some (B,xs.drop 1) else none:=by rw[←HR.out.1,←hB];exact lenD_at1 f xs HF.out (by rw[HR.out.2];omega)
  rw[hB]at HX HB;have HBb:Hid (bv (xs.take 1)=B):=hB;have hBl:B<65536:=Nat.lt_of_lt_of_le HB.out (by decide);have HL:Hid (R=if digD B=1 then some (B,xs.drop 1) else none):=hLD;clear hB hLD;have hmd:1≤m:=by omega
  clear hfew;have hcell:Hid (∀i,i<1→w.cell? ⟨b,o+1+i,none⟩=some (.int .u8 ((xs.getD i 0).toNat:Int))):=fun i hi=>by
   obtain⟨b',o',e,hc⟩:=HD.out.lies (by rw[HR.out.2];omega)
   cases e
   exact hc i (by rw[HR.out.2];omega)
  have HDR:Hid (ByV w P (if c-1=1 then some ⟨b,o+1,none⟩ else some ⟨b,o+1+1,none⟩) (c-1-1) (xs.drop 1)):=by
   have:=HD.out.drop 1 (by rw[HR.out.2];exact hmd);by_cases q:c-1=1
   ·rw[if_pos q]at this;rw[show(if c-1=1 then some (⟨b,o+1,none⟩:Addr) else some ⟨b,o+1+1,none⟩)=some ⟨b,o+1,none⟩ from if_pos q];exact this
   ·rw[if_neg q]at this;rw[show(if c-1=1 then some (⟨b,o+1,none⟩:Addr) else some ⟨b,o+1+1,none⟩)=some ⟨b,o+1+1,none⟩ from if_neg q];exact this
  go_enter Tryz.func92,Tryz.ntmps92;go_wp2_with fail
  go_quiet (fail)
  generalize hwq:World.drewN w nq=wq;have HW:Hid (Below w.heap.size w wq):=by rw[←hwq];exact below_drews (Below.refl _ _) _
  have hcw:Hid (∀i,i<1→wq.cell? ⟨b,o+1+i,none⟩=some (.int .u8 ((xs.getD i 0).toNat:Int))):=fun i hi=>by have:=hcell.out i hi;exact(HW.out.cell (p:=⟨b,o+1+i,none⟩) (World.block_lt_of_cell? w _ this)).trans this
  clear hwq;go_wp2_with fail
  go_loopw [8,35] (fun v8 v35 wr=>∃j:Nat,j≤1∧v35=.int .i64 (j:Int)∧v8=.int .i64 (bv (xs.take j):Int)∧wr=wq) (fun _ v35 _=>1-(intOf v35).toNat)
  case atStart=>exact⟨0,by omega,rfl,by simp[bv],rfl⟩
  case round=>
   obtain⟨j,hj,rfl,rfl,rfl⟩:=hrel;obtain⟨X,hX⟩:∃X,bv (xs.take j)=X:=⟨_,rfl⟩
   have hXl:X<256^j:=by have:=bv_lt (xs.take j);rw[List.length_take,HR.out.2,Nat.min_eq_left (by omega),hX]at this;exact this
   rcases Nat.lt_or_eq_of_le hj with hj|rfl
   ·have hjI:(j:Int)<1:=by omega
    have hj0:(0:Int)≤(j:Int):=by omega
    obtain⟨y,hy⟩:∃y,xs.getD j 0=y:=⟨_,rfl⟩
    have hc':=hcw.out j hj;rw[hy]at hc';have hyl:=y.toNat_lt;have hX7:X<256:=Nat.lt_of_lt_of_le hXl (Nat.le_trans (Nat.pow_le_pow_right (by decide) (show j≤1 by omega)) (by decide));have hor':=i64_or8 X y.toNat hX7 hyl;have hXI:(X:Int)<256:=by omega
    have hn:bv (xs.take (j+1))=X*256+y.toNat:=by
     have hjl:j<xs.length:=by rw[HR.out.2];omega
     rw[take_snoc (c:=y) (by rw[List.getElem?_eq_getElem hjl];simp[List.getD,hjl]at hy;rw[hy]),bv_snoc,hX]
    have HN:Hid (bv (xs.take (j+1))=X*256+y.toNat):=hn;rw[hX];clear hn hX hXl hX7 hy;go_wp2;exact⟨⟨j+1,by omega,by go_num,by rw[HN.out];push_cast;rfl,trivial⟩,by simp only[intOf];omega⟩
   ·have hXB:X=B:=by rw[←hX,HBb.out]
    rw[hX];subst hXB;clear hX hXl;have hXI:(X:Int)<65536:=by omega
    by_cases qc:c-1=1
    ·have HDR':=HDR.out;rw[if_pos qc]at HDR';rw[show c-1-1=0 by omega]at HDR';have HDQ:Hid (ByV w P (some ⟨b,o+1,none⟩) 0 (xs.drop 1)):=HDR';clear HDR';by_cases qd:digD X=1
     ·rw[qd]at HX;go_wp2_with fail
      go_quiet ((go_at_call 120;exact Calls.quiet_of_same (HX (by omega) _)))
      go_wp2_with fail
      go_ret3
      exact SlPost.yes X (xs.drop 1) _ _ _ (by rw[HL.out,if_pos qd]) hBl (by rw[List.length_drop,HR.out.2]) HDQ.out (below_drews HW.out _)
     ·obtain⟨Z,hZ⟩:∃Z,digD X=Z:=⟨_,rfl⟩
      have hR0:Hid (R=none):=by rw[HL.out,if_neg qd];exact rfl
      rw[hZ]at HX qd;have hne:((1:Int)==(Z:Int))=false:=by simp;omega
      have hZ2:Z≤2:=by rw[←hZ];unfold digD;(repeat' split)<;>omega
      clear hZ;go_wp2_with fail
      go_quiet ((go_at_call 120;exact Calls.quiet_of_same (HX (by omega) _)))
      go_wp2_with fail
      go_ret3
      exact SlPost.no hR0.out (below_drews HW.out _)
    ·have HDR':=HDR.out;rw[if_neg qc]at HDR';have HDQ:Hid (ByV w P (some ⟨b,o+1+1,none⟩) (c-1-1) (xs.drop 1)):=HDR';clear HDR';by_cases qd:digD X=1
     ·rw[qd]at HX;go_wp2_with fail
      go_quiet ((go_at_call 120;exact Calls.quiet_of_same (HX (by omega) _)))
      go_wp2_with fail
      go_ret3
      exact SlPost.yes X (xs.drop 1) _ _ _ (by rw[HL.out,if_pos qd]) hBl (by rw[List.length_drop,HR.out.2]) HDQ.out (below_drews HW.out _)
     ·obtain⟨Z,hZ⟩:∃Z,digD X=Z:=⟨_,rfl⟩
      have hR0:Hid (R=none):=by rw[HL.out,if_neg qd];exact rfl
      rw[hZ]at HX qd;have hne:((1:Int)==(Z:Int))=false:=by simp;omega
      have hZ2:Z≤2:=by rw[←hZ];unfold digD;(repeat' split)<;>omega
      clear hZ;go_wp2_with fail
      go_quiet ((go_at_call 120;exact Calls.quiet_of_same (HX (by omega) _)))
      go_wp2_with fail
      go_ret3
      exact SlPost.no hR0.out (below_drews HW.out _)
 by_cases q2:F=128+2
 ·subst q2;by_cases hfew:m<2
  ·have hR0:R=none:=by rw[←HR.out.1];exact lenD_few (by rw[HF.out,HR.out.2];omega)
   have hmin:min 2 (m:Int)<2:=by omega
   go_enter Tryz.func92,Tryz.ntmps92;go_wp2_with fail
   go_quiet (fail)
   go_wp2_with fail
   go_ret3
   exact SlPost.no hR0 (below_drews (Below.refl _ _) _)
  have hmin:¬min 2 (m:Int)<2:=by omega
  have hds:(2:Int)≤(c:Int)-1:=by omega
  have HX:=digitsOf_any (bv (xs.take 2));have HB:Hid (bv (xs.take 2)<256^2):=by have:=bv_lt (xs.take 2);rw[List.length_take,HR.out.2,Nat.min_eq_left (by omega)]at this;exact this
  obtain⟨B,hB⟩:∃B,bv (xs.take 2)=B:=⟨_,rfl⟩
  have hLD:R=if digD B=2 then some (B,xs.drop 2) else none:=by rw[←HR.out.1,←hB];exact lenD_at2 f xs HF.out (by rw[HR.out.2];omega)
  rw[hB]at HX HB;have HBb:Hid (bv (xs.take 2)=B):=hB;have hBl:B<65536:=Nat.lt_of_lt_of_le HB.out (by decide);have HL:Hid (R=if digD B=2 then some (B,xs.drop 2) else none):=hLD;clear hB hLD;have hmd:2≤m:=by omega
  clear hfew;have hcell:Hid (∀i,i<2→w.cell? ⟨b,o+1+i,none⟩=some (.int .u8 ((xs.getD i 0).toNat:Int))):=fun i hi=>by
   obtain⟨b',o',e,hc⟩:=HD.out.lies (by rw[HR.out.2];omega)
   cases e
   exact hc i (by rw[HR.out.2];omega)
  have HDR:Hid (ByV w P (if c-1=2 then some ⟨b,o+1,none⟩ else some ⟨b,o+1+2,none⟩) (c-1-2) (xs.drop 2)):=by
   have:=HD.out.drop 2 (by rw[HR.out.2];exact hmd);by_cases q:c-1=2
   ·rw[if_pos q]at this;rw[show(if c-1=2 then some (⟨b,o+1,none⟩:Addr) else some ⟨b,o+1+2,none⟩)=some ⟨b,o+1,none⟩ from if_pos q];exact this
   ·rw[if_neg q]at this;rw[show(if c-1=2 then some (⟨b,o+1,none⟩:Addr) else some ⟨b,o+1+2,none⟩)=some ⟨b,o+1+2,none⟩ from if_neg q];exact this
  go_enter Tryz.func92,Tryz.ntmps92;go_wp2_with fail
  go_quiet (fail)
  generalize hwq:World.drewN w nq=wq;have HW:Hid (Below w.heap.size w wq):=by rw[←hwq];exact below_drews (Below.refl _ _) _
  have hcw:Hid (∀i,i<2→wq.cell? ⟨b,o+1+i,none⟩=some (.int .u8 ((xs.getD i 0).toNat:Int))):=fun i hi=>by have:=hcell.out i hi;exact(HW.out.cell (p:=⟨b,o+1+i,none⟩) (World.block_lt_of_cell? w _ this)).trans this
  clear hwq;go_wp2_with fail
  go_loopw [8,35] (fun v8 v35 wr=>∃j:Nat,j≤2∧v35=.int .i64 (j:Int)∧v8=.int .i64 (bv (xs.take j):Int)∧wr=wq) (fun _ v35 _=>2-(intOf v35).toNat)
  case atStart=>exact⟨0,by omega,rfl,by simp[bv],rfl⟩
  case round=>
   obtain⟨j,hj,rfl,rfl,rfl⟩:=hrel;obtain⟨X,hX⟩:∃X,bv (xs.take j)=X:=⟨_,rfl⟩
   have hXl:X<256^j:=by have:=bv_lt (xs.take j);rw[List.length_take,HR.out.2,Nat.min_eq_left (by omega),hX]at this;exact this
   rcases Nat.lt_or_eq_of_le hj with hj|rfl
   ·have hjI:(j:Int)<2:=by omega
    have hj0:(0:Int)≤(j:Int):=by omega
    obtain⟨y,hy⟩:∃y,xs.getD j 0=y:=⟨_,rfl⟩
    have hc':=hcw.out j hj;rw[hy]at hc';have hyl:=y.toNat_lt;have hX7:X<256:=Nat.lt_of_lt_of_le hXl (Nat.le_trans (Nat.pow_le_pow_right (by decide) (show j≤1 by omega)) (by decide));have hor':=i64_or8 X y.toNat hX7 hyl;have hXI:(X:Int)<256:=by omega
    have hn:bv (xs.take (j+1))=X*256+y.toNat:=by
     have hjl:j<xs.length:=by rw[HR.out.2];omega
     rw[take_snoc (c:=y) (by rw[List.getElem?_eq_getElem hjl];simp[List.getD,hjl]at hy;rw[hy]),bv_snoc,hX]
    have HN:Hid (bv (xs.take (j+1))=X*256+y.toNat):=hn;rw[hX];clear hn hX hXl hX7 hy;go_wp2;exact⟨⟨j+1,by omega,by go_num,by rw[HN.out];push_cast;rfl,trivial⟩,by simp only[intOf];omega⟩
   ·have hXB:X=B:=by rw[←hX,HBb.out]
    rw[hX];subst hXB;clear hX hXl;have hXI:(X:Int)<65536:=by omega
    by_cases qc:c-1=2
    ·have HDR':=HDR.out;rw[if_pos qc]at HDR';rw[show c-1-2=0 by omega]at HDR';have HDQ:Hid (ByV w P (some ⟨b,o+1,none⟩) 0 (xs.drop 2)):=HDR';clear HDR';by_cases qd:digD X=2
     ·rw[qd]at HX;go_wp2_with fail
      go_quiet ((go_at_call 120;exact Calls.quiet_of_same (HX (by omega) _)))
      go_wp2_with fail
      go_ret3
      exact SlPost.yes X (xs.drop 2) _ _ _ (by rw[HL.out,if_pos qd]) hBl (by rw[List.length_drop,HR.out.2]) HDQ.out (below_drews HW.out _)
     ·obtain⟨Z,hZ⟩:∃Z,digD X=Z:=⟨_,rfl⟩
      have hR0:Hid (R=none):=by rw[HL.out,if_neg qd];exact rfl
      rw[hZ]at HX qd;have hne:((2:Int)==(Z:Int))=false:=by simp;omega
      have hZ2:Z≤2:=by rw[←hZ];unfold digD;(repeat' split)<;>omega
      clear hZ;go_wp2_with fail
      go_quiet ((go_at_call 120;exact Calls.quiet_of_same (HX (by omega) _)))
      go_wp2_with fail
      go_ret3
      exact SlPost.no hR0.out (below_drews HW.out _)
    ·have HDR':=HDR.out;rw[if_neg qc]at HDR';have HDQ:Hid (ByV w P (some ⟨b,o+1+2,none⟩) (c-1-2) (xs.drop 2)):=HDR';clear HDR';by_cases qd:digD X=2
     ·rw[qd]at HX;go_wp2_with fail
      go_quiet ((go_at_call 120;exact Calls.quiet_of_same (HX (by omega) _)))
      go_wp2_with fail
      go_ret3
      exact SlPost.yes X (xs.drop 2) _ _ _ (by rw[HL.out,if_pos qd]) hBl (by rw[List.length_drop,HR.out.2]) HDQ.out (below_drews HW.out _)
     ·obtain⟨Z,hZ⟩:∃Z,digD X=Z:=⟨_,rfl⟩
      have hR0:Hid (R=none):=by rw[HL.out,if_neg qd];exact rfl
      rw[hZ]at HX qd;have hne:((2:Int)==(Z:Int))=false:=by simp;omega
      have hZ2:Z≤2:=by rw[←hZ];unfold digD;(repeat' split)<;>omega
      clear hZ;go_wp2_with fail
      go_quiet ((go_at_call 120;exact Calls.quiet_of_same (HX (by omega) _)))
      go_wp2_with fail
      go_ret3
      exact SlPost.no hR0.out (below_drews HW.out _)
 have q4:130<F:=by omega
 have hmin:min 2 (m:Int)<(F:Int)-128:=by omega
 have hR0:R=none:=by rw[←HR.out.1];exact lenD_many (by rw[HF.out];omega)
 go_enter Tryz.func92,Tryz.ntmps92;go_wp2_with fail
 go_quiet (fail)
 go_wp2_with fail
 go_ret3
 exact SlPost.no hR0 (below_drews (Below.refl _ _) _)
end
end Go.Proofs.YtkhnnhbmchnajaaGreat
