import Derived.Test.YtkhnnhbmchnajaaGreatK05
import Derived.Deep.Cut
set_option maxRecDepth 100000
set_option maxHeartbeats 40000000
set_option linter.unusedVariables false
set_option linter.unusedSimpArgs false
namespace Go.Proofs.YtkhnnhbmchnajaaGreat
section
open Go.Shelf Go.RowKit
def pieceR(bs:Bs)(tag:Nat):Option (Bs × Bs):=match readD bs with
 | .error _=>none
 | .ok ((t,b),r)=>if t.toNat=tag then some (b,r) else none
def PiPost(w:World)(P:Nat→Prop)(R:Option (Bs × Bs))(e:Ending)(w':World):Prop:=
 Below w.heap.size w w'∧((R=none∧e=.returned (.tuple #[.slice none 0 0,.slice none 0 0,.bool false]))∨∃b r p1 c1 p2 c2,R=some (b,r)∧e=.returned (.tuple #[.slice p1 b.length c1,.slice p2 r.length c2,.bool true])∧ByV w' P p1 c1 b∧ByV w' P p2 c2 r)
theorem pieceR_err{bs:Bs}{tag k:Nat}(h:readD bs=.error k):pieceR bs tag=none:=by unfold pieceR;rw[h]
theorem pieceR_tag{t:UInt8}{xs:Bs}{tag:Nat}(h:t.toNat≠tag):pieceR (t::xs) tag=none:=by
 unfold pieceR readD;split
 ·rfl
 ·rename_i t' b r h1;by_cases h4:4096<(t::xs).length
  ·rw[if_pos h4]at h1;cases h1
  rw[if_neg h4]at h1;simp only[]at h1;by_cases h5:t.toNat%32=31
  ·rw[if_pos h5]at h1;cases h1
  rw[if_neg h5]at h1
  cases hl:lenD xs with
  | none=>rw[hl]at h1;cases h1
  | some q =>
   obtain⟨n,ys⟩:=q;rw[hl]at h1;simp only[]at h1;by_cases h6:ys.length<n
   ·rw[if_pos h6]at h1;cases h1
   rw[if_neg h6]at h1
   cases h1
   rw[if_neg h]
theorem pieceR_cons(t f:UInt8)(xs:Bs)(tag:Nat)(hl:(t::f::xs).length≤4096)(ht:t.toNat%32≠31)(he:t.toNat=tag):pieceR (t::f::xs) tag=match lenD (f::xs) with
  | none=>none
  | some (n,ys)=>if ys.length<n then none else some (ys.take n,ys.drop n):=by
 unfold pieceR;rw[readD_cons t f xs hl ht]
 cases lenD (f::xs) with
 | none=>rfl
 | some q =>
  obtain⟨n,ys⟩:=q;simp only[];by_cases h:ys.length<n
  ·rw[if_pos h,if_pos h]
  ·rw[if_neg h,if_neg h];simp only[];rw[if_pos he]
theorem rPiece(p:Option Addr)(n c:Nat)(bs:Bs)(P:Nat→Prop)(tag:Nat)(ht31:tag%32≠31)(w:World)(hn:bs.length=n)(h:ByV w P p c bs):
  Calls Tryz.prog 58 #[.slice p n c,.int .u8 (tag:Int)] w (PiPost w P (pieceR bs tag)):=by
 have hcap:=h.cap;have hbig:=h.big;rw[hn]at hcap;have hnI:(n:Int)≤9223372036854775807:=by omega
 have hcI:(c:Int)≤9223372036854775807:=by omega
 obtain⟨R,hR⟩:∃R,pieceR bs tag=R:=⟨_,rfl⟩
 rw[hR];have HBAD:Hid (R=none→∀W,Below w.heap.size w W→PiPost w P R (.returned (.tuple #[.slice none 0 0,.slice none 0 0,.bool false])) W):=fun hk W hW=>⟨hW,.inl ⟨hk,rfl⟩⟩
 by_cases h2:n<2
 ·have h2I:(n:Int)<2:=by omega
  have hR3:R=none:=by
   rw[←hR];match bs,hn with
   | [],_=>rfl
   | [t], _ =>
    unfold pieceR readD;rw[if_neg (by simp)];simp only[lenD];by_cases h5:t.toNat%32=31
    ·rw[if_pos h5]
    ·rw[if_neg h5]
   | t::f::xs,hn=>simp at hn;omega
  have HR3:Hid (R=none):=hR3;clear hR hn hR3;go_enter Tryz.func58,Tryz.ntmps58;go_wp2_with fail
  go_ret3
  exact HBAD.out HR3.out _ (Below.refl _ _)
 have h2I:¬(n:Int)<2:=by omega
 by_cases hl:4096<n
 ·have hlI:4096<(n:Int):=by omega
  have hR3:Hid (R=none):=by show R=_;rw[←hR];refine pieceR_err (k:=3) ?_;unfold readD;rw[if_pos (by omega)]
  go_enter Tryz.func58,Tryz.ntmps58;go_wp2_with fail
  go_ret3
  exact HBAD.out hR3.out _ (Below.refl _ _)
 have hlI:¬4096<(n:Int):=by omega
 match bs,hn,h,hR with
 | [],hn,_,_=>simp at hn;omega
 | [t],hn,_,_=>simp at hn;omega
 | t :: f :: xs, hn, h, hR =>
  obtain⟨b,o,rfl,hcl⟩:=h.lies (by simp);have HCL:Hid (∀i,i<n→w.cell? ⟨b,o+i,none⟩=some (.int .u8 (((t::f::xs).getD i 0).toNat:Int))):=fun i hi=>hcl i (by rw[hn];exact hi);have c0:w.cell? ⟨b,o,none⟩=some (.int .u8 (t.toNat:Int)):=by simpa using HCL.out 0 (by omega)
  have c1:w.cell? ⟨b,o+1,none⟩=some (.int .u8 (f.toNat:Int)):=by simpa using HCL.out 1 (by omega)
  have hf:=f.toNat_lt;have k0:(0:Int)<(n:Int):=by omega
  have k1:(1:Int)<(n:Int):=by omega
  have k2:(n:Int)≤(c:Int):=by omega
  obtain⟨TN,hTN⟩:∃T,t.toNat=T:=⟨_,rfl⟩
  obtain⟨F,hF⟩:∃T,f.toNat=T:=⟨_,rfl⟩
  have HX:Hid (t.toNat=TN∧f.toNat=F∧xs.length=n-2∧(t::f::xs).length=n∧ByV w P (some ⟨b,o,none⟩) c (t::f::xs)):=⟨hTN,hF,by simp at hn;omega,hn,h⟩
  rw[hTN]at c0;rw[hF]at c1 hf;have HRR:Hid (pieceR (t::f::xs) tag=R):=hR;clear hTN hF hcl h hR hn;by_cases q1:TN=tag
  rotate_left
  ·have q1I:((TN:Int) != (tag:Int))=true:=by simp;omega
   have hR3:Hid (R=none):=by show R=_;rw[←HRR.out];exact pieceR_tag (by rw[HX.out.1];exact q1)
   clear q1;go_enter Tryz.func58,Tryz.ntmps58;go_wp2_with fail
   go_ret3
   exact HBAD.out hR3.out _ (Below.refl _ _)
  have HR0:Hid (R=match lenD (f::xs) with
    | none=>none
    | some (n,ys)=>if ys.length<n then none else some (ys.take n,ys.drop n)):=by
   show R=_;rw[←HRR.out,pieceR_cons t f xs tag (by rw[HX.out.2.2.2.1];omega) (by rw[HX.out.1,q1];exact ht31) (by rw[HX.out.1];exact q1)]
  subst q1;have q1I:((TN:Int) != (TN:Int))=false:=by simp
  clear HRR;by_cases q2:F<128
  ·have q2I:¬(128:Int)≤(F:Int):=by omega
   have e1:((F:Int)==129)=false:=by simp;omega
   have e2:((F:Int)==130)=false:=by simp;omega
   have HRN:Hid (R=if ((t::f::xs).drop 2).length<F then none else some (((t::f::xs).drop 2).take F,((t::f::xs).drop 2).drop F)):=by show R=_;rw[HR0.out];simp only[lenD];rw[HX.out.2.1,if_pos q2];rfl
   by_cases q5:n-2<F
   ·have q5I:(n:Int)-2<(F:Int):=by omega
    have hR3:Hid (R=none):=by show R=_;rw[HRN.out,if_pos (by rw[List.length_drop,HX.out.2.2.2.1];exact q5)]
    go_enter Tryz.func58,Tryz.ntmps58;go_wp2_with fail
    go_ret3
    exact HBAD.out hR3.out _ (Below.refl _ _)
   have q5I:¬(n:Int)-2<(F:Int):=by omega
   have hR3:Hid (R=some (((t::f::xs).drop 2).take F,((t::f::xs).drop 2).drop F)):=by show R=_;rw[HRN.out,if_neg (by rw[List.length_drop,HX.out.2.2.2.1];exact q5)]
   obtain⟨E,hE⟩:∃E,2+F=E:=⟨_,rfl⟩
   have hEI:(2:Int)+(F:Int)=(E:Int):=by omega
   have m1:(E:Int)≤(n:Int):=by omega
   have m2:(E:Int)≤(c:Int):=by omega
   have m3:(2:Int)≤(E:Int):=by omega
   have m4:(2:Int)≤(c:Int):=by omega
   have HE:Hid (∀W p1 c1 p2 c2,Below w.heap.size w W→ByV w (fun b=>P b∧b<w.heap.size) p1 c1 (((t::f::xs).drop 2).take F)→ByV w (fun b=>P b∧b<w.heap.size) p2 c2 ((t::f::xs).drop E)→PiPost w P R (.returned (.tuple #[.slice p1 (E-2) c1,.slice p2 (n-E) c2,.bool true])) W):=fun W p1 c1 p2 c2 hW hv1 hv2=>by
    have hk2:∀g,(P g∧g<w.heap.size)→g<w.heap.size→W.heap[g]?=w.heap[g]?:=fun g _ hlt=>hW.block g hlt;refine⟨hW,.inr ⟨_,_,p1,c1,p2,c2,hR3.out,?_,(hv1.keep hk2).mono (fun g hg _=>hg.1),?_⟩⟩
    ·have l1:(((t::f::xs).drop 2).take F).length=E-2:=by rw[List.length_take,List.length_drop,HX.out.2.2.2.1];omega
     have l2:(((t::f::xs).drop 2).drop F).length=n-E:=by rw[List.length_drop,List.length_drop,HX.out.2.2.2.1];omega
     rw[l1,l2]
    ·rw[List.drop_drop,hE];exact(hv2.keep hk2).mono (fun g hg _=>hg.1)
   have HV0:ByV w (fun b=>P b∧b<w.heap.size) (some ⟨b,o,none⟩) c (t::f::xs):=HX.out.2.2.2.2.mono (fun g hg hlt=>⟨hg,hlt⟩);have HVA:=(HV0.drop 2 (by rw[HX.out.2.2.2.1];omega)).take F (by rw[List.length_drop,HX.out.2.2.2.1];omega);have HVE:=HV0.drop E (by rw[HX.out.2.2.2.1];omega);clear HV0 hE q5 hR3 HRN HR0;by_cases qa:c=2
   ·have qe:c=E:=by omega
    rw[if_pos qa,show c-2=0 by omega]at HVA;rw[if_pos qe,show c-E=0 by omega]at HVE;have HA:Hid (ByV w (fun b=>P b∧b<w.heap.size) (some ⟨b,o,none⟩) 0 (((t::f::xs).drop 2).take F)):=HVA;have HB:Hid (ByV w (fun b=>P b∧b<w.heap.size) (some ⟨b,o,none⟩) 0 ((t::f::xs).drop E)):=HVE;clear HVA HVE;go_enter Tryz.func58,Tryz.ntmps58;go_wp2_with fail
    go_region
    go_wp2_with fail
    go_ret3
    exact HE.out _ _ _ _ _ (Below.refl _ _).drew HA.out (by rw[show 2-E=0 by omega];exact HB.out)
   rw[if_neg qa]at HVA;have HA:Hid (ByV w (fun b=>P b∧b<w.heap.size) (some ⟨b,o+2,none⟩) (c-2) (((t::f::xs).drop 2).take F)):=HVA;clear HVA;by_cases qe:c=E
   ·rw[if_pos qe,show c-E=0 by omega]at HVE;have HB:Hid (ByV w (fun b=>P b∧b<w.heap.size) (some ⟨b,o,none⟩) 0 ((t::f::xs).drop E)):=HVE;clear HVE;go_enter Tryz.func58,Tryz.ntmps58;go_wp2_with fail
    go_region
    go_wp2_with fail
    go_ret3
    exact HE.out _ _ _ _ _ (Below.refl _ _).drew (by rw[←qe];exact HA.out) HB.out
   rw[if_neg qe,Option.map_some,Addr.add_mid]at HVE;have HB:Hid (ByV w (fun b=>P b∧b<w.heap.size) (some ⟨b,o+E,none⟩) (c-E) ((t::f::xs).drop E)):=HVE;clear HVE;go_enter Tryz.func58,Tryz.ntmps58;go_wp2_with fail
   go_region
   go_wp2_with fail
   go_ret3
   exact HE.out _ _ _ _ _ (Below.refl _ _).drew HA.out HB.out
  have q2I:(128:Int)≤(F:Int):=by omega
  by_cases q4:F=129
  ·have e1:((F:Int)==129)=true:=by simp;omega
   have e2:((F:Int)==130)=false:=by simp;omega
   by_cases q6:n<3
   ·have q6I:¬(3:Int)≤(n:Int):=by omega
    have hxe:xs=[]:=List.eq_nil_of_length_eq_zero (by rw[HX.out.2.2.1];omega);have hR3:Hid (R=none):=by show R=_;rw[HR0.out,hxe];simp only[lenD,len1];rw[HX.out.2.1,if_neg q2,if_pos q4]
    clear q4 hxe;go_enter Tryz.func58,Tryz.ntmps58;go_wp2_with fail
    go_ret3
    exact HBAD.out hR3.out _ (Below.refl _ _)
   have q6I:(3:Int)≤(n:Int):=by omega
   have q7I:(2:Int)<(n:Int):=by omega
   obtain⟨a,ys,hxs⟩:∃a ys,xs=a::ys:=by
    cases hx:xs with
    | nil=>have:=HX.out.2.2.1;rw[hx]at this;simp at this;omega
    | cons a ys=>exact⟨a,ys,rfl⟩
   have c2:w.cell? ⟨b,o+2,none⟩=some (.int .u8 (a.toNat:Int)):=by have:=HCL.out 2 (by omega);rw[hxs]at this;simpa using this
   have ha:=a.toNat_lt;obtain⟨A1,hA1⟩:∃T,a.toNat=T:=⟨_,rfl⟩
   rw[hA1]at c2 ha;have HRA:Hid (R=if A1<128 then none else if ((t::f::xs).drop 3).length<A1 then none else some (((t::f::xs).drop 3).take A1,((t::f::xs).drop 3).drop A1)):=by
    show R=_;rw[HR0.out,hxs];simp only[lenD,len1];rw[HX.out.2.1,if_neg q2,if_pos q4,hA1];by_cases h128:A1<128
    ·rw[if_pos h128,if_pos h128]
    ·rw[if_neg h128,if_neg h128];rfl
   clear hxs hA1 q4;by_cases q8:A1<128
   ·have q8I:¬(128:Int)≤(A1:Int):=by omega
    have hR3:Hid (R=none):=by show R=_;rw[HRA.out,if_pos q8]
    go_enter Tryz.func58,Tryz.ntmps58;go_wp2_with fail
    go_ret3
    exact HBAD.out hR3.out _ (Below.refl _ _)
   have q8I:(128:Int)≤(A1:Int):=by omega
   have HRN:Hid (R=if ((t::f::xs).drop 3).length<A1 then none else some (((t::f::xs).drop 3).take A1,((t::f::xs).drop 3).drop A1)):=by show R=_;rw[HRA.out,if_neg q8]
   clear HRA;by_cases q5:n-3<A1
   ·have q5I:(n:Int)-3<(A1:Int):=by omega
    have hR3:Hid (R=none):=by show R=_;rw[HRN.out,if_pos (by rw[List.length_drop,HX.out.2.2.2.1];exact q5)]
    go_enter Tryz.func58,Tryz.ntmps58;go_wp2_with fail
    go_ret3
    exact HBAD.out hR3.out _ (Below.refl _ _)
   have q5I:¬(n:Int)-3<(A1:Int):=by omega
   have hR3:Hid (R=some (((t::f::xs).drop 3).take A1,((t::f::xs).drop 3).drop A1)):=by show R=_;rw[HRN.out,if_neg (by rw[List.length_drop,HX.out.2.2.2.1];exact q5)]
   obtain⟨E,hE⟩:∃E,3+A1=E:=⟨_,rfl⟩
   have hEI:(3:Int)+(A1:Int)=(E:Int):=by omega
   have m1:(E:Int)≤(n:Int):=by omega
   have m2:(E:Int)≤(c:Int):=by omega
   have m3:(3:Int)≤(E:Int):=by omega
   have m4:(3:Int)≤(c:Int):=by omega
   have HE:Hid (∀W p1 c1 p2 c2,Below w.heap.size w W→ByV w (fun b=>P b∧b<w.heap.size) p1 c1 (((t::f::xs).drop 3).take A1)→ByV w (fun b=>P b∧b<w.heap.size) p2 c2 ((t::f::xs).drop E)→PiPost w P R (.returned (.tuple #[.slice p1 (E-3) c1,.slice p2 (n-E) c2,.bool true])) W):=fun W p1 c1 p2 c2 hW hv1 hv2=>by
    have hk2:∀g,(P g∧g<w.heap.size)→g<w.heap.size→W.heap[g]?=w.heap[g]?:=fun g _ hlt=>hW.block g hlt;refine⟨hW,.inr ⟨_,_,p1,c1,p2,c2,hR3.out,?_,(hv1.keep hk2).mono (fun g hg _=>hg.1),?_⟩⟩
    ·have l1:(((t::f::xs).drop 3).take A1).length=E-3:=by rw[List.length_take,List.length_drop,HX.out.2.2.2.1];omega
     have l2:(((t::f::xs).drop 3).drop A1).length=n-E:=by rw[List.length_drop,List.length_drop,HX.out.2.2.2.1];omega
     rw[l1,l2]
    ·rw[List.drop_drop,hE];exact(hv2.keep hk2).mono (fun g hg _=>hg.1)
   have HV0:ByV w (fun b=>P b∧b<w.heap.size) (some ⟨b,o,none⟩) c (t::f::xs):=HX.out.2.2.2.2.mono (fun g hg hlt=>⟨hg,hlt⟩);have HVA:=(HV0.drop 3 (by rw[HX.out.2.2.2.1];omega)).take A1 (by rw[List.length_drop,HX.out.2.2.2.1];omega);have HVE:=HV0.drop E (by rw[HX.out.2.2.2.1];omega);clear HV0 hE q5 hR3 HRN HR0;have qa:¬c=3:=by omega
   rw[if_neg qa]at HVA;have HA:Hid (ByV w (fun b=>P b∧b<w.heap.size) (some ⟨b,o+3,none⟩) (c-3) (((t::f::xs).drop 3).take A1)):=HVA;clear HVA;by_cases qe:c=E
   ·rw[if_pos qe,show c-E=0 by omega]at HVE;have HB:Hid (ByV w (fun b=>P b∧b<w.heap.size) (some ⟨b,o,none⟩) 0 ((t::f::xs).drop E)):=HVE;clear HVE;go_enter Tryz.func58,Tryz.ntmps58;go_wp2_with fail
    go_region
    go_wp2_with fail
    go_ret3
    exact HE.out _ _ _ _ _ (Below.refl _ _).drew (by rw[←qe];exact HA.out) HB.out
   rw[if_neg qe,Option.map_some,Addr.add_mid]at HVE;have HB:Hid (ByV w (fun b=>P b∧b<w.heap.size) (some ⟨b,o+E,none⟩) (c-E) ((t::f::xs).drop E)):=HVE;clear HVE;go_enter Tryz.func58,Tryz.ntmps58;go_wp2_with fail
   go_region
   go_wp2_with fail
   go_ret3
   exact HE.out _ _ _ _ _ (Below.refl _ _).drew HA.out HB.out
  have e1:((F:Int)==129)=false:=by simp;omega
  by_cases q5:F=130
  rotate_left
  ·have e2:((F:Int)==130)=false:=by simp;omega
   have hR3:Hid (R=none):=by show R=_;rw[HR0.out];simp only[lenD];rw[HX.out.2.1,if_neg q2,if_neg (by omega),if_neg (by omega)]
   clear q4 q5;go_enter Tryz.func58,Tryz.ntmps58;go_wp2_with fail
   go_ret3
   exact HBAD.out hR3.out _ (Below.refl _ _)
  have e2:((F:Int)==130)=true:=by simp;omega
  by_cases q6:n<4
  ·have q6I:¬(4:Int)≤(n:Int):=by omega
   have hR3:Hid (R=none):=by
    show R=_;rw[HR0.out];have hxl:=HX.out.2.2.1;have hlen2:len2 xs=none:=by
     match xs,hxl with
     | [],_=>rfl
     | [_],_=>rfl
     | a::a2::ys,hxl=>simp at hxl;omega
    simp only[lenD];rw[HX.out.2.1,if_neg q2,if_neg q4,if_pos q5,hlen2]
   clear q4 q5;go_enter Tryz.func58,Tryz.ntmps58;go_wp2_with fail
   go_ret3
   exact HBAD.out hR3.out _ (Below.refl _ _)
  have q6I:(4:Int)≤(n:Int):=by omega
  have q7I:(2:Int)<(n:Int):=by omega
  have q7J:(3:Int)<(n:Int):=by omega
  obtain⟨a,a2,ys,hxs⟩:∃a a2 ys,xs=a::a2::ys:=by
   have hxl:=HX.out.2.2.1;match xs,hxl with
   | [],hxl=>simp at hxl;omega
   | [_],hxl=>simp at hxl;omega
   | a::a2::ys,_=>exact⟨a,a2,ys,rfl⟩
  have c2:w.cell? ⟨b,o+2,none⟩=some (.int .u8 (a.toNat:Int)):=by have:=HCL.out 2 (by omega);rw[hxs]at this;simpa using this
  have c3:w.cell? ⟨b,o+3,none⟩=some (.int .u8 (a2.toNat:Int)):=by have:=HCL.out 3 (by omega);rw[hxs]at this;simpa using this
  have ha:=a.toNat_lt;have ha2:=a2.toNat_lt;obtain⟨A1,hA1⟩:∃T,a.toNat=T:=⟨_,rfl⟩
  obtain⟨A2,hA2⟩:∃T,a2.toNat=T:=⟨_,rfl⟩
  rw[hA1]at c2 ha;rw[hA2]at c3 ha2;obtain⟨N4,hN4⟩:∃N,A1*256+A2=N:=⟨_,rfl⟩
  have hN4I:(256:Int)*(A1:Int)+(A2:Int)=(N4:Int):=by omega
  have hN4b:(N4:Int)<65536:=by omega
  have HRA:Hid (R=if N4<256 then none else if ((t::f::xs).drop 4).length<N4 then none else some (((t::f::xs).drop 4).take N4,((t::f::xs).drop 4).drop N4)):=by
   show R=_;rw[HR0.out,hxs];simp only[lenD,len2];rw[HX.out.2.1,if_neg q2,if_neg q4,if_pos q5,hA1,hA2,hN4];by_cases h128:N4<256
   ·rw[if_pos h128,if_pos h128]
   ·rw[if_neg h128,if_neg h128];rfl
  clear hxs hA1 hA2 q4 q5;by_cases q8:A1=0
  ·have q8I:¬(0:Int)<(A1:Int):=by omega
   have hR3:Hid (R=none):=by show R=_;rw[HRA.out,if_pos (by omega)]
   go_enter Tryz.func58,Tryz.ntmps58;go_wp2_with fail
   go_ret3
   exact HBAD.out hR3.out _ (Below.refl _ _)
  have q8I:(0:Int)<(A1:Int):=by omega
  have HRN:Hid (R=if ((t::f::xs).drop 4).length<N4 then none else some (((t::f::xs).drop 4).take N4,((t::f::xs).drop 4).drop N4)):=by show R=_;rw[HRA.out,if_neg (by omega)]
  clear HRA hN4 q8;by_cases q5:n-4<N4
  ·have q5I:(n:Int)-4<(N4:Int):=by omega
   have hR3:Hid (R=none):=by show R=_;rw[HRN.out,if_pos (by rw[List.length_drop,HX.out.2.2.2.1];exact q5)]
   have HN4:Hid ((256:Int)*(A1:Int)+(A2:Int)=(N4:Int)∧(N4:Int)<65536):=⟨hN4I,hN4b⟩
   have HQ5:Hid (_∧(0:Int)<(A1:Int)):=⟨q5I,q8I⟩
   have q8J:0<A1:=by omega
   clear hN4I hN4b q5I q8I;go_enter Tryz.func58,Tryz.ntmps58;go_upto_region 7 with fail
   have hN4I:=HN4.out.1;have hN4b:=HN4.out.2;have q5I:=HQ5.out.1;clear HN4 HQ5;go_quiet (fail)
   generalize hwq:World.drewN w nq=wq;have HS1:Hid (Below w.heap.size w wq):=by rw[←hwq];exact below_drews (Below.refl _ _) _
   clear hwq c0 c1 c2 c3 hN4I hN4b ha ha2;go_wp2_with fail
   go_ret3
   exact HBAD.out hR3.out _ HS1.out
  have q5I:¬(n:Int)-4<(N4:Int):=by omega
  have hR3:Hid (R=some (((t::f::xs).drop 4).take N4,((t::f::xs).drop 4).drop N4)):=by show R=_;rw[HRN.out,if_neg (by rw[List.length_drop,HX.out.2.2.2.1];exact q5)]
  obtain⟨E,hE⟩:∃E,4+N4=E:=⟨_,rfl⟩
  have hEI:(4:Int)+(N4:Int)=(E:Int):=by omega
  have m1:(E:Int)≤(n:Int):=by omega
  have m2:(E:Int)≤(c:Int):=by omega
  have m3:(4:Int)≤(E:Int):=by omega
  have m4:(4:Int)≤(c:Int):=by omega
  have HE:Hid (∀W p1 c1 p2 c2,Below w.heap.size w W→ByV w (fun b=>P b∧b<w.heap.size) p1 c1 (((t::f::xs).drop 4).take N4)→ByV w (fun b=>P b∧b<w.heap.size) p2 c2 ((t::f::xs).drop E)→PiPost w P R (.returned (.tuple #[.slice p1 (E-4) c1,.slice p2 (n-E) c2,.bool true])) W):=fun W p1 c1 p2 c2 hW hv1 hv2=>by
   have hk2:∀g,(P g∧g<w.heap.size)→g<w.heap.size→W.heap[g]?=w.heap[g]?:=fun g _ hlt=>hW.block g hlt;refine⟨hW,.inr ⟨_,_,p1,c1,p2,c2,hR3.out,?_,(hv1.keep hk2).mono (fun g hg _=>hg.1),?_⟩⟩
   ·have l1:(((t::f::xs).drop 4).take N4).length=E-4:=by rw[List.length_take,List.length_drop,HX.out.2.2.2.1];omega
    have l2:(((t::f::xs).drop 4).drop N4).length=n-E:=by rw[List.length_drop,List.length_drop,HX.out.2.2.2.1];omega
    rw[l1,l2]
   ·rw[List.drop_drop,hE];exact(hv2.keep hk2).mono (fun g hg _=>hg.1)
  have HV0:ByV w (fun b=>P b∧b<w.heap.size) (some ⟨b,o,none⟩) c (t::f::xs):=HX.out.2.2.2.2.mono (fun g hg hlt=>⟨hg,hlt⟩);have HVA:=(HV0.drop 4 (by rw[HX.out.2.2.2.1];omega)).take N4 (by rw[List.length_drop,HX.out.2.2.2.1];omega);have HVE:=HV0.drop E (by rw[HX.out.2.2.2.1];omega);clear HV0 hE q5 hR3 HRN HR0;have qa:¬c=4:=by omega
  rw[if_neg qa]at HVA;have HA:Hid (ByV w (fun b=>P b∧b<w.heap.size) (some ⟨b,o+4,none⟩) (c-4) (((t::f::xs).drop 4).take N4)):=HVA;clear HVA;by_cases qe:c=E
  ·rw[if_pos qe,show c-E=0 by omega]at HVE;have HB:Hid (ByV w (fun b=>P b∧b<w.heap.size) (some ⟨b,o,none⟩) 0 ((t::f::xs).drop E)):=HVE;clear HVE;have HN4:Hid ((256:Int)*(A1:Int)+(A2:Int)=(N4:Int)∧(N4:Int)<65536):=⟨hN4I,hN4b⟩
   have HQ5:Hid (_∧(0:Int)<(A1:Int)):=⟨q5I,q8I⟩
   have q8J:0<A1:=by omega
   clear hN4I hN4b q5I q8I;go_enter Tryz.func58,Tryz.ntmps58;go_upto_region 7 with fail
   have hN4I:=HN4.out.1;have hN4b:=HN4.out.2;have q5I:=HQ5.out.1;clear HN4 HQ5;go_quiet (fail)
   generalize hwq:World.drewN w nq=wq;have HS1:Hid (Below w.heap.size w wq):=by rw[←hwq];exact below_drews (Below.refl _ _) _
   clear hwq c0 c1 c2 c3 hN4I hN4b ha ha2;go_wp2_with fail
   go_region
   go_wp2_with fail
   go_ret3
   exact HE.out _ _ _ _ _ HS1.out.drew (by rw[←qe];exact HA.out) HB.out
  rw[if_neg qe,Option.map_some,Addr.add_mid]at HVE;have HB:Hid (ByV w (fun b=>P b∧b<w.heap.size) (some ⟨b,o+E,none⟩) (c-E) ((t::f::xs).drop E)):=HVE;clear HVE;have HN4:Hid ((256:Int)*(A1:Int)+(A2:Int)=(N4:Int)∧(N4:Int)<65536):=⟨hN4I,hN4b⟩
  have HQ5:Hid (_∧(0:Int)<(A1:Int)):=⟨q5I,q8I⟩
  have q8J:0<A1:=by omega
  clear hN4I hN4b q5I q8I;go_enter Tryz.func58,Tryz.ntmps58;go_upto_region 7 with fail
  have hN4I:=HN4.out.1;have hN4b:=HN4.out.2;have q5I:=HQ5.out.1;clear HN4 HQ5;go_quiet (fail)
  generalize hwq:World.drewN w nq=wq;have HS1:Hid (Below w.heap.size w wq):=by rw[←hwq];exact below_drews (Below.refl _ _) _
  clear hwq c0 c1 c2 c3 hN4I hN4b ha ha2;go_wp2_with fail
  go_region
  go_wp2_with fail
  go_ret3
  exact HE.out _ _ _ _ _ HS1.out.drew HA.out HB.out
end
end Go.Proofs.YtkhnnhbmchnajaaGreat
