import Derived.Test.YtkhnnhbmchnajaaGreatK34
import Derived.Test.YtkhnnhbmchnajaaGreatK33
import Derived.Test.YtkhnnhbmchnajaaGreatK08
import Derived.Test.YtkhnnhbmchnajaaGreatK22
set_option maxRecDepth 100000
set_option maxHeartbeats 40000000
set_option linter.unusedVariables false
set_option linter.unusedSimpArgs false
namespace Go.Proofs.YtkhnnhbmchnajaaGreat
section
open Go.Shelf Go.RowKit
def FewX (w w':World)(e:Ending)(B:Bs):Prop:=Below w.heap.size w w'∧∃p m c,e=.returned (.slice p m c)∧B.length=m∧w'.ownsRow w.heap.size 5 1 (.slice p m c) m (Lib.byteCells B)
def IntB (b:Bs)(n:Int):Prop:=b.length≤16∧∃x,intL b=some x∧nI x=n∧x.length≤16
theorem rWrite_x(t:Nat)(ht:t<256)(p:Option Addr)(n c:Nat)(l:Bs)(w0 w:World)(hl:l.length=n)(h:BAt w p n l)(hn:n<65536)(hb:Below w0.heap.size w0 w):Calls Tryz.prog 34 #[.int .u8 (t:Int),.slice p n c] w fun e w'=>FewX w0 w' e (writeD (UInt8.ofNat t) l):=by
 refine(rWrite_any t ht p n c l w hl h hn).mono ?_;rintro e w' ⟨hb1,v,rfl,ho⟩;obtain⟨q,d,rfl⟩:=owns_slice ho;have hW:writeD (UInt8.ofNat t) l=UInt8.ofNat t::(headD n++l):=by unfold writeD;rw[hl]
 refine⟨hb.trans (hb1.mono hb.size),q,_,d,rfl,?_,?_⟩
 ·rw[hW];simp;omega
 ·rw[hW];refine⟨ho.1,?_⟩;rcases ho.2 with h1|⟨g,cap,cur,e1,h1,h2⟩
  ·exact .inl h1
  ·exact .inr ⟨g,cap,cur,e1,by have:=hb.size;omega,h2⟩
theorem ints_toB{y:List Int}(h:Dg 256 y):intsB (toB y)=y:=by
 unfold intsB toB;rw[List.map_map];conv=>rhs;rw[←List.map_id y]
 apply List.map_congr_left;intro z hz;have:=h z hz;simp[UInt8.toNat_ofNat];omega
theorem nI_toB{y:List Int}(h:Dg 256 y):nI (toB y)=val 256 y.reverse:=by unfold nI;rw[ints_toB h]
theorem int_zero:IntB [UInt8.ofNat 0] 0:=⟨by decide,[UInt8.ofNat 0],by decide,by decide,by decide⟩
theorem toB_head{Y:Int}{ys:List Int}(hY:0≤Y∧Y<256):toB (Y::ys)=UInt8.ofNat Y.toNat::toB ys∧(UInt8.ofNat Y.toNat).toNat=Y.toNat:=by refine⟨rfl,?_⟩;simp[UInt8.toNat_ofNat];omega
theorem int_high{y:List Int}{n:Int}(hd:Dg 256 y)(hl:y.length≤15)(hv:val 256 y.reverse=n)(h0:0<y.length)(h8:128≤y.getD 0 0):IntB (UInt8.ofNat 0::toB y) n:=by
 refine⟨by simp[toB_len];omega,toB y,?_,by rw[nI_toB hd];exact hv,by rw[toB_len];omega⟩;match y,h0,h8,hd with
 | Y::ys,_,h8,hd=>
  have hY:=hd Y (by simp);simp at h8;obtain⟨e1,e2⟩:=toB_head (ys:=ys) hY;rw[intL_cons,if_neg (by decide),if_pos ⟨by decide,by rw[e1];simp⟩,e1,List.getD_cons_zero,e2,if_neg (by omega)]
theorem int_low{y:List Int}{n:Int}(hd:Dg 256 y)(hl:y.length≤16)(hv:val 256 y.reverse=n)(h0:0<y.length)(hn:(256:Int)^(y.length-1)≤n)(h8:¬128≤y.getD 0 0):IntB (toB y) n:=by
 refine⟨by rw[toB_len];omega,toB y,?_,by rw[nI_toB hd];exact hv,by rw[toB_len];omega⟩;match y,h0,h8,hd,hv,hn with
 | Y :: ys, _, h8, hd, hv, hn =>
  have hY:=hd Y (by simp);simp at h8;obtain⟨e1,e2⟩:=toB_head (ys:=ys) hY;have hY0:Y≠0:=by rintro rfl;rw[List.reverse_cons,val_snoc]at hv;have hlt:=val_lt (B:=256) (by decide) (fun z hz=>hd z (List.mem_cons_of_mem _ (List.mem_reverse.1 hz)):Dg 256 ys.reverse);rw[List.length_reverse]at hlt;simp at hn hv;omega
  rw[e1,intL_cons,e2,if_neg (by omega),if_neg (by omega)]
theorem blen_low{n:Int}(h0:0<n):(256:Int)^((blen n.toNat+7)/8-1)≤n:=by
 have h1:=blen_ge n.toNat (by omega);have h2:(2:Nat)^(8*((blen n.toNat+7)/8-1))≤2^(blen n.toNat-1):=Nat.pow_le_pow_right (by decide) (by omega);rw[Nat.pow_mul]at h2;have h3:((2^8)^((blen n.toNat+7)/8-1):Nat)≤n.toNat:=Nat.le_trans h2 h1;have h4:(((2^8)^((blen n.toNat+7)/8-1):Nat):Int)=256^((blen n.toNat+7)/8-1):=by simp
 omega
theorem hIntX(v:Value)(n:Int)(L:Nat)(w:World)(h:Rv w v n L)(hL:L≤1000)(hn:n<16777216):
  Calls Tryz.prog 35 #[v] w fun e w'=>∃b,FewX w w' e (writeD (UInt8.ofNat 2) b)∧IntB b n:=by
 have hn0:=h.nonneg;have HLN:=rlen_rv v n L w h (by omega);have hbl:blen n.toNat≤24:=blen_le _ _ (by omega);have hroom:=blen_room n hn0;have hlow:0<n→(256:Int)^((blen n.toNat+7)/8-1)≤n:=blen_low;have hzer:n≠0→0<(blen n.toNat+7)/8:=fun h=>by have:=blen_pos n.toNat (by omega);omega
 have hnul:n=0→(blen n.toNat+7)/8=0:=fun h=>by rw[h];rfl
 obtain⟨BL,hBL⟩:∃B,blen n.toNat=B:=⟨_,rfl⟩
 rw[hBL]at hroom hbl HLN hlow hzer hnul;obtain⟨NB,hNB⟩:∃B,(BL+7)/8=B:=⟨_,rfl⟩
 rw[hNB]at hroom hlow hzer hnul;have hNBI:((BL:Int)+7)/8=(NB:Int):=by omega
 have hNB2:NB≤3:=by omega
 obtain⟨a1,a2,a3,a4,rfl,a5,a6,a7,a8⟩:=h;have HBY:=rBytes_big a1 a2 a3 a4 NB w a5 (by omega) (by rw[a7];exact hroom);rw[a7]at HBY;clear a5 a6 a7 a8 hroom hBL hNB;go_enter Tryz.func35,Tryz.ntmps35;go_wp2_with fail
 refine HLN.mono ?_;rintro e w1 ⟨rfl,hw1⟩;obtain rfl:w=w1:=hw1.symm;clear HLN hw1;go_wp2_with fail
 refine HBY.mono ?_;rintro e w3 ⟨v3,rfl,g3,y3,rfl,r3,l3,d3,vy3,b3⟩;clear HBY;have HB3:Hid (Below w.heap.size w w3∧BAt w3 (some ⟨g3,0,none⟩) NB (toB y3)∧(toB y3).length=NB):=⟨b3,row_bat r3 l3 d3,by rw[toB_len];exact l3⟩
 have HYN:Hid (Dg 256 y3∧y3.length=NB∧val 256 y3.reverse=n∧(NB=0→n=0)∧(0<NB→(256:Int)^(NB-1)≤n)):=⟨d3,l3,vy3,fun h=>by
  by_cases hz:n=0
  ·exact hz
  ·have:=hzer hz;omega,fun h=>hlow (by
  by_cases hz:n=0
  ·have:=hnul hz;omega
  ·omega)⟩
 have HCL:0<NB→w3.cell? ⟨g3,0,none⟩=some (.int .u8 (y3.getD 0 0))∧0≤y3.getD 0 0:=fun h0=>by
  unfold Row at r3;refine⟨?_,(d3.getD (by decide) 0).1⟩;rw[cell_of_row _ _ 0 _ _ _ r3];match y3,l3 with
  | [],l3=>simp at l3;omega
  | y::ys,_=>rfl
 have HWR:=fun p5 m5 c5 l5 w5 (h1:BAt w5 p5 m5 l5) (h2:l5.length=m5) (h3:m5≤16) (h4:Below w.heap.size w w5)=>(rWrite_x 2 (by omega) p5 m5 c5 l5 w w5 h2 h1 (by omega) h4)
 clear r3 l3 d3 b3 vy3 hlow hzer hnul;by_cases h0:NB=0
 ·subst h0;clear HCL;go_wp2_with (at_builtin;refine wpList_append_wt rfl (.tmp 19) (.tmp 20) rfl w3.heap.size (.slice (some ⟨w3.heap.size,0,none⟩) 1 1) rfl [UInt8.ofNat 0] 1 rfl (owns_lit1 w3 w3.heap.size 0 (by omega) (Nat.le_refl _)) (some ⟨g3,0,none⟩) 0 0 (toB y3) HB3.out.2.2 rfl (HB3.out.2.1.below ((Below.refl _ _).alloc (Nat.le_refl _) _)) (by omega) (by simp) ?_;intro v5 w5 o5 gr5 at5;have B5:Below w3.heap.size w3 w5:=below_grownT ((Below.refl _ _).alloc (Nat.le_refl _) _) (Nat.le_refl _) (owns_lit1 w3 w3.heap.size 0 (by omega) (Nat.le_refl _)) gr5;have HL5:([UInt8.ofNat 0]++toB y3).length=1+0:=(by rw[List.length_append,HB3.out.2.2];rfl);obtain⟨p5,c5,rfl,hv5⟩:=own_byv (l:=[UInt8.ofNat 0]++toB y3) (by rw[HL5];exact o5);rw[HL5];have HW5:Hid (BAt w5 p5 (1+0) ([UInt8.ofNat 0]++toB y3)∧([UInt8.ofNat 0]++toB y3).length=1+0∧Below w.heap.size w w5):=⟨(by have:=hv5.lies;rw[HL5]at this;exact this),HL5,HB3.out.1.trans (B5.mono HB3.out.1.size)⟩;clear at5 gr5 o5 B5 hv5 HL5)
  have HB:IntB ([UInt8.ofNat 0]++toB y3) n:=by have e0:y3=[]:=List.eq_nil_of_length_eq_zero HYN.out.2.1;rw[HYN.out.2.2.2.1 (by trivial),e0];exact int_zero
  refine(HWR p5 (1+0) c5 _ w5 HW5.out.1 HW5.out.2.1 (by omega) HW5.out.2.2).mono ?_;intro e w6 h6;have H6:Hid (∃b,FewX w w6 e (writeD (UInt8.ofNat 2) b)∧IntB b n):=⟨_,h6,HB⟩
  obtain⟨-,p6,m6,c6,rfl,-⟩:=h6;clear HWR HB;go_wp2_with fail
  go_ret;exact H6.out
 have h0b:((NB:Int)==0)=false:=by simp;omega
 have h0I:(0:Int)<(NB:Int):=by omega
 obtain⟨k0,ky⟩:=HCL (by omega);obtain⟨Y,hY⟩:∃Y,y3.getD 0 0=Y:=⟨_,rfl⟩
 rw[hY]at k0 ky;have HY8:Hid (y3.getD 0 0=Y):=hY;clear hY HCL;by_cases h8:128≤Y
 ·go_wp2_with (at_builtin;refine wpList_append_wt rfl (.tmp 19) (.tmp 20) rfl w3.heap.size (.slice (some ⟨w3.heap.size,0,none⟩) 1 1) rfl [UInt8.ofNat 0] 1 rfl (owns_lit1 w3 w3.heap.size 0 (by omega) (Nat.le_refl _)) (some ⟨g3,0,none⟩) NB NB (toB y3) HB3.out.2.2 rfl (HB3.out.2.1.below ((Below.refl _ _).alloc (Nat.le_refl _) _)) (by omega) (by simp) ?_;intro v5 w5 o5 gr5 at5;have B5:Below w3.heap.size w3 w5:=below_grownT ((Below.refl _ _).alloc (Nat.le_refl _) _) (Nat.le_refl _) (owns_lit1 w3 w3.heap.size 0 (by omega) (Nat.le_refl _)) gr5;have HL5:([UInt8.ofNat 0]++toB y3).length=1+NB:=(by rw[List.length_append,HB3.out.2.2];rfl);obtain⟨p5,c5,rfl,hv5⟩:=own_byv (l:=[UInt8.ofNat 0]++toB y3) (by rw[HL5];exact o5);rw[HL5];have HW5:Hid (BAt w5 p5 (1+NB) ([UInt8.ofNat 0]++toB y3)∧([UInt8.ofNat 0]++toB y3).length=1+NB∧Below w.heap.size w w5):=⟨(by have:=hv5.lies;rw[HL5]at this;exact this),HL5,HB3.out.1.trans (B5.mono HB3.out.1.size)⟩;clear at5 gr5 o5 B5 hv5 HL5)
  refine(HWR p5 (1+NB) c5 _ w5 HW5.out.1 HW5.out.2.1 (by omega) HW5.out.2.2).mono ?_;intro e w6 h6;have H6:Hid (∃b,FewX w w6 e (writeD (UInt8.ofNat 2) b)∧IntB b n):=⟨_,h6,int_high HYN.out.1 (by have:=HYN.out.2.1;omega) HYN.out.2.2.1 (by have:=HYN.out.2.1;omega) (by rw[HY8.out];exact h8)⟩
  obtain⟨-,p6,m6,c6,rfl,-⟩:=h6;clear HWR;go_wp2_with fail
  go_ret;exact H6.out
 ·go_wp2_with fail
  refine(HWR (some ⟨g3,0,none⟩) NB NB _ w3 HB3.out.2.1 HB3.out.2.2 (by omega) HB3.out.1).mono ?_;intro e w6 h6;have H6:Hid (∃b,FewX w w6 e (writeD (UInt8.ofNat 2) b)∧IntB b n):=⟨_,h6,int_low HYN.out.1 (by have:=HYN.out.2.1;omega) HYN.out.2.2.1 (by have:=HYN.out.2.1;omega) (by rw[HYN.out.2.1];exact HYN.out.2.2.2.2 (by omega)) (by rw[HY8.out];omega)⟩
  obtain⟨-,p6,m6,c6,rfl,-⟩:=h6;clear HWR;go_wp2_with fail
  go_ret;exact H6.out
theorem two_ex(j:Nat)(hj:j<3){P N:Nat}[NeZero P](R:RightK (curZ j) P N):∃q,Mt (curZ j) P (baseZ (curZ j)) 2 q∧q.inf=false∧q.x%(curZ j).n≠0∧q.x%(curZ j).n≠(curZ j).gx%(curZ j).n∧(curZ j).gx%(curZ j).n≠0:=by
 have h1:=Mt.one R.good R.base;have go:∀q:Pz,AddZ (curZ j) (baseZ (curZ j)) (baseZ (curZ j)) (some q)→Mt (curZ j) P (baseZ (curZ j)) 2 q:=fun q h=>by obtain⟨s,e,hs⟩:=Mt.add R.good R.base h1 h1 h;injection e with e;rw[e];exact hs
 obtain rfl|rfl|rfl:j=0∨j=1∨j=2:=by omega
 ·refine⟨⟨200,9,false⟩,go _ ?_,rfl,by decide +kernel,by decide +kernel,by decide +kernel⟩;unfold AddZ;rw[if_neg (by decide +kernel),if_neg (by decide +kernel),if_neg (by decide +kernel)];unfold AddN;rw[if_neg (by decide +kernel),if_neg (by decide +kernel)];exact⟨82,by decide +kernel,by decide +kernel,⟨49,by decide +kernel⟩,by simp only[Option.some.injEq,Pz.mk.injEq,and_true];decide +kernel⟩
 ·refine⟨⟨1643,429,false⟩,go _ ?_,rfl,by decide +kernel,by decide +kernel,by decide +kernel⟩;unfold AddZ;rw[if_neg (by decide +kernel),if_neg (by decide +kernel),if_neg (by decide +kernel)];unfold AddN;rw[if_neg (by decide +kernel),if_neg (by decide +kernel)];exact⟨1377,by decide +kernel,by decide +kernel,⟨1261,by decide +kernel⟩,by simp only[Option.some.injEq,Pz.mk.injEq,and_true];decide +kernel⟩
 ·refine⟨⟨4001,4976,false⟩,go _ ?_,rfl,by decide +kernel,by decide +kernel,by decide +kernel⟩;unfold AddZ;rw[if_neg (by decide +kernel),if_neg (by decide +kernel),if_neg (by decide +kernel)];unfold AddN;rw[if_neg (by decide +kernel),if_neg (by decide +kernel)];exact⟨36728,by decide +kernel,by decide +kernel,⟨33039,by decide +kernel⟩,by simp only[Option.some.injEq,Pz.mk.injEq,and_true];decide +kernel⟩
section
variable {P : Nat} [NeZero P] {K : Cz} {N : Nat}
theorem no_sum(R:RightK K P N)(hp:PrimeN N){z secret draw:Int}(hd:0<draw∧draw<N){p:Pz}(hpt:Mt K P (baseZ K) draw.toNat p)(hr0:p.x%K.n≠0)(h:SgnNo K P z secret draw):Cg N (z+p.x*secret) 0:=by
 obtain⟨q,hq,h⟩:=h;have e:=Mt.uniq R.good hq hpt;subst e;have hn:=R.n;have hi:=mt_fin R hp rfl (by omega) (by omega) hq;rw[hn]at h hr0;rcases h with h|h|h|⟨i,h1,h2⟩
 ·rw[hi]at h
  cases h
 ·exact absurd h hr0
 ·exact absurd (gd_prime hp draw (by omega) hd.2) h
 ·have c1:Cg (N:Int) (((z+(q.x%N*secret)%N)%N)*i) ((z+q.x*secret)*i):=((Cg.mod _ _).trans ((Cg.refl _ _).add ((Cg.mod _ _).trans ((Cg.mod _ _).mul (Cg.refl _ _))))).mul (Cg.refl _ _);have c2:Cg (N:Int) ((z+q.x*secret)*i) 0:=c1.symm.trans (by
   have:=Cg.mod (N:Int) (((z+(q.x%N*secret)%N)%N)*i);rw[h2]at this;exact this.symm)
  have c3:=c2.mul (Cg.refl (N:Int) draw);have c4:=(Cg.refl (N:Int) (z+q.x*secret)).mul h1;rw[Int.mul_one]at c4;rw[Int.zero_mul,Int.mul_assoc]at c3;exact c4.symm.trans c3
theorem cg_cancel(hp:PrimeN N){a b:Int}(h:Cg N (a*b) 0)(hb:0<b∧b<N):a%(N:Int)=0:=by
 have hN0:(0:Int)<N:=by omega
 obtain⟨y,_,_,hy⟩:=inv_ex (m:=(N:Int)) (a:=b) hN0 (gd_prime hp b (by omega) hb.2);have h1:=(Cg.refl (N:Int) y).mul h;have h2:Cg (N:Int) (y*(a*b)) a:=by have:=(Cg.refl (N:Int) a).mul hy;rw[Int.mul_one]at this;exact Cg.trans (Cg.of_eq (by grind)) this
 rw[Int.mul_zero]at h1;have:=(h2.symm.trans h1).emod;simpa using this
theorem draw_at{m d0 t:Int}(hm:0<m)(h0:0≤d0)(ht:0≤t)(ht2:t<m):∃i:Nat,(i:Int)<m∧(d0+i)%m=t:=by have h1:=Int.emod_nonneg (t-d0) (b:=m) (by omega);have h2:=Int.emod_lt_of_pos (t-d0) hm;refine⟨((t-d0)%m).toNat,by omega,?_⟩;rw[Int.toNat_of_nonneg h1];have:Cg m (d0+(t-d0)%m) t:=((Cg.refl m d0).add (Cg.mod m (t-d0))).trans (Cg.of_eq (by omega));rw[this.emod,Int.emod_eq_of_lt ht ht2]
end
theorem sgn_some(j:Nat)(hj:j<3){P N:Nat}[NeZero P](R:RightK (curZ j) P N)(hp:PrimeN N)(hN:270<N){z secret d0:Int}(hs:0<secret∧secret<N)(h0:0≤d0)(h:∀i:Nat,(i:Int)<(curZ j).n→SgnNo (curZ j) P z secret (1+(d0+i)%((curZ j).n-1))):False:=by have hn:=R.n;obtain⟨q,hq,hqi,hq0,hqg,hg0⟩:=two_ex j hj R;rw[hn]at h;obtain⟨i,hi,ei⟩:=draw_at (m:=(N:Int)-1) (d0:=d0) (t:=0) (by omega) h0 (by omega) (by omega);obtain⟨k,hk,ek⟩:=draw_at (m:=(N:Int)-1) (d0:=d0) (t:=1) (by omega) h0 (by omega) (by omega);have a1:=h i (by omega);have a2:=h k (by omega);rw[ei]at a1;rw[ek]at a2;have b1:=no_sum R hp (draw:=1+0) (by omega) (p:=baseZ (curZ j)) (by exact Mt.one R.good R.base) hg0 a1;have b2:=no_sum R hp (draw:=1+1) (by omega) (p:=q) (by exact hq) hq0 a2;have b3:=b2.sub b1;have b4:Cg (N:Int) ((q.x-(curZ j).gx)*secret) 0:=Cg.trans (Cg.of_eq (by unfold baseZ;grind)) b3;have b5:=cg_cancel hp b4 hs;apply hqg;rw[hn];have b6:Cg (N:Int) (q.x-(curZ j).gx) 0:=((Cg.mod _ _).symm).trans (Cg.of_eq b5);have b7:=b6.add (Cg.refl (N:Int) (curZ j).gx);have b8:=b7.emod;rw[show q.x-(curZ j).gx+(curZ j).gx=q.x by omega,Int.zero_add]at b8;exact b8
end
end Go.Proofs.YtkhnnhbmchnajaaGreat
