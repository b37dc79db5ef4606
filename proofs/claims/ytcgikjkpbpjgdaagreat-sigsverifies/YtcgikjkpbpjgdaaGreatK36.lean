import Derived.Test.YtcgikjkpbpjgdaaGreatK35
import Derived.Test.YtcgikjkpbpjgdaaGreatK24
import Derived.Test.YtcgikjkpbpjgdaaGreatK03
import Derived.Test.YtcgikjkpbpjgdaaGreatK01
import Derived.BigRegion
import Derived.Test.YtcgikjkpbpjgdaaGreatK29
import Derived.Test.YtcgikjkpbpjgdaaGreatK09
import Derived.Test.YtcgikjkpbpjgdaaGreatK08
set_option maxRecDepth 100000
set_option maxHeartbeats 40000000
set_option linter.unusedVariables false
set_option linter.unusedSimpArgs false
namespace Go.Proofs.YtcgikjkpbpjgdaaGreat
open Go.Shelf Go.RowKit
theorem xor8b:∀x:Nat,x<256→∀b:Nat,b<8→0≤bits .xor .u8 (x:Int) (2^b)∧bits .xor .u8 (x:Int) (2^b)<256:=by decide +kernel
theorem xor8z {x:Int} (h:0≤x∧x<256) {b:Nat} (hb:b<8):0≤bits .xor .u8 x (2^b)∧bits .xor .u8 x (2^b)<256:=by obtain⟨n,rfl⟩:=Int.eq_ofNat_of_zero_le h.1;exact xor8b n (by omega) b hb
theorem OwnAt.num {w:World} {g cap:Nat} {xs:List Int} (h:OwnAt 5 .u8 w g cap xs) {n:Nat} (hn:xs.length=n) (hd:Dg 256 xs) (hs:n≤1000):NumIn .u8 256 w (some ⟨g,0,none⟩) n cap xs:=
 ⟨h.lies hn,by have:=h.lc;omega,h.cm,fun h=>(by cases h),hd,by omega⟩
def toB (zs:List Int):Bs:=zs.map fun z=>UInt8.ofNat z.toNat
theorem toB_len (zs:List Int):(toB zs).length=zs.length:=by simp[toB]
theorem row_bat {w:World} {g n:Nat} {zs:List Int} (h:Row 5 .u8 w g zs) (hl:zs.length=n) (hd:Dg 256 zs):BAt w (some ⟨g,0,none⟩) n (toB zs):=by
 intro h0;refine⟨g,0,rfl,fun i hi => ?_⟩;unfold Row at h;rw[Nat.zero_add,cell_of_row w g i _ _ _ h];have hi':i<zs.length:=by omega
 have hz:=hd zs[i] (List.getElem_mem hi');simp[toB,List.getD,hi'];omega
theorem blen_room (V:Int) (h0:0≤V):V<256^((blen V.toNat+7)/8):=by
 have h1:=blen_lt V.toNat;have h2:2^blen V.toNat≤256^((blen V.toNat+7)/8):=by rw[show(256:Nat)=2^8 from rfl,←Nat.pow_mul];exact Nat.pow_le_pow_right (by omega) (by omega)
 have h3:V.toNat<256^((blen V.toNat+7)/8):=Nat.lt_of_lt_of_le h1 h2;have h4:((256^((blen V.toNat+7)/8):Nat):Int)=256^((blen V.toNat+7)/8):=by simp
 omega
theorem u8_powT (b:Nat) (h:b<8):IntKind.u8.wrap (2^b)=2^b:=by
 have h1:∀b,b<8→IntKind.u8.wrap (2^b)=2^b:=by decide
 exact h1 b h
theorem OwnAt.own {w:World} {g cap base:Nat} {xs:List Int} (h:OwnAt 5 .u8 w g cap xs) (hb:base≤g):Own 5 .u8 w base (.slice (some ⟨g,0,none⟩) xs.length cap) xs:=by obtain⟨cur,h1,h2,h3⟩:=h.blk;refine⟨by simp,.inr ⟨g,cap,cur,rfl,hb,h1,h.lc,h.cm,by simpa using h3,?_⟩⟩;simp only[Nat.mul_one];exact h2
theorem hTurned (p:Option Addr) (n c:Nat) (bs:List Int) (pa:Option Addr) (na ca:Nat) (azs:List Int) (pb:Option Addr) (nb cb:Nat) (ds:List Int) (w:World) (h:NumIn .u8 256 w p n c bs) (hn:n≤100000) (ha:Lies .i64 w pa na azs) (hac:na≤ca) (hcm:ca≤maxLen) (hda:∀x∈azs,-9223372036854775808≤x∧x≤9223372036854775807) (hb:Lies .u8 w pb nb ds) (hbc:nb≤cb) (hcm2:cb≤maxLen) (hdb:Dg 256 ds):
  Calls Tryz.prog 14 #[.slice p n c,.slice pa na ca,.slice pb nb cb] w fun e w'=>∃q d zs,e=.returned (.slice q n d)∧Own 5 .u8 w' w.heap.size (.slice q n d) zs∧zs.length=n∧Dg 256 zs∧Below w.heap.size w w':=by
 have hl:=h.lies.len;have hl1:([]:List Int).length+n≤1073741824:=by simp;omega
 unfold maxLen at hcm hcm2;have HH:Hid (NumIn .u8 256 w p n c bs∧Lies .i64 w pa na azs∧Lies .u8 w pb nb ds∧Dg 256 ds∧(∀x∈azs,-9223372036854775808≤x∧x≤9223372036854775807)):=⟨h,ha,hb,hdb,hda⟩
 have HBL:Hid (bs.length=n):=hl;clear h ha hb hdb hda hl;go_enter Tryz.func14,Tryz.ntmps14;go_wp2_with (at_builtin;refine wpList_append_nums rfl _ _ 24 rfl 5 .u8 1 Tryz.underlying24 Tryz.infoB w.heap.size (.slice (some ⟨w.heap.size,0,none⟩) 0 0) [] (by rfl) (own_lit0 5 .u8 w w.heap.size (Nat.le_refl _)) p n c bs (by rfl) ((HH.out.1.old ((Below.refl _ _).alloc (Nat.le_refl _) _)).lies) HH.out.1.nn hl1 (by decide) w ((Below.refl _ _).alloc (Nat.le_refl _) _) (by simp) ?_;intro v8 w8 hown8 hb8 hk8 hs8;rw[List.nil_append]at hown8;obtain⟨ta,tc,rfl,htn⟩:=hown8.num HH.out.1.dg (by rw[HBL.out];exact HH.out.1.sm);rw[HBL.out]at hown8;clear hk8 hs8 htn;rw[HBL.out])
 have HO:Hid (Own 5 .u8 w8 w.heap.size (.slice ta n tc) bs∧Below w.heap.size w w8):=⟨hown8,hb8⟩
 clear hown8 hb8;go_loopw [8] (fun v8 wr=>∃(i:Nat) (zs:List Int),i≤4∧v8=.int .i64 (i:Int)∧Own 5 .u8 wr w.heap.size (.slice ta n tc) zs∧zs.length=n∧Dg 256 zs∧Below w.heap.size w wr) (fun v8 _=>4-(intOf v8).toNat)
 case atStart=>exact⟨0,bs,by omega,rfl,HO.out.1,HBL.out,HH.out.1.dg,HO.out.2⟩
 case round=>
  obtain⟨i,zs,hi,rfl,hown,hzl,hzd,hbr⟩:=hrel;have HR:Hid (Own 5 .u8 wr w.heap.size (.slice ta n tc) zs∧zs.length=n∧Dg 256 zs∧Below w.heap.size w wr):=⟨hown,hzl,hzd,hbr⟩
  clear hown hzl hzd hbr;have HEND:Hid (∃q d zs,Ending.returned (.slice ta n tc)=.returned (.slice q n d)∧Own 5 .u8 wr w.heap.size (.slice q n d) zs∧zs.length=n∧Dg 256 zs∧Below w.heap.size w wr):=⟨ta,tc,zs,rfl,HR.out⟩
  by_cases q1:i<na
  rotate_left
  ·have q1I:decide ((i:Int)<(na:Int))=false:=decide_eq_false (by omega);go_wp2_with fail
   go_ret;exact HEND.out
  have q1I:decide ((i:Int)<(na:Int))=true:=decide_eq_true (by omega);by_cases q2:i<nb
  rotate_left
  ·have q2I:decide ((i:Int)<(nb:Int))=false:=decide_eq_false (by omega);go_wp2_with fail
   go_ret;exact HEND.out
  have q2I:decide ((i:Int)<(nb:Int))=true:=decide_eq_true (by omega);by_cases q3:i<4
  rotate_left
  ·have q3I:decide ((i:Int)<4)=false:=decide_eq_false (by omega);go_wp2_with fail
   go_ret;exact HEND.out
  have q3I:decide ((i:Int)<4)=true:=decide_eq_true (by omega);by_cases q4:0<n
  rotate_left
  ·have q4I:decide ((0:Int)<(n:Int))=false:=decide_eq_false (by omega);go_wp2_with fail
   go_ret;exact HEND.out
  have q4I:decide ((0:Int)<(n:Int))=true:=decide_eq_true (by omega);obtain⟨g,cap,hv,hat,hgb⟩:=HR.out.1.at (by rw[HR.out.2.1];exact q4);rw[HR.out.2.1]at hv;injection hv with hv1 hv2 hv3;subst hv1 hv3;clear hv2;have B0:=HR.out.2.2.2;obtain⟨ba,oa,rfl,hba,hca⟩:=HH.out.2.1.at (by omega);obtain⟨bb,ob,rfl,hbb,hcb⟩:=HH.out.2.2.1.at (by omega);have ka:=(B0.cell (p:=⟨ba,oa+i,none⟩) hba).trans (hca i q1);have kb:=(B0.cell (p:=⟨bb,ob+i,none⟩) hbb).trans (hcb i q2);have hy0:=HH.out.2.2.2.1.getD (by decide) i;obtain⟨x,hx⟩:∃x,azs.getD i 0=x:=⟨_,rfl⟩
  obtain⟨y,hy⟩:∃y,ds.getD i 0=y:=⟨_,rfl⟩
  rw[hx]at ka;rw[hy]at kb hy0;obtain⟨U,hU⟩:∃U,IntKind.u64.wrap x=U:=⟨_,rfl⟩
  have hU0:0≤U∧U<18446744073709551616:=by rw[←hU];simp[IntKind.wrap,IntKind.bits,IntKind.signed];omega
  have n0I:(0:Int)<(n:Int):=by omega
  obtain⟨k,hk,hkn⟩:∃k:Nat,U.tmod (n:Int)=(k:Int)∧k<n:=⟨(U.tmod n).toNat,by have:=Int.tmod_nonneg (n:Int) hU0.1;omega,by have:=Int.tmod_lt_of_pos U n0I;have:=Int.tmod_nonneg (n:Int) hU0.1;omega⟩
  obtain⟨b,hb8,hbl⟩:∃b:Nat,y.tmod 8=(b:Int)∧b<8:=⟨(y.tmod 8).toNat,by have:=Int.tmod_nonneg 8 hy0.1;omega,by have:=Int.tmod_lt_of_pos y (show(0:Int)<8 by decide);have:=Int.tmod_nonneg 8 hy0.1;omega⟩
  have hw8:=u8_powT b hbl;have hnw:IntKind.u64.wrap (n:Int)=(n:Int):=by simp[IntKind.wrap,IntKind.bits,IntKind.signed];omega
  have hkw:IntKind.i64.wrap (k:Int)=(k:Int):=IntWalk.i64_in _ (by omega);have hx0:=HR.out.2.2.1.getD (by decide) k;have hc5:=hat.cell k (by rw[HR.out.2.1];exact hkn);have hf5:=hat.frozen k;obtain⟨x5,hx5⟩:∃x5,zs.getD k 0=x5:=⟨_,rfl⟩
  rw[hx5]at hc5 hx0;obtain⟨z5,hz5⟩:∃z,bits .xor .u8 x5 (2^b)=z:=⟨_,rfl⟩
  have hz0:=xor8z hx0 hbl;rw[hz5]at hz0;have hset:=(hat.set k (by rw[HR.out.2.1];exact hkn) z5).own hgb;rw[List.length_set,HR.out.2.1]at hset;have hbw:=B0.setCell (p:=⟨g,k,none⟩) hgb (.int .u8 z5);have HREL:Hid (Own 5 .u8 ((wr.setCell ⟨g,k,none⟩ (.int .u8 z5)).drew) w.heap.size (.slice (some ⟨g,0,none⟩) n tc) (zs.set k z5)∧(zs.set k z5).length=n∧Dg 256 (zs.set k z5)∧Below w.heap.size w ((wr.setCell ⟨g,k,none⟩ (.int .u8 z5)).drew)):=⟨hset.below (Below.refl _ _).drew,by rw[List.length_set];exact HR.out.2.1,HR.out.2.2.1.set k hz0,hbw.drew⟩
  have hkI:(k:Int)<(n:Int):=by omega
  have hkI0:(0:Int)≤(k:Int):=by omega
  have hbI:(b:Int)<8:=by omega
  have hiI:(i:Int)<(na:Int):=by omega
  have hiJ:(i:Int)<(nb:Int):=by omega
  have hi0:(0:Int)≤(i:Int):=by omega
  have hnn:(n:Int)≠0:=by omega
  clear hset hbw hz0 hx0 hat hgb hx5 hx hy hU0 hca hcb hba hbb B0 hy0 HEND HO;go_wp2_with fail
  go_region
  go_wp2_with fail
  go_roundw
  case rel=>exact⟨i+1,_,by omega,by go_num,HREL.out⟩
  case measure=>simp[intOf];omega
end Go.Proofs.YtcgikjkpbpjgdaaGreat
namespace Go.Proofs.YtcgikjkpbpjgdaaGreat
open Go.RowKit Go.Shelf
section
variable {P N : Nat} [NeZero P] {K : Cz}
theorem sgn_rng (R:RightK K P N) (hN0:0<N) {z secret draw r s:Int} (h:SgnZ K P z secret draw r s):0<r∧r<N∧0<s∧s<N:=by obtain⟨p,i,hpp,hpi,hr,hr0,_,hs,hs0⟩:=h;rw[R.n]at hr hs;have a1:=Int.emod_nonneg p.x (b:=(N:Int)) (by omega);have a2:=Int.emod_lt_of_pos p.x (b:=(N:Int)) (by omega);have a3:=Int.emod_nonneg (((z+(r*secret)%(N:Int))%(N:Int))*i) (b:=(N:Int)) (by omega);have a4:=Int.emod_lt_of_pos (((z+(r*secret)%(N:Int))%(N:Int))*i) (b:=(N:Int)) (by omega);rw[←hr]at a1 a2;rw[←hs]at a3 a4;omega
end
end Go.Proofs.YtcgikjkpbpjgdaaGreat
namespace Go.Proofs.YtcgikjkpbpjgdaaGreat
open Go.Shelf Go.RowKit
def FewB (w w':World) (e:Ending) (M:Nat):Prop:=Below w.heap.size w w'∧∃p m c bs,e=.returned (.slice p m c)∧bs.length=m∧m≤M∧w'.ownsRow w.heap.size 5 1 (.slice p m c) m (Lib.byteCells bs)
theorem rWrite_few (t:Nat) (ht:t<256) (p:Option Addr) (n c:Nat) (l:Bs) (w0 w:World) (hl:l.length=n) (h:BAt w p n l) (hn:n<65536) (hb:Below w0.heap.size w0 w):Calls Tryz.prog 59 #[.int .u8 (t:Int),.slice p n c] w fun e w'=>FewB w0 w' e (n+4):=by
 refine(rWrite_any t ht p n c l w hl h hn).mono ?_;rintro e w' ⟨hb1,v,rfl,ho⟩;obtain⟨q,d,rfl⟩:=owns_slice ho;refine⟨hb.trans (hb1.mono hb.size),q,_,d,UInt8.ofNat t::(headD n++l),rfl,?_,?_,?_⟩
 ·simp;omega
 ·have:=headD_len n;split at this
  ·omega
  ·split at this<;>omega
 ·refine⟨ho.1,?_⟩;rcases ho.2 with h1|⟨g,cap,cur,e1,h1,h2⟩
  ·exact .inl h1
  ·exact .inr ⟨g,cap,cur,e1,by have:=hb.size;omega,h2⟩
theorem hInt (v:Value) (n:Int) (L:Nat) (w:World) (h:Rv w v n L) (hL:L≤1000) (hn:n<16777216):
  Calls Tryz.prog 60 #[v] w fun e w'=>FewB w w' e 20:=by
 have hn0:=h.nonneg;have HLN:=rlen_rv v n L w h (by omega);have hbl:blen n.toNat≤24:=blen_le _ _ (by omega);have hroom:=blen_room n hn0;obtain⟨BL,hBL⟩:∃B,blen n.toNat=B:=⟨_,rfl⟩
 rw[hBL]at hroom hbl HLN;obtain⟨NB,hNB⟩:∃B,(BL+7)/8=B:=⟨_,rfl⟩
 rw[hNB]at hroom;have hNBI:((BL:Int)+7)/8=(NB:Int):=by omega
 have hNB2:NB≤3:=by omega
 obtain⟨a1,a2,a3,a4,rfl,a5,a6,a7,a8⟩:=h;have HBY:=rBytes_big a1 a2 a3 a4 NB w a5 (by omega) (by rw[a7];exact hroom);clear a5 a6 a7 a8 hroom hBL hNB hn0;go_enter Tryz.func60,Tryz.ntmps60;go_wp2_with fail
 refine HLN.mono ?_;rintro e w1 ⟨rfl,hw1⟩;obtain rfl:w=w1:=hw1.symm;clear HLN hw1;go_wp2_with fail
 refine HBY.mono ?_;rintro e w3 ⟨v3,rfl,g3,y3,rfl,r3,l3,d3,_,b3⟩;clear HBY;have HB3:Hid (Below w.heap.size w w3∧BAt w3 (some ⟨g3,0,none⟩) NB (toB y3)∧(toB y3).length=NB):=⟨b3,row_bat r3 l3 d3,by rw[toB_len];exact l3⟩
 have HCL:0<NB→w3.cell? ⟨g3,0,none⟩=some (.int .u8 (y3.getD 0 0))∧0≤y3.getD 0 0:=fun h0=>by
  unfold Row at r3;refine⟨?_,(d3.getD (by decide) 0).1⟩;rw[cell_of_row _ _ 0 _ _ _ r3];match y3,l3 with
  | [],l3=>simp at l3;omega
  | y::ys,_=>rfl
 have HWR:=fun p5 m5 c5 l5 w5 (h1:BAt w5 p5 m5 l5) (h2:l5.length=m5) (h3:m5≤16) (h4:Below w.heap.size w w5)=>(rWrite_few 2 (by omega) p5 m5 c5 l5 w w5 h2 h1 (by omega) h4)
 have HWF:∀e w' m5,m5≤16→FewB w w' e (m5+4)→FewB w w' e 20:=fun e w' m5 h1 ⟨h2,p,m,c,bs,h3,h4,h5,h6⟩=>⟨h2,p,m,c,bs,h3,h4,by omega,h6⟩
 clear r3 l3 d3 b3;by_cases h0:NB=0
 ·subst h0;clear HCL;go_wp2_with (at_builtin;refine wpList_append_wt rfl (.tmp 19) (.tmp 20) rfl w3.heap.size (.slice (some ⟨w3.heap.size,0,none⟩) 1 1) rfl [UInt8.ofNat 0] 1 rfl (owns_lit1 w3 w3.heap.size 0 (by omega) (Nat.le_refl _)) (some ⟨g3,0,none⟩) 0 0 (toB y3) HB3.out.2.2 rfl (HB3.out.2.1.below ((Below.refl _ _).alloc (Nat.le_refl _) _)) (by omega) (by simp) ?_;intro v5 w5 o5 gr5 at5;have B5:Below w3.heap.size w3 w5:=below_grownT ((Below.refl _ _).alloc (Nat.le_refl _) _) (Nat.le_refl _) (owns_lit1 w3 w3.heap.size 0 (by omega) (Nat.le_refl _)) gr5;have HL5:([UInt8.ofNat 0]++toB y3).length=1+0:=(by rw[List.length_append,HB3.out.2.2];rfl);obtain⟨p5,c5,rfl,hv5⟩:=own_byv (l:=[UInt8.ofNat 0]++toB y3) (by rw[HL5];exact o5);rw[HL5];have HW5:Hid (BAt w5 p5 (1+0) ([UInt8.ofNat 0]++toB y3)∧([UInt8.ofNat 0]++toB y3).length=1+0∧Below w.heap.size w w5):=⟨(by have:=hv5.lies;rw[HL5]at this;exact this),HL5,HB3.out.1.trans (B5.mono HB3.out.1.size)⟩;clear at5 gr5 o5 B5 hv5 HL5)
  refine(HWR p5 (1+0) c5 _ w5 HW5.out.1 HW5.out.2.1 (by omega) HW5.out.2.2).mono ?_;intro e w6 h6;have H6:Hid (FewB w w6 e 20):=HWF _ _ _ (by omega) h6;obtain⟨-,p6,m6,c6,bs6,rfl,-⟩:=h6;clear HWR HWF;go_wp2_with fail
  go_ret;exact H6.out
 have h0b:((NB:Int)==0)=false:=by simp;omega
 have h0I:(0:Int)<(NB:Int):=by omega
 obtain⟨k0,ky⟩:=HCL (by omega);obtain⟨Y,hY⟩:∃Y,y3.getD 0 0=Y:=⟨_,rfl⟩
 rw[hY]at k0 ky;clear hY HCL;by_cases h8:128≤Y
 ·go_wp2_with (at_builtin;refine wpList_append_wt rfl (.tmp 19) (.tmp 20) rfl w3.heap.size (.slice (some ⟨w3.heap.size,0,none⟩) 1 1) rfl [UInt8.ofNat 0] 1 rfl (owns_lit1 w3 w3.heap.size 0 (by omega) (Nat.le_refl _)) (some ⟨g3,0,none⟩) NB NB (toB y3) HB3.out.2.2 rfl (HB3.out.2.1.below ((Below.refl _ _).alloc (Nat.le_refl _) _)) (by omega) (by simp) ?_;intro v5 w5 o5 gr5 at5;have B5:Below w3.heap.size w3 w5:=below_grownT ((Below.refl _ _).alloc (Nat.le_refl _) _) (Nat.le_refl _) (owns_lit1 w3 w3.heap.size 0 (by omega) (Nat.le_refl _)) gr5;have HL5:([UInt8.ofNat 0]++toB y3).length=1+NB:=(by rw[List.length_append,HB3.out.2.2];rfl);obtain⟨p5,c5,rfl,hv5⟩:=own_byv (l:=[UInt8.ofNat 0]++toB y3) (by rw[HL5];exact o5);rw[HL5];have HW5:Hid (BAt w5 p5 (1+NB) ([UInt8.ofNat 0]++toB y3)∧([UInt8.ofNat 0]++toB y3).length=1+NB∧Below w.heap.size w w5):=⟨(by have:=hv5.lies;rw[HL5]at this;exact this),HL5,HB3.out.1.trans (B5.mono HB3.out.1.size)⟩;clear at5 gr5 o5 B5 hv5 HL5)
  refine(HWR p5 (1+NB) c5 _ w5 HW5.out.1 HW5.out.2.1 (by omega) HW5.out.2.2).mono ?_;intro e w6 h6;have H6:Hid (FewB w w6 e 20):=HWF _ _ _ (by omega) h6;obtain⟨-,p6,m6,c6,bs6,rfl,-⟩:=h6;clear HWR HWF;go_wp2_with fail
  go_ret;exact H6.out
 ·go_wp2_with fail
  refine(HWR (some ⟨g3,0,none⟩) NB NB _ w3 HB3.out.2.1 HB3.out.2.2 (by omega) HB3.out.1).mono ?_;intro e w6 h6;have H6:Hid (FewB w w6 e 20):=HWF _ _ _ (by omega) h6;obtain⟨-,p6,m6,c6,bs6,rfl,-⟩:=h6;clear HWR HWF;go_wp2_with fail
  go_ret;exact H6.out
end Go.Proofs.YtcgikjkpbpjgdaaGreat
