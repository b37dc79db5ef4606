import Derived.Test.YtkhnnhbmchnajaaGreatK19
import Derived.Test.YtkhnnhbmchnajaaGreatK09
import Derived.Test.YtkhnnhbmchnajaaGreatK18
import Derived.Test.YtkhnnhbmchnajaaGreatK08
import Derived.Deep.MidRow
import Derived.Deep.WholeRow
import Derived.Deep.LoopGhost
import Derived.Laws.CopyRow
set_option maxRecDepth 100000
set_option maxHeartbeats 40000000
set_option linter.unusedVariables false
set_option linter.unusedSimpArgs false
namespace Go.Proofs.YtkhnnhbmchnajaaGreat
section
open Go.Shelf Go.RowKit
theorem Nc.one{w:World}{v:Value}{n:Int}{L:Nat}(h:Nc w v n L)(h1:n<18446744073709551616):Nv w v n 4:=by obtain⟨ao,l,c,xs,rfl,h2,h3,h4,h5⟩:=h;have:=fit_len (B:=B64) (by decide) h2.dg h3 (d:=1) (by rw[h4];simpa [B64] using h1);have hl:=h2.lies.len;exact⟨ao,l,c,xs,rfl,h2,h4,by omega⟩
theorem cVerify_big{P:Nat}[NeZero P]{K:Cz}(g:GoodK K P)(hbs:Gd K P (baseZ K))(q:Pz)(c qv:Value)(ao:Option Addr)(nh ca:Nat)(bs:List Int)(r s:Value)(x y:Int)(w:World)(hN:0≤K.n)(hN2:K.n<18446744073709551616)(hc:Cu w c K 4)(hq:Pv w qv q 4)(hh:NumIn .u8 256 w ao nh ca bs)(hn:nh≤512)(hr:Nc w r x 64)(hs:Nc w s y 64):
  Calls Tryz.prog 51 #[c,qv,.slice ao nh ca,r,s] w fun e w'=>∃b,VerZ K P q (digZ K.n nh bs) x y b∧e=.returned (.bool b)∧Below w.heap.size w w':=by
 by_cases hx:x<K.n∧y<K.n
 ·exact cVerify_any g hbs q c qv ao nh ca bs r s x y w hN hc hq hh hn (hr.one (by omega)) (hs.one (by omega))
 ·have hfin:∀w',VerNo K q x y→Below w.heap.size w w'→∃b,VerZ K P q (digZ K.n nh bs) x y b∧Ending.returned (.bool false)=.returned (.bool b)∧Below w.heap.size w w':=fun w' hno hb=>⟨false,.inl ⟨hno,rfl⟩,rfl,hb⟩
  have hq2:Pv w qv q 64:=by obtain⟨vx,vy,e,h1,h2⟩:=hq;exact⟨vx,vy,e,h1.up (by decide),h2.up (by decide)⟩
  have hno:VerNo K q x y:=by
   by_cases h1:x<K.n
   ·exact .inr (.inr (.inr (.inl (fun h=>hx ⟨h1,h.2⟩))))
   ·exact .inr (.inr (.inl (fun h=>h1 h.2)))
  cases hi:q.inf with
  | true=>
   refine(Verify_inf c qv K q 64 ao nh ca r s x y w (by decide) (hc.up (by decide)) hq2 hr.nv hs.nv hi).mono ?_;rintro e w' ⟨rfl,hb⟩;exact hfin w' hno hb
  | false =>
   refine(Verify_no c qv K q 64 ao nh ca r s x y w (by decide) (hc.up (by decide)) hq2 hr.nv hs.nv hi ?_).mono ?_
   ·by_cases h1:x<K.n
    ·right;right;left;have:¬y<K.n:=fun h=>hx ⟨h1,h⟩;simp[this]
    ·right;left;simp[h1]
   ·rintro e w' ⟨rfl,hb⟩;exact hfin w' hno hb
def PtZ (K:Cz)(P:Nat)[NeZero P](q:Pz)(hs:List Int)(R:Option (Bs × Bs))(b:Bool):Prop:=match R with
 | none=>b=false
 | some (x,y)=>VerZ K P q (digZ K.n 32 hs) (nI x) (nI y) b
theorem ptZ_uniq{P:Nat}[NeZero P]{K:Cz}(g:GoodK K P)(hb:Gd K P (baseZ K)){q:Pz}(hq:0≤q.x∧0≤q.y){hs:List Int}{R:Option (Bs × Bs)}{b b':Bool}(h:PtZ K P q hs R b)(h':PtZ K P q hs R b'):b=b':=by
 match R,h,h' with
 | none,h,h'=>exact h.trans h'.symm
 | some (x,y),h,h'=>exact verZ_uniq g hb hq h h'
theorem nI_lt(x:Bs)(E:Nat)(h:x.length≤2*E):nI x<D16^E:=by
 have h1:=val_lt (B:=256) (by decide) (fun z hz=>intsB_dg x z (List.mem_reverse.1 hz));have h2:(intsB x).reverse.length=x.length:=by rw[List.length_reverse,intsB_len]
 rw[h2]at h1;have h3:256^x.length≤65536^E:=by rw[show(65536:Nat)=256^2 from rfl,←Nat.pow_mul];exact Nat.pow_le_pow_right (by omega) h
 have h4:((256^x.length:Nat):Int)=256^x.length:=by simp
 have h5:((65536^E:Nat):Int)=D16^E:=by simp[D16]
 show val 256 (intsB x).reverse<D16^E;generalize 256^x.length=b6 at h3 h4;generalize 65536^E=b5 at h3 h5;omega
end
section
open Go.RowKit
def NbS (w w':World)(v:Value)(n:Int)(L:Nat):Prop:=
 ∃ao len cap xs,v=.slice ao len cap∧NumIn .i64 D16 w' ao len cap xs∧val D16 xs=n∧len≤L∧Below w.heap.size w w'
theorem dg_room(xs:List Int)(hd:Dg D16 xs)(bit:Nat)(h:val D16 xs%2^(bit+1)=0):xs.getD (bit/16) 0+2^(bit%16)<65536:=by
 rw[digit_at D16_pos xs hd (bit/16)];obtain⟨m,hm⟩:∃m,val D16 xs=2^(bit+1)*m:=⟨val D16 xs/2^(bit+1),by have:=Int.emod_add_mul_ediv (val D16 xs) (2^(bit+1));omega⟩
 have e:(2:Int)^(bit+1)=D16^(bit/16)*2^(bit%16+1):=by rw[show D16=2^16 from rfl,←Int.pow_mul,←Int.pow_add,show 16*(bit/16)+(bit%16+1)=bit+1 by omega]
 have hp:(0:Int)<D16^(bit/16):=Int.pow_pos D16_pos;rw[hm,e,Int.mul_assoc,Int.mul_ediv_cancel_left _ (by omega)];have hr:bit%16<16:=Nat.mod_lt _ (by decide);generalize bit%16=r at *;have hD:D16=65536:=rfl;rw[hD];have:r=0∨r=1∨r=2∨r=3∨r=4∨r=5∨r=6∨r=7∨r=8∨r=9∨r=10∨r=11∨r=12∨r=13∨r=14∨r=15:=by omega
 rcases this with rfl|rfl|rfl|rfl|rfl|rfl|rfl|rfl|rfl|rfl|rfl|rfl|rfl|rfl|rfl|rfl<;>simp<;>omega
theorem pow_bit(bit:Nat):(2:Int)^bit=D16^(bit/16)*2^(bit%16):=by rw[show D16=2^16 from rfl,←Int.pow_mul,←Int.pow_add,Nat.div_add_mod]
theorem pow2_16S(r:Nat)(h:r<16):(0:Int)<2^r∧(2:Int)^r≤32768:=by
 have:r=0∨r=1∨r=2∨r=3∨r=4∨r=5∨r=6∨r=7∨r=8∨r=9∨r=10∨r=11∨r=12∨r=13∨r=14∨r=15:=by omega
 rcases this with rfl|rfl|rfl|rfl|rfl|rfl|rfl|rfl|rfl|rfl|rfl|rfl|rfl|rfl|rfl|rfl<;>decide
theorem Dg_splice{B:Int}(hB:0<B)(ys:List Int)(hd:Dg B ys)(n m:Nat):Dg B (ys.take n++List.replicate m 0):=
 (hd.take n).append (Dg.zeros hB m)
theorem val_splice(B:Int)(ys:List Int)(n m:Nat)(h:ys.length=n):val B (ys.take n++List.replicate m 0)=val B ys:=by rw[List.take_of_length_le (by omega),val_append,val_replicate];simp
theorem sAdd_any(ao:Option Addr)(la ca:Nat)(xs:List Int)(bit:Nat)(w:World)(h:NumIn .i64 D16 w ao la ca xs)(hbit:bit≤40)(hla:la≤3)(hm:val D16 xs%2^(bit+1)=0):
  Calls Tryz.prog 115 #[.slice ao la ca,.int .i64 bit] w fun e w'=>∃v,e=.returned v∧NbS w w' v (val D16 xs+2^bit) 3:=by
 have hroom:=dg_room xs h.dg bit hm;have hpb:=pow_bit bit;have hl:=h.len;obtain⟨q,hq⟩:∃q,bit/16=q:=⟨_,rfl⟩
 obtain⟨r,hr⟩:∃r,bit%16=r:=⟨_,rfl⟩
 have hqI:(bit:Int)/16=(q:Int):=by omega
 have hrI:(bit:Int)%16=(r:Int):=by omega
 have hr16:r<16:=by omega
 have hq3:q<3:=by omega
 rw[hq,hr]at hroom hpb;obtain⟨n,hn⟩:∃n,max la (q+1)=n:=⟨_,rfl⟩
 have hnI:max (la:Int) ((q:Int)+1)=(n:Int):=by omega
 have hn3:n≤3:=by omega
 have hqn:q<n:=by omega
 have hln:la≤n:=by omega
 have hp2:=pow2_16S r hr16;have HL:Hid (Lies .i64 w ao la xs):=h.lies;have HD:Hid (Dg D16 xs):=h.dg;have HV:Hid (xs.getD q 0+2^r<65536∧(2:Int)^bit=D16^q*2^r∧xs.length=la):=⟨hroom,hpb,hl⟩
 clear h hroom hpb hl hq hr hm hn;go_enter Tryz.func115,Tryz.ntmps115;go_wp2_with (at_make;refine wpList_make_row _ rfl _ _ 54 rfl 3 .i64 8 Tryz.underlying54 Tryz.infoI _ _ _ _ n rfl rfl rfl rfl (by omega) (by unfold maxLen;omega) ?_)
 intro w1 hrow hbel;have hl1:=HL.out.old hbel;go_wp2_with (refine wpList_copy_row rfl _ _ 54 54 rfl 3 Tryz.underlying54 .i64 8 Tryz.infoI w.heap.size ao _ _ _ _ rfl rfl _ xs hrow hl1 (by simp) la (by omega) w.heap.size w hbel (Nat.le_refl _) ?_)
 intro w2 hrow2 hbel2;have hd2:Dg D16 (xs.take la++List.replicate (n-la) 0):=Dg_splice D16_pos xs HD.out la (n-la);have hv2:val D16 (xs.take la++List.replicate (n-la) 0)=val D16 xs:=val_splice D16 xs la (n-la) HV.out.2.2;have hlen2:(xs.take la++List.replicate (n-la) (0:Int)).length=n:=by have:=HV.out.2.2;simp;omega
 have hx2:(xs.take la++List.replicate (n-la) (0:Int)).getD q 0=xs.getD q 0:=by rw[digit_at D16_pos _ hd2,digit_at D16_pos xs HD.out,hv2]
 generalize xs.take la++List.replicate (n-la) (0:Int)=cur at *;have hc:=hrow2.cell q (by omega);have hf:=hrow2.frozen q;rw[hx2]at hc;have gx:=HD.out.getD D16_pos q;have x0:=gx.1;have x1:=HV.out.1;have HRW:Hid (Row 3 .i64 w2 w.heap.size cur∧Dg D16 cur∧val D16 cur=val D16 xs∧cur.length=n∧cur.getD q 0=xs.getD q 0∧Below w.heap.size w w2):=⟨hrow2,hd2,hv2,hlen2,hx2,hbel2⟩
 generalize hxg:xs.getD q 0=x at *;have HXG:Hid (xs.getD q 0=x):=hxg;clear hrow hl1 hrow2 hbel hbel2 hd2 hv2 hlen2 hx2 gx HL HD hxg;have hsh:IntKind.i64.wrap (2^r)=2^r:=IntWalk.i64_in _ (by omega);have hsum:IntKind.i64.wrap (x+2^r)=x+2^r:=IntWalk.i64_in _ (by omega);go_wp2;go_region
 all_goals
  go_wp2;go_ret;have hrs:=(HRW.out.1.drewN 1).set q (x+2^r);have hlen:(cur.set q (x+2^r)).length=n:=by rw[List.length_set];exact HRW.out.2.2.2.1
  refine⟨_,rfl,some ⟨w.heap.size,0,none⟩,n,n,cur.set q (x+2^r),rfl,?_,?_,by omega,?_⟩
  ·have:=hrs.num (B:=D16) (HRW.out.2.1.set q ⟨by omega,by have:=x1;unfold D16;omega⟩) (by omega);rw[hlen]at this;exact this
  ·rw[val_set _ _ _ _ (by have:=HRW.out.2.2.2.1;omega),HRW.out.2.2.1,HRW.out.2.2.2.2.1,HV.out.2.1]
   grind
  ·exact(HRW.out.2.2.2.2.2.trans (Drew.below ⟨1,rfl⟩ _)).setCell (p:=⟨w.heap.size,q,none⟩) (Nat.le_refl _) _
theorem sShifted_any(p:Int)(by16:Nat)(w:World)(hp0:0≤p)(hp1:p<65536)(hb:by16≤8):
  Calls Tryz.prog 118 #[.int .i64 p,.int .i64 (16*by16:Nat)] w fun e w'=>∃v,e=.returned v∧NbS w w' v (p*D16^by16) 9:=by
 have hqI:((16*by16:Nat):Int)/16=(by16:Int):=by omega
 obtain⟨n,hn⟩:∃n,by16+1=n:=⟨_,rfl⟩
 have hnI:(by16:Int)+1=(n:Int):=by omega
 have hn9:n≤9:=by omega
 have hbn:by16<n:=by omega
 have hbs:16*by16<1000:=by omega
 obtain⟨m,hm⟩:∃m,16*by16=m:=⟨_,rfl⟩
 rw[hm]at hqI hbs ⊢;clear hn hm;go_enter Tryz.func118,Tryz.ntmps118;go_wp2_with (at_make;refine wpList_make_row _ rfl _ _ 54 rfl 3 .i64 8 Tryz.underlying54 Tryz.infoI _ _ _ _ n rfl rfl rfl rfl (by omega) (by unfold maxLen;omega) ?_)
 intro w1 hrow hbel;have hc:=hrow.cell by16 (by simp;omega);have hf:=hrow.frozen by16;have HRW:Hid (Row 3 .i64 w1 w.heap.size (List.replicate n 0)∧Below w.heap.size w w1):=⟨hrow,hbel⟩
 clear hrow hbel;go_wp2;go_ret;have hrs:=HRW.out.1.set by16 p;have hlen:((List.replicate n (0:Int)).set by16 p).length=n:=by simp
 refine⟨_,rfl,some ⟨w.heap.size,0,none⟩,n,n,(List.replicate n 0).set by16 p,rfl,?_,?_,hn9,HRW.out.2.setCell (p:=⟨w.heap.size,by16,none⟩) (Nat.le_refl _) _⟩
 ·have:=hrs.num (B:=D16) ((Dg.zeros D16_pos n).set by16 ⟨hp0,hp1⟩) (by omega);rw[hlen]at this;exact this
 ·rw[val_set _ _ _ _ (by simp;omega),val_replicate];have:(List.replicate n (0:Int)).getD by16 0=0:=by simp[List.getD,List.getElem?_replicate];split<;>rfl
  rw[this]
  grind
def pad (xs:List Int)(n:Nat):List Int:=xs++List.replicate (n-xs.length) 0
theorem pad_len(xs:List Int)(n:Nat)(h:xs.length≤n):(pad xs n).length=n:=by simp[pad];omega
theorem pad_val(B:Int)(xs:List Int)(n:Nat):val B (pad xs n)=val B xs:=by unfold pad;rw[val_append,val_replicate];simp
theorem pad_dg{B:Int}(hB:0<B){xs:List Int}(h:Dg B xs)(n:Nat):Dg B (pad xs n):=h.append (Dg.zeros hB _)
theorem pad_get(xs:List Int)(n j:Nat):(pad xs n).getD j 0=xs.getD j 0:=by
 unfold pad;by_cases h:j<xs.length
 ·simp[List.getD,List.getElem?_append_left h]
 ·simp only[List.getD];rw[List.getElem?_append_right (by omega),List.getElem?_replicate,List.getElem?_eq_none (show xs.length≤j by omega)];split<;>rfl
theorem cmp_pad(xs ys:List Int)(hx:Dg D16 xs)(hy:Dg D16 ys)(p:Nat)(heq:∀j,p<j→xs.getD j 0=ys.getD j 0)(hlt:xs.getD p 0<ys.getD p 0):val D16 xs<val D16 ys:=by
 obtain⟨n,hn⟩:∃n,n=max (max xs.length ys.length) (p+1):=⟨_,rfl⟩
 have:=cmp_at D16 D16_one (pad xs n) (pad ys n) (pad_dg D16_pos hx n) (pad_dg D16_pos hy n) n (pad_len xs n (by omega)) (pad_len ys n (by omega)) p (by omega) (fun j h1 _=>by rw[pad_get,pad_get];exact heq j h1) (by rw[pad_get,pad_get];exact hlt)
 rwa [pad_val,pad_val]at this
theorem eq_pad(xs ys:List Int)(h:∀j,xs.getD j 0=ys.getD j 0):val D16 xs=val D16 ys:=by
 obtain⟨n,hn⟩:∃n,n=max xs.length ys.length:=⟨_,rfl⟩
 have e:pad xs n=pad ys n:=by
  apply List.ext_getElem
  ·rw[pad_len xs n (by omega),pad_len ys n (by omega)]
  ·intro j h1 h2;have:=h j;rw[←pad_get xs n,←pad_get ys n]at this;simpa [List.getD,h1,h2] using this
 rw[←pad_val D16 xs n,e,pad_val]
theorem getD_over(xs:List Int)(j:Nat)(h:xs.length≤j):xs.getD j 0=0:=by simp[List.getD,List.getElem?_eq_none h]
theorem sCmp_any(ao bo:Option Addr)(la ca lb cb:Nat)(xs ys:List Int)(w:World)(h:NumIn .i64 D16 w ao la ca xs)(h':NumIn .i64 D16 w bo lb cb ys)(hla:la≤1000)(hlb:lb≤1000):
  Calls Tryz.prog 117 #[.slice ao la ca,.slice bo lb cb] w fun e w'=>e=.returned (.int .i64 (cmpI (val D16 xs) (val D16 ys)))∧w'=w:=by
 obtain⟨n,hn⟩:∃n,max la lb=n:=⟨_,rfl⟩
 have hnI:max (la:Int) (lb:Int)=(n:Int):=by omega
 have hn1:n≤1000:=by omega
 have hl:=h.len;have hl':=h'.len;have HX:Hid (NumIn .i64 D16 w ao la ca xs):=h;have HY:Hid (NumIn .i64 D16 w bo lb cb ys):=h';have HN:Hid (max la lb=n∧xs.length=la∧ys.length=lb):=⟨hn,hl,hl'⟩
 clear h h' hn hl hl';go_enter Tryz.func117,Tryz.ntmps117;go_wp2;go_loop [5] (fun vi=>∃i:Int,vi=.int .i64 i ∧ -1≤i∧i<n∧∀j:Nat,i<j→xs.getD j 0=ys.getD j 0) (fun vi=>(intOf vi+1).toNat)
 case atStart=> refine⟨(n:Int)-1,rfl,by omega,by omega,fun j hj => ?_⟩;have:=HN.out;rw[getD_over xs j (by omega),getD_over ys j (by omega)]
 case round =>
  obtain⟨i,rfl,hi0,hi1,heq⟩:=hrel;by_cases hneg:i<0
  ·obtain rfl:i = -1:=by omega
   have HF:Hid (cmpI (val D16 xs) (val D16 ys)=0):=cmpI_eq (eq_pad xs ys (fun j=>heq j (by omega)));clear heq;go_wp2;go_ret;exact⟨ret_int HF.out.symm,rfl⟩
  ·obtain⟨p,rfl⟩:=Int.eq_ofNat_of_zero_le (show 0≤i by omega);have HL:Hid (xs.getD p 0<ys.getD p 0→val D16 xs<val D16 ys):=cmp_pad xs ys HX.out.dg HY.out.dg p (fun j hj=>heq j (by omega));have HG:Hid (ys.getD p 0<xs.getD p 0→val D16 ys<val D16 xs):=cmp_pad ys xs HY.out.dg HX.out.dg p (fun j hj=>(heq j (by omega)).symm);have HE:Hid (xs.getD p 0=ys.getD p 0→∀j:Nat,(p:Int)-1<j→xs.getD j 0=ys.getD j 0):=fun h0 j hj=>by
    by_cases e:j=p
    ·rw[e];exact h0
    ·exact heq j (by omega)
   have hcx:p<la→∃b off,ao=some ⟨b,off,none⟩∧w.cell? ⟨b,off+p,none⟩=some (.int .i64 (xs.getD p 0)):=fun hp=>by obtain⟨b,off,e,_,hc⟩:=HX.out.lies.at (by omega);exact⟨b,off,e,hc p hp⟩
   have hcy:p<lb→∃b off,bo=some ⟨b,off,none⟩∧w.cell? ⟨b,off+p,none⟩=some (.int .i64 (ys.getD p 0)):=fun hp=>by obtain⟨b,off,e,_,hc⟩:=HY.out.lies.at (by omega);exact⟨b,off,e,hc p hp⟩
   have hzx:¬p<la→xs.getD p 0=0:=fun hp=>getD_over xs p (by have:=HN.out;omega);have hzy:¬p<lb→ys.getD p 0=0:=fun hp=>getD_over ys p (by have:=HN.out;omega);clear heq hneg hi0;generalize xs.getD p 0=x at *;generalize ys.getD p 0=y at *;rcases Int.lt_trichotomy x y with hxy|hxy|hxy
   ·have HFIN:Hid (cmpI (val D16 xs) (val D16 ys) = -1):=cmpI_lt (HL.out hxy);have hne:(x != y)=true:=by simp;omega
    clear HL HG HE;by_cases h1:p<la
    ·obtain⟨b,off,rfl,hc1⟩:=hcx h1;by_cases h2:p<lb
     ·obtain⟨b2,off2,rfl,hc2⟩:=hcy h2;clear hcx hcy hzx hzy;go_wp2;go_ret;exact⟨ret_int HFIN.out.symm,rfl⟩
     ·obtain rfl:=hzy h2;clear hcx hcy hzx hzy;go_wp2;go_ret;exact⟨ret_int HFIN.out.symm,rfl⟩
    ·obtain rfl:=hzx h1;by_cases h2:p<lb
     ·obtain⟨b2,off2,rfl,hc2⟩:=hcy h2;clear hcx hcy hzx hzy;go_wp2;go_ret;exact⟨ret_int HFIN.out.symm,rfl⟩
     ·obtain rfl:=hzy h2;omega
   ·have HFIN:Hid (∀j:Nat,(p:Int)-1<j→xs.getD j 0=ys.getD j 0):=HE.out hxy;clear HL HG HE;subst hxy;by_cases h1:p<la
    ·obtain⟨b,off,rfl,hc1⟩:=hcx h1;by_cases h2:p<lb
     ·obtain⟨b2,off2,rfl,hc2⟩:=hcy h2;clear hcx hcy hzx hzy;go_wp2;go_round
      case rel=>exact⟨(p:Int)-1,by go_num,by omega,by omega,HFIN.out⟩
      case measure=>simp[intOf]<;>omega
     ·obtain rfl:=hzy h2;clear hcx hcy hzx hzy;go_wp2;go_round
      case rel=>exact⟨(p:Int)-1,by go_num,by omega,by omega,HFIN.out⟩
      case measure=>simp[intOf]<;>omega
    ·obtain rfl:=hzx h1;by_cases h2:p<lb
     ·obtain⟨b2,off2,rfl,hc2⟩:=hcy h2;clear hcx hcy hzx hzy;go_wp2;go_round
      case rel=>exact⟨(p:Int)-1,by go_num,by omega,by omega,HFIN.out⟩
      case measure=>simp[intOf]<;>omega
     ·clear hcx hcy hzx hzy;go_wp2;go_round
      case rel=>exact⟨(p:Int)-1,by go_num,by omega,by omega,HFIN.out⟩
      case measure=>simp[intOf]<;>omega
   ·have HFIN:Hid (cmpI (val D16 xs) (val D16 ys)=1):=cmpI_gt (HG.out hxy);have hne:(x != y)=true:=by simp;omega
    clear HL HG HE;by_cases h1:p<la
    ·obtain⟨b,off,rfl,hc1⟩:=hcx h1;by_cases h2:p<lb
     ·obtain⟨b2,off2,rfl,hc2⟩:=hcy h2;clear hcx hcy hzx hzy;go_wp2;go_ret;exact⟨ret_int HFIN.out.symm,rfl⟩
     ·obtain rfl:=hzy h2;clear hcx hcy hzx hzy;go_wp2;go_ret;exact⟨ret_int HFIN.out.symm,rfl⟩
    ·obtain rfl:=hzx h1;by_cases h2:p<lb
     ·obtain⟨b2,off2,rfl,hc2⟩:=hcy h2;clear hcx hcy hzx hzy;go_wp2;go_ret;exact⟨ret_int HFIN.out.symm,rfl⟩
     ·obtain rfl:=hzy h2;omega
def rot (x:Int)(n:Nat):Int:=bits .or .u32 (x/2^n) (x*2^(32-n)%4294967296)
theorem bits_or_comm(k:IntKind)(x y:Int):bits .or k x y=bits .or k y x:=by show k.wrap ((BitVec.ofInt k.bits x|||BitVec.ofInt k.bits y).toNat:Int)=k.wrap ((BitVec.ofInt k.bits y|||BitVec.ofInt k.bits x).toNat:Int);rw[BitVec.or_comm]
theorem back31:∀n:Nat,1≤n→n≤31→bits .and .u64 (IntKind.u64.wrap (-(n:Int))) 31=((32-n:Nat):Int):=by
 intro n h1 h2;have:n=1∨n=2∨n=3∨n=4∨n=5∨n=6∨n=7∨n=8∨n=9∨n=10∨n=11∨n=12∨n=13∨n=14∨n=15∨n=16∨n=17∨n=18∨n=19∨n=20∨n=21∨n=22∨n=23∨n=24∨n=25∨n=26∨n=27∨n=28∨n=29∨n=30∨n=31:=by omega
 rcases this with rfl|rfl|rfl|rfl|rfl|rfl|rfl|rfl|rfl|rfl|rfl|rfl|rfl|rfl|rfl|rfl|rfl|rfl|rfl|rfl|rfl|rfl|rfl|rfl|rfl|rfl|rfl|rfl|rfl|rfl|rfl<;>decide
theorem turn_any(x:Int)(n:Nat)(w:World)(hn:n≤32):Calls Tryz.prog 53 #[.int .u32 x,.int .i64 n] w fun e w'=>e=.returned (.int .u32 (rot x n))∧Drew w w':=by
 go_enter Tryz.func53,Tryz.ntmps53;go_wp2;go_region
 all_goals
  go_wp2;go_ret;exact⟨rfl,(Drew.refl _).more 1⟩
theorem rotl_any(x:Int)(n:Nat)(w:World)(h1:1≤n)(hn:n≤31):Calls Tryz.prog 147 #[.int .u32 x,.int .i64 (-n)] w fun e w'=>e=.returned (.int .u32 (rot x n))∧w'=w:=by
 have hb:=back31 n h1 hn;obtain⟨m,hm⟩:∃m,32-n=m:=⟨_,rfl⟩
 rw[hm]at hb;have hm32:m≤31:=by omega
 have hm1:1≤m:=by omega
 have HF:Hid (bits .or .u32 (x*2^m%4294967296) (x/2^(32-m))=rot x n):=by unfold Hid rot;rw[bits_or_comm,hm,show 32-m=n by omega]
 go_enter Tryz.func147,Tryz.ntmps147;go_wp2;go_ret;exact⟨ret_int HF.out,rfl⟩
theorem rotr_any(x:Int)(n:Nat)(w:World)(h1:1≤n)(hn:n≤31):Calls Tryz.prog 133 #[.int .u32 x,.int .i64 n] w fun e w'=>e=.returned (.int .u32 (rot x n))∧w'=w:=by
 have HC:=fun w=>rotl_any x n w h1 hn;generalize hr:rot x n=r at *;clear hr;go_enter Tryz.func133,Tryz.ntmps133;go_wp2_with (go_at_call 147;refine(HC _).mono ?_;rintro e w' ⟨rfl,rfl⟩)
 go_ret;exact⟨rfl,rfl⟩
abbrev M32:Int:=4294967296
def sg0 (x:Int):Int:=bits .xor .u32 (bits .xor .u32 (rot x 7) (rot x 18)) (x/8)
def sg1 (x:Int):Int:=bits .xor .u32 (bits .xor .u32 (rot x 17) (rot x 19)) (x/1024)
def wNext(l:List Int)(i:Nat):Int:=
 (((l.getD (i-16) 0+sg0 (l.getD (i-15) 0))%M32+l.getD (i-7) 0)%M32+sg1 (l.getD (i-2) 0))%M32
def schedGo:Nat→List Int→List Int
 | 0,l=>l
 | n+1,l=>schedGo n (l++[wNext l l.length])
def pw (b:List Int)(i:Nat):Nat→Int
 | 0=>0
 | k+1=>pw b i k*256+b.getD (4*i+k) 0
def words16(b:List Int):List Int:=(List.range 16).map fun i=>pw b i 4
def sched(b:List Int):List Int:=schedGo 48 (words16 b)
structure S8 where
 a:Int
 b:Int
 c:Int
 d:Int
 e:Int
 f:Int
 g:Int
 h:Int
def big1 (e:Int):Int:=bits .xor .u32 (bits .xor .u32 (rot e 6) (rot e 11)) (rot e 25)
def big0 (a:Int):Int:=bits .xor .u32 (bits .xor .u32 (rot a 2) (rot a 13)) (rot a 22)
def chI (e f g:Int):Int:=bits .xor .u32 (bits .and .u32 e f) (bits .and .u32 (bits .xor .u32 4294967295 e) g)
def majI (a b c:Int):Int:=bits .xor .u32 (bits .xor .u32 (bits .and .u32 a b) (bits .and .u32 a c)) (bits .and .u32 b c)
def t1 (e f g h k w:Int):Int:=((((h+big1 e)%M32+chI e f g)%M32+k)%M32+w)%M32
def t2 (a b c:Int):Int:=(big0 a+majI a b c)%M32
def rnd (s:S8)(k w:Int):S8:=
 ⟨(t1 s.e s.f s.g s.h k w+t2 s.a s.b s.c)%M32,s.a,s.b,s.c,(s.d+t1 s.e s.f s.g s.h k w)%M32,s.e,s.f,s.g⟩
def runS (K W:List Int)(s:S8):Nat→S8
 | 0=>s
 | n+1=>rnd (runS K W s n) (K.getD n 0) (W.getD n 0)
def s8 (l:List Int):S8:=⟨l.getD 0 0,l.getD 1 0,l.getD 2 0,l.getD 3 0,l.getD 4 0,l.getD 5 0,l.getD 6 0,l.getD 7 0⟩
def addS (l:List Int)(s:S8):List Int:=
 [(l.getD 0 0+s.a)%M32,(l.getD 1 0+s.b)%M32,(l.getD 2 0+s.c)%M32,(l.getD 3 0+s.d)%M32,(l.getD 4 0+s.e)%M32,(l.getD 5 0+s.f)%M32,(l.getD 6 0+s.g)%M32,(l.getD 7 0+s.h)%M32]
def mixS (K:List Int)(l blk:List Int):List Int:=addS l (runS K (sched blk) (s8 l) 64)
def KS:List Int:=[0x428a2f98,0x71374491,0xb5c0fbcf,0xe9b5dba5,0x3956c25b,0x59f111f1,0x923f82a4,0xab1c5ed5,0xd807aa98,0x12835b01,0x243185be,0x550c7dc3,0x72be5d74,0x80deb1fe,0x9bdc06a7,0xc19bf174,0xe49b69c1,0xefbe4786,0x0fc19dc6,0x240ca1cc,0x2de92c6f,0x4a7484aa,0x5cb0a9dc,0x76f988da,0x983e5152,0xa831c66d,0xb00327c8,0xbf597fc7,0xc6e00bf3,0xd5a79147,0x06ca6351,0x14292967,0x27b70a85,0x2e1b2138,0x4d2c6dfc,0x53380d13,0x650a7354,0x766a0abb,0x81c2c92e,0x92722c85,0xa2bfe8a1,0xa81a664b,0xc24b8b70,0xc76c51a3,0xd192e819,0xd6990624,0xf40e3585,0x106aa070,0x19a4c116,0x1e376c08,0x2748774c,0x34b0bcb5,0x391c0cb3,0x4ed8aa4a,0x5b9cca4f,0x682e6ff3,0x748f82ee,0x78a5636f,0x84c87814,0x8cc70208,0x90befffa,0xa4506ceb,0xbef9a3f7,0xc67178f2]
def HS:List Int:=[0x6a09e667,0xbb67ae85,0x3c6ef372,0xa54ff53a,0x510e527f,0x9b05688c,0x1f83d9ab,0x5be0cd19]
def hb (bs:List Int):Nat→List Int
 | 0=>HS
 | n+1=>mixS KS (hb bs n) ((bs.drop (64*n)).take 64)
def gapN (n:Nat):Nat:=(119-n%64)%64
def pad8 (n:Nat):List Int:=(List.range 8).map fun i=>(8*n:Int)/2^(56-8*i)%256
def ending(n:Nat):List Int:=128::(List.replicate (gapN n) 0++pad8 n)
def spreadS(l:List Int):List Int:=(List.range 32).map fun i=>l.getD (i/4) 0/2^(24-8*(i%4))%256
def shaS (bs:List Int):List Int:=spreadS (hb (bs++ending bs.length) ((bs++ending bs.length).length/64))
def ag (k:IntKind)(xs:List Int):Value:=.agg ((xs.map (Value.int k)).toArray)
theorem ints_all(k:IntKind)(xs:List Int):((xs.map (Value.int k)).toArray).all (·.oneCell')=true:=
 Array.all_eq_true_iff_forall_mem.2 fun v hv=>by obtain⟨x,_,rfl⟩:=List.mem_map.1 (by simpa using hv);rfl
theorem Row.alloc(e:TypeId)(k:IntKind)(w:World)(xs:List Int):Row e k (w.alloc (.cells ((xs.map (Value.int k)).toArray) e)) w.heap.size xs:=heap_alloc_new w _
theorem below_alloc(w:World)(o:Obj):Below w.heap.size w (w.alloc o):=(Below.refl _ _).alloc (Nat.le_refl _) o
theorem size_alloc'(w:World)(o:Obj):(w.alloc o).heap.size=w.heap.size+1:=by simp
theorem wpList_alloc_row{P:Program}{w:World}{ops:Array Oper}{rest:List Oper}{o:Oper}{a:Act}{Q:Exit→Act→World→Prop}(hgd:o.guard=none)(t:TypeId)(hop:o.op=Op.alloc t)(k:IntKind)(n:Nat)
  (hz:(P.info? t).map (fun i=>(i.zero,i.size))=some (some (ag k (List.replicate n 0)),n))
  (hK:∀w',Row t k w' w.heap.size (List.replicate n 0)→Below w.heap.size w w'→w'.heap.size=w.heap.size+1→wpList P ops Q rest (a.put o.dst (.pointer (some ⟨w.heap.size,0,none⟩))) w'):
  wpList P ops Q (o::rest) a w:=by
 refine wpList_plain hgd fun K hK' => ?_;have hr:=(zero_of_info hz).1 w;unfold Oper.wp;simp only[execOp,hop,Instr.alloc,Sem.run_bind,hr,Result.andThen_ok];exact hK' _ _ (hK (w.alloc (.cells (((List.replicate n (0:Int)).map (Value.int k)).toArray) t)) (Row.alloc t k w _) (below_alloc w _) (size_alloc' w _))
theorem wpList_box_row{P:Program}{w:World}{ops:Array Oper}{rest:List Oper}{o:Oper}{a:Act}{Q:Exit→Act→World→Prop}(hgd:o.guard=none)(t:TypeId)(x:Operand)(hop:o.op=Op.box t x)(k:IntKind)(xs:List Int)
  (hx:a.eval x=ag k xs)
  (hK:∀w',Row t k w' w.heap.size xs→Below w.heap.size w w'→w'.heap.size=w.heap.size+1→wpList P ops Q rest (a.put o.dst (.pointer (some ⟨w.heap.size,0,none⟩))) w'):
  wpList P ops Q (o::rest) a w:=by
 refine wpList_plain hgd fun K hK' => ?_;unfold Oper.wp;simp only[execOp,hop,hx,ag,Instr.box,Sem.run_bind,Result.andThen_ok];exact hK' _ _ (hK (w.alloc (.cells ((xs.map (Value.int k)).toArray) t)) (Row.alloc t k w _) (below_alloc w _) (size_alloc' w _))
theorem wpList_load_nums{P:Program}{w:World}{ops:Array Oper}{rest:List Oper}{o:Oper}{a:Act}{Q:Exit→Act→World→Prop}(hgd:o.guard=none)(ty:TypeId)(x:Operand)(hop:o.op=Op.load ty x)(k:IntKind)(t e:TypeId)(n:Nat)
  (hu:P.underlying ty=some (.array n e)) (hi:(P.info? ty).map (·.size)=some n) (g:Nat) (xs:List Int) (hx:a.eval x=.pointer (some ⟨g,0,none⟩)) (hr:Row t k w g xs) (hl:xs.length=n)
  (h:wpList P ops Q rest (a.put o.dst (ag k xs)) w):wpList P ops Q (o::rest) a w:=
 wpList_load_row hgd ty x hop g hx t _ (0,0) (.array n e) hr hu rfl (by rw[hi];simp[hl]) h
theorem below_setRow'{B g:Nat}{w0 w:World}(hb:Below B w0 w)(hBg:B≤g)(cs:Array Value):Below B w0 (w.setRow g cs):=
 hb.trans ⟨rfl,rfl,rfl,by simp,fun k hk=>setRow_other w g k cs (by omega)⟩
theorem wpList_store_nums{P:Program}{w:World}{ops:Array Oper}{rest:List Oper}{o:Oper}{a:Act}{Q:Exit→Act→World→Prop}(hgd:o.guard=none)(ty:TypeId)(x y:Operand)(hop:o.op=Op.store ty x y)(k:IntKind)(t:TypeId)(n:Nat)
  (hi:(P.info? ty).map (·.size)=some n) (g:Nat) (old xs:List Int) (hx:a.eval x=.pointer (some ⟨g,0,none⟩)) (hy:a.eval y=ag k xs) (hr:Row t k w g old) (ho:old.length=n) (hl:xs.length=n)
  (hK:∀w',Row t k w' g xs→Below g w w'→w'.heap.size=w.heap.size→(∀j,j≠g→w'.heap[j]?=w.heap[j]?)→wpList P ops Q rest (a.put o.dst undef) w'):wpList P ops Q (o::rest) a w:=
 wpList_store_row hgd ty x y hop g _ hx hy t _ hr (by rw[hi];simp[hl]) (by simp[hl,ho]) (ints_all k xs)
  (hK _ (setRow_heap w g _ _ t (0,0) hr) (below_setRow' (Below.refl _ _) (Nat.le_refl _) _) (by simp) (fun j hj=>setRow_other w g j _ hj))
theorem results_nums{P:Program}{fn:Func}{p:Tmp}{ty:TypeId}(h:fn.results=#[.cell p ty])(tmps:Array Value)(w:World)(g:Nat)(t e:TypeId)(k:IntKind)(n:Nat)(xs:List Int)
  (hp:tmps.getD p undef=.pointer (some ⟨g,0,none⟩)) (hr:Row t k w g xs) (hu:P.underlying ty=some (.array n e)) (hi:(P.info? ty).map (·.size)=some n) (hl:xs.length=n):
  (results fn tmps).run P w=.ok (ag k xs) w:=
 results_cell_row h tmps w g t _ (0,0) (.array n e) hp hr hu rfl (by rw[hi];simp[hl])
theorem Tryz.infoW64:(Tryz.prog.info? 172).map (fun i=>(i.zero,i.size))=some (some (ag .u32 (List.replicate 64 0)),64):=by kernel_rfl
theorem Tryz.infoW8:(Tryz.prog.info? 142).map (fun i=>(i.zero,i.size))=some (some (ag .u32 (List.replicate 8 0)),8):=by kernel_rfl
theorem Tryz.infoB32:(Tryz.prog.info? 71).map (fun i=>(i.zero,i.size))=some (some (ag .u8 (List.replicate 32 0)),32):=by kernel_rfl
theorem Tryz.sizeW64:(Tryz.prog.info? 172).map (·.size)=some 64:=(zero_of_info Tryz.infoW64).2
theorem Tryz.sizeW8:(Tryz.prog.info? 142).map (·.size)=some 8:=(zero_of_info Tryz.infoW8).2
theorem Tryz.sizeB32:(Tryz.prog.info? 71).map (·.size)=some 32:=(zero_of_info Tryz.infoB32).2
theorem Tryz.infoW:(Tryz.prog.info? 114).map (fun i=>(i.zero,i.size,i.bytes))=some (some (.int .u32 0),1,4):=by kernel_rfl
theorem getD_set_same'(l:List Int)(i:Nat)(x:Int)(h:i<l.length):(l.set i x).getD i 0=x:=by simp[List.getD,h]
theorem getD_set_other'(l:List Int)(i j:Nat)(x:Int)(h:i≠j):(l.set i x).getD j 0=l.getD j 0:=by simp[List.getD,List.getElem?_set_ne h]
theorem ext_getD'(l m:List Int)(h:l.length=m.length)(hj:∀j,j<l.length→l.getD j 0=m.getD j 0):l=m:=by apply List.ext_getElem h;intro j h1 h2;have:=hj j h1;simpa [List.getD,h1,h2] using this
theorem pad8_length(n:Nat):(pad8 n).length=8:=by simp[pad8]
theorem pad8_get(n j:Nat)(h:j<8):(pad8 n).getD j 0=(8*n:Int)/2^(56-8*j)%256:=by simp[pad8,List.getD,h]
theorem ending_length(n:Nat):(ending n).length=gapN n+9:=by simp[ending,pad8_length]
theorem ending_mid(n j:Nat)(h0:0<j)(h:j<gapN n+1):(ending n).getD j 0=0:=by
 obtain⟨i,rfl⟩:∃i,j=i+1:=⟨j-1,by omega⟩
 unfold ending;simp only[List.getD,List.getElem?_cons_succ];rw[List.getElem?_append_left (by simp;omega)];simp[List.getElem?_replicate,show i<gapN n by omega]
theorem ending_last(n j:Nat)(h0:gapN n+1≤j)(h:j<gapN n+9):(ending n).getD j 0=(8*n:Int)/2^(8*(gapN n+8-j))%256:=by
 obtain⟨i,rfl⟩:∃i,j=i+1:=⟨j-1,by omega⟩
 have e:(ending n).getD (i+1) 0=(pad8 n).getD (i-gapN n) 0:=by unfold ending;simp only[List.getD,List.getElem?_cons_succ];rw[List.getElem?_append_right (by simp;omega)];simp
 rw[e,pad8_get _ _ (by omega),show 56-8*(i-gapN n)=8*(gapN n+8-(i+1)) by omega]
def EndP (n i:Nat)(cur:List Int):Prop:=
 cur.length=gapN n+9∧cur.getD 0 0=128∧(∀j,0<j→j<gapN n+9-i→cur.getD j 0=0)∧∀j,gapN n+9-i≤j→j<gapN n+9→cur.getD j 0=(8*n:Int)/2^(8*(gapN n+8-j))%256
theorem EndP.zero(n:Nat):EndP n 0 ((List.replicate (gapN n+9) 0).set 0 128):=by refine⟨by simp,getD_set_same' _ _ _ (by simp),fun j h1 h2 => ?_,fun j h1 h2=>by omega⟩;rw[getD_set_other' _ _ _ _ (by omega)];simp[List.getD,List.getElem?_replicate];split<;>rfl
theorem EndP.step{n i:Nat}{cur:List Int}(h:EndP n i cur)(hi:i<8):EndP n (i+1) (cur.set (gapN n+8-i) ((8*n:Int)/2^(8*i)%256)):=by
 obtain⟨h1,h2,h3,h4⟩:=h;refine⟨by simpa using h1,?_,fun j a b => ?_,fun j a b => ?_⟩
 ·rw[getD_set_other' _ _ _ _ (by omega)];exact h2
 ·rw[getD_set_other' _ _ _ _ (by omega)];exact h3 j a (by omega)
 ·by_cases e:j=gapN n+8-i
  ·subst e;rw[getD_set_same' _ _ _ (by omega),show gapN n+8-(gapN n+8-i)=i by omega]
  ·rw[getD_set_other' _ _ _ _ (by omega)];exact h4 j (by omega) b
theorem EndP.done{n:Nat}{cur:List Int}(h:EndP n 8 cur):cur=ending n:=by
 obtain⟨h1,h2,h3,h4⟩:=h;refine ext_getD' _ _ (by rw[h1,ending_length]) fun j hj => ?_;rw[h1]at hj;by_cases e0:j=0
 ·subst e0;rw[h2];rfl
 ·by_cases e1:j<gapN n+1
  ·rw[h3 j (by omega) (by omega),ending_mid n j (by omega) e1]
  ·rw[h4 j (by omega) hj,ending_last n j (by omega) hj]
theorem ending_any(n:Nat)(w:World)(hn:n≤1000000000000000):
  Calls Tryz.prog 81 #[.int .u64 n] w fun e w'=>e=.returned (.slice (some ⟨w.heap.size,0,none⟩) (gapN n+9) (gapN n+9))∧Row 5 .u8 w' w.heap.size (ending n)∧Below w.heap.size w w':=by
 obtain⟨r,hr⟩:∃r,n%64=r:=⟨_,rfl⟩
 obtain⟨q,hq⟩:∃q,gapN n=q:=⟨_,rfl⟩
 have hrI:(n:Int)%64=(r:Int):=by omega
 have hr64:r<64:=by omega
 have hqI:(119-(r:Int))%64=(q:Int):=by unfold gapN at hq;rw[hr]at hq;omega
 have hq64:q<64:=by unfold gapN at hq;omega
 have HQ:Hid (gapN n=q):=hq;rw[hq];obtain⟨L,hL⟩:∃L,q+9=L:=⟨_,rfl⟩
 rw[hL];have HLL:Hid (q+9=L):=hL;have hqL:(q:Int)+1+8=(L:Int):=by omega
 have hL73:L≤73:=by omega
 have hL9:9≤L:=by omega
 clear hr hq hL;obtain⟨bl,hbl⟩:∃bl:Int,8*(n:Int)=bl:=⟨_,rfl⟩
 have hb0:0≤bl:=by omega
 have hb1:bl≤8000000000000000:=by omega
 have hbw:IntKind.u64.wrap (8*(n:Int))=bl:=by rw[IntKind.wrap_u64];omega
 have HBL:Hid (8*(n:Int)=bl):=hbl;clear hbl;go_enter Tryz.func81,Tryz.ntmps81;go_wp2_with (at_make;refine wpList_make_row _ rfl _ _ 33 rfl 5 .u8 1 Tryz.underlying33 Tryz.infoB _ _ _ _ L rfl rfl (by omega) (by omega) (by omega) (by unfold maxLen;omega) ?_;intro w1 hr1 hb1;have c0:=hr1.cell 0 (by simp;omega);have f0:=hr1.frozen 0)
 have HR1:Hid (Row 5 .u8 (w1.setCell ⟨w.heap.size,0,none⟩ (.int .u8 128)) w.heap.size ((List.replicate L 0).set 0 128)∧Below w.heap.size w (w1.setCell ⟨w.heap.size,0,none⟩ (.int .u8 128))):=⟨hr1.set 0 128,hb1.setCell (Nat.le_refl _) _⟩
 clear hr1 hb1 c0 f0;go_loopw [19] (fun vi wr=>∃(i:Nat) (cur:List Int),i≤8∧vi=.int .i64 i∧Row 5 .u8 wr w.heap.size cur∧EndP n i cur∧Below w.heap.size w wr) (fun vi _=>8-(intOf vi).toNat)
 case atStart=>exact⟨0,_,by omega,rfl,HR1.out.1,by have:=EndP.zero n;rw[HQ.out,HLL.out]at this;exact this,HR1.out.2⟩
 case round=>
  obtain⟨i,cur,hi,rfl,hrw,hm,hb⟩:=hrel;clear HR1;have hlen:=hm.1;rw[HQ.out,HLL.out]at hlen;by_cases hlt:i<8
  ·obtain⟨p,hp⟩:∃p,q+8-i=p:=⟨_,rfl⟩
   have hpI:(L:Int)-1-(i:Int)=(p:Int):=by have:=HLL.out;omega
   have hpl:p<L:=by have:=HLL.out;omega
   obtain⟨m,hmI⟩:∃m:Nat,8*i=m:=⟨_,rfl⟩
   have hmJ:8*(i:Int)=(m:Int):=by omega
   have hm64:m<64:=by omega
   have hc:=hrw.cell p (by omega);have hf:=hrw.frozen p;have HM:Hid (EndP n (i+1) (cur.set p (bl/2^m%256))):=by have:=hm.step hlt;rw[HQ.out,HBL.out,hp,hmI]at this;exact this
   have HRW:Hid (Row 5 .u8 wr w.heap.size cur∧Below w.heap.size w wr):=⟨hrw,hb⟩
   clear hrw hm hb hlen hp hmI;go_wp2;go_roundw
   case rel=>exact⟨i+1,_,by omega,by go_num,HRW.out.1.set p _,HM.out,HRW.out.2.setCell (Nat.le_refl _) _⟩
   case measure=>simp[intOf]<;>omega
  ·have HM:Hid (cur=ending n):=by have:=hm;rw[show i=8 by omega]at this;exact this.done
   clear hm;go_wp2;go_ret;exact⟨rfl,by rw[←HM.out];exact hrw,hb⟩
theorem spreadS_length(l:List Int):(spreadS l).length=32:=by simp[spreadS]
theorem spreadS_get(l:List Int)(j:Nat)(h:j<32):(spreadS l).getD j 0=l.getD (j/4) 0/2^(24-8*(j%4))%256:=by simp[spreadS,List.getD,h]
def SprP (l:List Int)(i:Nat)(cur:List Int):Prop:=cur.length=32∧∀j,j<i→cur.getD j 0=(spreadS l).getD j 0
theorem SprP.step{l cur:List Int}{i:Nat}(h:SprP l i cur)(hi:i<32):SprP l (i+1) (cur.set i ((spreadS l).getD i 0)):=by
 refine⟨by simpa using h.1,fun j hj => ?_⟩;by_cases e:j=i
 ·subst e;exact getD_set_same' _ _ _ (by rw[h.1];exact hi)
 ·rw[getD_set_other' _ _ _ _ (by omega)];exact h.2 j (by omega)
theorem SprP.done{l cur:List Int}(h:SprP l 32 cur):cur=spreadS l:=
 ext_getD' _ _ (by rw[h.1,spreadS_length]) fun j hj=>h.2 j (by rw[h.1]at hj;exact hj)
theorem Row.setOther2{e:TypeId}{k:IntKind}{w:World}{g:Nat}{xs:List Int}(h:Row e k w g xs){p:Addr}(hp:g≠p.block)(v:Value):Row e k (w.setCell p v) g xs:=by unfold Row;rw[heap_setCell_other w p g v hp];exact h
theorem spread_any(l:List Int)(w:World)(hl:l.length=8):
  Calls Tryz.prog 82 #[ag .u32 l] w fun e w'=>e=.returned (ag .u8 (spreadS l))∧Below w.heap.size w w':=by
 go_enter Tryz.func82,Tryz.ntmps82;go_wp2_with (first
  | (refine wpList_box_row (by with_reducible rfl) 142 _ (by with_reducible rfl) .u32 l (by rfl) ?_;intro w1 hr1 hb1 hs1)
  | (refine wpList_alloc_row (w:=w1) (by with_reducible rfl) 71 (by with_reducible rfl) .u8 32 Tryz.infoB32 ?_;intro w2 hr2 hb2 hs2)
  | (refine wpList_alloc_row (w:=w2) (by with_reducible rfl) 71 (by with_reducible rfl) .u8 32 Tryz.infoB32 ?_;intro w3 hr3 hb3 hs3))
 have HR3:Hid (Row 142 .u32 w3 w.heap.size l∧Row 71 .u8 w3 (w.heap.size+1) (List.replicate 32 0)∧Row 71 .u8 w3 (w.heap.size+1+1) (List.replicate 32 0)∧Below w.heap.size w w3):=
  ⟨(hr1.below hb2 (by omega)).below hb3 (by omega),by rw[←hs1];exact hr2.below hb3 (by omega),by rw[←hs1,←hs2];exact hr3,(hb1.trans (hb2.mono (by omega))).trans (hb3.mono (by omega))⟩
 have HL8:Hid (l.length=8):=hl;clear hr1 hb1 hs1 hr2 hb2 hs2 hr3 hb3 hs3 hl;go_loopw [6] (fun vi wr=>∃(i:Nat) (cur:List Int),i≤32∧vi=.int .i64 i∧SprP l i cur∧Row 142 .u32 wr w.heap.size l∧Row 71 .u8 wr (w.heap.size+1) (List.replicate 32 0)∧Row 71 .u8 wr (w.heap.size+1+1) cur∧Below w.heap.size w wr) (fun vi _=>32-(intOf vi).toNat)
 case atStart=>exact⟨0,_,by omega,rfl,⟨by simp,fun j h=>by omega⟩,HR3.out⟩
 case round=>
  obtain⟨i,cur,hi,rfl,hm,hr1,hr2,hr3,hb⟩:=hrel;clear HR3;have HRW:Hid (Row 142 .u32 wr w.heap.size l∧Row 71 .u8 wr (w.heap.size+1) (List.replicate 32 0)∧Row 71 .u8 wr (w.heap.size+1+1) cur∧Below w.heap.size w wr):=⟨hr1,hr2,hr3,hb⟩
  by_cases hlt:i<32
  ·obtain⟨r,hr⟩:∃r,i%4=r:=⟨_,rfl⟩
   obtain⟨d,hd⟩:∃d,i/4=d:=⟨_,rfl⟩
   obtain⟨pl,hpl⟩:∃pl,3-r=pl:=⟨_,rfl⟩
   obtain⟨m,hmm⟩:∃m,8*pl=m:=⟨_,rfl⟩
   have hrI:(i:Int)%4=(r:Int):=by omega
   have hdI:(i:Int)/4=(d:Int):=by omega
   have hpI:3-(r:Int)=(pl:Int):=by omega
   have hmI:8*(pl:Int)=(m:Int):=by omega
   have hm32:m<32:=by omega
   have hd8:d<8:=by omega
   have hc:=hr1.cell d (by have:=HL8.out;omega);have hc3:=hr3.cell i (by have:=hm.1;omega);have hf3:=hr3.frozen i;have HM:Hid (SprP l (i+1) (cur.set i (l.getD d 0/2^m%256))):=by have:=hm.step hlt;rw[spreadS_get l i hlt,hd,show 24-8*(i%4)=m by omega]at this;exact this
   generalize l.getD d 0=x at *;clear hr1 hr2 hr3 hb hm hr hd hpl hmm;go_wp2;go_roundw
   case rel=>exact⟨i+1,_,by omega,by go_num,HM.out,HRW.out.1.setOther2 (by simp;omega) _,HRW.out.2.1.setOther2 (by simp) _,HRW.out.2.2.1.set i _,HRW.out.2.2.2.setCell (by simp;omega) _⟩
   case measure=>simp[intOf]<;>omega
  ·have HF:Hid (cur=spreadS l):=by have:=hm;rw[show i=32 by omega]at this;exact this.done
   have HLN:Hid (cur.length=32):=hm.1;clear hr1 hr2 hr3 hb hm;go_wp2_with (first|(refine wpList_load_nums (by with_reducible rfl) 71 _ (by with_reducible rfl) .u8 71 5 32 Tryz.underlying71 Tryz.sizeB32 _ cur (by rfl) HRW.out.2.2.1 HLN.out ?_)|(refine wpList_store_nums (by with_reducible rfl) 71 _ _ (by with_reducible rfl) .u8 71 32 Tryz.sizeB32 _ (List.replicate 32 0) cur (by rfl) (by rfl) HRW.out.2.1 (by simp) HLN.out ?_;intro w4 hr4 hb4 hs4 ho4))
   rw[HF.out]at hr4;refine bodyPost_ret (v:=ag .u8 (spreadS l)) (results_nums rfl _ _ _ 71 5 .u8 32 _ rfl hr4 Tryz.underlying71 Tryz.sizeB32 (spreadS_length _)) rfl ⟨rfl,HRW.out.2.2.2.trans (hb4.mono (by omega))⟩
structure ButS(g:Nat)(w w':World):Prop where
 os:w'.os=w.os
 tape:w'.tape=w.tape
 output:w'.output=w.output
 size:w.heap.size≤w'.heap.size
 block:∀k,k<w.heap.size→k≠g→w'.heap[k]?=w.heap[k]?
theorem ButS.refl(g:Nat)(w:World):ButS g w w:=⟨rfl,rfl,rfl,Nat.le_refl _,fun _ _ _=>rfl⟩
theorem ButS.trans{g:Nat}{a b c:World}(h:ButS g a b)(k:ButS g b c):ButS g a c:=
 ⟨k.os.trans h.os,k.tape.trans h.tape,k.output.trans h.output,Nat.le_trans h.size k.size,fun i hi hg=>(k.block i (Nat.lt_of_lt_of_le hi h.size) hg).trans (h.block i hi hg)⟩
theorem ButS.ofBelow{g:Nat}{w w':World}(h:Below w.heap.size w w'):ButS g w w':=⟨h.os,h.tape,h.output,h.size,fun k hk _=>h.block k hk⟩
theorem ButS.below{g B:Nat}{w w':World}(h:ButS g w w')(hB:B≤g)(hw:B≤w.heap.size):Below B w w':=⟨h.os,h.tape,h.output,h.size,fun k hk=>h.block k (by omega) (by omega)⟩
theorem ButS.setRow(g:Nat)(w:World)(cs:Array Value):ButS g w (w.setRow g cs):=⟨rfl,rfl,rfl,by simp,fun k _ hk=>setRow_other w g k cs hk⟩
theorem ButS.setCell(g:Nat)(w:World)(j:Nat)(v:Value):ButS g w (w.setCell ⟨g,j,none⟩ v):=⟨rfl,rfl,rfl,by simp[World.setCell],fun k _ hk=>heap_setCell_other w ⟨g,j,none⟩ k v hk⟩
theorem ButS.drewN(g:Nat)(w:World)(n:Nat):ButS g w (w.drewN n):=ButS.ofBelow (Drew.below ⟨n,rfl⟩ _)
theorem ButS.row{g:Nat}{w w':World}(h:ButS g w w'){e:TypeId}{k:IntKind}{j:Nat}{xs:List Int}(hr:Row e k w j xs)(hj:j≠g):Row e k w' j xs:=by unfold Row;rw[h.block j hr.lt hj];exact hr
theorem ButS.lies{g:Nat}{w w':World}(h:ButS g w w'){k:IntKind}{ao:Option Addr}{len:Nat}{xs:List Int}(hl:Lies k w ao len xs)(hj:∀b off s,ao=some ⟨b,off,s⟩→b≠g):Lies k w' ao len xs:=by
 refine⟨hl.1,?_⟩;rcases hl.2 with h0|⟨b,off,e,hlt,hc⟩
 ·exact .inl h0
 ·refine .inr ⟨b,off,e,Nat.lt_of_lt_of_le hlt h.size,fun i hi => ?_⟩;rw[←hc i hi];exact World.cell?_of_block (w:=w) (h.block b hlt (hj b off none e))
def HC (n:Int)(ws rs:List Int):List Value:=Value.int .u64 n::(ws.map (Value.int .u32)++rs.map (Value.int .u8))
theorem HC_length(n:Int)(ws rs:List Int):(HC n ws rs).length=1+ws.length+rs.length:=by simp[HC];omega
theorem HC_word(n:Int)(ws rs:List Int)(j:Nat)(h:j<ws.length):(HC n ws rs)[1+j]?=some (.int .u32 (ws.getD j 0)):=by rw[Nat.add_comm];simp only[HC,List.getElem?_cons_succ];rw[List.getElem?_append_left (by simpa using h)];simp[List.getD,h]
theorem HC_rest(n:Int)(ws rs:List Int)(j:Nat)(h:j<rs.length):(HC n ws rs)[1+ws.length+j]?=some (.int .u8 (rs.getD j 0)):=by rw[show 1+ws.length+j=(ws.length+j)+1 by omega];simp only[HC,List.getElem?_cons_succ];rw[List.getElem?_append_right (by simp)];simp[List.getD,h]
theorem HC_words(n:Int)(ws rs vs:List Int)(h:vs.length=ws.length):(HC n ws rs).take (1+0)++vs.map (Value.int .u32)++(HC n ws rs).drop (1+0+(vs.map (Value.int .u32)).length)=HC n vs rs:=by
 have e:1+0+(vs.map (Value.int .u32)).length=ws.length+1:=by simp;omega
 rw[e];simp only[HC,Nat.add_zero,List.take_succ_cons,List.take_zero,List.drop_succ_cons];rw[List.drop_append_of_le_length (by simp),List.drop_eq_nil_of_le (by simp)];simp
theorem HC_over(n:Int)(ws rs cs:List Int)(o:Nat)(h:o+cs.length≤rs.length):(HC n ws rs).take (1+ws.length+o)++cs.map (Value.int .u8)++(HC n ws rs).drop (1+ws.length+o+(cs.map (Value.int .u8)).length)=HC n ws (rs.take o++cs++rs.drop (o+cs.length)):=by
 rw[show 1+ws.length+o=(ws.length+o)+1 by omega];have e:ws.length+o+1+(cs.map (Value.int .u8)).length=(ws.length+(o+cs.length))+1:=by simp;omega
 rw[e];simp only[HC,List.take_succ_cons,List.drop_succ_cons,List.cons_append];congr 1
 have h1:(ws.map (Value.int .u32)).length=ws.length:=by simp
 rw[←h1,List.take_length_add_append,List.drop_length_add_append];simp
structure HRow(w:World)(g:Nat)(n:Int)(ws rs:List Int):Prop where
 blk:w.heap[g]?=some (.cells (HC n ws rs).toArray 145 (0,0))
 lw:ws.length=8
 lr:rs.length=64
theorem HRow.lt{w:World}{g:Nat}{n:Int}{ws rs:List Int}(h:HRow w g n ws rs):g<w.heap.size:=(Array.getElem?_eq_some_iff.1 h.blk).1
theorem HRow.size{w:World}{g:Nat}{n:Int}{ws rs:List Int}(h:HRow w g n ws rs):w.cell? ⟨g,0,none⟩=some (.int .u64 n):=by rw[cell_of_row w g 0 _ _ _ h.blk];rfl
theorem HRow.word{w:World}{g:Nat}{n:Int}{ws rs:List Int}(h:HRow w g n ws rs)(j:Nat)(hj:j<8):w.cell? ⟨g,1+j,none⟩=some (.int .u32 (ws.getD j 0)):=by rw[cell_of_row w g _ _ _ _ h.blk,List.getElem?_toArray];exact HC_word _ _ _ _ (by rw[h.lw];exact hj)
theorem HRow.byte{w:World}{g:Nat}{n:Int}{ws rs:List Int}(h:HRow w g n ws rs)(j:Nat)(hj:j<64):w.cell? ⟨g,9+j,none⟩=some (.int .u8 (rs.getD j 0)):=by rw[cell_of_row w g _ _ _ _ h.blk,List.getElem?_toArray];have:=HC_rest n ws rs j (by rw[h.lr];exact hj);rw[h.lw]at this;exact this
theorem HRow.frozen{w:World}{g:Nat}{n:Int}{ws rs:List Int}(h:HRow w g n ws rs)(j:Nat):w.frozen? ⟨g,j,none⟩=false:=frozen_of_row w g j _ _ h.blk
theorem HRow.rest{w:World}{g:Nat}{n:Int}{ws rs:List Int}(h:HRow w g n ws rs):Lies .u8 w (some ⟨g,9,none⟩) 64 rs:=
 ⟨h.lr,.inr ⟨g,9,rfl,h.lt,fun i hi=>h.byte i hi⟩⟩
theorem HRow.but{w w':World}{g g':Nat}{n:Int}{ws rs:List Int}(h:HRow w g n ws rs)(hb:ButS g' w w')(hg:g≠g'):HRow w' g n ws rs:=⟨by rw[hb.block g h.lt hg];exact h.blk,h.lw,h.lr⟩
theorem HRow.old{w w':World}{g:Nat}{n:Int}{ws rs:List Int}(h:HRow w g n ws rs){B:Nat}(hb:Below B w w')(hg:g<B):HRow w' g n ws rs:=⟨by rw[hb.block g hg];exact h.blk,h.lw,h.lr⟩
theorem HRow.drewN{w:World}{g:Nat}{n:Int}{ws rs:List Int}(h:HRow w g n ws rs)(m:Nat):HRow (w.drewN m) g n ws rs:=⟨h.blk,h.lw,h.lr⟩
theorem HRow.setSize{w:World}{g:Nat}{n:Int}{ws rs:List Int}(h:HRow w g n ws rs)(m:Int):HRow (w.setCell ⟨g,0,none⟩ (.int .u64 m)) g m ws rs:=by refine⟨?_,h.lw,h.lr⟩;rw[heap_setCell_same w g 0 _ _ _ h.blk];simp[HC]
theorem HRow.store{P:Program}{w:World}{g:Nat}{n:Int}{ws rs:List Int}(h:HRow w g n ws rs)(vs:List Int)(hv:vs.length=8):
  (storeCells ⟨g,1,none⟩ (vs.map (Value.int .u32)) 0).run P w=.ok () (w.setRow g (HC n vs rs).toArray):=by
 have:=run_storeCells_at P g 1 145 (vs.map (Value.int .u32)) 0 _ w h.blk (by have:=h.lw;have:=h.lr;simp[HC];omega) (fun v hv=>ints_oneCell _ _ v hv);rw[this];congr 3
 exact HC_words n ws rs vs (by rw[hv,h.lw])
theorem HRow.setWords{w:World}{g:Nat}{n:Int}{ws rs:List Int}(h:HRow w g n ws rs)(vs:List Int)(hv:vs.length=8):HRow (w.setRow g (HC n vs rs).toArray) g n vs rs:=
 ⟨setRow_heap w g _ _ _ _ h.blk,hv,h.lr⟩
theorem wpList_store_words{P:Program}{w:World}{ops:Array Oper}{rest:List Oper}{o:Oper}{a:Act}{Q:Exit→Act→World→Prop}(hgd:o.guard=none)(ty:TypeId)(x y:Operand)(hop:o.op=Op.store ty x y)
  (hi:(P.info? ty).map (·.size)=some 8) (g:Nat) (n:Int) (ws rs vs:List Int) (hx:a.eval x=.pointer (some ⟨g,1,none⟩)) (hy:a.eval y=ag .u32 vs) (hv:vs.length=8) (hr:HRow w g n ws rs)
  (h:∀w',HRow w' g n vs rs→ButS g w w'→w'.heap.size=w.heap.size→wpList P ops Q rest (a.put o.dst undef) w'):wpList P ops Q (o::rest) a w:=by
 refine wpList_plain hgd fun K hK => ?_;have hst:=hr.store (P:=P) vs hv;have hrun:(storeVar ty ⟨g,1,none⟩ (ag .u32 vs)).run P w=.ok () (w.setRow g (HC n vs rs).toArray):=by
  cases hq:P.info? ty with
  | none=>simp[hq]at hi
  | some i=>
   have hs:i.size=8:=by simpa [hq] using hi
   simp[ag,storeVar,sizeOf,typeInfo,hq,Value.cells,hs,hv,hst]
 unfold Oper.wp execOp;simp only[hop,hx,hy,Instr.storeAt,Instr.sureAddr,Sem.run_bind,Sem.run_pure,Result.andThen_ok,hrun];exact hK _ _ (h _ (hr.setWords vs hv) (ButS.setRow _ _ _) (by simp))
theorem wpList_copy_rest{P:Program}{w:World}{ops:Array Oper}{rest:List Oper}{o:Oper}{a:Act}{Q:Exit→Act→World→Prop}(hgd:o.guard=none)(d s:Operand)(dT sT:TypeId)
  (hop:o.op=.call { callee:=.builtin .copy,args:=#[d,s],argTypes:=#[dT,sT] }) (e:TypeId) (hu:P.underlying dT=some (.slice e)) (hsz:(P.info? e).map (·.size)=some 1)
  (g off:Nat) (ao:Option Addr) (dl dc sl sc:Nat) (hd:a.eval d=.slice (some ⟨g,9+off,none⟩) dl dc) (hs:a.eval s=.slice ao sl sc) (n:Int) (ws rs ys:List Int)
  (hr:HRow w g n ws rs) (hy:Lies .u8 w ao sl ys) (hdl:off+dl=64) (m:Nat) (hm:m=min sl dl)
  (h:∀w',HRow w' g n ws (rs.take off++ys.take m++rs.drop (off+m))→ButS g w w'→w'.heap.size=w.heap.size→wpList P ops Q rest (a.put o.dst (goInt m)) w'):wpList P ops Q (o::rest) a w:=by
 have hl:=hy.len;have hl64:=hr.lr;have hcl:((ys.take m).map (Value.int .u8)).length=m:=by simp;omega
 have hcm:(ys.take m).length=m:=by simp;omega
 by_cases h0:m=0
 ·refine wpList_copy_nothing hgd d s dT sT hop e hu hsz _ ao dl dc sl sc hd hs (show min sl dl=0 by omega) ?_;have:=h w (by
   rw[h0];simpa using hr) (ButS.refl _ _) rfl
  rw[h0]at this;exact this
 ·obtain⟨b,o',rfl,hlt,hc⟩:=hy.at (by omega);refine wpList_copy_own hgd d s dT sT hop e hu hsz g (9+off) dl dc ⟨b,o',none⟩ sl sc hd hs _ 145 hr.blk ((ys.take m).map (Value.int .u8)) (by rw[hcl];exact hm) ?_ ?_ (ints_oneCell _ _) ?_
  ·intro j v hj;simp only[List.getElem?_map,List.getElem?_take]at hj;split at hj
   ·have:=hc j (by omega);rw[List.getElem?_eq_getElem (by omega)]at hj;simp only[Option.map_some,Option.some.injEq]at hj;rw[Addr.add_mid,this,←hj];simp[List.getD,List.getElem?_eq_getElem (show j<ys.length by omega)]
   ·simp at hj
  ·have:=hr.lw;simp[HC_length];omega
  ·rw[hcl];have e:=HC_over n ws rs (ys.take m) off (by rw[hcm];omega);rw[hr.lw,hcl,hcm,List.append_assoc]at e;rw[List.toList_toArray,show 9+off=1+8+off by omega,e];refine h _ ⟨?_,hr.lw,?_⟩ (ButS.setRow _ _ _) (by simp)
   ·exact setRow_heap w g _ _ _ _ hr.blk
   ·simp;omega
theorem getD_set_same(l:List Int)(i:Nat)(x:Int)(h:i<l.length):(l.set i x).getD i 0=x:=by simp[List.getD,h]
theorem getD_set_other(l:List Int)(i j:Nat)(x:Int)(h:i≠j):(l.set i x).getD j 0=l.getD j 0:=by simp[List.getD,List.getElem?_set_ne h]
theorem getD_take(l:List Int)(n j:Nat)(h:j<n):(l.take n).getD j 0=l.getD j 0:=by simp[List.getD,List.getElem?_take,h]
theorem ext_getD(l m:List Int)(h:l.length=m.length)(hj:∀j,j<l.length→l.getD j 0=m.getD j 0):l=m:=by apply List.ext_getElem h;intro j h1 h2;have:=hj j h1;simpa [List.getD,h1,h2] using this
theorem pw_bounds(b:List Int)(hd:Dg 256 b)(i:Nat):∀k,0≤pw b i k∧pw b i k<256^k
 | 0=>by simp[pw]
 | k+1=>by
  have h1:=pw_bounds b hd i k;have h2:=hd.getD (by decide) (4*i+k);rw[pw,Int.pow_succ];omega
def SchA (b:List Int)(i k:Nat)(cur:List Int):Prop:=
 cur.length=64∧(∀j,j<i→cur.getD j 0=pw b j 4)∧cur.getD i 0=pw b i k∧∀j,i<j→cur.getD j 0=0
theorem SchA.zero(b:List Int):SchA b 0 0 (List.replicate 64 0):=⟨by simp,fun j h=>by omega,getD_zeros _ _,fun j _=>getD_zeros _ _⟩
theorem SchA.step{b cur:List Int}{i k:Nat}(h:SchA b i k cur)(hi:i<16):SchA b i (k+1) (cur.set i (cur.getD i 0*256+b.getD (4*i+k) 0)):=by
 obtain⟨h1,h2,h3,h4⟩:=h;refine⟨by simpa using h1,fun j hj => ?_,?_,fun j hj => ?_⟩
 ·rw[getD_set_other _ _ _ _ (by omega)];exact h2 j hj
 ·rw[getD_set_same _ _ _ (by omega),h3];rfl
 ·rw[getD_set_other _ _ _ _ (by omega)];exact h4 j hj
theorem SchA.next{b cur:List Int}{i:Nat}(h:SchA b i 4 cur):SchA b (i+1) 0 cur:=by
 obtain⟨h1,h2,h3,h4⟩:=h;refine⟨h1,fun j hj => ?_,?_,fun j hj=>h4 j (by omega)⟩
 ·by_cases e:j=i
  ·rw[e];exact h3
  ·exact h2 j (by omega)
 ·rw[h4 (i+1) (by omega)];rfl
theorem words16_length(b:List Int):(words16 b).length=16:=by simp[words16]
theorem words16_get(b:List Int)(j:Nat)(h:j<16):(words16 b).getD j 0=pw b j 4:=by simp[words16,List.getD,h]
theorem schedGo_length:∀(n:Nat) (l:List Int),(schedGo n l).length=l.length+n
 | 0,l=>by simp[schedGo]
 | n+1,l=>by rw[schedGo,schedGo_length n];simp;omega
theorem schedGo_succ:∀(n:Nat) (l:List Int),schedGo (n+1) l=schedGo n l++[wNext (schedGo n l) (l.length+n)]
 | 0,l=>by simp[schedGo]
 | n+1,l=>by
  rw[schedGo,schedGo_succ n];have:(l++[wNext l l.length]).length+n=l.length+(n+1):=by simp;omega
  rw[this];rfl
theorem wNext_take(l:List Int)(i:Nat)(h:16≤i):wNext (l.take i) i=wNext l i:=by unfold wNext;rw[getD_take _ _ _ (by omega),getD_take _ _ _ (by omega),getD_take _ _ _ (by omega),getD_take _ _ _ (by omega)]
def SchB (b:List Int)(i:Nat)(cur:List Int):Prop:=cur.length=64∧cur.take i=schedGo (i-16) (words16 b)
theorem SchA.done{b cur:List Int}(h:SchA b 16 0 cur):SchB b 16 cur:=by
 refine⟨h.1,?_⟩;apply ext_getD
 ·rw[schedGo_length,words16_length];have:=h.1;simp;omega
 ·intro j hj;have hj':j<16:=by have:=h.1;simp at hj;omega
  rw[getD_take _ _ _ hj',h.2.1 j hj'];exact(words16_get b j hj').symm
theorem take_succ_set(l:List Int)(i:Nat)(x:Int)(h:i<l.length):(l.set i x).take (i+1)=l.take i++[x]:=by rw[List.take_succ_eq_append_getElem (by simpa using h)];simp[List.take_set_of_le]
theorem SchB.step{b cur:List Int}{i:Nat}(h:SchB b i cur)(h1:16≤i)(h2:i<64):SchB b (i+1) (cur.set i (wNext cur i)):=by obtain⟨hl,ht⟩:=h;refine⟨by simpa using hl,?_⟩;rw[take_succ_set _ _ _ (by omega),ht,show i+1-16=(i-16)+1 by omega,schedGo_succ,words16_length,show 16+(i-16)=i by omega,←ht,wNext_take _ _ h1]
theorem SchB.done{b cur:List Int}(h:SchB b 64 cur):cur=sched b:=by obtain⟨hl,ht⟩:=h;rw[List.take_of_length_le (by omega)]at ht;exact ht
theorem Row.setOther{e:TypeId}{k:IntKind}{w:World}{g:Nat}{xs:List Int}(h:Row e k w g xs){p:Addr}(hp:g≠p.block)(v:Value):Row e k (w.setCell p v) g xs:=by unfold Row;rw[heap_setCell_other w p g v hp];exact h
theorem or_byte(a d:Int)(ha:0≤a)(ha':a<16777216)(hd:0≤d)(hd':d<256):bits .or .u32 (a*256) d=a*256+d:=by
 obtain⟨x,rfl⟩:=Int.eq_ofNat_of_zero_le ha;obtain⟨y,rfl⟩:=Int.eq_ofNat_of_zero_le hd;show IntKind.u32.wrap ((BitVec.ofInt 32 ((x:Int)*256)|||BitVec.ofInt 32 (y:Int)).toNat:Int)=_;rw[BitVec.toNat_or,show((x:Int)*256)=((x*256:Nat):Int) by omega,ofInt_u32 (x*256) (by omega),ofInt_u32 y (by omega)];have:x*256|||y=x*256+y:=by have:=Nat.two_pow_add_eq_or_of_lt (i:=8) (b:=y) (by omega) x;rw[Nat.mul_comm];exact this.symm
 rw[this,IntKind.wrap_u32];omega
theorem schedule_any(b off cap : Nat)(bs : List Int)(w : World)(h : Lies .u8 w (some ⟨b, off, none⟩) 64 bs)(hd : Dg 256 bs)(hcap : 64 ≤ cap)(hc2 : cap ≤ maxLen) :
  Calls Tryz.prog 132 #[.slice (some ⟨b,off,none⟩) 64 cap] w fun e w'=>e=.returned (ag .u32 (sched bs))∧Below w.heap.size w w':=by
 have HL:Hid (Lies .u8 w (some ⟨b,off,none⟩) 64 bs):=h;have HD:Hid (Dg 256 bs):=hd;unfold maxLen at hc2;clear h hd;go_enter Tryz.func132,Tryz.ntmps132;go_wp2_with (refine wpList_alloc_row rfl 172 rfl .u32 64 Tryz.infoW64 ?_;intro w1 hr1 hb1 hs1)
 rename_i w0 hr0 hb0 hs0 K0 hK0;have HR2:Hid (Row 172 .u32 w1 (w.heap.size+1) (List.replicate 64 0)∧Row 172 .u32 w1 w.heap.size (List.replicate 64 0)∧Below w.heap.size w w1):=
  ⟨by rw[←hs0];exact hr1,hr0.below hb1 (by omega),hb0.trans (hb1.mono (by omega))⟩
 clear hr0 hb0 hs0 hr1 hb1 hs1 w0;go_wp2;go_loopw [12] (fun vi wr=>∃(i:Nat) (cur:List Int),i≤16∧vi=.int .i64 i∧Row 172 .u32 wr (w.heap.size+1) cur∧SchA bs i 0 cur∧Row 172 .u32 wr w.heap.size (List.replicate 64 0)∧Below w.heap.size w wr) (fun vi _=>16-(intOf vi).toNat)
 case atStart=>exact⟨0,_,by omega,rfl,HR2.out.1,SchA.zero bs,HR2.out.2.1,HR2.out.2.2⟩
 case round =>
  obtain⟨i,cur0,hi,rfl,hrw0,hm0,hro0,hb0⟩:=hrel;clear HR2;have HR0:Hid (Row 172 .u32 wr (w.heap.size+1) cur0∧SchA bs i 0 cur0∧Row 172 .u32 wr w.heap.size (List.replicate 64 0)∧Below w.heap.size w wr):=⟨hrw0,hm0,hro0,hb0⟩
  clear hrw0 hm0 hro0 hb0;by_cases hlt:i<16
  ·go_wp2;go_loopw [23] (fun vk wr=>∃(k:Nat) (cur:List Int),k≤4∧vk=.int .i64 k∧Row 172 .u32 wr (w.heap.size+1) cur∧SchA bs i k cur∧Row 172 .u32 wr w.heap.size (List.replicate 64 0)∧Below w.heap.size w wr) (fun vk _=>4-(intOf vk).toNat)
   case atStart=>exact⟨0,_,by omega,rfl,HR0.out⟩
   case round=>
    obtain⟨k,cur,hk,rfl,hrw,hm,hro,hb⟩:=hrel;clear HR0;by_cases hlk:k<4
    ·have hl:=hm.1;have hc:=hrw.cell i (by omega);have hf:=hrw.frozen i;have hcb:wr.cell? ⟨b,off+i*4+k,none⟩=some (.int .u8 (bs.getD (4*i+k) 0)):=by
      obtain⟨b',off',e,_,hcs⟩:=(HL.out.old hb).at (by omega)
      cases e
      rw[show off+i*4+k=off+(4*i+k) by omega];exact hcs _ (by omega)
     have gd:=HD.out.getD (by decide) (4*i+k);have gp:=pw_bounds bs HD.out i k;have gp2:(256:Int)^k≤16777216:=by
      have:k=0∨k=1∨k=2∨k=3:=by omega
      rcases this with rfl|rfl|rfl|rfl<;>decide
     have HM:Hid (SchA bs i (k+1) (cur.set i (cur.getD i 0*256+bs.getD (4*i+k) 0))):=hm.step hlt;have HF:Hid (bits .or .u32 (cur.getD i 0*256%4294967296) (bs.getD (4*i+k) 0%4294967296)=cur.getD i 0*256+bs.getD (4*i+k) 0):=by unfold Hid;rw[hm.2.2.1,Int.emod_eq_of_lt (show 0≤pw bs i k*256 by omega) (by omega),Int.emod_eq_of_lt gd.1 (by omega)];exact or_byte _ _ gp.1 (by omega) gd.1 gd.2
     have HRW:Hid (Row 172 .u32 wr (w.heap.size+1) cur∧Row 172 .u32 wr w.heap.size (List.replicate 64 0)∧Below w.heap.size w wr):=⟨hrw,hro,hb⟩
     generalize cur.getD i 0=x at *;generalize bs.getD (4*i+k) 0=d at *;clear hrw hm hro hb hl gd gp gp2;go_wp2;go_roundw
     case rel=>
      refine⟨k+1,cur.set i (x*256+d),by omega,by go_num,?_,HM.out,?_,?_⟩
      ·rw[←HF.out];exact HRW.out.1.set i _
      ·exact HRW.out.2.1.setOther (by simp) _
      ·exact HRW.out.2.2.setCell (by simp) _
     case measure=>simp[intOf]<;>omega
    ·obtain rfl:k=4:=by omega
     have HM:Hid (SchA bs (i+1) 0 cur):=hm.next;clear hm;go_wp2;go_roundw
     case rel=>exact⟨i+1,cur,by omega,by go_num,hrw,HM.out,hro,hb⟩
     case measure=>simp[intOf]<;>omega
  ·have HB0:Hid (SchB bs 16 cur0):=by
    have:=HR0.out.2.1;rw[show i=16 by omega]at this;exact this.done
   clear hi;generalize i=i0 at *;go_wp2;go_loopw [7] (fun vi wr=>∃(i:Nat) (cur:List Int),16≤i∧i≤64∧vi=.int .i64 i∧Row 172 .u32 wr (w.heap.size+1) cur∧SchB bs i cur∧Row 172 .u32 wr w.heap.size (List.replicate 64 0)∧Below w.heap.size w wr) (fun vi _=>64-(intOf vi).toNat)
   case atStart=>exact⟨16,cur0,by omega,by omega,rfl,HR0.out.1,HB0.out,HR0.out.2.2⟩
   case round =>
    obtain⟨i,cur,hi1,hi2,rfl,hrw,hm,hro,hb⟩:=hrel;clear HR0 HB0;have HRW:Hid (Row 172 .u32 wr (w.heap.size+1) cur∧Row 172 .u32 wr w.heap.size (List.replicate 64 0)∧Below w.heap.size w wr):=⟨hrw,hro,hb⟩
    by_cases hlt:i<64
    ·have hl:=hm.1;have c0:=hrw.cell (i-16) (by omega);have c1:=hrw.cell (i-15) (by omega);have c2:=hrw.cell (i-7) (by omega);have c3:=hrw.cell (i-2) (by omega);have ci:=hrw.cell i (by omega);have hf:=hrw.frozen i;have HM:Hid (SchB bs (i+1) (cur.set i (wNext cur i))):=hm.step hi1 hlt;have HF:Hid (wNext cur i=(cur.getD (i-16) 0+bits .xor .u32 (bits .xor .u32 (rot (cur.getD (i-15) 0) 7) (rot (cur.getD (i-15) 0) 18)) (cur.getD (i-15) 0/8)+cur.getD (i-7) 0+bits .xor .u32 (bits .xor .u32 (rot (cur.getD (i-2) 0) 17) (rot (cur.getD (i-2) 0) 19)) (cur.getD (i-2) 0/1024))%4294967296):=by
      unfold Hid wNext sg0 sg1 M32;omega
     generalize cur.getD (i-16) 0=x0 at *;generalize cur.getD (i-15) 0=x1 at *;generalize cur.getD (i-7) 0=x2 at *;generalize cur.getD (i-2) 0=x3 at *;have H7:=fun w=>rotr_any x1 7 w (by omega) (by omega);have H18:=fun w=>rotr_any x1 18 w (by omega) (by omega);have H17:=fun w=>rotr_any x3 17 w (by omega) (by omega);have H19:=fun w=>rotr_any x3 19 w (by omega) (by omega);clear hrw hm hro hb hl;go_wp2;go_quiet (fail)
     all_goals
      go_wp2_with (go_at_call 133;first|(refine(H7 _).mono ?_;rintro e w' ⟨rfl,rfl⟩)|(refine(H18 _).mono ?_;rintro e w' ⟨rfl,rfl⟩)|(refine(H17 _).mono ?_;rintro e w' ⟨rfl,rfl⟩)|(refine(H19 _).mono ?_;rintro e w' ⟨rfl,rfl⟩))
      go_region
      all_goals
       go_wp2;go_roundw
       case rel=>
        refine⟨i+1,cur.set i (wNext cur i),by omega,by omega,by go_num,?_,HM.out,?_,?_⟩
        ·rw[HF.out];exact(HRW.out.1.drewN _).set i _
        ·exact(HRW.out.2.1.drewN _).setOther (by simp) _
        ·exact(HRW.out.2.2.trans (Drew.below ⟨_,rfl⟩ _)).setCell (Nat.le_succ _) _
       case measure=>simp[intOf]<;>omega
    ·obtain rfl:i=64:=by omega
     have HF:Hid (cur=sched bs):=hm.done;have HLN:Hid (cur.length=64):=hm.1;clear hrw hm hro hb;go_wp2_with (first|(refine wpList_load_nums rfl 172 _ rfl .u32 172 114 64 Tryz.underlying172 Tryz.sizeW64 _ cur rfl HRW.out.1 HLN.out ?_)|(refine wpList_store_nums rfl 172 _ _ rfl .u32 172 64 Tryz.sizeW64 _ (List.replicate 64 0) cur rfl rfl HRW.out.2.1 (by simp) HLN.out ?_;intro w4 hr4 hb4 hs4 ho4))
     rw[HF.out]at hr4;refine bodyPost_ret (v:=ag .u32 (sched bs)) (results_nums rfl _ _ _ 172 114 .u32 64 _ rfl hr4 Tryz.underlying172 Tryz.sizeW64 (by rw[←HF.out];exact HLN.out)) rfl ⟨rfl,HRW.out.2.2.trans hb4⟩
theorem sched_length(b:List Int):(sched b).length=64:=by unfold sched;rw[schedGo_length,words16_length]
theorem int_eq{k:IntKind}{x y:Int}(h:x=y):Value.int k x=Value.int k y:=by rw[h]
theorem rnd_a(a b c d e f g h k w:Int):((h+bits .xor .u32 (bits .xor .u32 (rot e 6) (rot e 11)) (rot e 25)+bits .xor .u32 (bits .and .u32 e f) (bits .and .u32 (bits .xor .u32 (if IntKind.u32.signed=true then -1 else IntKind.u32.max) e) g)+k+w)%4294967296+(bits .xor .u32 (bits .xor .u32 (rot a 2) (rot a 13)) (rot a 22)+bits .xor .u32 (bits .xor .u32 (bits .and .u32 a b) (bits .and .u32 a c)) (bits .and .u32 b c))%4294967296)%4294967296=(rnd ⟨a,b,c,d,e,f,g,h⟩ k w).a:=by have e0:(if IntKind.u32.signed=true then -1 else IntKind.u32.max)=(4294967295:Int):=rfl;rw[e0];simp only[rnd,t1,t2,big0,big1,chI,majI,M32];omega
theorem rnd_e(a b c d e f g h k w:Int):(d+(h+bits .xor .u32 (bits .xor .u32 (rot e 6) (rot e 11)) (rot e 25)+bits .xor .u32 (bits .and .u32 e f) (bits .and .u32 (bits .xor .u32 (if IntKind.u32.signed=true then -1 else IntKind.u32.max) e) g)+k+w)%4294967296)%4294967296=(rnd ⟨a,b,c,d,e,f,g,h⟩ k w).e:=by have e0:(if IntKind.u32.signed=true then -1 else IntKind.u32.max)=(4294967295:Int):=rfl;rw[e0];simp only[rnd,t1,t2,big0,big1,chI,majI,M32];omega
theorem mix_any(old K:List Int)(b off cap:Nat)(bs:List Int)(w:World)(ho:old.length=8)(hk:K.length=64)(h:Lies .u8 w (some ⟨b,off,none⟩) 64 bs)(hd:Dg 256 bs)(hcap:64≤cap)(hc2:cap≤maxLen):
  Calls Tryz.prog 104 #[ag .u32 old,.slice (some ⟨b,off,none⟩) 64 cap,ag .u32 K] w fun e w'=>e=.returned (ag .u32 (mixS K old bs))∧Below w.heap.size w w':=by
 have HS:∀w',Below w.heap.size w w'→Calls Tryz.prog 132 #[.slice (some ⟨b,off,none⟩) 64 cap] w' fun e w''=>e=.returned (ag .u32 (sched bs))∧Below w'.heap.size w' w'':=fun w' hb=>schedule_any b off cap bs w' (h.old hb) hd hcap hc2;have HLN:Hid (old.length=8∧K.length=64∧(sched bs).length=64):=⟨ho,hk,sched_length bs⟩
 have HFIN:Hid (mixS K old bs=addS old (runS K (sched bs) (s8 old) 64)):=rfl;generalize sched bs=W at *;clear h hd ho hk;go_enter Tryz.func104,Tryz.ntmps104;go_wp2_with (first
  | (refine wpList_box_row rfl 142 _ (by with_reducible rfl) .u32 old (by rfl) ?_;intro w1 hr1 hb1 hs1)
  | (refine wpList_box_row rfl 172 _ (by with_reducible rfl) .u32 K (by rfl) ?_;intro w2 hr2 hb2 hs2)
  | (refine wpList_alloc_row rfl 142 (by with_reducible rfl) .u32 8 Tryz.infoW8 ?_;intro w3 hr3 hb3 hs3))
 have HW3:Hid (Row 142 .u32 w3 w.heap.size old∧Row 172 .u32 w3 (w.heap.size+1) K∧Row 142 .u32 w3 (w.heap.size+1+1) (List.replicate 8 0)∧Below w.heap.size w w3∧w3.heap.size=w.heap.size+3):=
  ⟨(hr1.below hb2 (by omega)).below hb3 (by omega),by rw[←hs1];exact hr2.below hb3 (by omega),by rw[←hs1,←hs2];exact hr3,(hb1.trans (hb2.mono (by omega))).trans (hb3.mono (by omega)),by omega⟩
 clear hr1 hb1 hs1 hr2 hb2 hs2 hr3 hb3 hs3;refine(HS _ HW3.out.2.2.2.1).mono ?_;rintro e w4 ⟨rfl,hb4⟩;have HW4:Hid (Row 142 .u32 w4 w.heap.size old∧Row 172 .u32 w4 (w.heap.size+1) K∧Row 142 .u32 w4 (w.heap.size+1+1) (List.replicate 8 0)∧Below w.heap.size w w4∧w.heap.size+3≤w4.heap.size):=by obtain⟨a1,a2,a3,a4,a5⟩:=HW3.out;exact⟨a1.below hb4 (by omega),a2.below hb4 (by omega),a3.below hb4 (by omega),a4.trans (hb4.mono (by omega)),by have:=hb4.size;omega⟩
 clear HW3 hb4 HS;go_wp2_with (first
  | (refine wpList_alloc_row rfl 172 rfl .u32 64 Tryz.infoW64 ?_;intro w5 hr5 hb5 hs5)
  | (refine wpList_store_nums rfl 172 _ _ rfl .u32 172 64 Tryz.sizeW64 _ (List.replicate 64 0) W rfl rfl hr5 (by simp) HLN.out.2.2 ?_;intro w6 hr6 hb6 hs6 ho6))
 generalize hg7:w4.heap.size=g7 at *;have HW6:Hid (Row 142 .u32 w6 w.heap.size old∧Row 172 .u32 w6 (w.heap.size+1) K∧Row 142 .u32 w6 (w.heap.size+1+1) (List.replicate 8 0)∧Row 172 .u32 w6 g7 W∧Below w.heap.size w w6):=by obtain⟨a1,a2,a3,a4,a5⟩:=HW4.out;have hb46:Below g7 w4 w6:=hb5.trans hb6;exact⟨a1.below hb46 (by omega),a2.below hb46 (by omega),a3.below hb46 (by omega),hr6,a4.trans (hb46.mono (by omega))⟩
 clear HW4 hr5 hb5 hs5 hr6 hb6 hs6 ho6 hg7;have hc:∀j,j<8→w6.cell? ⟨w.heap.size,j,none⟩=some (.int .u32 (old.getD j 0)):=fun j hj=>HW6.out.1.cell j (by have:=HLN.out;omega);have c0:=hc 0 (by omega);have c1:=hc 1 (by omega);have c2:=hc 2 (by omega);have c3:=hc 3 (by omega);have c4:=hc 4 (by omega);have c5:=hc 5 (by omega);have c6:=hc 6 (by omega);have c7:=hc 7 (by omega);clear hc;have HS8:Hid (s8 old=⟨old.getD 0 0,old.getD 1 0,old.getD 2 0,old.getD 3 0,old.getD 4 0,old.getD 5 0,old.getD 6 0,old.getD 7 0⟩):=rfl;have HAD:Hid (∀s,addS old s=[(old.getD 0 0+s.a)%M32,(old.getD 1 0+s.b)%M32,(old.getD 2 0+s.c)%M32,(old.getD 3 0+s.d)%M32,(old.getD 4 0+s.e)%M32,(old.getD 5 0+s.f)%M32,(old.getD 6 0+s.g)%M32,(old.getD 7 0+s.h)%M32]):=fun _=>rfl;generalize old.getD 0 0=o0 at *;generalize old.getD 1 0=o1 at *;generalize old.getD 2 0=o2 at *;generalize old.getD 3 0=o3 at *;generalize old.getD 4 0=o4 at *;generalize old.getD 5 0=o5 at *;generalize old.getD 6 0=o6 at *;generalize old.getD 7 0=o7 at *;go_simp;go_quiet (fail)
 go_wp2;go_quiet (fail)
 go_wp2;go_loopw [8,9,10,11,12,13,14,15,37] (fun va vb vc vd ve vf vg vh vi wr=>∃(i:Nat) (s:S8),i≤64∧vi=.int .i64 i∧va=.int .u32 s.a∧vb=.int .u32 s.b∧vc=.int .u32 s.c∧vd=.int .u32 s.d∧ve=.int .u32 s.e∧vf=.int .u32 s.f∧vg=.int .u32 s.g∧vh=.int .u32 s.h∧s=runS K W (s8 old) i∧Drew w6 wr) (fun _ _ _ _ _ _ _ _ vi _=>64-(intOf vi).toNat)
 case atStart=>exact⟨0,s8 old,by omega,rfl,by rw[HS8.out],by rw[HS8.out],by rw[HS8.out],by rw[HS8.out],by rw[HS8.out],by rw[HS8.out],by rw[HS8.out],by rw[HS8.out],rfl,((Drew.refl _).more _).more _⟩
 case round=>
  obtain⟨i,s,hi,rfl,rfl,rfl,rfl,rfl,rfl,rfl,rfl,rfl,hs,hdr⟩:=hrel;by_cases hlt:i<64
  ·have ck:=(hdr.cell _).trans (HW6.out.2.1.cell i (by have:=HLN.out;omega));have cw:=(hdr.cell _).trans (HW6.out.2.2.2.1.cell i (by have:=HLN.out;omega));have HN:Hid (runS K W (s8 old) (i+1)=rnd s (K.getD i 0) (W.getD i 0)):=by unfold Hid;rw[hs];rfl
   clear hs c0 c1 c2 c3 c4 c5 c6 c7;generalize K.getD i 0=kk at *;generalize W.getD i 0=ww at *;obtain⟨a,b',c,d,e,f,g,h⟩:=s;have HR:∀(x:Int) (n:Nat) (w:World),1≤n→n≤31→Calls Tryz.prog 133 #[.int .u32 x,.int .i64 n] w fun e w'=>e=.returned (.int .u32 (rot x n))∧w'=w:=fun x n w h1 h2=>rotr_any x n w h1 h2;have R6:=fun w=>HR e 6 w (by omega) (by omega);have R11:=fun w=>HR e 11 w (by omega) (by omega);have R25:=fun w=>HR e 25 w (by omega) (by omega);have R2:=fun w=>HR a 2 w (by omega) (by omega);have R13:=fun w=>HR a 13 w (by omega) (by omega);have R22:=fun w=>HR a 22 w (by omega) (by omega);clear HR;have HDR:Hid (Drew w6 wr):=hdr;clear hdr;go_wp2;go_quiet ((go_at_call 133;first|exact Calls.quiet_of_same (R6 _)|exact Calls.quiet_of_same (R11 _)|exact Calls.quiet_of_same (R25 _)))
   go_wp2_with (go_at_call 133;first|(refine(R2 _).mono ?_;rintro e w' ⟨rfl,rfl⟩)|(refine(R13 _).mono ?_;rintro e w' ⟨rfl,rfl⟩)|(refine(R22 _).mono ?_;rintro e w' ⟨rfl,rfl⟩))
   refine⟨⟨i+1,rnd ⟨a,b',c,d,e,f,g,h⟩ kk ww,by omega,by go_num,int_eq (rnd_a a b' c d e f g h kk ww),rfl,rfl,rfl,int_eq (rnd_e a b' c d e f g h kk ww),rfl,rfl,rfl,HN.out.symm,HDR.out.more _⟩,?_⟩;simp[intOf];omega
  ·have d0:=(hdr.cell _).trans c0;have d1:=(hdr.cell _).trans c1;have d2:=(hdr.cell _).trans c2;have d3:=(hdr.cell _).trans c3;have d4:=(hdr.cell _).trans c4;have d5:=(hdr.cell _).trans c5;have d6:=(hdr.cell _).trans c6;have d7:=(hdr.cell _).trans c7;have HF:Hid (mixS K old bs=[(o0+s.a)%M32,(o1+s.b)%M32,(o2+s.c)%M32,(o3+s.d)%M32,(o4+s.e)%M32,(o5+s.f)%M32,(o6+s.g)%M32,(o7+s.h)%M32]):=by
    unfold Hid;rw[HFIN.out,HAD.out,hs,show i=64 by omega]
   have HDR:Hid (Drew w6 wr):=hdr;have HW:Hid (Row 142 .u32 wr (w.heap.size+1+1) (List.replicate 8 0)∧Below w.heap.size w wr):=by obtain⟨n,rfl⟩:=hdr;exact⟨HW6.out.2.2.1.drewN n,HW6.out.2.2.2.2.trans (Drew.below ⟨n,rfl⟩ _)⟩
   clear hs c0 c1 c2 c3 c4 c5 c6 c7 hdr HW6 HFIN HAD HS8;obtain⟨a,b',c,d,e,f,g,h⟩:=s;go_wp2_with (refine wpList_store_nums (by with_reducible rfl) 142 _ _ (by with_reducible rfl) .u32 142 8 Tryz.sizeW8 _ (List.replicate 8 0) [(o0+a)%M32,(o1+b')%M32,(o2+c)%M32,(o3+d)%M32,(o4+e)%M32,(o5+f)%M32,(o6+g)%M32,(o7+h)%M32] (by rfl) (by rfl) HW.out.1 (by simp) (by rfl) ?_;intro w7 hr7 hb7 hs7 ho7)
   rw[←HF.out]at hr7;refine bodyPost_ret (v:=ag .u32 (mixS K old bs)) (results_nums rfl _ _ _ 142 114 .u32 8 _ rfl hr7 Tryz.underlying142 Tryz.sizeW8 rfl) rfl ⟨rfl,HW.out.2.trans (hb7.mono (by omega))⟩
theorem bits_u64_range(op:BinOp)(x y:Int):0≤bits op .u64 x y∧bits op .u64 x y<18446744073709551616:=by unfold bits;simp only[IntKind.wrap_u64];omega
def sqB (r p:Int):Bool:=decide (r*r/18446744073709551616<p)
def cuB (r p:Int):Bool:=decide (IntKind.u64.wrap (IntKind.u64.wrap (r*r/18446744073709551616*r)+(r*r%18446744073709551616)*r/18446744073709551616)<IntKind.u64.wrap (p*4294967296))
theorem squareBelow_any(r p:Int)(w:World)(h0:0≤r)(h1:r<18446744073709551616):
  Calls Tryz.prog 130 #[.int .u64 r,.int .u64 p] w fun e w'=>e=.returned (.bool (sqB r p))∧w'=w:=by
 have HM:=mul64_any r r h0 h1 h0 h1;go_enter Tryz.func130,Tryz.ntmps130;go_wp2_with (go_at_call 146;refine(HM _).mono ?_;rintro e w' ⟨rfl,rfl⟩)
 go_ret;exact⟨rfl,rfl⟩
theorem cubeBelow_any(r p:Int)(w:World)(h0:0≤r)(h1:r<18446744073709551616):
  Calls Tryz.prog 131 #[.int .u64 r,.int .u64 p] w fun e w'=>e=.returned (.bool (cuB r p))∧w'=w:=by
 have HM:=mul64_any r r h0 h1 h0 h1;have HM2:=mul64_any (r*r%18446744073709551616) r (by omega) (by omega) h0 h1;have HF:Hid (cuB r p=decide (IntKind.u64.wrap (IntKind.u64.wrap (r*r/18446744073709551616*r)+(r*r%18446744073709551616)*r/18446744073709551616)<IntKind.u64.wrap (p*4294967296))):=rfl;generalize r*r%18446744073709551616=lo at *;generalize r*r/18446744073709551616=hi at *;go_enter Tryz.func131,Tryz.ntmps131;go_wp2_with fail
 refine(HM _).mono ?_;rintro e w' ⟨rfl,rfl⟩;clear HM;go_wp2_with fail
 refine(HM2 _).mono ?_;rintro e w' ⟨rfl,rfl⟩;clear HM2;go_wp2;go_ret;exact⟨by rw[HF.out];rfl,rfl⟩
def rootAt(f:Int→Int→Bool)(p:Int):Nat→Int
 | 0=>0
 | i+1=>if f (bits .or .u64 (rootAt f p i) (2^(34-i))) p then bits .or .u64 (rootAt f p i) (2^(34-i)) else rootAt f p i
theorem int_eq'{k:IntKind}{x y:Int}(h:x=y):Value.int k x=Value.int k y:=by rw[h]
theorem fraction_sqB(p:Int)(w:World):
  Calls Tryz.prog 129 #[.int .u64 p,.func (.func 130) #[] #[]] w fun e w'=>e=.returned (.int .u32 (rootAt sqB p 35%4294967296))∧w'=w:=by
 go_enter Tryz.func129,Tryz.ntmps129;go_wp2;go_loop [5,8] (fun vr vi=>∃(i:Nat),i≤35∧vi=.int .i64 i∧vr=.int .u64 (rootAt sqB p i)) (fun _ vi=>35-(intOf vi).toNat)
 case atStart=>exact⟨0,by omega,rfl,rfl⟩
 case round=>
  obtain⟨i,hi,rfl,rfl⟩:=hrel;by_cases hlt:i<35
  ·obtain⟨k,hk⟩:∃k,34-i=k:=⟨_,rfl⟩
   have hk2:k≤34:=by omega
   have hkI:(34:Int)-(i:Int)=(k:Int):=by omega
   have HN:Hid (rootAt sqB p (i+1)=if sqB (bits .or .u64 (rootAt sqB p i) (2^k)) p then bits .or .u64 (rootAt sqB p i) (2^k) else rootAt sqB p i):=by unfold Hid;rw[←hk];rfl
   have hr:=bits_u64_range .or (rootAt sqB p i) (2^k);clear hk;have hp2:IntKind.u64.wrap (2^k)=2^k:=by rw[IntKind.wrap_u64];have:(2:Int)^k≤2^34:=pow_mono (by decide) hk2;have:(0:Int)<2^k:=Int.pow_pos (by decide);omega
   have HC:=fun w=>squareBelow_any (bits .or .u64 (rootAt sqB p i) (2^k)) p w hr.1 hr.2;clear hr;generalize hb:sqB (bits .or .u64 (rootAt sqB p i) (2^k)) p=bb at *;clear hb
   cases bb with
   | true=>
    rw[if_pos rfl]at HN;go_wp2_with (go_at_call 130;refine(HC _).mono ?_;rintro e w' ⟨rfl,rfl⟩)
    go_round
    case rel=>exact⟨i+1,by omega,by go_num,int_eq' HN.out.symm⟩
    case measure=>simp[intOf]<;>omega
   | false=>
    rw[if_neg (by decide)]at HN;go_wp2_with (go_at_call 130;refine(HC _).mono ?_;rintro e w' ⟨rfl,rfl⟩)
    go_round
    case rel=>exact⟨i+1,by omega,by go_num,int_eq' HN.out.symm⟩
    case measure=>simp[intOf]<;>omega
  ·have HE:Hid (i=35):=by unfold Hid;omega
   go_wp2;go_ret;exact⟨by rw[HE.out];rfl,rfl⟩
theorem fraction_cuB(p:Int)(w:World):
  Calls Tryz.prog 129 #[.int .u64 p,.func (.func 131) #[] #[]] w fun e w'=>e=.returned (.int .u32 (rootAt cuB p 35%4294967296))∧w'=w:=by
 go_enter Tryz.func129,Tryz.ntmps129;go_wp2;go_loop [5,8] (fun vr vi=>∃(i:Nat),i≤35∧vi=.int .i64 i∧vr=.int .u64 (rootAt cuB p i)) (fun _ vi=>35-(intOf vi).toNat)
 case atStart=>exact⟨0,by omega,rfl,rfl⟩
 case round=>
  obtain⟨i,hi,rfl,rfl⟩:=hrel;by_cases hlt:i<35
  ·obtain⟨k,hk⟩:∃k,34-i=k:=⟨_,rfl⟩
   have hk2:k≤34:=by omega
   have hkI:(34:Int)-(i:Int)=(k:Int):=by omega
   have HN:Hid (rootAt cuB p (i+1)=if cuB (bits .or .u64 (rootAt cuB p i) (2^k)) p then bits .or .u64 (rootAt cuB p i) (2^k) else rootAt cuB p i):=by unfold Hid;rw[←hk];rfl
   have hr:=bits_u64_range .or (rootAt cuB p i) (2^k);clear hk;have hp2:IntKind.u64.wrap (2^k)=2^k:=by rw[IntKind.wrap_u64];have:(2:Int)^k≤2^34:=pow_mono (by decide) hk2;have:(0:Int)<2^k:=Int.pow_pos (by decide);omega
   have HC:=fun w=>cubeBelow_any (bits .or .u64 (rootAt cuB p i) (2^k)) p w hr.1 hr.2;clear hr;generalize hb:cuB (bits .or .u64 (rootAt cuB p i) (2^k)) p=bb at *;clear hb
   cases bb with
   | true=>
    rw[if_pos rfl]at HN;go_wp2_with (go_at_call 131;refine(HC _).mono ?_;rintro e w' ⟨rfl,rfl⟩)
    go_round
    case rel=>exact⟨i+1,by omega,by go_num,int_eq' HN.out.symm⟩
    case measure=>simp[intOf]<;>omega
   | false=>
    rw[if_neg (by decide)]at HN;go_wp2_with (go_at_call 131;refine(HC _).mono ?_;rintro e w' ⟨rfl,rfl⟩)
    go_round
    case rel=>exact⟨i+1,by omega,by go_num,int_eq' HN.out.symm⟩
    case measure=>simp[intOf]<;>omega
  ·have HE:Hid (i=35):=by unfold Hid;omega
   go_wp2;go_ret;exact⟨by rw[HE.out];rfl,rfl⟩
def pl:Nat→List Nat
 | 0=>[]
 | n+1=>if 2≤n∧(pl n).all (fun p=>n%p != 0) then pl n++[n] else pl n
def plI (n:Nat):List Int:=(pl n).map (fun x:Nat=>(x:Int))
theorem plI_length(n:Nat):(plI n).length=(pl n).length:=by simp[plI]
theorem pl_small:∀(n:Nat),∀x∈pl n,2≤x∧x<n
 | 0,x,h=>by simp[pl]at h
 | n + 1, x, h => by
  rw[pl]at h;split at h
  ·rename_i hc;rcases List.mem_append.1 h with h|h
   ·have:=pl_small n x h;omega
   ·simp at h;omega
  ·have:=pl_small n x h;omega
theorem plI_get(n j:Nat)(h:j<(pl n).length):(plI n).getD j 0=(((pl n).getD j 0:Nat):Int):=by simp[plI,List.getD,h]
theorem pl_get(n j:Nat)(h:j<(pl n).length):2≤(pl n).getD j 0∧(pl n).getD j 0<n:=by
 have:(pl n).getD j 0=(pl n)[j]:=by simp[List.getD,h]
 rw[this];exact pl_small n _ (List.getElem_mem h)
theorem pl_yes(n:Nat)(h2:2≤n)(h:∀j,j<(pl n).length→n%(pl n).getD j 0≠0):pl (n+1)=pl n++[n]:=by rw[pl,if_pos];refine⟨h2,?_⟩;rw[List.all_eq_true];intro x hx;obtain⟨j,hj,rfl⟩:=List.getElem_of_mem hx;have:=h j hj;simpa [List.getD,hj] using this
theorem pl_no(n j:Nat)(hj:j<(pl n).length)(h:n%(pl n).getD j 0=0):pl (n+1)=pl n:=by
 rw[pl,if_neg];rintro⟨_,ha⟩;rw[List.all_eq_true]at ha;have:=ha _ (List.getElem_mem hj);have e:(pl n).getD j 0=(pl n)[j]:=by simp[List.getD,hj]
 rw[e]at h;simp[h]at this
theorem Tryz.infoU':(Tryz.prog.info? 47).map (fun i=>(i.zero,i.size,i.bytes))=some (some (.int .u64 0),1,8):=by kernel_rfl
theorem wpList_make_none{P:Program}(w:World){ops:Array Oper}{rest:List Oper}{o:Oper}{a:Act}{Q:Exit→Act→World→Prop}
  (hg:o.guard=none) (l c:Operand) (t:TypeId) (hop:o.op=Op.makeSlice t l c) (e:TypeId) (k:IntKind) (bytes:Nat)
  (h1:P.underlying t=some (.slice e)) (h2:(P.info? e).map (fun i=>(i.zero,i.size,i.bytes))=some (some (.int k 0),1,bytes))
  (kl kc:IntKind) (C:Int) (n:Nat) (hl:a.eval l=.int kl 0) (hc:a.eval c=.int kc C) (hC:C=(n:Int)) (b2:bytes*n≤281474976710656) (b3:n≤maxLen)
  (hK:∀w',Own e k w' w.heap.size (.slice (some ⟨w.heap.size,0,none⟩) 0 n) []→Below w.heap.size w w'→w.heap.size≤w'.heap.size→wpList P ops Q rest (a.put o.dst (.slice (some ⟨w.heap.size,0,none⟩) 0 n)) w'):
  wpList P ops Q (o::rest) a w:=by
 obtain⟨i,hi,hz0,hz1,hz2⟩:=info_parts h2;refine wpList_make_own w hg l c t hop w.heap.size e i (.int k 0) 1 h1 hi hz0 hz1 kl kc C n hl hc hC (by rw[hz2];exact b2) b3 (Nat.le_refl _) ?_;intro w' hown hgr;exact hK w' hown ((Below.refl _ _).grown hgr (Nat.le_refl _) (fun k h=>by cases h)) hgr.size
theorem sprimes_any(c N : Nat)(w : World)(hc : c ≤ 64)(hN1 : (pl N).length = c)(hN2 : ∀ n, 2 ≤ n → n < N → (pl n).length < c)(hN3 : 2 ≤ N)(hN4 : N ≤ 1000) :
  Calls Tryz.prog 128 #[.int .i64 c] w fun e w'=>∃ao cap,e=.returned (.slice ao c cap)∧Lies .u64 w' ao c (plI N)∧Below w.heap.size w w'∧c≤cap:=by
 have HN1:Hid ((pl N).length=c):=hN1;have HN2:Hid (∀n,2≤n→n<N→(pl n).length<c):=hN2;clear hN1 hN2;go_enter Tryz.func128,Tryz.ntmps128;go_wp2;go_step3
 go_wp2_with (at_make;refine wpList_make_none _ rfl _ _ 23 rfl 47 .u64 8 Tryz.underlying23 Tryz.infoU' _ _ _ c rfl rfl rfl (by omega) (by unfold maxLen;omega) ?_;intro w1 hown1 hb1 hsz1)
 go_step3
 have HO1:Hid (Own 47 .u64 w1 w.heap.size (.slice (some ⟨w.heap.size,0,none⟩) 0 c) []∧Below w.heap.size w w1):=⟨hown1,hb1⟩
 clear hown1 hb1 hsz1;go_wp2;go_loopg [3,4] (N-2) (fun g vf vn wr=>∃(n:Nat),2≤n∧n+g=N∧vn=.int .u64 n∧Own 47 .u64 wr w.heap.size vf (plI n)∧Below w.heap.size w wr)
 case atStart=>exact⟨2,by omega,by omega,rfl,HO1.out⟩
 case round =>
  obtain⟨n,h2n,hnN,rfl,hown,hb⟩:=hrel;clear HO1;have hlen:(pl n).length≤64:=by
   by_cases h:n<N
   ·have:=HN2.out n h2n h;omega
   ·have:=HN1.out;rw[show n=N by omega];omega
  obtain⟨ao,cap,rfl,hnum⟩:=hown.num (B:=18446744073709551616) (fun x hx=>by obtain⟨y,hy,rfl⟩:=List.mem_map.1 hx;have:=pl_small n y hy;omega) (by rw[plI_length];omega)
  have HL:Hid (Lies .u64 wr ao (plI n).length (plI n)):=hnum.lies;have hcp:=hnum.lc;obtain⟨L,hL⟩:∃L,(plI n).length=L:=⟨_,rfl⟩
  rw[hL]at hown HL hcp ⊢;rw[plI_length]at hL;have HLL:Hid ((pl n).length=L):=hL;rw[hL]at hlen;have HO:Hid (Own 47 .u64 wr w.heap.size (.slice ao L cap) (plI n)∧Below w.heap.size w wr):=⟨hown,hb⟩
  clear hown hb hL hnum
  cases gk with
  | zero=>
   have hLc:L=c:=by have:=HN1.out;have:=HLL.out;rw[show n=N by omega]at this;omega
   have HNN:Hid (n=N):=by unfold Hid;omega
   clear HN1 HN2;have hlt:¬((L:Int)<(c:Int)):=by omega
   go_wp2;go_ret;have e:=HNN.out;subst e;subst hLc;exact⟨ao,cap,rfl,HL.out,HO.out.2,hcp⟩
  | succ g =>
   have hLc:L<c:=by have:=HN2.out n h2n (by omega);have:=HLL.out;omega
   have hlt:((L:Int)<(c:Int)):=by omega
   go_wp2;go_loopg [17] L (fun h vk wx=>∃(j:Nat),j+h=L∧vk=.int .i64 j∧(∀i,i<j→n%(pl n).getD i 0≠0)∧wx=wr)
   case atStart=>exact⟨0,by omega,rfl,fun i h=>by omega,rfl⟩
   case round =>
    obtain⟨j,hjL,rfl,hpre,rfl⟩:=hrel;have HP:Hid (∀i,i<j→n%(pl n).getD i 0≠0):=hpre;clear hpre
    cases gk with
    | zero =>
     have hjl:¬((j:Int)<(L:Int)):=by omega
     have HY:Hid (plI (n+1)=plI n++[(n:Int)]∧(plI n).length=L):=by refine⟨?_,by rw[plI_length];exact HLL.out⟩;unfold plI;rw[pl_yes n h2n (fun i hi=>HP.out i (by have:=HLL.out;omega))];simp
     have hL2:(plI n).length<1073741824:=by have:=HY.out.2;omega
     go_wp2_with (at_builtin;refine wpList_append_one rfl _ _ 23 rfl 47 .u64 8 Tryz.underlying23 Tryz.infoU' w.heap.size (.slice ao L cap) (plI n) (n:Int) (by rfl) HO.out.1 (by rfl) hL2 (by decide) w HO.out.2 HO.out.2.size ?_;intro v' w' hown' hb')
     go_roundg g
     case measure=>omega
     case rel=>exact⟨n+1,by omega,by omega,by go_num,by rw[HY.out.1];exact hown',hb'⟩
    | succ h =>
     have hjl:((j:Int)<(L:Int)):=by omega
     obtain⟨b,off,rfl,hblk,hcs⟩:=HL.out.at (by omega);have hc:=hcs j (by omega);rw[plI_get n j (by have:=HLL.out;omega)]at hc;have hpb:=pl_get n j (by have:=HLL.out;omega);obtain⟨q,hq⟩:∃q,(pl n).getD j 0=q:=⟨_,rfl⟩
     rw[hq]at hc hpb;have HQ:Hid ((pl n).getD j 0=q):=hq;have hq0:¬((q:Int)=0):=by omega
     clear hcs hq;by_cases hz:n%q=0
     ·have HZ:Hid (n%q=0):=hz;have hzI:((n:Int)%(q:Int))=0:=by omega
      clear hz;have HY:Hid (plI (n+1)=plI n):=by unfold Hid plI;rw[pl_no n j (by have:=HLL.out;omega) (by rw[HQ.out];exact HZ.out)]
      go_wp2;go_roundg g
      case measure=>omega
      case rel=>exact⟨n+1,by omega,by omega,by go_num,by rw[HY.out];exact HO.out.1,HO.out.2⟩
     ·have HZ:Hid (n%q≠0):=hz;have hzI:¬((n:Int)%(q:Int))=0:=by omega
      clear hz;go_wp2;go_roundg h
      case measure=>omega
      case rel=>
       refine⟨j+1,by omega,by go_num,fun i hi => ?_,rfl⟩;by_cases e:i=j
       ·rw[e,HQ.out];exact HZ.out
       ·exact HP.out i (by omega)
theorem pl_mono1(n:Nat):(pl n).length≤(pl (n+1)).length:=by
 rw[pl];split
 ·simp
 ·exact Nat.le_refl _
theorem pl_mono{n m:Nat}(h:n≤m):(pl n).length≤(pl m).length:=by
 induction h with
 | refl=>exact Nat.le_refl _
 | step _ ih=>exact Nat.le_trans ih (pl_mono1 _)
def frac (f:Int→Int→Bool)(p:Int):Int:=rootAt f p 35%4294967296
theorem pl312:(pl 312).length=64:=by decide +kernel
theorem pl311:(pl 311).length=63:=by decide +kernel
theorem pl20:(pl 20).length=8:=by decide +kernel
theorem pl19:(pl 19).length=7:=by decide +kernel
theorem K_table:(plI 312).map (frac cuB)=KS:=by decide +kernel
theorem H_table:(plI 20).map (frac sqB)=HS:=by decide +kernel
def Tab (g:Int→Int)(l:List Int)(n i:Nat)(cur:List Int):Prop:=cur.length=n∧∀j,j<i→cur.getD j 0=g (l.getD j 0)
theorem Tab.zero(g:Int→Int)(l:List Int)(n:Nat):Tab g l n 0 (List.replicate n 0):=⟨by simp,fun j h=>by omega⟩
theorem Tab.step{g:Int→Int}{l cur:List Int}{n i:Nat}(h:Tab g l n i cur)(hi:i<n):Tab g l n (i+1) (cur.set i (g (l.getD i 0))):=by
 refine⟨by simpa using h.1,fun j hj => ?_⟩;by_cases e:j=i
 ·subst e;simp[List.getD,h.1,hi]
 ·have:(cur.set i (g (l.getD i 0))).getD j 0=cur.getD j 0:=by simp[List.getD,List.getElem?_set_ne (show i≠j by omega)]
  rw[this];exact h.2 j (by omega)
theorem Tab.done{g:Int→Int}{l cur:List Int}{n:Nat}(h:Tab g l n n cur)(hl:l.length=n):cur=l.map g:=by
 apply List.ext_getElem
 ·rw[h.1,List.length_map,hl]
 ·intro j h1 h2;have:=h.2 j (by rw[h.1]at h1;exact h1);have e1:cur.getD j 0=cur[j]:=by simp[List.getD,h1]
  have h3:j<l.length:=by simpa using h2
  have e2:l.getD j 0=l[j]:=by simp[List.getD,h3]
  rw[e1,e2]at this;rw[this];simp
theorem Row.setOther'{e:TypeId}{k:IntKind}{w:World}{g:Nat}{xs:List Int}(h:Row e k w g xs){p:Addr}(hp:g≠p.block)(v:Value):Row e k (w.setCell p v) g xs:=by unfold Row;rw[heap_setCell_other w p g v hp];exact h
theorem constants_any(w:World):Calls Tryz.prog 103 #[] w fun e w'=>e=.returned (ag .u32 KS)∧Below w.heap.size w w':=by
 have HP:∀w,Calls Tryz.prog 128 #[.int .i64 (64:Nat)] w fun e w'=>∃ao cap,e=.returned (.slice ao 64 cap)∧Lies .u64 w' ao 64 (plI 312)∧Below w.heap.size w w'∧64≤cap:=fun w=>sprimes_any 64 312 w (by omega) pl312 (fun n _ h=>by have:=pl_mono (show n≤311 by omega);rw[pl311]at this;omega) (by omega) (by omega);have HT:Hid ((plI 312).map (frac cuB)=KS∧(plI 312).length=64):=⟨K_table,by rw[plI_length];exact pl312⟩
 generalize plI 312=l at *;go_enter Tryz.func103,Tryz.ntmps103;go_wp2_with (first|(refine wpList_alloc_row (w:=w) (by with_reducible rfl) 172 (by with_reducible rfl) .u32 64 Tryz.infoW64 ?_;intro w0 hr0 hb0 hs0)|(refine wpList_alloc_row (w:=w0) (by with_reducible rfl) 172 (by with_reducible rfl) .u32 64 Tryz.infoW64 ?_;intro w1 hr1 hb1 hs1))
 have HR2:Hid (Row 172 .u32 w1 (w.heap.size+1) (List.replicate 64 0)∧Row 172 .u32 w1 w.heap.size (List.replicate 64 0)∧Below w.heap.size w w1∧w1.heap.size=w.heap.size+2):=
  ⟨by rw[←hs0];exact hr1,hr0.below hb1 (by omega),hb0.trans (hb1.mono (by omega)),by omega⟩
 clear hr0 hb0 hs0 hr1 hb1 hs1 w0;refine(HP _).mono ?_;rintro e w2 ⟨ao,cap,rfl,hlies,hb2,hcap⟩;have HR3:Hid (Row 172 .u32 w2 (w.heap.size+1) (List.replicate 64 0)∧Row 172 .u32 w2 w.heap.size (List.replicate 64 0)∧Below w.heap.size w w2):=by obtain⟨a1,a2,a3,a4⟩:=HR2.out;exact⟨a1.below hb2 (by omega),a2.below hb2 (by omega),a3.trans (hb2.mono (by omega))⟩
 obtain⟨b,off,rfl,hblk,hcs⟩:=hlies.at (by omega);have HB:Hid (∀i,i<64→w2.cell? ⟨b,off+i,none⟩=some (.int .u64 (l.getD i 0))):=hcs;have HNE:Hid (b≠w.heap.size+1):=by
  unfold Hid;intro e;have h0:=hcs 0 (by omega);have:=HR3.out.1.cell (off+0);by_cases hh:off+0<64
  ·have:=this (by simpa using hh);rw[←e]at this;rw[this]at h0
   cases h0
  ·have h5:=cell_of_row w2 (w.heap.size+1) (off+0) _ _ (0,0) HR3.out.1;rw[e,h5]at h0;rw[Array.getElem?_eq_none (by simp;omega)]at h0
   cases h0
 clear hlies hb2 HR2 hcs hblk HP;go_wp2;go_loopw [6] (fun vi wr=>∃(i:Nat) (cur:List Int),i≤64∧vi=.int .i64 i∧Row 172 .u32 wr (w.heap.size+1) cur∧Tab (frac cuB) l 64 i cur∧Row 172 .u32 wr w.heap.size (List.replicate 64 0)∧Below w.heap.size w wr∧∀i,i<64→wr.cell? ⟨b,off+i,none⟩=some (.int .u64 (l.getD i 0))) (fun vi _=>64-(intOf vi).toNat)
 case atStart=>exact⟨0,_,by omega,rfl,HR3.out.1,Tab.zero _ _ _,HR3.out.2.1,HR3.out.2.2,HB.out⟩
 case round=>
  obtain⟨i,cur,hi,rfl,hrw,hm,hro,hb,hcs⟩:=hrel;clear HR3 HB;have HRW:Hid (Row 172 .u32 wr (w.heap.size+1) cur∧Row 172 .u32 wr w.heap.size (List.replicate 64 0)∧Below w.heap.size w wr∧∀i,i<64→wr.cell? ⟨b,off+i,none⟩=some (.int .u64 (l.getD i 0))):=⟨hrw,hro,hb,hcs⟩
  by_cases hlt:i<64
  ·have hc:=hcs i hlt;have hcw:=hrw.cell i (by have:=hm.1;omega);have hf:=hrw.frozen i;have HM:Hid (Tab (frac cuB) l 64 (i+1) (cur.set i (frac cuB (l.getD i 0)))):=hm.step hlt;have HC:=fun w=>fraction_cuB (l.getD i 0) w;have HE:Hid (rootAt cuB (l.getD i 0) 35%4294967296=frac cuB (l.getD i 0)):=rfl;generalize rootAt cuB (l.getD i 0) 35%4294967296=z at *;generalize l.getD i 0=p at *;clear hrw hm hro hb hcs;go_wp2_with (go_at_call 129;refine(HC _).mono ?_;rintro e w' ⟨rfl,rfl⟩)
   go_roundw
   case rel=>
    refine⟨i+1,cur.set i (frac cuB p),by omega,by go_num,?_,HM.out,?_,?_,?_⟩
    ·rw[←HE.out];exact HRW.out.1.set i _
    ·exact HRW.out.2.1.setOther' (by simp) _
    ·exact HRW.out.2.2.1.setCell (Nat.le_succ _) _
    ·intro j hj;rw[World.cell?_setCell_other _ _ _ _ (by intro e;injection e with e;exact HNE.out e.symm)];exact HRW.out.2.2.2 j hj
   case measure=>simp[intOf]<;>omega
  ·obtain rfl:i=64:=by omega
   have HF:Hid (cur=KS):=by have:=hm.done HT.out.2;rw[HT.out.1]at this;exact this
   have HLN:Hid (cur.length=64):=hm.1;clear hrw hm hro hb hcs;go_wp2_with (first|(refine wpList_load_nums (by with_reducible rfl) 172 _ (by with_reducible rfl) .u32 172 114 64 Tryz.underlying172 Tryz.sizeW64 _ cur (by rfl) HRW.out.1 HLN.out ?_)|(refine wpList_store_nums (by with_reducible rfl) 172 _ _ (by with_reducible rfl) .u32 172 64 Tryz.sizeW64 _ (List.replicate 64 0) cur (by rfl) (by rfl) HRW.out.2.1 (by simp) HLN.out ?_;intro w4 hr4 hb4 hs4 ho4))
   rw[HF.out]at hr4;refine bodyPost_ret (v:=ag .u32 KS) (results_nums rfl _ _ _ 172 114 .u32 64 _ rfl hr4 Tryz.underlying172 Tryz.sizeW64 rfl) rfl ⟨rfl,HRW.out.2.2.1.trans hb4⟩
theorem beginning_any(w:World):Calls Tryz.prog 102 #[] w fun e w'=>e=.returned (ag .u32 HS)∧Below w.heap.size w w':=by
 have HP:∀w,Calls Tryz.prog 128 #[.int .i64 (8:Nat)] w fun e w'=>∃ao cap,e=.returned (.slice ao 8 cap)∧Lies .u64 w' ao 8 (plI 20)∧Below w.heap.size w w'∧8≤cap:=fun w=>sprimes_any 8 20 w (by omega) pl20 (fun n _ h=>by have:=pl_mono (show n≤19 by omega);rw[pl19]at this;omega) (by omega) (by omega);have HT:Hid ((plI 20).map (frac sqB)=HS∧(plI 20).length=8):=⟨H_table,by rw[plI_length];exact pl20⟩
 generalize plI 20=l at *;go_enter Tryz.func102,Tryz.ntmps102;go_wp2_with (first|(refine wpList_alloc_row (w:=w) (by with_reducible rfl) 142 (by with_reducible rfl) .u32 8 Tryz.infoW8 ?_;intro w0 hr0 hb0 hs0)|(refine wpList_alloc_row (w:=w0) (by with_reducible rfl) 142 (by with_reducible rfl) .u32 8 Tryz.infoW8 ?_;intro w1 hr1 hb1 hs1))
 have HR2:Hid (Row 142 .u32 w1 (w.heap.size+1) (List.replicate 8 0)∧Row 142 .u32 w1 w.heap.size (List.replicate 8 0)∧Below w.heap.size w w1∧w1.heap.size=w.heap.size+2):=
  ⟨by rw[←hs0];exact hr1,hr0.below hb1 (by omega),hb0.trans (hb1.mono (by omega)),by omega⟩
 clear hr0 hb0 hs0 hr1 hb1 hs1 w0;refine(HP _).mono ?_;rintro e w2 ⟨ao,cap,rfl,hlies,hb2,hcap⟩;have HR3:Hid (Row 142 .u32 w2 (w.heap.size+1) (List.replicate 8 0)∧Row 142 .u32 w2 w.heap.size (List.replicate 8 0)∧Below w.heap.size w w2):=by obtain⟨a1,a2,a3,a4⟩:=HR2.out;exact⟨a1.below hb2 (by omega),a2.below hb2 (by omega),a3.trans (hb2.mono (by omega))⟩
 obtain⟨b,off,rfl,hblk,hcs⟩:=hlies.at (by omega);have HB:Hid (∀i,i<8→w2.cell? ⟨b,off+i,none⟩=some (.int .u64 (l.getD i 0))):=hcs;have HNE:Hid (b≠w.heap.size+1):=by
  unfold Hid;intro e;have h0:=hcs 0 (by omega);have:=HR3.out.1.cell (off+0);by_cases hh:off+0<8
  ·have:=this (by simpa using hh);rw[←e]at this;rw[this]at h0
   cases h0
  ·have h5:=cell_of_row w2 (w.heap.size+1) (off+0) _ _ (0,0) HR3.out.1;rw[e,h5]at h0;rw[Array.getElem?_eq_none (by simp;omega)]at h0
   cases h0
 clear hlies hb2 HR2 hcs hblk HP;go_wp2;go_loopw [6] (fun vi wr=>∃(i:Nat) (cur:List Int),i≤8∧vi=.int .i64 i∧Row 142 .u32 wr (w.heap.size+1) cur∧Tab (frac sqB) l 8 i cur∧Row 142 .u32 wr w.heap.size (List.replicate 8 0)∧Below w.heap.size w wr∧∀i,i<8→wr.cell? ⟨b,off+i,none⟩=some (.int .u64 (l.getD i 0))) (fun vi _=>8-(intOf vi).toNat)
 case atStart=>exact⟨0,_,by omega,rfl,HR3.out.1,Tab.zero _ _ _,HR3.out.2.1,HR3.out.2.2,HB.out⟩
 case round=>
  obtain⟨i,cur,hi,rfl,hrw,hm,hro,hb,hcs⟩:=hrel;clear HR3 HB;have HRW:Hid (Row 142 .u32 wr (w.heap.size+1) cur∧Row 142 .u32 wr w.heap.size (List.replicate 8 0)∧Below w.heap.size w wr∧∀i,i<8→wr.cell? ⟨b,off+i,none⟩=some (.int .u64 (l.getD i 0))):=⟨hrw,hro,hb,hcs⟩
  by_cases hlt:i<8
  ·have hc:=hcs i hlt;have hcw:=hrw.cell i (by have:=hm.1;omega);have hf:=hrw.frozen i;have HM:Hid (Tab (frac sqB) l 8 (i+1) (cur.set i (frac sqB (l.getD i 0)))):=hm.step hlt;have HC:=fun w=>fraction_sqB (l.getD i 0) w;have HE:Hid (rootAt sqB (l.getD i 0) 35%4294967296=frac sqB (l.getD i 0)):=rfl;generalize rootAt sqB (l.getD i 0) 35%4294967296=z at *;generalize l.getD i 0=p at *;clear hrw hm hro hb hcs;go_wp2_with (go_at_call 129;refine(HC _).mono ?_;rintro e w' ⟨rfl,rfl⟩)
   go_roundw
   case rel=>
    refine⟨i+1,cur.set i (frac sqB p),by omega,by go_num,?_,HM.out,?_,?_,?_⟩
    ·rw[←HE.out];exact HRW.out.1.set i _
    ·exact HRW.out.2.1.setOther' (by simp) _
    ·exact HRW.out.2.2.1.setCell (Nat.le_succ _) _
    ·intro j hj;rw[World.cell?_setCell_other _ _ _ _ (by intro e;injection e with e;exact HNE.out e.symm)];exact HRW.out.2.2.2 j hj
   case measure=>simp[intOf]<;>omega
  ·obtain rfl:i=8:=by omega
   have HF:Hid (cur=HS):=by have:=hm.done HT.out.2;rw[HT.out.1]at this;exact this
   have HLN:Hid (cur.length=8):=hm.1;clear hrw hm hro hb hcs;go_wp2_with (first|(refine wpList_load_nums (by with_reducible rfl) 142 _ (by with_reducible rfl) .u32 142 114 8 Tryz.underlying142 Tryz.sizeW8 _ cur (by rfl) HRW.out.1 HLN.out ?_)|(refine wpList_store_nums (by with_reducible rfl) 142 _ _ (by with_reducible rfl) .u32 142 8 Tryz.sizeW8 _ (List.replicate 8 0) cur (by rfl) (by rfl) HRW.out.2.1 (by simp) HLN.out ?_;intro w4 hr4 hb4 hs4 ho4))
   rw[HF.out]at hr4;refine bodyPost_ret (v:=ag .u32 HS) (results_nums rfl _ _ _ 142 114 .u32 8 _ rfl hr4 Tryz.underlying142 Tryz.sizeW8 rfl) rfl ⟨rfl,HRW.out.2.2.1.trans hb4⟩
theorem hb_append(xs ys:List Int):∀n,64*n≤xs.length→hb (xs++ys) n=hb xs n
 | 0,_=>rfl
 | n+1,h=>by
  rw[hb,hb,hb_append xs ys n (by omega)];congr 1
  rw[List.drop_append_of_le_length (by omega),List.take_append_of_le_length (by simp;omega)]
theorem hb_length(xs:List Int):∀n,(hb xs n).length=8
 | 0=>rfl
 | n+1=>rfl
structure Holds(all ws rs:List Int):Prop where
 words:64≤all.length→ws=hb all (all.length/64)
 rest:rs.take (all.length%64)=all.drop (64*(all.length/64))
 bytes:Dg 256 rs
 good:Dg 256 all
 len:all.length≤1000000000000000
theorem full_block{all ws rs bs:List Int}(h:Holds all ws rs)(hr:rs.length=64)(r:Nat)(hrr:all.length%64=r)(m:Nat)(hm:r+m=64)(hb:m≤bs.length)(h0:0<r):
  rs.take r++bs.take m++rs.drop (r+m)=((all++bs).drop (64*(all.length/64))).take 64:=by
 have h1:=h.rest;rw[hrr]at h1;rw[h1,hm,List.drop_eq_nil_of_le (show rs.length≤64 by omega),List.append_nil,List.drop_append_of_le_length (by omega)];have hl:(all.drop (64*(all.length/64))).length=r:=by simp;omega
 rw[List.take_append,List.take_of_length_le (show(all.drop (64*(all.length/64))).length≤64 by omega),hl,show 64-r=m by omega]
theorem drop_after{all bs:List Int}(r:Nat)(hrr:all.length%64=r)(m:Nat)(hm:r+m=64):(all++bs).drop (64*(all.length/64+1))=bs.drop m:=by
 have e:64*(all.length/64+1)=all.length+m:=by omega
 rw[e,List.drop_length_add_append]
theorem drop_none{all bs:List Int}(hrr:all.length%64=0):(all++bs).drop (64*(all.length/64))=bs:=by
 have e:64*(all.length/64)=all.length+0:=by omega
 rw[e,List.drop_length_add_append,List.drop_zero]
theorem holds_done{T ws rs1:List Int}(D ln:Nat)(hw:ws=hb T D)(hl:(T.drop (64*D)).length=ln)(hln:ln<64)(hD:64*D≤T.length)(hd:Dg 256 T)(hr:Dg 256 rs1)(hT:T.length≤1000000000000000):
  Holds T ws (rs1.take 0++(T.drop (64*D)).take ln++rs1.drop (0+ln)):=by
 have e1:T.length/64=D:=by simp at hl;omega
 have e2:T.length%64=ln:=by simp at hl;omega
 refine⟨fun _=>by rw[e1];exact hw,?_,?_,hd,hT⟩
 ·rw[e1,e2,List.take_zero,List.nil_append,List.take_append_of_le_length (by simp at hl ⊢;omega),List.take_take,Nat.min_self,List.take_of_length_le (by omega)]
 ·exact(((hr.take 0).append ((hd.drop _).take _)).append (hr.drop _))
theorem holds_few{all ws rs bs:List Int}(h:Holds all ws rs)(hr:rs.length=64)(r:Nat)(hrr:all.length%64=r)(hb:r+bs.length<64)(hd:Dg 256 bs)(hT:all.length+bs.length≤1000000000000000):
  Holds (all++bs) ws (rs.take r++bs.take bs.length++rs.drop (r+bs.length)):=by
 have e1:(all++bs).length/64=all.length/64:=by simp;omega
 have e2:(all++bs).length%64=r+bs.length:=by simp;omega
 refine⟨fun hh => ?_,?_,?_,h.good.append hd,by simpa using hT⟩
 ·rw[e1,hb_append _ _ _ (by omega)];exact h.words (by simp at hh;omega)
 ·have h1:=h.rest;rw[hrr]at h1;rw[e1,e2,List.take_append_of_le_length (by simp;omega),List.take_of_length_le (by simp;omega),h1,List.drop_append_of_le_length (by omega),List.take_of_length_le (Nat.le_refl _)]
 ·exact(((h.bytes.take _).append (hd.take _)).append (h.bytes.drop _))
theorem Tryz.arrayLenR:Tryz.prog.arrayLen 143=64:=by kernel_rfl
theorem Tryz.elemR:Tryz.prog.elem 143=5:=by kernel_rfl
theorem Tryz.undR:Tryz.prog.underlying 143=some (.array (Tryz.prog.arrayLen 143) (Tryz.prog.elem 143)):=by rw[Tryz.arrayLenR,Tryz.elemR];exact Tryz.underlying143
theorem slice_rest(g r:Nat)(hr:r<64)(w:World):(Instr.sliceAt 143 (.pointer (some ⟨g,9,none⟩)) (some (.int .i64 r)) none none).run Tryz.prog w=.ok (.slice (some ⟨g,9+r,none⟩) (64-r) (64-r)) w:=by rw[run_sliceAt_array_l (t:=143) _ _ Tryz.undR _ _ (by omega) (by rw[Tryz.arrayLenR];omega),Tryz.arrayLenR,Tryz.elemR,Tryz.sizeOf5];simp only[Result.andThen_ok,slicedAt];rw[if_neg (by omega),Int.toNat_natCast,Nat.mul_one,Addr.add_mid]
theorem slice_all(g:Nat)(w:World):(Instr.sliceAt 143 (.pointer (some ⟨g,9,none⟩)) none none none).run Tryz.prog w=.ok (.slice (some ⟨g,9,none⟩) 64 64) w:=by rw[run_sliceAt_array_all (t:=143) _ _ Tryz.undR,Tryz.arrayLenR,Tryz.elemR,Tryz.sizeOf5];simp[Result.andThen_ok,slicedAt,Addr.add]
theorem results_noneS{P:Program}{fn:Func}(h:fn.results=#[])(tmps:Array Value)(w:World):(results fn tmps).run P w=.ok (.tuple #[]) w:=by simp[results,h]
def HLD (t:TypeId)(p:Value):Sem Value:=Instr.loadAt t p
def HST (t:TypeId)(p v:Value):Sem Unit:=Instr.storeAt t p v
theorem keep_l8(p:Value):Instr.loadAt 142 p=HLD 142 p:=rfl
theorem keep_l64(p:Value):Instr.loadAt 172 p=HLD 172 p:=rfl
theorem keep_l32(p:Value):Instr.loadAt 71 p=HLD 71 p:=rfl
theorem keep_s8(p v:Value):Instr.storeAt 142 p v=HST 142 p v:=rfl
theorem keep_s32(p v:Value):Instr.storeAt 71 p v=HST 71 p v:=rfl
theorem HRow.lda{w:World}{g:Nat}{n:Int}{ws rs:List Int}(h:HRow w g n ws rs):(HLD 142 (.pointer (some ⟨g,1,none⟩))).run Tryz.prog w=.ok (ag .u32 ws) w:=by
 refine run_loadAt_mid w g 1 142 (ws.map (Value.int .u32)) (.array 8 114) (fun j v hv => ?_) Tryz.underlying142 rfl (by rw[Tryz.sizeW8,List.length_map,h.lw]);have hj:j<8:=by have:=(List.getElem?_eq_some_iff.1 hv).1;rw[List.length_map,h.lw]at this;exact this
 rw[h.word j hj,←hv];simp[List.getD,show j<ws.length by rw[h.lw];exact hj]
theorem Row.lda{w:World}{g:Nat}{e:TypeId}{xs:List Int}(h:Row e .u32 w g xs)(hl:xs.length=64):(HLD 172 (.pointer (some ⟨g,0,none⟩))).run Tryz.prog w=.ok (ag .u32 xs) w:=by
 refine run_loadAt_mid w g 0 172 (xs.map (Value.int .u32)) (.array 64 114) (fun j v hv => ?_) Tryz.underlying172 rfl (by rw[Tryz.sizeW64,List.length_map,hl]);have hj:j<xs.length:=by have:=(List.getElem?_eq_some_iff.1 hv).1;rw[List.length_map]at this;exact this
 rw[Nat.zero_add,h.cell j hj,←hv];simp[List.getD,hj]
theorem HRow.sta{w:World}{g:Nat}{n:Int}{ws rs:List Int}(h:HRow w g n ws rs)(vs:List Int)(hv:vs.length=8):(HST 142 (.pointer (some ⟨g,1,none⟩)) (ag .u32 vs)).run Tryz.prog w=.ok () (w.setRow g (HC n vs rs).toArray):=by
 have hst:=h.store (P:=Tryz.prog) vs hv;have hi:=Tryz.sizeW8;unfold HST
 cases hq:Tryz.prog.info? 142 with
 | none=>simp[hq]at hi
 | some i=>
  have hs:i.size=8:=by simpa [hq] using hi
  simp[Instr.storeAt,Instr.sureAddr,ag,storeVar,sizeOf,typeInfo,hq,Value.cells,hs,hv,hst]
end
end Go.Proofs.YtkhnnhbmchnajaaGreat
