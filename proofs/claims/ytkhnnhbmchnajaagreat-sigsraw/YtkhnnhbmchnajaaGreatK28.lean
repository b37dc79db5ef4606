import Derived.Test.YtkhnnhbmchnajaaGreatK27
set_option maxRecDepth 100000
set_option maxHeartbeats 40000000
set_option linter.unusedVariables false
set_option linter.unusedSimpArgs false
namespace Go.Proofs.YtkhnnhbmchnajaaGreat
section
open Go.RowKit
attribute [local go_sem ↓] keep_l8 keep_l64 keep_s8 keep_l32 keep_s32
theorem rSum_any(bs : List Int)(ao : Option Addr)(len cap : Nat)(w : World)(hd : Dg 256 bs)(hl : Lies .u8 w ao len bs)(hnn : ao = none → cap = 0)(hlen : len ≤ 1000000) :
  Calls Tryz.prog 23 #[.slice ao len cap] w fun e w'=>e=.returned (ag .u8 (shaS bs))∧Below w.heap.size w w':=by
 have HL:Hid (Lies .u8 w ao len bs∧Dg 256 bs∧bs.length=len):=⟨hl,hd,hl.len⟩
 have HWO:=Words_any;clear hl hd;go_enter Tryz.func23,Tryz.ntmps23;go_wp2_with ((with_reducible show wpList _ _ _ (Oper.mk _ (Op.alloc _) _ _ _ _::_) _ _);refine wpList_alloc_row (w:=w) (by with_reducible rfl) 71 (by with_reducible rfl) .u8 32 Tryz.infoB32 ?_;intro w1 hr1 hb1 hs1)
 refine(HWO w1).mono ?_;rintro e w2 ⟨gh,ch,gk,ck,rfl,hat1,hat2,hghk,hgh1,hgk1,hb2⟩;have HW2:Hid (Row 71 .u8 w2 w.heap.size (List.replicate 32 0)∧OwnAt 114 .u32 w2 gh ch HS∧OwnAt 114 .u32 w2 gk ck KS∧gh≠gk∧w.heap.size<gh∧w.heap.size<gk∧Below w.heap.size w w2∧Lies .u8 w2 ao len bs):=
  ⟨hr1.below hb2 (by omega),hat1,hat2,hghk,by omega,by omega,hb1.trans (hb2.mono (by omega)),(HL.out.1.old hb1).old hb2⟩
 clear hr1 hb1 hs1 hat1 hat2 hghk hgh1 hgk1 hb2 HWO;have hlb:([]:List Int).length+len≤1073741824:=by simp;omega
 have hlb2:bs.length<1073741824:=by have:=HL.out.2.2;omega
 go_wp2_with (first
  | (at_builtin;refine wpList_append_nums rfl _ _ 33 rfl 5 .u8 1 Tryz.underlying33 Tryz.infoB' w2.heap.size (.slice (some ⟨w2.heap.size,0,none⟩) 0 0) [] (by rfl) (own_lit0 5 .u8 w2 w2.heap.size (Nat.le_refl _)) ao len cap bs (by rfl) (HW2.out.2.2.2.2.2.2.2.old (below_alloc w2 _)) hnn hlb (by decide) w2 (below_alloc w2 _) (by simp) ?_;intro v3 w3 hown3 hb3 _ hs3)
  | (at_builtin;refine wpList_append_one rfl _ _ 33 rfl 5 .u8 1 Tryz.underlying33 Tryz.infoB' w2.heap.size v3 ([]++bs) 128 (by rfl) hown3 (by rfl) hlb2 (by decide) w2 hb3 hb3.size ?_;intro v4 w4 hown4 hb4))
 obtain⟨gap,hgap⟩:∃gap,gapN len=gap:=⟨_,rfl⟩
 have HG:Hid (gapN len=gap):=hgap;have hgap1:∀j,j≤gap→((len+1+j)%64=56↔j=gap):=fun j hj=>by unfold gapN at hgap;omega
 have hgap64:gap<64:=by unfold gapN at hgap;omega
 have HW4:Hid (Own 5 .u8 w4 w2.heap.size v4 (bs++[128]++List.replicate 0 0)∧Below w2.heap.size w2 w4):=⟨by simpa using hown4,hb4⟩
 have HGG:Hid (∀j,j≤gap→((len+1+j)%64=56↔j=gap)):=hgap1;clear hown3 hb3 hs3 hown4 hb4 hgap hgap1;go_loopg [5] gap (fun k v wr=>∃j,j+k=gap∧Own 5 .u8 wr w2.heap.size v (bs++[128]++List.replicate j 0)∧Below w2.heap.size w2 wr)
 case atStart=>exact⟨0,by omega,HW4.out⟩
 case round =>
  obtain⟨j,hjk,hown,hb⟩:=hrel;clear HW4;obtain⟨a5,c5,hv5,hlc5,hcm5⟩:=hown.open;have hL:(bs++[128]++List.replicate j 0).length=len+1+j:=by have:=HL.out.2.2;simp;omega
  obtain⟨L,hLL⟩:∃L,len+1+j=L:=⟨_,rfl⟩
  have hiff:=HGG.out j (by omega);rw[hL,hLL]at hv5 hlc5;subst hv5;have HO:Hid (Own 5 .u8 wr w2.heap.size (.slice a5 L c5) (bs++[128]++List.replicate j 0)∧Below w2.heap.size w2 wr∧(bs++[128]++List.replicate j (0:Int)).length<1073741824):=⟨hown,hb,by omega⟩
  have HLL:Hid (len+1+j=L):=hLL;rw[hLL]at hiff;unfold maxLen at hcm5;clear hown hb hL hLL
  cases gk with
  | succ k'=>
   have hne:¬((L:Int)%64=56):=by omega
   clear hiff;generalize hXs:bs++[128]++List.replicate j (0:Int)=Xs at HO;have HXS:Hid (Xs++[0]=bs++[128]++List.replicate (j+1) 0):=by unfold Hid;rw[←hXs,List.replicate_succ',List.append_assoc]
   clear hXs;go_wp2_with (at_builtin;refine wpList_append_one rfl _ _ 33 rfl 5 .u8 1 Tryz.underlying33 Tryz.infoB' w2.heap.size (.slice a5 L c5) Xs 0 (by rfl) HO.out.1 (by rfl) HO.out.2.2 (by decide) w2 HO.out.2.1 HO.out.2.1.size ?_;intro v6 w6 hown6 hb6)
   go_roundg k'
   case measure=>omega
   case rel=>exact⟨j+1,by omega,by rw[←HXS.out];exact hown6,hb6⟩
  | zero =>
   have heq:((L:Int)%64=56):=by omega
   obtain rfl:j=gap:=by omega
   clear hiff;obtain⟨bl,hbl⟩:∃bl:Int,8*(len:Int)=bl:=⟨_,rfl⟩
   have hb0:0≤bl:=by omega
   have hb1:bl≤8000000:=by omega
   have hbw:(len:Int)*8=bl:=by omega
   have HBL:Hid (8*(len:Int)=bl):=hbl;clear hbl;generalize hXs:bs++[128]++List.replicate j (0:Int)=Xs at HO;have HXS:Hid (bs++[128]++List.replicate j (0:Int)=Xs):=hXs;clear hXs;go_wp2;clear heq hbw;go_loopw [5,7] (fun v vi wr=>∃m:Nat,m≤8∧vi=.int .i64 (7-(m:Int))∧Own 5 .u8 wr w2.heap.size v (Xs++(pad8 len).take m)∧Below w2.heap.size w2 wr) (fun _ vi _=>(intOf vi+1).toNat)
   case atStart=>exact⟨0,by omega,rfl,by simpa using HO.out.1,HO.out.2.1⟩
   case round =>
    obtain⟨m,hm8,rfl,hown,hbe⟩:=hrel;by_cases hm:m<8
    ·obtain⟨q,hq⟩:∃q,7-m=q:=⟨_,rfl⟩
     obtain⟨q8,hq8⟩:∃q8,8*q=q8:=⟨_,rfl⟩
     have hqI:(7:Int)-(m:Int)=(q:Int):=by omega
     have hq8I:8*(q:Int)=(q8:Int):=by omega
     have hq64:q8<64:=by omega
     have HPS:Hid (Xs++(pad8 len).take (m+1)=Xs++(pad8 len).take m++[bl/2^q8%256]∧(Xs++(pad8 len).take m).length<1073741824):=by refine⟨by rw[pad8_succ len m hm,HBL.out,hq,hq8,List.append_assoc],?_⟩;have:=HXS.out;have h3:=HL.out.2.2;rw[←this];simp[pad8_length];omega
     have HO2:Hid (Own 5 .u8 wr w2.heap.size u5 (Xs++(pad8 len).take m)∧Below w2.heap.size w2 wr):=⟨hown,hbe⟩
     generalize Xs++(pad8 len).take m=Ys at *;clear hown hbe hq hq8;rw[hqI];go_wp2_with (at_builtin;refine wpList_append_one rfl _ _ 33 rfl 5 .u8 1 Tryz.underlying33 Tryz.infoB' w2.heap.size u5 Ys (bl/2^q8%256) (by rfl) HO2.out.1 (by rfl) HPS.out.2 (by decide) w2 HO2.out.2 HO2.out.2.size ?_;intro v6 w6 hown6 hb6)
     go_roundw
     case rel=>exact⟨m+1,by omega,int_eq' (by omega),by rw[HPS.out.1];exact hown6,hb6⟩
     case measure=>simp[intOf]<;>omega
    ·have hge:¬((0:Int)≤7-(m:Int)):=by omega
     have hmg:Hid (m=8):=by unfold Hid;omega
     obtain⟨T,hT⟩:∃T,bs++ending len=T:=⟨_,rfl⟩
     have hownT:Own 5 .u8 wr w2.heap.size u5 T:=by have:=hown;rw[hmg.out,List.take_of_length_le (by rw[pad8_length];omega),←HXS.out]at this;rw[←hT];unfold ending;rw[HG.out];simpa using this
     have hTl:T.length=len+(gapN len+9):=by rw[←hT,List.length_append,ending_length,HL.out.2.2]
     obtain⟨NB,hNB⟩:∃NB,T.length=64*NB:=⟨T.length/64,by have:=gap_len len;omega⟩
     obtain⟨ga,ca,rfl,hatA,hga⟩:=hownT.at (by have:=gap_len len;omega);have HFIN:Hid (shaS bs=spreadS (hb T NB)):=by unfold Hid shaS;rw[HL.out.2.2,hT,hNB,show 64*NB/64=NB by omega]
     obtain⟨TL,hTL⟩:∃TL,T.length=TL:=⟨_,rfl⟩
     rw[hTL];have HM:Hid (Row 71 .u8 wr w.heap.size (List.replicate 32 0)∧OwnAt 114 .u32 wr gh ch HS∧OwnAt 114 .u32 wr gk ck KS∧OwnAt 5 .u8 wr ga ca T∧gh≠gk∧gh≠ga∧w.heap.size<gh∧Below w.heap.size w wr∧Dg 256 T∧T.length=TL∧TL=64*NB):=by
      obtain⟨a1,a2,a3,a4,a5,a6,a7,a8⟩:=HW2.out;have hz:=a7.size;have h1:=a1.lt;have h2:=a2.lt;have h3:=a3.lt;refine⟨a1.below hbe h1,a2.below hbe h2,a3.below hbe h3,hatA,a4,by omega,a5,a7.trans (hbe.mono hz),?_,hTL,by omega⟩;rw[←hT];refine HL.out.2.1.append ?_;unfold ending;exact Dg.cons (by decide) ((Dg.zeros (by decide) _).append (fun x hx=>by obtain⟨i,_,rfl⟩:=List.mem_map.1 hx;omega))
     have hTLs:TL≤2000000:=by have:gapN len<64:=Nat.mod_lt _ (by decide);omega
     have hca:TL≤ca:=by have:=hatA.lc;omega
     have hca2:ca≤2^63-1:=hatA.cm;clear hown hownT hatA hga hT hTl HO HXS HW2 HL HGG HG hjk hbe hNB hTL HLL HBL;generalize hwM:wr=wM at *;clear hwM;go_wp2;go_loopw [8] (fun va wr=>∃D,D≤NB∧va=.int .i64 ((64*D:Nat):Int)∧OwnAt 114 .u32 wr gh ch (hb T D)∧ButS gh wM wr) (fun va _=>TL-(intOf va).toNat)
     case atStart=>exact⟨0,by omega,rfl,HM.out.2.1,ButS.refl _ _⟩
     case round =>
      obtain⟨D,hD,rfl,hath,hbut⟩:=hrel;generalize hwD:wr=wD at *;clear hwD;obtain⟨A,hA⟩:∃A,64*D=A:=⟨_,rfl⟩
      rw[hA];by_cases hDN:D<NB
      ·have hAT:A+64≤TL:=by have:=HM.out;omega
       have hATI:(A:Int)<(TL:Int):=by omega
       have HR:Hid (OwnAt 114 .u32 wD gh ch (hb T D)∧ButS gh wM wD∧64*D=A∧OwnAt 5 .u8 wD ga ca T∧OwnAt 114 .u32 wD gk ck KS∧hb T (D+1)=mixS KS (hb T D) ((T.drop A).take 64)∧(hb T D).length=8):=by obtain⟨a1,a2,a3,a4,a5,a6,a7,a8,a9,a10⟩:=HM.out;exact⟨hath,hbut,hA,a4.kept (hbut.block _ a4.lt (fun e=>a6 e.symm)),a3.kept (hbut.block _ a3.lt (fun e=>a5 e.symm)),by rw[←hA];rfl,hb_length _ _⟩
       have HBLK:Hid (Dg 256 ((T.drop A).take 64)∧∀x,x<64→((T.drop A).take 64).getD x 0=T.getD (A+x) 0):=⟨(HM.out.2.2.2.2.2.2.2.2.1.drop _).take _,fun x hx=>by simp[List.getD,List.getElem?_take,hx,List.getElem?_drop]⟩
       generalize (T.drop A).take 64=blk at *;generalize hb T D=hs at *;clear hath hbut hA;go_wp2_with (at_make;refine wpList_make_row _ rfl _ _ 111 rfl 114 .u32 4 Tryz.underlying111 Tryz.infoW _ _ _ _ 64 rfl rfl rfl rfl (by omega) (by unfold maxLen;omega) ?_;intro wN hrN hbN)
       have HRN:Hid (Row 114 .u32 wN wD.heap.size (List.replicate 64 0)∧Below wD.heap.size wD wN):=⟨hrN,hbN⟩
       clear hrN hbN;obtain⟨gw,hgw⟩:∃gw,wD.heap.size=gw:=⟨_,rfl⟩
       rw[hgw]at HRN ⊢;have HGW:Hid (wD.heap.size=gw):=hgw;clear hgw;go_loopw [10] (fun vi wx=>∃(i:Nat) (cur:List Int),i≤64∧vi=.int .i64 i∧Row 114 .u32 wx gw cur∧WP blk i cur∧Below gw wD wx) (fun vi _=>64-(intOf vi).toNat)
       case atStart=>exact⟨0,_,by omega,rfl,HRN.out.1,WP.zero _,HRN.out.2⟩
       case round =>
        obtain⟨i,cur,hi,rfl,hrw,hwp,hbx⟩:=hrel;clear HRN;by_cases hi16:i<16
        ·have HWP:Hid (Row 114 .u32 wr gw cur∧SchA blk i 0 cur∧Below gw wD wr):=⟨hrw,hwp.1 (by omega),hbx⟩
         have hi16I:(i:Int)<16:=by omega
         have hi64I:(i:Int)<64:=by omega
         clear hrw hwp hbx;go_wp2;go_loopw [11] (fun vk wx=>∃(k:Nat) (cur:List Int),k≤4∧vk=.int .i64 k∧Row 114 .u32 wx gw cur∧SchA blk i k cur∧Below gw wD wx) (fun vk _=>4-(intOf vk).toNat)
         case atStart=>exact⟨0,cur,by omega,rfl,HWP.out⟩
         case round =>
          obtain⟨k,cur,hk,rfl,hrw,hm,hbx⟩:=hrel;clear HWP;by_cases hlk:k<4
          ·have hl64:=hm.1;obtain⟨q,hq⟩:∃q,A+4*i+k=q:=⟨_,rfl⟩
           have hqI:(A:Int)+4*(i:Int)+(k:Int)=(q:Int):=by omega
           have hqT:q<TL:=by omega
           have hqTI:(q:Int)<(TL:Int):=by omega
           have hc:=hrw.cell i (by omega);have hf:=hrw.frozen i;have hcb:wr.cell? ⟨ga,q,none⟩=some (.int .u8 (blk.getD (4*i+k) 0)):=by have h1:=(HR.out.2.2.2.1.below hbx (by have:=HR.out.2.2.2.1.lt;have:=HGW.out;omega)).cell q (by have:=HM.out;omega);rw[HBLK.out.2 (4*i+k) (by omega),show A+(4*i+k)=q by omega];exact h1
           have gd:=HBLK.out.1.getD (by decide) (4*i+k);have gp:=pw_bounds blk HBLK.out.1 i k;have gp2:(256:Int)^k≤16777216:=by
            have:k=0∨k=1∨k=2∨k=3:=by omega
            rcases this with rfl|rfl|rfl|rfl<;>decide
           have HM2:Hid (SchA blk i (k+1) (cur.set i (cur.getD i 0*256+blk.getD (4*i+k) 0))):=hm.step hi16;have hx0:0≤cur.getD i 0:=by rw[hm.2.2.1];exact gp.1
           have hx1:cur.getD i 0<16777216:=by rw[hm.2.2.1];omega
           have HRW:Hid (Row 114 .u32 wr gw cur∧Below gw wD wr):=⟨hrw,hbx⟩
           generalize cur.getD i 0=x at *;generalize blk.getD (4*i+k) 0=d at *;have HV:Hid ((x*256+d)%4294967296=x*256+d):=by unfold Hid;omega
           clear hrw hm hbx hl64 gd gp gp2 hq hx0 hx1;go_wp2;go_region
           all_goals
            go_wp2;go_roundw
            case rel=>
             refine⟨k+1,cur.set i (x*256+d),by omega,by go_num,?_,HM2.out,?_⟩
             ·have e:cur.set i (x*256+d)=cur.set i ((x*256+d)%4294967296):=by rw[HV.out]
              rw[e];exact(HRW.out.1.set i _).drew
             ·exact(HRW.out.2.setCell (show gw≤(⟨gw,i,none⟩:Addr).block from Nat.le_refl _) _).drew
            case measure=>simp[intOf]<;>omega
          ·obtain rfl:k=4:=by omega
           have HM2:Hid (WP blk (i+1) cur):=WP.low hm hi16;have HRW:Hid (Row 114 .u32 wr gw cur∧Below gw wD wr):=⟨hrw,hbx⟩
           clear hrw hm hbx;go_wp2;go_roundw
           case rel=>exact⟨i+1,cur,by omega,by go_num,HRW.out.1,HM2.out,HRW.out.2⟩
           case measure=>simp[intOf]<;>omega
        ·by_cases hi64:i<64
         ·have hl:=hwp.length;obtain⟨p16,hp16⟩:∃p,i-16=p:=⟨_,rfl⟩
          have hp16I:(i:Int)-16=(p16:Int):=by omega
          have hp16L:(p16:Int)<64:=by omega
          have c16:=hrw.cell p16 (by omega);obtain⟨p15,hp15⟩:∃p,i-15=p:=⟨_,rfl⟩
          have hp15I:(i:Int)-15=(p15:Int):=by omega
          have hp15L:(p15:Int)<64:=by omega
          have c15:=hrw.cell p15 (by omega);obtain⟨p7,hp7⟩:∃p,i-7=p:=⟨_,rfl⟩
          have hp7I:(i:Int)-7=(p7:Int):=by omega
          have hp7L:(p7:Int)<64:=by omega
          have c7:=hrw.cell p7 (by omega);obtain⟨p2,hp2⟩:∃p,i-2=p:=⟨_,rfl⟩
          have hp2I:(i:Int)-2=(p2:Int):=by omega
          have hp2L:(p2:Int)<64:=by omega
          have c2:=hrw.cell p2 (by omega);have ci:=hrw.cell i (by omega);have hf:=hrw.frozen i;have hi16I:¬(i:Int)<16:=by omega
          have hi64I:(i:Int)<64:=by omega
          have HM2:Hid (WP blk (i+1) (cur.set i (wNext cur i))):=hwp.high (by omega) hi64;have HF:Hid (wNext cur i=(cur.getD p16 0+bits .xor .u32 (bits .xor .u32 (rot (cur.getD p15 0) 7) (rot (cur.getD p15 0) 18)) (cur.getD p15 0/8)+cur.getD p7 0+bits .xor .u32 (bits .xor .u32 (rot (cur.getD p2 0) 17) (rot (cur.getD p2 0) 19)) (cur.getD p2 0/1024))%4294967296):=by unfold Hid wNext sg0 sg1 M32;rw[hp16,hp15,hp7,hp2];omega
          have HRW:Hid (Row 114 .u32 wr gw cur∧Below gw wD wr):=⟨hrw,hbx⟩
          generalize cur.getD p16 0=x0 at *;generalize cur.getD p15 0=x1 at *;generalize cur.getD p7 0=x2 at *;generalize cur.getD p2 0=x3 at *;have T7:∀w,Calls Tryz.prog 53 #[.int .u32 x1,.int .i64 7] w fun e w'=>e=.returned (.int .u32 (rot x1 7))∧Drew w w':=fun w=>turn_any x1 7 w (by omega);have T18:∀w,Calls Tryz.prog 53 #[.int .u32 x1,.int .i64 18] w fun e w'=>e=.returned (.int .u32 (rot x1 18))∧Drew w w':=fun w=>turn_any x1 18 w (by omega);have T17:∀w,Calls Tryz.prog 53 #[.int .u32 x3,.int .i64 17] w fun e w'=>e=.returned (.int .u32 (rot x3 17))∧Drew w w':=fun w=>turn_any x3 17 w (by omega);have T19:∀w,Calls Tryz.prog 53 #[.int .u32 x3,.int .i64 19] w fun e w'=>e=.returned (.int .u32 (rot x3 19))∧Drew w w':=fun w=>turn_any x3 19 w (by omega);clear hrw hwp hbx hl hp16 hp15 hp7 hp2;go_wp2;go_quiet (first|(go_at_call_of 53 (Value.int .i64 7);exact Calls.quiet_of (T7 _))|(go_at_call_of 53 (Value.int .i64 18);exact Calls.quiet_of (T18 _)))
          go_wp2;have HRX:Hid (Row 114 .u32 (wr.drewN nq) gw cur∧Below gw wD (wr.drewN nq)):=⟨HRW.out.1.drewN _,HRW.out.2.trans (Drew.below ⟨_,rfl⟩ _)⟩
          have d16:(wr.drewN nq).cell? ⟨gw,p16,none⟩=some (.int .u32 x0):=c16;have d7:(wr.drewN nq).cell? ⟨gw,p7,none⟩=some (.int .u32 x2):=c7;have d2:(wr.drewN nq).cell? ⟨gw,p2,none⟩=some (.int .u32 x3):=c2;have di:(wr.drewN nq).cell? ⟨gw,i,none⟩=some (.int .u32 (cur.getD i 0)):=ci;have df:(wr.drewN nq).frozen? ⟨gw,i,none⟩=false:=hf;clear HRW c16 c15 c7 c2 ci hf T7 T18;generalize wr.drewN nq=wq at *;go_quiet (first|(go_at_call_of 53 (Value.int .i64 17);exact Calls.quiet_of (T17 _))|(go_at_call_of 53 (Value.int .i64 19);exact Calls.quiet_of (T19 _)))
          go_wp2;go_region
          all_goals
           go_wp2;go_roundw
           case rel=>
            refine⟨i+1,cur.set i (wNext cur i),by omega,by go_num,?_,HM2.out,?_⟩
            ·rw[HF.out];exact((HRX.out.1.drewN _).set i _).drew
            ·exact(HRX.out.2.trans (Drew.below ⟨_,rfl⟩ _)).setCell (show gw≤(⟨gw,i,none⟩:Addr).block from Nat.le_refl _) _
           case measure=>simp[intOf]<;>omega
         ·have hi64I:¬(i:Int)<64:=by omega
          have HY:Hid (cur=sched blk∧Row 114 .u32 wr gw cur∧Below gw wD wr):=⟨by have:=hwp.2 (by omega);rw[show i=64 by omega]at this;exact this.done,hrw,hbx⟩
          clear hrw hwp hbx;generalize hwY:wr=wY at *;clear hwY;have hYh:OwnAt 114 .u32 wY gh ch hs:=HR.out.1.below HY.out.2.2 (by have:=HR.out.1.lt;have:=HGW.out;omega);have HYH:Hid (OwnAt 114 .u32 wY gh ch hs):=hYh;have hnn2:(some (⟨gh,0,none⟩:Addr)=none→ch=0):=fun h=>by cases h
          have hlb8:([]:List Int).length+8≤1073741824:=by simp
          clear hYh;go_wp2_with (at_builtin;refine wpList_append_nums rfl _ _ 111 rfl 114 .u32 4 Tryz.underlying111 Tryz.infoW wY.heap.size (.slice (some ⟨wY.heap.size,0,none⟩) 0 0) [] (by rfl) (own_lit0 114 .u32 wY wY.heap.size (Nat.le_refl _)) (some ⟨gh,0,none⟩) 8 ch hs (by rfl) ((HYH.out.lies HR.out.2.2.2.2.2.2).old (below_alloc wY _)) hnn2 hlb8 (by decide) wY (below_alloc wY _) (by simp) ?_;intro vV wV hownV hbV _ hsV)
          obtain⟨gv0,cv0,rfl,hatV,hgv0⟩:=hownV.at (by have:=HR.out.2.2.2.2.2.2;simp;omega);rw[List.nil_append]at hatV;have hl8:([]++hs:List Int).length=8:=by have:=HR.out.2.2.2.2.2.2;simpa using this
          rw[hl8];have HV0:Hid (OwnAt 114 .u32 wV gv0 cv0 hs∧OwnAt 114 .u32 wV gh ch hs∧OwnAt 114 .u32 wV gk ck KS∧Row 114 .u32 wV gw (sched blk)∧Below gw wD wV∧gh<gv0∧hs.length=8):=by obtain⟨a1,a2,a3⟩:=HY.out;have hz:=a3.size;have hgw':=HGW.out;have hk:=HR.out.2.2.2.2.1;have hkl:=hk.lt;have hhl:=HYH.out.lt;have hrl:=a2.lt;refine⟨hatV,HYH.out.below hbV hhl,(hk.below a3 (by omega)).below hbV (by omega),by rw[←a1];exact a2.below hbV hrl,a3.trans (hbV.mono (by omega)),?_,HR.out.2.2.2.2.2.2⟩;omega
          clear hownV hbV hsV hatV hgv0 HY HYH;generalize hW:sched blk=W at *;have HWS:Hid (sched blk=W∧W.length=64):=⟨hW,by rw[←hW];exact sched_length blk⟩
          clear hW;go_wp2;apply rounds_wp (gh:=gh) (ch:=ch) (hs:=hs) (W:=W)
          case hB=>kernel_rfl
          case HV0=>exact⟨HV0.out.1,HV0.out.2.1,HV0.out.2.2.1,HV0.out.2.2.2.1,HV0.out.2.2.2.2.2.1,HV0.out.2.2.2.2.2.2⟩
          case HWS=>exact HWS.out.2
          refine fun gv cv y15 y16 y17 y150 y151 y152 y153 y154 y155 y156 y157 y158 y159 y160 y161 y162 y163 y164 y165 y166 y167 y168 y169 y170 y171 y172 y173 y174 y175 y176 y177 y178 y179 y180 y181 y182 y183 y184 y185 y186 y187 y188 y189 y190 y191 y192 y193 y194 y195 y196 y197 y198 y199 y200 y201 y202 y203 y204 y205 y206 y207 y208 y209 y210 y211 y212 y213 y214 y215 y216 y217 y218 y219 y220 y221 y222 y223 y224 y225 y226 y227 y228 y229 y230 y231 y232 y233 y234 y235 y236 y237 y238 y239 y240 y241 y242 y243 y244 y245 y246 y247 y248 y249 y250 y251 y252 y253 y254 y255 y256 y257 y258 y259 y260 y261 y262 y263 wr hov hbW hgv => ?_;obtain⟨s,hs2⟩:∃s,runS KS W (s8 hs) 64=s:=⟨_,rfl⟩
          rw[hs2]at hov;have HX:Hid (s=runS KS W (s8 hs) 64∧Below wV.heap.size wV wr∧OwnAt 114 .u32 wr gh ch hs∧OwnAt 114 .u32 wr gv cv (lst s)∧gh<gv):=⟨hs2.symm,hbW,HV0.out.2.1.below hbW HV0.out.2.1.lt,hov,hgv⟩
          rw[inBlock_exit];clear hov hs2 hbW hgv;generalize hwX:wr=wX at *;clear hwX;go_wp2;go_loopw [18] (fun vi wr=>∃(i:Nat) (cur:List Int),i≤8∧vi=.int .i64 i∧OwnAt 114 .u32 wr gh ch cur∧AddP hs s i cur∧ButS gh wX wr) (fun vi _=>8-(intOf vi).toNat)
          case atStart=>exact⟨0,hs,by omega,rfl,HX.out.2.2.1,AddP.zero s HV0.out.2.2.2.2.2.2,ButS.refl _ _⟩
          case round =>
           obtain⟨i3,cur3,hi3,rfl,ho3,ha3,hb3⟩:=hrel;by_cases hlt3:i3<8
           ·have c1:wr.cell? ⟨gh,i3,none⟩=some (.int .u32 (cur3.getD i3 0)):=ho3.cell i3 (by have:=ha3.1;omega);have hf:=ho3.frozen i3;have c2:wr.cell? ⟨gv,i3,none⟩=some (.int .u32 ((lst s).getD i3 0)):=(HX.out.2.2.2.1.kept (hb3.block _ HX.out.2.2.2.1.lt (by have:=HX.out;omega))).cell i3 (show i3<8 from hlt3);have HA:Hid (AddP hs s (i3+1) (cur3.set i3 ((cur3.getD i3 0+(lst s).getD i3 0)%4294967296))∧OwnAt 114 .u32 wr gh ch cur3∧ButS gh wX wr∧i3<cur3.length):=⟨ha3.step hlt3,ho3,hb3,by have:=ha3.1;omega⟩
            have hi3I:(i3:Int)<8:=by omega
            clear ho3 ha3 hb3;generalize cur3.getD i3 0=y1 at *;generalize (lst s).getD i3 0=y2 at *;go_wp2;go_region
            all_goals
             go_wp2;go_roundw
             case rel=>
              refine⟨i3+1,cur3.set i3 ((y1+y2)%4294967296),by omega,by go_num,?_,HA.out.1,?_⟩
              ·exact(HA.out.2.1.set i3 HA.out.2.2.2 _).kept rfl
              ·exact(HA.out.2.2.1.trans (ButS.setCell _ _ _ _)).trans (ButS.drewN _ _ 1)
             case measure=>simp[intOf]<;>omega
           ·have hge3:¬((i3:Int)<8):=by omega
            have HE:Hid (OwnAt 114 .u32 wr gh ch (hb T (D+1))∧ButS gh wM wr):=by
             obtain⟨a1,a2,a3,a4,a5,a6,a7⟩:=HR.out;have hz:=HGW.out;have hd:cur3=hb T (D+1):=by rw[a6];have h8:=ha3;rw[show i3=8 by omega]at h8;rw[h8.done,HX.out.1,←HWS.out.1];rfl
             refine⟨by rw[←hd];exact ho3,a2.trans ?_⟩;have h1:=HV0.out.2.2.2.2.1;rw[←hz]at h1;exact((ButS.ofBelow h1).trans (ButS.ofBelow HX.out.2.1)).trans hb3
            have HA2:Hid (64*D=A):=HR.out.2.2.1;clear ho3 ha3 hb3;go_wp2;go_roundw
            case rel=>exact⟨D+1,by omega,by have:=HA2.out;go_num,HE.out.1,HE.out.2⟩
            case measure=>simp[intOf]<;>omega
      ·skip
       have hgeT:¬((A:Int)<(TL:Int)):=by have:=HM.out;omega
       have hDe:D=NB:=by omega
       obtain⟨l,hl⟩:∃l,hb T D=l:=⟨_,rfl⟩
       have HZ:Hid (OwnAt 114 .u32 wD gh ch l∧Row 71 .u8 wD w.heap.size (List.replicate 32 0)∧Below w.heap.size w wD∧shaS bs=spreadS l∧l.length=8∧w.heap.size<gh):=by obtain⟨a1,a2,a3,a4,a5,a6,a7,a8,a9,a10⟩:=HM.out;refine⟨by rw[←hl];exact hath,hbut.row a1 (by omega),a8.trans (hbut.below (by omega) a8.size),?_,by rw[←hl];exact hb_length _ _,a7⟩;rw[HFIN.out,←hDe,hl]
       clear hath hbut hl hDe hA;go_wp2_with ((with_reducible show wpList _ _ _ (Oper.mk _ (Op.alloc _) _ _ _ _::_) _ _);refine wpList_alloc_row (w:=wD) (by with_reducible rfl) 71 (by with_reducible rfl) .u8 32 Tryz.infoB32 ?_;intro wO hrO hbO hsO)
       obtain⟨go,hgo⟩:∃go,wD.heap.size=go:=⟨_,rfl⟩
       have HZ2:Hid (OwnAt 114 .u32 wO gh ch l∧Row 71 .u8 wO w.heap.size (List.replicate 32 0)∧Row 71 .u8 wO go (List.replicate 32 0)∧Below w.heap.size w wO):=by obtain⟨a1,a2,a3,a4,a5,a6⟩:=HZ.out;exact⟨a1.below hbO a1.lt,a2.below hbO a2.lt,by rw[←hgo];exact hrO,a3.trans (hbO.mono a3.size)⟩
       have HG2:Hid (w.heap.size<go∧gh<go∧w.heap.size<gh∧shaS bs=spreadS l∧l.length=8):=by obtain⟨a1,a2,a3,a4,a5,a6⟩:=HZ.out;have:=a1.lt;exact⟨by omega,by omega,a6,a4,a5⟩
       rw[hgo];clear hrO hbO hsO hgo HZ;go_loopw [20] (fun vi wr=>∃(i:Nat) (cur:List Int),i≤32∧vi=.int .i64 i∧SprP l i cur∧OwnAt 114 .u32 wr gh ch l∧Row 71 .u8 wr w.heap.size (List.replicate 32 0)∧Row 71 .u8 wr go cur∧Below w.heap.size w wr) (fun vi _=>32-(intOf vi).toNat)
       case atStart=>exact⟨0,_,by omega,rfl,⟨by simp,fun j h=>by omega⟩,HZ2.out⟩
       case round=>
        obtain⟨i,cur,hi,rfl,hm,hr1,hr2,hr3,hbe⟩:=hrel;have HRW:Hid (OwnAt 114 .u32 wr gh ch l∧Row 71 .u8 wr w.heap.size (List.replicate 32 0)∧Row 71 .u8 wr go cur∧Below w.heap.size w wr):=⟨hr1,hr2,hr3,hbe⟩
        by_cases hlt:i<32
        ·obtain⟨r,hr⟩:∃r,i%4=r:=⟨_,rfl⟩
         obtain⟨d,hd⟩:∃d,i/4=d:=⟨_,rfl⟩
         obtain⟨r8,hr8⟩:∃r8,8*r=r8:=⟨_,rfl⟩
         obtain⟨m2,hmm⟩:∃m2,24-r8=m2:=⟨_,rfl⟩
         have hrI:(i:Int)%4=(r:Int):=by omega
         have hdI:(i:Int)/4=(d:Int):=by omega
         have hpI:8*(r:Int)=(r8:Int):=by omega
         have hmI:24-(r8:Int)=(m2:Int):=by omega
         have hm32:m2<32:=by omega
         have hd8:d<8:=by omega
         have hc:=hr1.cell d (by have:=HG2.out.2.2.2.2;omega);have hc3:=hr3.cell i (by have:=hm.1;omega);have hf3:=hr3.frozen i;have HM4:Hid (SprP l (i+1) (cur.set i (l.getD d 0/2^m2%256))):=by have:=hm.step hlt;rw[spreadS_get l i hlt,hd,show 24-8*(i%4)=m2 by omega]at this;exact this
         generalize l.getD d 0=x at *;clear hr1 hr2 hr3 hbe hm hr hd hr8 hmm;go_wp2;go_roundw
         case rel=>exact⟨i+1,_,by omega,by go_num,HM4.out,HRW.out.1.kept (heap_setCell_other _ _ _ _ (by have:=HG2.out;simp;omega)),HRW.out.2.1.setOther2 (by have:=HG2.out;simp;omega) _,HRW.out.2.2.1.set i _,HRW.out.2.2.2.setCell (by have:=HG2.out;simp;omega) _⟩
         case measure=>simp[intOf]<;>omega
        ·have HF:Hid (cur=shaS bs):=by have:=hm;rw[show i=32 by omega]at this;unfold Hid;rw[HG2.out.2.2.2.1];exact this.done
         have HLN:Hid (cur.length=32):=hm.1;have hge:¬((i:Int)<32):=by omega
         clear hr1 hr2 hr3 hbe hm;go_wp2_with (first|(refine wpList_load_nums (by with_reducible rfl) 71 _ (by with_reducible rfl) .u8 71 5 32 Tryz.underlying71 Tryz.sizeB32 _ cur (by rfl) HRW.out.2.2.1 HLN.out ?_)|(refine wpList_store_nums (by with_reducible rfl) 71 _ _ (by with_reducible rfl) .u8 71 32 Tryz.sizeB32 _ (List.replicate 32 0) cur (by rfl) (by rfl) HRW.out.2.1 (by simp) HLN.out ?_;intro w4 hr4 hb4 hs4 ho4))
         rw[HF.out]at hr4;refine bodyPost_ret (v:=ag .u8 (shaS bs)) (results_nums rfl _ _ _ 71 5 .u8 32 _ rfl hr4 Tryz.underlying71 Tryz.sizeB32 (shaS_length _)) rfl ⟨rfl,HRW.out.2.2.2.trans (hb4.mono (by omega))⟩
end
end Go.Proofs.YtkhnnhbmchnajaaGreat
