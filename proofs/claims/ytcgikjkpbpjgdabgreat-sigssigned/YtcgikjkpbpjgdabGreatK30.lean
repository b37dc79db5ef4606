import Derived.Test.YtcgikjkpbpjgdabGreatK29
import Derived.Test.YtcgikjkpbpjgdabGreatK06
import Derived.Test.YtcgikjkpbpjgdabGreatK02
import Derived.Test.YtcgikjkpbpjgdabGreatK19
import Derived.Laws.ResultCell
set_option maxRecDepth 100000
set_option maxHeartbeats 40000000
set_option linter.unusedVariables false
set_option linter.unusedSimpArgs false
namespace Go.Proofs.YtcgikjkpbpjgdabGreat
open Go.RowKit
theorem rDiv_any (ao bo : Option Addr) (la ca lb cb : Nat) (xs ys : List Int) (w : World) (h : NumIn .i64 D16 w ao la ca xs) (h' : NumIn .i64 D16 w bo lb cb ys) (hy : Canon ys) (hb0 : 0 < lb) (hla : la ≤ 100000) (hlb : lb ≤ 100000) :
  Calls Tryz.prog 91 #[.slice ao la ca,.slice bo lb cb] w fun e w'=>∃vq vr,e=.returned (.tuple #[vq,vr])∧NumOut .i64 D16 w w' vq (val D16 xs/val D16 ys) la∧NumOut .i64 D16 w w' vr (val D16 xs%val D16 ys) lb:=by
 have hl:=h.len;have hl':=h'.len;have hYp:0<val D16 ys:=by have a:=val_ge D16_pos h'.dg (lb-1) (by unfold Canon at hy;omega);have b:0<D16^(lb-1):=Int.pow_pos D16_pos;omega
 have HYP:Hid (0<val D16 ys):=hYp;clear hYp;go_enter Tryz.func91,Tryz.ntmps91;go_wp2_with (at_make;refine wpList_make_row _ rfl _ _ 61 rfl 3 .i64 8 Tryz.underlying61 Tryz.infoI _ _ _ _ la rfl rfl rfl rfl (by omega) (by unfold maxLen;omega) ?_)
 intro w3 hrow hbel;have hsz3:w.heap.size<w3.heap.size:=hrow.lt;go_wp2;go_loopw [7,9,10,11] (fun vr vi _ _ wr=>∃(kk:Nat) (q:List Int) (R:Int),kk≤la∧vi=.int .i64 ((kk:Int)-1)∧Row 3 .i64 wr w.heap.size q∧RDivs xs ys kk q R∧Rem wr w.heap.size vr R lb∧Below w.heap.size w wr) (fun _ vi _ _ _=>(intOf vi+1).toNat)
 case atStart=>
  have hb4:Below w3.heap.size w3 (w3.alloc (.cells #[] 3)):=(Below.refl _ _).alloc (Nat.le_refl _) _;refine⟨la,List.replicate la 0,0,Nat.le_refl _,by go_num,hrow.below hb4 hsz3,⟨by simp[hl],Dg.zeros D16_pos _,fun j _=>getD_zeros _ j,by decide,HYP.out,?_⟩,?_,hbel.trans (hb4.mono (by omega))⟩
  ·rw[List.drop_of_length_le (by omega),List.drop_of_length_le (by simp)];simp[val]
  ·refine⟨some ⟨w3.heap.size,0,none⟩,0,0,[],rfl,⟨Lies.empty _ _ _,Nat.le_refl _,by simp[maxLen],fun h=>(by cases h),Dg.nil _,by omega⟩,Canon.nil,rfl,by omega,?_⟩;intro b off s e;injection e with e;injection e with e;omega
 case round =>
  obtain⟨kk,q0,R0,hkk,rfl,hrw0,hd0,⟨a_r,l_r,c_r,rs,rfl,hr,hcr,hvr,hlr,hfr⟩,hb1⟩:=hrel;clear hrow hbel hsz3;by_cases hk0:kk=0
  ·subst hk0;have hqR:=hd0.done;have hqlen:=hd0.1;have HQ:Hid (NumIn .i64 D16 wr (some ⟨w.heap.size,0,none⟩) la la q0):=by have:=hrw0.num hd0.2.1 (by omega);rw[hqlen,hl]at this;exact this
   have HV:Hid (val D16 q0=val D16 xs/val D16 ys):=hqR.1;have HR:Hid (NumOut .i64 D16 w wr (.slice a_r l_r c_r) (val D16 xs%val D16 ys) lb):=⟨a_r,l_r,c_r,rs,rfl,hr,hcr,by rw[hvr];exact hqR.2,hlr,hb1⟩
   have HB:Hid (Below w.heap.size w wr):=hb1;clear hqR hqlen hd0 hrw0 hr hcr hvr hlr hfr hb1 h h' hy HYP;go_wp2_with fail
   refine(rtrim_any (some ⟨w.heap.size,0,none⟩) la la q0 wr HQ.out).mono ?_;rintro e w4 ⟨rfl,rfl⟩;go_wp2;go_ret2
   exact⟨_,_,rfl,HQ.out.out HB.out _ HV.out _ (Nat.le_refl _),HR.out⟩
  ·obtain⟨i,rfl⟩:∃i,kk=i+1:=⟨kk-1,by omega⟩
   obtain⟨b,off,rfl,hblk,hcs⟩:=(h.lies.old hb1).at (by omega);have hcx:=hcs i (by omega);have gx:=h.dg.getD D16_pos i;have HEN:Hid (RDivIn xs ys i (xs.getD i 0+D16*R0) q0 q0 0 (xs.getD i 0+D16*R0)):=hd0.enter h.dg;have HTOP:Hid (xs.getD i 0+D16*R0<D16*val D16 ys):=hd0.top h.dg;have HD0:Hid (RDivs xs ys (i+1) q0 R0):=hd0;have HROW0:Hid (Row 3 .i64 wr w.heap.size q0):=hrw0;have HB1:Hid (Below w.heap.size w wr):=hb1;have hgs:=hrw0.lt;have hown0:=(row_alloc wr 3 .i64 (xs.getD i 0)).own (base:=wr.heap.size) (Nat.le_refl _) (by simp);have hba:Below wr.heap.size wr (wr.alloc (.cells #[.int .i64 (xs.getD i 0)] 3)):=(Below.refl _ _).alloc (Nat.le_refl _) _;have hlr2:=hr.lies.old hba;have hnn:=hr.nn;have HR:Hid (NumIn .i64 D16 wr a_r l_r c_r rs∧val D16 rs=R0):=⟨hr,hvr⟩
   have HX:Hid (0≤xs.getD i 0∧xs.getD i 0<D16):=gx;obtain⟨T,HT⟩:∃T,Hid (xs.getD i 0+D16*R0=T):=⟨_,rfl⟩
   rw[HT.out]at HEN HTOP;have HT2:Hid (T=xs.getD i 0+D16*R0):=HT.out.symm;have HLV:Hid (∀q t R,RDivIn xs ys i T q0 q t R→R<val D16 ys→RDivs xs ys i q R):=fun q t R h1 h2=>h1.leave HD0.out (by omega) HT2.out h2;generalize xs.getD i 0=x at *;clear hcs hd0 hrw0 hb1 hr hcr hvr hfr gx HT;have hbasz:=hba.size;go_wp2_with (at_builtin;refine wpList_append_nums rfl _ _ 61 rfl 3 .i64 8 Tryz.underlying61 Tryz.infoI wr.heap.size (.slice (some ⟨wr.heap.size,0,none⟩) 1 1) [x] (by rfl) hown0 a_r l_r c_r rs (by rfl) hlr2 hnn (by simp;omega) (by decide) wr hba hbasz ?_)
   intro v2 w4 hown hb4 _ _;replace hown:Own 3 .i64 w4 wr.heap.size v2 (x::rs):=hown;have hlen4:(x::rs).length=l_r+1:=by simp[HR.out.1.len]
   have hdg4:Dg D16 (x::rs):=Dg.cons HX.out HR.out.1.dg;obtain⟨a4,c4,hv4,hnum4⟩:=hown.num hdg4 (by omega);subst hv4;have hfr4:=hown.fresh;rw[hlen4]at hnum4 ⊢;have HN4:Hid (NumIn .i64 D16 w4 a4 (l_r+1) c4 (x::rs)):=hnum4;have HV4:Hid (val D16 (x::rs)=T):=by unfold Hid;rw[val_cons,HR.out.2,HT2.out]
   have HREM:Hid (Rem w4 w.heap.size (.slice a4 (top (x::rs)) c4) T (lb+1)):=by have ht:=top_le (x::rs);exact⟨a4,_,c4,(x::rs).take (top (x::rs)),rfl,hnum4.take _ (by omega),canon_take_top _,by rw[val_take_top,HV4.out],by omega,fun b off s e=>by have:=hfr4 b off s e;omega⟩
   have HROW4:Hid (Row 3 .i64 w4 w.heap.size q0):=HROW0.out.below hb4 hgs;have HB4:Hid (Below w.heap.size w w4):=HB1.out.trans (hb4.mono HB1.out.size);clear hown0 hba hlr2 hnn hbasz hown hb4 hlen4 hdg4 hnum4 hfr4 HROW0 HB1 hgs HV4 HR HX;go_wp2_with fail
   refine(rtrim_any a4 (l_r+1) c4 (x::rs) w4 HN4.out).mono ?_;rintro e w5 ⟨rfl,rfl⟩;generalize top (x::rs)=l4 at *;clear HN4;go_wp2;go_loopw [7,10,11] (fun vr _ _ wr=>∃(q:List Int) (t R:Int),Row 3 .i64 wr w.heap.size q∧RDivIn xs ys i T q0 q t R∧Rem wr w.heap.size vr R (lb+1)∧Below w.heap.size w wr) (fun _ _ _ wr=>65536-cellNat wr ⟨w.heap.size,i,none⟩)
   case atStart=>exact⟨q0,0,T,HROW4.out,HEN.out,HREM.out,HB4.out⟩
   case round =>
    obtain⟨q,t,R,hrw,hin,⟨a_s,l_s,c_s,rs2,rfl,hr,hcr,hvr,hlr,hfr⟩,hb⟩:=hrel;clear HROW4 HEN HREM HB4;have HC:=rCmp_any a_s bo l_s c_s lb cb rs2 ys wr hr (h'.old hb) hcr hy (by omega) (by omega);have hqlen:q.length=la:=by rw[hin.1];simp[HD0.out.1,hl]
    by_cases hge:val D16 ys≤R
    ·obtain⟨m,hm⟩:∃m,lb=m+1:=⟨lb-1,by omega⟩
     have em:(lb:Int)-1=(m:Int):=by omega
     have hll:lb≤l_s:=by have h1:=top_mono D16_one h'.dg hr.dg (by omega);have h2:=hr.len;unfold Canon at hy hcr;omega
     obtain⟨cv,hcv⟩:∃c,cmpI (val D16 rs2) (val D16 ys)=c:=⟨_,rfl⟩
     have hcv0:0≤cv:=by
      rw[←hcv,hvr];rcases Int.lt_or_eq_of_le hge with h1|h1
      ·rw[cmpI_gt h1];decide
      ·rw[cmpI_eq h1.symm];decide
     rw[hcv]at HC;obtain⟨b2,off2,rfl,hblk2,hcs2⟩:=hr.lies.at (by omega);obtain⟨b3,off3,rfl,hblk3,hcs3⟩:=(h'.lies.old hb).at (by omega);have HCS:Hid (∀j,j<l_s→wr.cell? ⟨b2,off2+j,none⟩=some (.int .i64 (rs2.getD j 0))):=hcs2;have hcy:=hcs3 m (by omega);have hcr0:=hcs2 m (by omega);have HSTEP:Hid (∀s,1≤s→s*val D16 ys≤R→RDivIn xs ys i T q0 (q.set i (t+s)) (t+s) (R-s*val D16 ys)):=fun s h1 h2=>hin.step HTOP.out HYP.out h1 h2;have HOK:Hid (∀s,0≤s→s*(ys.getD m 0+1)≤rs2.getD m 0+65536*rs2.getD lb 0→s*val D16 ys≤R):=fun s h1 h2=>by rw[←hvr];exact times_ok rs2 ys hr.dg h'.dg m (by omega) s h1 (by rw[←hm];exact h2)
     have gy:=h'.dg.getD D16_pos m;have g0:=hr.dg.getD D16_pos m;have g1:=hr.dg.getD D16_pos lb;have y0:=gy.1;have y1:ys.getD m 0<65536:=gy.2;have r0:=g0.1;have r1:rs2.getD m 0<65536:=g0.2;have s0:=g1.1;have s1:rs2.getD lb 0<65536:=g1.2;have HR:Hid (NumIn .i64 D16 wr (some ⟨b2,off2,none⟩) l_s c_s rs2∧Canon rs2∧val D16 rs2=R):=⟨hr,hcr,hvr⟩
     have HROW:Hid (Row 3 .i64 wr w.heap.size q):=hrw;have HB:Hid (Below w.heap.size w wr):=hb;have HIN:Hid (RDivIn xs ys i T q0 q t R):=hin;have hout:l_s=lb→rs2.getD lb 0=0:=fun e=>by have:=hr.len;simp[List.getD,List.getElem?_eq_none (show rs2.length≤lb by omega)]
     have hcin:lb<l_s→wr.cell? ⟨b2,off2+lb,none⟩=some (.int .i64 (rs2.getD lb 0)):=fun e=>hcs2 lb e;have HY:Hid (NumIn .i64 D16 w (some ⟨b3,off3,none⟩) lb cb ys∧Canon ys):=⟨h',hy⟩
     have HFR:Hid (w.heap.size<b2):=hfr b2 off2 none rfl;have hmlb:(m:Int)<(lb:Int):=by omega
     have hmls:(m:Int)<(l_s:Int):=by omega
     have hlI:(lb:Int)≤100000:=by omega
     clear hcs2 hcs3 hin hr hcr hvr hfr hrw hb hcv gy g0 g1 h h' hy hm hl';generalize ys.getD m 0=y at *;generalize rs2.getD m 0=x0 at *;generalize rs2.getD lb 0=x1 at *;go_wp2_with fail
     refine HC.mono ?_;rintro e w6 ⟨rfl,hdr⟩;have hcy6:=(hdr.cell _).trans hcy;have hcr6:=(hdr.cell _).trans hcr0;clear hcy hcr0;by_cases hmore:lb<l_s
     ·have hc16:=(hdr.cell _).trans (hcin hmore);clear hout hcin;go_wp2_with fail
      clear hc16;obtain⟨tm,htm⟩:∃tm,max ((x0+65536*x1)/(y+1)) 1=tm:=⟨_,rfl⟩
      have hs0:0≤(x0+65536*x1)/(y+1):=Int.ediv_nonneg (by omega) (by omega);have hsmul:(x0+65536*x1)/(y+1)*(y+1)≤x0+65536*x1:=Int.ediv_mul_le _ (by omega);have hsle:(x0+65536*x1)/(y+1)≤x0+65536*x1:=Int.ediv_le_self _ (by omega);have htm1:1≤tm:=by rw[←htm];exact Int.le_max_right _ _
      have htmR:tm*val D16 ys≤R:=by
       rcases Int.le_total ((x0+65536*x1)/(y+1)) 1 with h1|h1
       ·have e:tm=1:=by rw[←htm];exact Int.max_eq_right h1
        rw[e,Int.one_mul];exact hge
       ·have e:tm=(x0+65536*x1)/(y+1):=by rw[←htm];exact Int.max_eq_left h1
        rw[e];exact HOK.out _ hs0 (by omega)
      have htm2:tm≤4294967296:=by
       rcases Int.le_total ((x0+65536*x1)/(y+1)) 1 with h1|h1
       ·have e:tm=1:=by rw[←htm];exact Int.max_eq_right h1
        omega
       ·have e:tm=(x0+65536*x1)/(y+1):=by rw[←htm];exact Int.max_eq_left h1
        omega
      rw[htm];have HS:Hid (RDivIn xs ys i T q0 (q.set i (t+tm)) (t+tm) (R-tm*val D16 ys)):=HSTEP.out tm htm1 htmR;have HTR:Hid (tm*val D16 ys≤R):=htmR;clear htm hs0 hsmul hsle HOK HSTEP htmR hge hcr6 hcy6;refine(rSmall_any tm w6 (by omega) (by omega)).mono ?_;rintro e w7 ⟨v,rfl,a_m,l_m,c_m,s_m,rfl,n_m,k_m,v_m,b_m,hb7⟩;have HB7:Hid (Below wr.heap.size wr w7):=(hdr.below _).trans (by rw[hdr.size]at hb7;exact hb7);have HNM:Hid (NumIn .i64 D16 w7 a_m l_m c_m s_m∧val D16 s_m=tm):=⟨n_m,v_m⟩
      clear n_m k_m v_m hb7 hdr;have HY7:Hid (NumIn .i64 D16 w7 (some ⟨b3,off3,none⟩) lb cb ys):=HY.out.1.old (HB.out.trans (HB7.out.mono HB.out.size));go_wp2_with fail
      refine(rMul_any (some ⟨b3,off3,none⟩) a_m lb cb l_m c_m ys s_m w7 HY7.out HNM.out.1 (by omega) (by omega)).mono ?_;rintro e w8 ⟨v,rfl,a_p,l_p,c_p,s_p,rfl,n_p,k_p,v_p,b_p,hb8⟩;have HB8:Hid (Below wr.heap.size wr w8):=HB7.out.trans (hb8.mono HB7.out.size);have HNP:Hid (NumIn .i64 D16 w8 a_p l_p c_p s_p∧Canon s_p∧val D16 s_p=tm*val D16 ys):=⟨n_p,k_p,by rw[v_p,HNM.out.2,Int.mul_comm]⟩
      have HR8:Hid (NumIn .i64 D16 w8 (some ⟨b2,off2,none⟩) l_s c_s rs2):=HR.out.1.old HB8.out;clear n_p k_p v_p hb8 HNM HY7;go_wp2_with fail
      refine(rSub_new (some ⟨b2,off2,none⟩) a_p l_s c_s l_p c_p rs2 s_p w8 HR8.out HNP.out.1 HR.out.2.1 HNP.out.2.1 (by rw[HNP.out.2.2,HR.out.2.2];exact HTR.out) (by omega) (by omega)).mono ?_;rintro e w9 ⟨v,rfl,a_n,l_n,c_n,s_n,rfl,n_n,k_n,v_n,b_n,hb9,f_n⟩;have hlt8:w.heap.size<w8.heap.size:=Nat.lt_of_lt_of_le HROW.out.lt HB8.out.size;have HB9:Hid (Below wr.heap.size wr w9):=HB8.out.trans (hb9.mono HB8.out.size);have hrow9:=HROW.out.below HB9.out HROW.out.lt;have hqi:q.getD i 0=t:=by rw[HIN.out.1,getD_set _ _ _ _ (by have:=HD0.out.1;omega),if_pos rfl]
      have hcq:=hrow9.cell i (by omega);have hfz:=hrow9.frozen i;rw[hqi]at hcq;have ht0:=HIN.out.2.1;have ht1:=HIN.out.2.2.1;have HROW':Hid (Row 3 .i64 (w9.setCell ⟨w.heap.size,i,none⟩ (.int .i64 (t+tm))) w.heap.size (q.set i (t+tm))):=hrow9.set i (t+tm);have HREM':Hid (Rem (w9.setCell ⟨w.heap.size,i,none⟩ (.int .i64 (t+tm))) w.heap.size (.slice a_n l_n c_n) (R-tm*val D16 ys) (lb+1)):=
       ⟨a_n,l_n,c_n,s_n,rfl,n_n.kept (grown_set _ _ _ _) (fun b off s e=>by have:=f_n b off s e;intro h0;injection h0 with h0;omega),k_n,by rw[v_n,HNP.out.2.2,HR.out.2.2],by omega,fun b off s e=>by have:=f_n b off s e;omega⟩
      have HB':Hid (Below w.heap.size w (w9.setCell ⟨w.heap.size,i,none⟩ (.int .i64 (t+tm)))):=(HB.out.trans (HB9.out.mono HB.out.size)).setCell (Nat.le_refl _) _;have HMS:Hid (65536-cellNat (w9.setCell ⟨w.heap.size,i,none⟩ (.int .i64 (t+tm))) ⟨w.heap.size,i,none⟩<65536-cellNat wr ⟨w.heap.size,i,none⟩):=by unfold Hid;rw[cellNat_row HROW'.out i (by simp;omega),cellNat_row HROW.out i (by omega),hqi,getD_set _ _ _ _ (by omega),if_pos rfl];have:=HS.out.2.2.1;omega
      clear hrow9 hqi n_n k_n v_n f_n hb9 HB9 HB8 HB7 HR8 HNP HR HROW HB HIN HY HD0 HYP HTOP;go_wp2;go_roundw
      case rel=>exact⟨_,_,_,HROW'.out,HS.out,HREM'.out,HB'.out⟩
      case measure=>exact HMS.out
     ·obtain rfl:=hout (by omega);clear hout hcin s0 s1;go_wp2_with fail
      obtain⟨tm,htm⟩:∃tm,max ((x0)/(y+1)) 1=tm:=⟨_,rfl⟩
      have hs0:0≤(x0)/(y+1):=Int.ediv_nonneg (by omega) (by omega);have hsmul:(x0)/(y+1)*(y+1)≤x0:=Int.ediv_mul_le _ (by omega);have hsle:(x0)/(y+1)≤x0:=Int.ediv_le_self _ (by omega);have htm1:1≤tm:=by rw[←htm];exact Int.le_max_right _ _
      have htmR:tm*val D16 ys≤R:=by
       rcases Int.le_total ((x0)/(y+1)) 1 with h1|h1
       ·have e:tm=1:=by rw[←htm];exact Int.max_eq_right h1
        rw[e,Int.one_mul];exact hge
       ·have e:tm=(x0)/(y+1):=by rw[←htm];exact Int.max_eq_left h1
        rw[e];exact HOK.out _ hs0 (by omega)
      have htm2:tm≤4294967296:=by
       rcases Int.le_total ((x0)/(y+1)) 1 with h1|h1
       ·have e:tm=1:=by rw[←htm];exact Int.max_eq_right h1
        omega
       ·have e:tm=(x0)/(y+1):=by rw[←htm];exact Int.max_eq_left h1
        omega
      rw[htm];have HS:Hid (RDivIn xs ys i T q0 (q.set i (t+tm)) (t+tm) (R-tm*val D16 ys)):=HSTEP.out tm htm1 htmR;have HTR:Hid (tm*val D16 ys≤R):=htmR;clear htm hs0 hsmul hsle HOK HSTEP htmR hge hcr6 hcy6;refine(rSmall_any tm w6 (by omega) (by omega)).mono ?_;rintro e w7 ⟨v,rfl,a_m,l_m,c_m,s_m,rfl,n_m,k_m,v_m,b_m,hb7⟩;have HB7:Hid (Below wr.heap.size wr w7):=(hdr.below _).trans (by rw[hdr.size]at hb7;exact hb7);have HNM:Hid (NumIn .i64 D16 w7 a_m l_m c_m s_m∧val D16 s_m=tm):=⟨n_m,v_m⟩
      clear n_m k_m v_m hb7 hdr;have HY7:Hid (NumIn .i64 D16 w7 (some ⟨b3,off3,none⟩) lb cb ys):=HY.out.1.old (HB.out.trans (HB7.out.mono HB.out.size));go_wp2_with fail
      refine(rMul_any (some ⟨b3,off3,none⟩) a_m lb cb l_m c_m ys s_m w7 HY7.out HNM.out.1 (by omega) (by omega)).mono ?_;rintro e w8 ⟨v,rfl,a_p,l_p,c_p,s_p,rfl,n_p,k_p,v_p,b_p,hb8⟩;have HB8:Hid (Below wr.heap.size wr w8):=HB7.out.trans (hb8.mono HB7.out.size);have HNP:Hid (NumIn .i64 D16 w8 a_p l_p c_p s_p∧Canon s_p∧val D16 s_p=tm*val D16 ys):=⟨n_p,k_p,by rw[v_p,HNM.out.2,Int.mul_comm]⟩
      have HR8:Hid (NumIn .i64 D16 w8 (some ⟨b2,off2,none⟩) l_s c_s rs2):=HR.out.1.old HB8.out;clear n_p k_p v_p hb8 HNM HY7;go_wp2_with fail
      refine(rSub_new (some ⟨b2,off2,none⟩) a_p l_s c_s l_p c_p rs2 s_p w8 HR8.out HNP.out.1 HR.out.2.1 HNP.out.2.1 (by rw[HNP.out.2.2,HR.out.2.2];exact HTR.out) (by omega) (by omega)).mono ?_;rintro e w9 ⟨v,rfl,a_n,l_n,c_n,s_n,rfl,n_n,k_n,v_n,b_n,hb9,f_n⟩;have hlt8:w.heap.size<w8.heap.size:=Nat.lt_of_lt_of_le HROW.out.lt HB8.out.size;have HB9:Hid (Below wr.heap.size wr w9):=HB8.out.trans (hb9.mono HB8.out.size);have hrow9:=HROW.out.below HB9.out HROW.out.lt;have hqi:q.getD i 0=t:=by rw[HIN.out.1,getD_set _ _ _ _ (by have:=HD0.out.1;omega),if_pos rfl]
      have hcq:=hrow9.cell i (by omega);have hfz:=hrow9.frozen i;rw[hqi]at hcq;have ht0:=HIN.out.2.1;have ht1:=HIN.out.2.2.1;have HROW':Hid (Row 3 .i64 (w9.setCell ⟨w.heap.size,i,none⟩ (.int .i64 (t+tm))) w.heap.size (q.set i (t+tm))):=hrow9.set i (t+tm);have HREM':Hid (Rem (w9.setCell ⟨w.heap.size,i,none⟩ (.int .i64 (t+tm))) w.heap.size (.slice a_n l_n c_n) (R-tm*val D16 ys) (lb+1)):=
       ⟨a_n,l_n,c_n,s_n,rfl,n_n.kept (grown_set _ _ _ _) (fun b off s e=>by have:=f_n b off s e;intro h0;injection h0 with h0;omega),k_n,by rw[v_n,HNP.out.2.2,HR.out.2.2],by omega,fun b off s e=>by have:=f_n b off s e;omega⟩
      have HB':Hid (Below w.heap.size w (w9.setCell ⟨w.heap.size,i,none⟩ (.int .i64 (t+tm)))):=(HB.out.trans (HB9.out.mono HB.out.size)).setCell (Nat.le_refl _) _;have HMS:Hid (65536-cellNat (w9.setCell ⟨w.heap.size,i,none⟩ (.int .i64 (t+tm))) ⟨w.heap.size,i,none⟩<65536-cellNat wr ⟨w.heap.size,i,none⟩):=by unfold Hid;rw[cellNat_row HROW'.out i (by simp;omega),cellNat_row HROW.out i (by omega),hqi,getD_set _ _ _ _ (by omega),if_pos rfl];have:=HS.out.2.2.1;omega
      clear hrow9 hqi n_n k_n v_n f_n hb9 HB9 HB8 HB7 HR8 HNP HR HROW HB HIN HY HD0 HYP HTOP;go_wp2;go_roundw
      case rel=>exact⟨_,_,_,HROW'.out,HS.out,HREM'.out,HB'.out⟩
      case measure=>exact HMS.out
    ·have hRl:R<val D16 ys:=by omega
     rw[show cmpI (val D16 rs2) (val D16 ys) = -1 from cmpI_lt (by rw[hvr];exact hRl)]at HC;have HD:Hid (RDivs xs ys i q R):=HLV.out q t R hin hRl;have HREM:Hid (Rem wr w.heap.size (.slice a_s l_s c_s) R lb):=by
      have h1:Rem wr w.heap.size (.slice a_s l_s c_s) R (lb+1):=⟨a_s,l_s,c_s,rs2,rfl,hr,hcr,hvr,hlr,hfr⟩
      have:=h1.len h'.dg hRl;rw[hl']at this;exact this
     have HROW:Hid (Row 3 .i64 wr w.heap.size q):=hrw;have HB:Hid (Below w.heap.size w wr):=hb;clear hin hr hcr hvr hlr hfr hrw hb hge hRl h h' hy HYP HTOP HD0 HT2 HLV;go_wp2_with fail
     refine HC.mono ?_;rintro e w6 ⟨rfl,n6,rfl⟩;clear HC;go_wp2;go_roundw
     case rel=>exact⟨i,q,R,by omega,by go_num,HROW.out.drewN _,HD.out,HREM.out.old (Drew.below ⟨_,rfl⟩ _),HB.out.trans (Drew.below ⟨_,rfl⟩ _)⟩
     case measure=>simp[intOf]<;>omega
theorem rMod_any (ao bo:Option Addr) (la ca lb cb:Nat) (xs ys:List Int) (w:World) (h:NumIn .i64 D16 w ao la ca xs) (h':NumIn .i64 D16 w bo lb cb ys) (hy:Canon ys) (h0:val D16 ys≠0) (hla:la≤100000) (hlb:lb≤100000):
  Calls Tryz.prog 56 #[.slice ao la ca,.slice bo lb cb] w fun e w'=>∃v,e=.returned v∧NumOut .i64 D16 w w' v (val D16 xs%val D16 ys) lb:=by
 have hb0:0<lb:=by
  rcases Nat.eq_zero_or_pos lb with e|e
  ·have hl:=h'.len;have:ys=[]:=List.eq_nil_of_length_eq_zero (by omega);rw[this]at h0;exact absurd rfl h0
  ·exact e
 have HD:=rDiv_any ao bo la ca lb cb xs ys w h h' hy hb0 hla hlb;clear h h' h0 hb0;go_enter Tryz.func56,Tryz.ntmps56;go_wp2_with fail
 refine HD.mono ?_;rintro e w' ⟨q,r,rfl,hq,hr⟩;obtain⟨aq,lq,cq,xq,rfl,_,_,_,_,_⟩:=hq;obtain⟨ar,lr,cr,xr,rfl,n1,n2,n3,n4,n5⟩:=hr;have HN:Hid (NumOut .i64 D16 w w' (.slice ar lr cr) (val D16 xs%val D16 ys) lb):=⟨ar,lr,cr,xr,rfl,n1,n2,n3,n4,n5⟩
 clear n1 n2 n3 n4 n5 HD;go_wp2;go_ret;exact⟨_,rfl,HN.out⟩
theorem rPow_any (ao no mo:Option Addr) (la ca ln cn lm cm:Nat) (xs ns ms:List Int) (w:World) (h:NumIn .i64 D16 w ao la ca xs) (hn:NumIn .i64 D16 w no ln cn ns) (h':NumIn .i64 D16 w mo lm cm ms) (hx:Canon xs) (hcn:Canon ns) (hm:Canon ms) (h0:val D16 ms≠0) (hla:la≤1000) (hln:ln≤1000) (hlm:lm≤1000):
  Calls Tryz.prog 29 #[.slice ao la ca,.slice no ln cn,.slice mo lm cm] w fun e w'=>∃v,e=.returned v∧NumOut .i64 D16 w w' v (val D16 xs^(val D16 ns).toNat%val D16 ms) lm:=by
 have hM:=val_nonneg D16_pos h'.dg;have hV:=val_nonneg D16_pos hn.dg;have NX:Hid (NumIn .i64 D16 w ao la ca xs∧Canon xs):=⟨h,hx⟩
 have NN:Hid (NumIn .i64 D16 w no ln cn ns∧Canon ns):=⟨hn,hcn⟩
 have NM:Hid (NumIn .i64 D16 w mo lm cm ms∧Canon ms):=⟨h',hm⟩
 have HLb:Hid (blen (val D16 ns).toNat≤16*ln):=by
  unfold Hid;refine blen_le _ _ ?_;have h1:=val_lt D16_pos hn.dg;rw[hn.len]at h1;have e:D16^ln=((2^(16*ln):Nat):Int):=by rw[Nat.pow_mul,Int.natCast_pow];rfl
  omega
 have HVL:Hid (val D16 ns<2^blen (val D16 ns).toNat):=by
  unfold Hid;have h1:=blen_lt (val D16 ns).toNat;have e:((2^blen (val D16 ns).toNat:Nat):Int)=2^blen (val D16 ns).toNat:=by rw[Int.natCast_pow];rfl
  omega
 have HL:=fun w1 (hb:Below w.heap.size w w1)=>rLen_any no ln cn ns w1 (hn.old hb) hcn (by omega);obtain⟨M,hMv⟩:∃M,val D16 ms=M:=⟨_,rfl⟩
 obtain⟨V,hVv⟩:∃V,val D16 ns=V:=⟨_,rfl⟩
 obtain⟨X,hXv⟩:∃X,val D16 xs=X:=⟨_,rfl⟩
 have HV:Hid (val D16 ms=M∧val D16 ns=V∧val D16 xs=X):=⟨hMv,hVv,hXv⟩
 rw[hMv]at hM h0 ⊢;rw[hVv]at hV HLb HVL HL ⊢;rw[hXv];have HMP:Hid (M≠0∧0<M):=⟨h0,by omega⟩
 have HVP:Hid (0≤V):=hV;obtain⟨L,hL⟩:∃L,blen V.toNat=L:=⟨_,rfl⟩
 rw[hL]at HLb HVL HL;have hL2:L≤16000:=by have:=HLb.out;omega
 clear h hn h' hx hcn hm hM hV h0 hMv hVv hXv hL HLb;go_enter Tryz.func29,Tryz.ntmps29;go_wp2_with fail
 refine(rSmall_any 1 w (by decide) (by decide)).mono ?_;rintro e w1 ⟨v,rfl,a1,l1,c1,s1,rfl,q1,q2,q3,q4,q5⟩;have HM:=rMod_any a1 mo l1 c1 lm cm s1 ms w1 q1 (NM.out.1.old q5) NM.out.2 (by rw[HV.out.1];exact HMP.out.1) (by omega) (by omega);rw[q3,HV.out.1]at HM;have BW:Hid (Below w.heap.size w w1):=q5;clear q1 q2 q3 q4 q5;go_wp2_with fail
 refine HM.mono ?_;rintro e w2 ⟨v,rfl,hv⟩;have N0:Hid (NumOut .i64 D16 w w2 v (1%M) lm):=hv.from BW.out;have HL2:=HL w2 N0.out.bl;clear hv HM BW HL;go_wp2_with fail
 refine HL2.mono ?_;rintro e w3 ⟨rfl,rfl⟩;clear HL2;go_wp2;go_loopw [7,8] (fun vo vi wr=>∃(i P:Int),vi=.int .i64 i ∧ -1≤i∧i<L∧NumOut .i64 D16 w wr vo P lm∧0≤P∧P<M∧Cg M P (pws X V (i+1).toNat)) (fun vo vi wr=>(intOf vi+1).toNat)
 case atStart=> have r:=mod_range 1 M (Int.le_of_lt HMP.out.2) HMP.out.1;refine⟨(L:Int)-1,1%M,rfl,by omega,by omega,N0.out,r.1,r.2,?_⟩;rw[show((L:Int)-1+1).toNat=L by omega,pws_top X V HVP.out L HVL.out];exact Cg.mod M 1
 case round=>
  clear N0;obtain⟨i,P,rfl,hi0,hi1,nP,hP0,hP1,hcg⟩:=hrel;by_cases hneg:i<0
  ·obtain rfl:i = -1:=by omega
   have HF:Hid (P=X^V.toNat%M):=by unfold Hid;rw[show((-1:Int)+1).toNat=0 by decide,pws_zero]at hcg;rw[←hcg.emod,Int.emod_eq_of_lt hP0 hP1]
   obtain⟨ap,lp,cp,sp,rfl,q1,q2,q3,q4,q5⟩:=nP;have HN:Hid (NumOut .i64 D16 w wr (.slice ap lp cp) (X^V.toNat%M) lm):=⟨ap,lp,cp,sp,rfl,q1,q2,by rw[q3];exact HF.out,q4,q5⟩
   clear q1 q2 q3 q4 q5 hcg hP0 hP1;go_wp2;go_ret;exact⟨_,rfl,HN.out⟩
  ·obtain⟨p,rfl⟩:=Int.eq_ofNat_of_zero_le (show 0≤i by omega);obtain⟨ap,lp,cp,sp,rfl,q1,q2,q3,q4,q5⟩:=nP;have BW:Hid (Below w.heap.size w wr):=q5;have HCG:Hid (Cg M P (pws X V (p+1))):=by
    unfold Hid;rw[show((p:Int)+1).toNat=p+1 by omega]at hcg;exact hcg
   have HSQ:=rMul_any ap ap lp cp lp cp sp sp wr q1 q1 (by omega) (by omega);rw[q3]at HSQ;have LP:Hid (lp≤lm):=q4;have hp1:p<16000:=by omega
   have hpL:p<L:=by omega
   clear q1 q2 q3 q4 q5 hcg hP0 hP1 hi0 hi1 hneg;go_wp2_with fail
   refine HSQ.mono ?_;rintro e w4 ⟨v,rfl,a4,l4,c4,s4,rfl,q1,q2,q3,q4,q5⟩;replace BW:Hid (Below w.heap.size w w4):=BW.out.trans (q5.mono BW.out.size);have HM:=rMod_any a4 mo l4 c4 lm cm s4 ms w4 q1 (NM.out.1.old BW.out) NM.out.2 (by rw[HV.out.1];exact HMP.out.1) (by have:=LP.out;omega) (by omega);rw[q3,HV.out.1]at HM;clear q1 q2 q3 q4 q5 HSQ;go_wp2_with fail
   refine HM.mono ?_;rintro e w5 ⟨v,rfl,a5,l5,c5,s5,rfl,q1,q2,q3,q4,q5⟩;replace BW:Hid (Below w.heap.size w w5):=BW.out.trans (q5.mono BW.out.size);have N5:Hid (NumIn .i64 D16 w5 a5 l5 c5 s5∧Canon s5∧val D16 s5=P*P%M∧l5≤lm):=⟨q1,q2,q3,q4⟩
   have C5:Hid (Cg M (P*P%M) (pws X V (p+1)*pws X V (p+1))):=(Cg.mod M _).trans (HCG.out.mul HCG.out);have HB:=rBit_any no ln cn ns p w5 (NN.out.1.old BW.out) (by omega);rw[HV.out.2.1]at HB;clear q1 q2 q3 q4 q5 HM;rcases bitAt_01 V p with hb|hb
   ·rw[hb]at HB;have HFIN:Hid (Cg M (P*P%M) (pws X V p)):=by unfold Hid;rw[pws_even X V HVP.out p hb];exact C5.out
    have HR:Hid (0≤P*P%M∧P*P%M<M):=mod_range _ _ (Int.le_of_lt HMP.out.2) HMP.out.1;clear hb C5 HCG;go_wp2_with fail
    refine HB.mono ?_;rintro e w6 ⟨rfl,rfl⟩;clear HB;go_wp2;go_roundw
    case rel=>exact⟨(p:Int)-1,P*P%M,by go_num,by omega,by omega,⟨a5,l5,c5,s5,rfl,N5.out.1,N5.out.2.1,N5.out.2.2.1,N5.out.2.2.2,BW.out⟩,HR.out.1,HR.out.2,by rw[show((p:Int)-1+1).toNat=p by omega];exact HFIN.out⟩
    case measure=>simp[intOf]<;>omega
   ·rw[hb]at HB;have HFIN:Hid (Cg M (P*P%M*X%M) (pws X V p)):=by unfold Hid;rw[pws_odd X V HVP.out p hb];exact(Cg.mod M _).trans (C5.out.mul (Cg.refl M X))
    have HR:Hid (0≤P*P%M*X%M∧P*P%M*X%M<M):=mod_range _ _ (Int.le_of_lt HMP.out.2) HMP.out.1;clear hb C5 HCG;go_wp2_with fail
    refine HB.mono ?_;rintro e w6 ⟨rfl,rfl⟩;clear HB;have HMU:=rMul_any a5 ao l5 c5 la ca s5 xs w6 N5.out.1 (NX.out.1.old BW.out) (by have:=N5.out.2.2.2;omega) (by omega);rw[N5.out.2.2.1,HV.out.2.2]at HMU;go_wp2_with fail
    refine HMU.mono ?_;rintro e w7 ⟨v,rfl,a7,l7,c7,s7,rfl,q1,q2,q3,q4,q5⟩;replace BW:Hid (Below w.heap.size w w7):=BW.out.trans (q5.mono BW.out.size);have HM:=rMod_any a7 mo l7 c7 lm cm s7 ms w7 q1 (NM.out.1.old BW.out) NM.out.2 (by rw[HV.out.1];exact HMP.out.1) (by have:=N5.out.2.2.2;omega) (by omega);rw[q3,HV.out.1]at HM;clear q1 q2 q3 q4 q5 HMU N5;go_wp2_with fail
    refine HM.mono ?_;rintro e w8 ⟨v,rfl,hv⟩;have NF:Hid (NumOut .i64 D16 w w8 v (P*P%M*X%M) lm):=hv.from BW.out;clear hv HM;go_wp2;go_roundw
    case rel=>exact⟨(p:Int)-1,P*P%M*X%M,by go_num,by omega,by omega,NF.out,HR.out.1,HR.out.2,by rw[show((p:Int)-1+1).toNat=p by omega];exact HFIN.out⟩
    case measure=>simp[intOf]<;>omega
end Go.Proofs.YtcgikjkpbpjgdabGreat
namespace Go.Proofs.YtcgikjkpbpjgdabGreat
open Go.Shelf Go.RowKit
def Kv (w:World) (v:Value) (n e:Int) (L:Nat):Prop:=∃vn ve,v=.agg #[vn,ve]∧Nv w vn n L∧Nv w ve e L
theorem Kv.old {w w':World} {v:Value} {n e:Int} {L:Nat} (h:Kv w v n e L) (hb:Below w.heap.size w w'):Kv w' v n e L:=by obtain⟨vn,ve,rfl,h1,h2⟩:=h;exact⟨vn,ve,rfl,h1.old hb,h2.old hb⟩
def Fk.rv (n:Int) (L:Nat):Fk:=Fk.gen (fun vs W=>Rv W (vs.getD 0 undef) n L) fun vs w w' hb h=>h.old hb
def szZ (n:Int):Int:=((blen n.toNat+7)/8:Nat)
def expB (n e:Int):Bool:=decide (e%2=1)&&(decide (3≤e)&&decide (e<n))
def keyB (n e:Int):Bool:=(decide (62≤szZ n)&&decide (szZ n≤256))&&(decide (n%2=1)&&expB n e)
theorem and_one (x:Int) (h0:0≤x) (h1:x<B64):bits .and .u64 x 1=x%2:=by
 obtain⟨m,rfl⟩:=Int.eq_ofNat_of_zero_le h0;unfold B64 at h1;show IntKind.u64.wrap ((BitVec.ofInt 64 (m:Int)&&&BitVec.ofInt 64 1).toNat:Int)=_;have e1:(BitVec.ofInt 64 (m:Int)&&&BitVec.ofInt 64 1).toNat=m%2:=by rw[BitVec.toNat_and,show BitVec.ofInt 64 1=1#64 by decide,show BitVec.ofInt 64 (m:Int)=BitVec.ofNat 64 m from BitVec.ofInt_natCast 64 m,BitVec.toNat_ofNat,Nat.mod_eq_of_lt (by omega)];show m&&&1=m%2;exact Nat.and_one_is_mod m
 rw[e1];simp[IntKind.wrap,IntKind.bits,IntKind.signed];omega
theorem isodd_any (v:Value) (n:Int) (L:Nat) (w:World) (hv:Nv w v n L):
  Calls Tryz.prog 71 #[v] w fun e w'=>e=.returned (.bool (decide (n%2=1)))∧Below w.heap.size w w':=by
 obtain⟨a1,a2,a3,a4,rfl,a5,a6,a7⟩:=hv;have hlen:=a5.len;by_cases h0:a2=0
 ·have hn:n=0:=by
   have:a4=[]:=List.eq_nil_of_length_eq_zero (by omega);rw[←a6,this];rfl
  subst h0;rw[hn];go_enter Tryz.func71,Tryz.ntmps71;go_wp2;go_ret;exact⟨rfl,Below.refl _ _⟩
 ·obtain⟨b',off,rfl,hlt,hc⟩:=a5.lies.at (by omega);match a4,hlen,a6,hc,a5 with
  | [],hlen,_,_,_=>exact absurd hlen.symm h0
  | x :: xs, hlen, a6, hc, a5 =>
   have hc0:w.cell? ⟨b',off,none⟩=some (.int .u64 x):=by have:=hc 0 (by omega);simpa using this
   have hx:=a5.dg x (by simp);have hd:decide (n%2=1)=decide (x%2=1):=by
    have:n%2=x%2:=by rw[←a6,val_cons,show B64=2*9223372036854775808 by decide,Int.mul_assoc,Int.add_mul_emod_self_left]
    rw[this]
   have hbt:=and_one x hx.1 hx.2;have hpos:(0:Int)<(a2:Int):=by omega
   have hsm:=a5.sm;rw[hd];clear hd a6 a5 hc hlen a7;rcases Int.emod_two_eq x with hm|hm
   ·rw[hm]at hbt ⊢;clear hx hm;go_enter Tryz.func71,Tryz.ntmps71;go_wp2;go_ret;exact⟨rfl,Below.refl _ _⟩
   ·rw[hm]at hbt ⊢;clear hx hm;go_enter Tryz.func71,Tryz.ntmps71;go_wp2;go_ret;exact⟨rfl,Below.refl _ _⟩
theorem size_any (k:Value) (n e:Int) (L:Nat) (w:World) (hk:Kv w k n e L) (hL:L≤1000):
  Calls Tryz.prog 39 #[k] w fun r w'=>r=.returned (.int .i64 (szZ n))∧Below w.heap.size w w':=by
 obtain⟨_,_,rfl,⟨a1,a2,a3,a4,rfl,a5,a6,a7⟩,⟨b1,b2,b3,b4,rfl,b5,b6,b7⟩⟩:=hk;have b0:=(Below.refl w.heap.size w).alloc (Nat.le_refl _) (.cells #[.slice a1 a2 a3,.slice b1 b2 b3] 37);have HL:=Len_any a1 a2 a3 a4 _ (a5.old b0);have hbl:lenOf a4≤64000:=lenOf_le a5.dg 1000 (by have:=a5.len;omega);rw[lenOf_eq a4 a5.dg,a6]at HL hbl;unfold szZ;generalize blen n.toNat=N at *;have hq:((N:Int)+7).tdiv 8=(((N+7)/8:Nat):Int):=by rw[Int.tdiv_eq_ediv_of_nonneg (by omega)];omega
 clear a5 b5;go_enter Tryz.func39,Tryz.ntmps39;go_wp2_with (go_at_call 70;refine HL.mono ?_;rintro e w1 ⟨rfl,rfl⟩)
 go_ret;exact⟨ret_int (by omega),b0⟩
theorem nv_of {w w':World} {v:Value} {n:Int} {L:Nat} (h:NumOut .u64 B64 w w' v n L):Nv w' v n L∧Below w.heap.size w w':=by obtain⟨ao,l,c,xs,rfl,h1,_,h3,h4,h5⟩:=h;exact⟨⟨ao,l,c,xs,rfl,h1,h3,h4⟩,h5⟩
theorem cmp_kv (a b:Value) (x y:Int) (L L':Nat) (w:World) (ha:Nv w a x L) (hb:Nv w b y L'):
  Calls Tryz.prog 42 #[a,b] w fun e w'=>e=.returned (.int .i64 (cmpI x y))∧Below w.heap.size w w':=by
 obtain⟨a1,a2,a3,a4,rfl,a5,a6,a7⟩:=ha;obtain⟨b1,b2,b3,b4,rfl,b5,b6,b7⟩:=hb;refine(Cmp_any a1 b1 a2 a3 b2 b3 a4 b4 w a5 b5).mono ?_;rintro e w' ⟨rfl,hd⟩;rw[a6,b6];exact⟨rfl,hd.below _⟩
theorem cmpI_ge (a b:Int):0≤cmpI a b↔b≤a:=by unfold cmpI;split<;>(try split)<;>omega
theorem cmpI_ltz (a b:Int):cmpI a b<0↔a<b:=by unfold cmpI;split<;>(try split)<;>omega
theorem cmpI_z (a b:Int):cmpI a b=0↔a=b:=by unfold cmpI;split<;>(try split)<;>omega
theorem expo_any (ve vn:Value) (e n:Int) (L:Nat) (w:World) (he:Nv w ve e L) (hn:Nv w vn n L):
  Calls Tryz.prog 72 #[ve,vn] w fun r w'=>r=.returned (.bool (expB n e))∧Below w.heap.size w w':=by
 have H1:=isodd_any ve e L w he;have H2:=fun W=>Of_any 3 W (by decide) (by decide);have H3:=fun(W:World) (v:Value) (hb:Below w.heap.size w W) (hv:Nv W v 3 1)=>cmp_kv ve v e 3 L 1 W (he.old hb) hv;have H4:=fun(W:World) (hb:Below w.heap.size w W)=>cmp_kv ve vn e n L L W (he.old hb) (hn.old hb);have q1:=cmpI_ge e 3;have q2:=cmpI_ltz e n;obtain⟨a1,a2,a3,a4,rfl,-⟩:=he;obtain⟨b1,b2,b3,b4,rfl,-⟩:=hn;generalize cmpI e 3=c1 at *;generalize cmpI e n=c2 at *;unfold expB;by_cases h1:e%2=1
 ·rw[show decide (e%2=1)=true by simp[h1]] at *;by_cases h2:3≤e
  ·have h2':=q1.2 h2;rw[show decide (3≤e)=true by simp[h2]];by_cases h3:e<n
   ·have h3':=q2.2 h3;rw[show decide (e<n)=true by simp[h3]];clear h1 h2 h3 q1 q2;go_enter Tryz.func72,Tryz.ntmps72;go_wp2_with fail
    refine H1.mono ?_;rintro r w1 ⟨rfl,d1⟩;go_wp2_with fail
    refine(H2 w1).mono ?_;rintro r w2 ⟨v,rfl,hv⟩;obtain⟨hv1,hv2⟩:=nv_of hv;have d2:=d1.trans (hv2.mono d1.size);have H3':=H3 w2 v d2 hv1;obtain⟨v1,v2,v3,v4,rfl,-⟩:=hv1;go_wp2_with fail
    refine H3'.mono ?_;rintro r w3 ⟨rfl,hd3⟩;have d3:=d2.trans (hd3.mono d2.size);have H4':=H4 w3 d3;go_wp2_with fail
    refine H4'.mono ?_;rintro r w4 ⟨rfl,hd4⟩;go_wp2;go_ret;exact⟨rfl,d3.trans (hd4.mono d3.size)⟩
   ·have h3':¬c2<0:=fun h=>h3 (q2.1 h);rw[show decide (e<n)=false by simp[h3]];clear h1 h2 h3 q1 q2;go_enter Tryz.func72,Tryz.ntmps72;go_wp2_with fail
    refine H1.mono ?_;rintro r w1 ⟨rfl,d1⟩;go_wp2_with fail
    refine(H2 w1).mono ?_;rintro r w2 ⟨v,rfl,hv⟩;obtain⟨hv1,hv2⟩:=nv_of hv;have d2:=d1.trans (hv2.mono d1.size);have H3':=H3 w2 v d2 hv1;obtain⟨v1,v2,v3,v4,rfl,-⟩:=hv1;go_wp2_with fail
    refine H3'.mono ?_;rintro r w3 ⟨rfl,hd3⟩;have d3:=d2.trans (hd3.mono d2.size);have H4':=H4 w3 d3;go_wp2_with fail
    refine H4'.mono ?_;rintro r w4 ⟨rfl,hd4⟩;go_wp2;go_ret;refine⟨?_,d3.trans (hd4.mono d3.size)⟩;show Ending.returned (Value.bool (decide (c2<0)))=_;rw[decide_eq_false (show ¬c2<0 by omega)];rfl
  ·have h2':¬0≤c1:=fun h=>h2 (q1.1 h);rw[show decide (3≤e)=false by simp[h2]];clear h1 h2 q1 q2;go_enter Tryz.func72,Tryz.ntmps72;go_wp2_with fail
   refine H1.mono ?_;rintro r w1 ⟨rfl,d1⟩;go_wp2_with fail
   refine(H2 w1).mono ?_;rintro r w2 ⟨v,rfl,hv⟩;obtain⟨hv1,hv2⟩:=nv_of hv;have d2:=d1.trans (hv2.mono d1.size);have H3':=H3 w2 v d2 hv1;obtain⟨v1,v2,v3,v4,rfl,-⟩:=hv1;go_wp2_with fail
   refine H3'.mono ?_;rintro r w3 ⟨rfl,hd3⟩;go_wp2;go_ret;exact⟨rfl,d2.trans (hd3.mono d2.size)⟩
 ·rw[show decide (e%2=1)=false by simp[h1]] at *;clear h1 q1 q2;go_enter Tryz.func72,Tryz.ntmps72;go_wp2_with fail
  refine H1.mono ?_;rintro r w1 ⟨rfl,d1⟩;go_wp2;go_ret;exact⟨rfl,d1⟩
theorem cells2 {W:World} {g:Nat} {c0 c1:Value} {t:TypeId} (h:W.heap[g]?=some (.cells #[c0,c1] t (0,0))):W.cell? ⟨g,0,none⟩=some c0∧W.cell? ⟨g,1,none⟩=some c1:=⟨by rw[cell_of_row _ _ _ _ _ _ h];rfl,by rw[cell_of_row _ _ _ _ _ _ h];rfl⟩
theorem check_any (k:Value) (n e:Int) (L:Nat) (w:World) (hk:Kv w k n e L) (hL:L≤1000):
  Calls Tryz.prog 40 #[k] w fun r w'=>r=.returned (.int .i64 (if keyB n e=true then 0 else 41))∧Below w.heap.size w w':=by
 have H1:=fun W (hb:Below w.heap.size w W)=>size_any k n e L W (hk.old hb) hL;have hk2:=hk;obtain⟨vn,ve,rfl,hn,he⟩:=hk2;have H2:=fun W (hb:Below w.heap.size w W)=>isodd_any vn n L W (hn.old hb);have H3:=fun W (hb:Below w.heap.size w W)=>expo_any ve vn e n L W (he.old hb) (hn.old hb);obtain⟨a1,a2,a3,a4,rfl,-⟩:=hn;obtain⟨e1,e2,e3,e4,rfl,-⟩:=he;have b0:=(Below.refl w.heap.size w).alloc (Nat.le_refl _) (.cells #[.slice a1 a2 a3,.slice e1 e2 e3] 37);have HC:Hid (∀W,Below (w.alloc (.cells #[.slice a1 a2 a3,.slice e1 e2 e3] 37)).heap.size (w.alloc (.cells #[.slice a1 a2 a3,.slice e1 e2 e3] 37)) W→W.cell? ⟨w.heap.size,0,none⟩=some (.slice a1 a2 a3)∧W.cell? ⟨w.heap.size,1,none⟩=some (.slice e1 e2 e3)):=fun W hb=>cells2 (t:=37) (by rw[hb.block _ (by rw[alloc_sz7];omega)];exact heap_alloc_new w _);have hsz0:0≤szZ n:=by unfold szZ;omega
 unfold keyB;generalize szZ n=s at *;generalize expB n e=B3 at *;generalize decide (n%2=1)=B2 at *;clear hk;by_cases h1:s<62
 ·rw[show decide (62≤s)=false by simp;omega,Bool.false_and,Bool.false_and,if_neg (by decide)];have h1':¬(62≤s):=by omega
  go_enter Tryz.func40,Tryz.ntmps40;go_wp2_with fail
  refine(H1 _ b0).mono ?_;rintro r w1 ⟨rfl,d1⟩;have D1:=b0.trans (d1.mono b0.size);obtain⟨x0,x1⟩:=HC.out w1 (d1.mono (Nat.le_refl _));go_wp2;go_ret;exact⟨rfl,D1⟩
 by_cases h2:256<s
 ·rw[show decide (62≤s)=true by simp;omega,show decide (s≤256)=false by simp;omega,Bool.true_and,Bool.false_and,if_neg (by decide)];go_enter Tryz.func40,Tryz.ntmps40;go_wp2_with fail
  refine(H1 _ b0).mono ?_;rintro r w1 ⟨rfl,d1⟩;have D1:=b0.trans (d1.mono b0.size);obtain⟨x0,x1⟩:=HC.out w1 (d1.mono (Nat.le_refl _));go_wp2;go_ret;exact⟨rfl,D1⟩
 rw[show decide (62≤s)=true by simp;omega,show decide (s≤256)=true by simp;omega,Bool.true_and,Bool.true_and]
 cases B2 with
 | false=>
  rw[Bool.false_and,if_neg (by decide)];go_enter Tryz.func40,Tryz.ntmps40;go_wp2_with fail
  refine(H1 _ b0).mono ?_;rintro r w1 ⟨rfl,d1⟩;have D1:=b0.trans (d1.mono b0.size);obtain⟨x0,x1⟩:=HC.out w1 (d1.mono (Nat.le_refl _));go_wp2_with fail
  refine(H2 w1 D1).mono ?_;rintro r w2 ⟨rfl,d2⟩;have D2:=D1.trans (d2.mono D1.size);clear x0 x1;obtain⟨x0,x1⟩:=HC.out w2 (d1.trans (d2.mono d1.size));go_wp2;go_ret;exact⟨rfl,D2⟩
 | true =>
  rw[Bool.true_and]
  cases B3 with
  | false=>
   rw[if_neg (by decide)];go_enter Tryz.func40,Tryz.ntmps40;go_wp2_with fail
   refine(H1 _ b0).mono ?_;rintro r w1 ⟨rfl,d1⟩;have D1:=b0.trans (d1.mono b0.size);obtain⟨x0,x1⟩:=HC.out w1 (d1.mono (Nat.le_refl _));go_wp2_with fail
   refine(H2 w1 D1).mono ?_;rintro r w2 ⟨rfl,d2⟩;have D2:=D1.trans (d2.mono D1.size);clear x0 x1;obtain⟨x0,x1⟩:=HC.out w2 (d1.trans (d2.mono d1.size));go_wp2_with fail
   refine(H3 w2 D2).mono ?_;rintro r w3 ⟨rfl,d3⟩;have D3:=D2.trans (d3.mono D2.size);clear x0 x1;go_wp2;go_ret;exact⟨rfl,D3⟩
  | true=>
   rw[if_pos rfl];go_enter Tryz.func40,Tryz.ntmps40;go_wp2_with fail
   refine(H1 _ b0).mono ?_;rintro r w1 ⟨rfl,d1⟩;have D1:=b0.trans (d1.mono b0.size);obtain⟨x0,x1⟩:=HC.out w1 (d1.mono (Nat.le_refl _));go_wp2_with fail
   refine(H2 w1 D1).mono ?_;rintro r w2 ⟨rfl,d2⟩;have D2:=D1.trans (d2.mono D1.size);clear x0 x1;obtain⟨x0,x1⟩:=HC.out w2 (d1.trans (d2.mono d1.size));go_wp2_with fail
   refine(H3 w2 D2).mono ?_;rintro r w3 ⟨rfl,d3⟩;have D3:=D2.trans (d3.mono D2.size);clear x0 x1;go_wp2;go_ret;exact⟨rfl,D3⟩
def hcods (s:ByteArray):List Nat:=s.data.toList.map fun x=>x.toNat
theorem hcods_at (s:ByteArray) (i:Nat) (h:i<s.size):(hcods s).getD i 0=(s[i]'h).toNat:=by
 have h':i<s.data.toList.length:=by simpa using h
 simp[hcods,List.getD,h'];rw[Array.getElem?_eq_getElem (by simpa using h)];rfl
def hexT:ByteArray:=⟨#[48,49,50,51,52,53,54,55,56,57,97,98,99,100,101,102]⟩
def hgt (k:Nat):Nat:=if k<10 then 48+k else 87+k
theorem hexT_size:hexT.size=16:=rfl
theorem hexT_at:∀x,(h:x<hexT.size)→(hexT[x]'h).toNat=hgt x:=by decide
def hv (c:Nat):Nat→Int
 | 0=>0
 | k+1=>if hgt k=c then (k:Int) else hv c k
theorem hv_range (c:Nat):∀k,0≤hv c k∧(hv c k=0∨hv c k<k)
 | 0=>by simp[hv]
 | k+1=>by
  have:=hv_range c k;unfold hv;split<;>omega
def hstep (L i:Nat) (v:Int) (b:List Int):List Int:=if (L-i)%2=0∨(i=0∧L%2=1) then b++[v] else b.set (b.length-1) ((b.getD (b.length-1) 0*16%256+v)%256)
def hexB (cs:List Nat) (L:Nat):Nat→List Int
 | 0=>[]
 | i+1=>hstep L i (hv (cs.getD i 0) 16) (hexB cs L i)
theorem hexB_facts (cs:List Nat) (L:Nat):∀i,i≤L→(hexB cs L i).length≤i∧(0<i→0<(hexB cs L i).length)∧Dg 256 (hexB cs L i)
 | 0,_=>⟨by simp[hexB],fun h=>by omega,by simp[hexB,Dg.nil]⟩
 | i + 1, hi => by
  obtain⟨h1,h2,h3⟩:=hexB_facts cs L i (by omega);have hr:=hv_range (cs.getD i 0) 16;unfold hexB hstep;split
  ·exact⟨by simp;omega,fun _=>by simp,h3.append (Dg.cons (by omega) (Dg.nil _))⟩
  ·rename_i hc;have:0<i:=by
    rcases Nat.eq_zero_or_pos i with h|h
    ·exfalso;apply hc;subst h;omega
    ·exact h
   exact⟨by simp;omega,fun _=>by simpa using h2 this,h3.set _ (by omega)⟩
theorem OwnAt.ownR {e:TypeId} {k:IntKind} {w:World} {g cap base:Nat} {xs:List Int} (h:OwnAt e k w g cap xs) (hb:base≤g):Own e k w base (.slice (some ⟨g,0,none⟩) xs.length cap) xs:=by obtain⟨cur,h1,h2,h3⟩:=h.blk;exact⟨by simp,.inr ⟨g,cap,cur,rfl,hb,h1,h.lc,h.cm,by rw[h3,Nat.mul_one],by rw[Nat.mul_one];exact h2⟩⟩
theorem Own.drewN {e:TypeId} {k:IntKind} {w:World} {base:Nat} {v:Value} {xs:List Int} (h:Own e k w base v xs) (n:Nat):Own e k (w.drewN n) base v xs:=h.below (Drew.below ⟨n,rfl⟩ _)
theorem hex_any (s : ByteArray) (w : World) (hl : s.size ≤ 1000) :
  Calls Tryz.prog 49 #[.string s] w fun e w'=>∃v,e=.returned v∧NumOut .i64 D16 w w' v (val 256 (hexB (hcods s) s.size s.size).reverse) 1001:=by
 obtain⟨cs,hcs⟩:∃cs,hcods s=cs:=⟨_,rfl⟩
 have HC:Hid (∀i (h:i<s.size),cs.getD i 0=(s[i]'h).toNat):=by rw[←hcs];exact hcods_at s
 rw[hcs];clear hcs;have HF:=hexB_facts cs s.size;go_enter Tryz.func49,Tryz.ntmps49;go_wp2;rw[show(⟨#[48,49,50,51,52,53,54,55,56,57,97,98,99,100,101,102]⟩:ByteArray)=hexT from rfl];have hS:=hexT_size;have HSA:Hid (∀x:Nat,(h:x<hexT.size)→(hexT[x]'h).toNat=hgt x):=fun x h=>hexT_at x h;generalize hexT=S at *;go_loopw [3,5] (fun vb vi wr=>∃i:Nat,i≤s.size∧vi=.int .i64 i∧Own 5 .u8 wr w.heap.size vb (hexB cs s.size i)∧Below w.heap.size w wr) (fun _ vi _=>s.size-(intOf vi).toNat)
 case atStart=>exact⟨0,by omega,rfl,Own.nil _ _ _ _,Below.refl _ _⟩
 case round =>
  obtain⟨i,hi,rfl,hown,hbw⟩:=hrel;by_cases hlt:i<s.size
  ·have hltI:(i:Int)<(s.size:Int):=by omega
   obtain⟨c,hc⟩:∃c,cs.getD i 0=c:=⟨_,rfl⟩
   have hcp:(s[i]'hlt).toNat=c:=by rw[←hc];exact(HC.out i hlt).symm
   have HCC:Hid (hexB cs s.size (i+1)=hstep s.size i (hv c 16) (hexB cs s.size i)):=by rw[←hc];rfl
   have HI:=HF i (by omega);have hx:=hv_range c 16;generalize hexB cs s.size i=bs at *;obtain⟨ao,cap,hv5,hlc,hcm⟩:=hown.openR;have HW:Hid (Own 5 .u8 wr w.heap.size u3 bs∧Below w.heap.size w wr):=⟨hown,hbw⟩
   subst hv5;have HII:Hid (bs.length≤i∧(0<i→0<bs.length)∧Dg 256 bs):=HI;unfold maxLen at hcm;clear hown hbw hc HF HI;go_wp2;generalize wr=wo at *;go_loopw [6,7] (fun vv vk wr=>∃k:Nat,k≤16∧vk=.int .i64 k∧vv=.int .i64 (hv c k)∧Drew wo wr) (fun _ vk _=>16-(intOf vk).toNat)
   case atStart=>exact⟨0,by omega,rfl,rfl,Drew.refl _⟩
   case round =>
    obtain⟨k,hk,rfl,rfl,hdr⟩:=hrel;by_cases hk16:k<16
    ·have hkI:(k:Int)<16:=by omega
     have hsat:=HSA.out k (by rw[hS];exact hk16);by_cases he:hgt k=c
     ·have HH:Hid (hv c (k+1)=(k:Int)):=by unfold Hid hv;rw[if_pos he]
      rw[he]at hsat;have HDR:Hid (Drew wo wr):=hdr;generalize hv c k=z at *;clear he hdr;go_wp2;go_quiet (fail)
      go_wp2;go_roundw
      case rel=>exact⟨k+1,by omega,by go_num,by rw[HH.out],HDR.out.more _⟩
      case measure=>simp[intOf]<;>omega
     ·have HH:Hid (hv c (k+1)=hv c k):=by unfold Hid;rw[hv,if_neg he]
      obtain⟨y,hy⟩:∃y,hgt k=y:=⟨_,rfl⟩
      rw[hy]at hsat he;have heb:((y:Int)==(c:Int))=false:=by simp;omega
      have HDR:Hid (Drew wo wr):=hdr;clear hy hdr;go_wp2;go_quiet (fail)
      go_wp2;go_roundw
      case rel=>exact⟨k+1,by omega,by go_num,by rw[HH.out],HDR.out.more _⟩
      case measure=>simp[intOf]<;>omega
    ·obtain rfl:k=16:=by omega
     have HWr:Hid (Own 5 .u8 wr w.heap.size (.slice ao bs.length cap) bs∧Below w.heap.size w wr):=by obtain⟨nq,rfl⟩:=hdr;exact⟨HW.out.1.drewN _,HW.out.2.trans (Drew.below ⟨_,rfl⟩ _)⟩
     clear HW hdr;obtain⟨x,hxx⟩:∃x,hv c 16=x:=⟨_,rfl⟩
     rw[hxx]at hx HCC;rw[hxx];clear hxx;have hx0:0≤x:=hx.1;have hx1:x<16:=by omega
     have hxw:IntKind.u8.wrap x=x:=by simp[IntKind.wrap,IntKind.bits,IntKind.signed];omega
     obtain⟨M,hM⟩:∃M,s.size=M:=⟨_,rfl⟩
     by_cases hp:(s.size-i)%2=0
     ·have hpI:((s.size:Int)-(i:Int)).tmod 2=0:=by rw[Int.tmod_eq_emod_of_nonneg (by omega)];omega
      have HN:Hid (hexB cs s.size (i+1)=bs++[x]):=by unfold Hid;rw[HCC.out,hstep,if_pos (.inl hp)]
      have HLB:Hid (bs.length<1073741824):=by have:=HII.out.1;unfold Hid;omega
      clear hp hx HCC hM;go_wp2_with (at_builtin;refine wpList_append_one rfl _ _ 24 rfl 5 .u8 1 Tryz.underlying24 Tryz.infoB w.heap.size (.slice ao bs.length cap) bs x (by rfl) HWr.out.1 (by rfl) HLB.out (by decide) w HWr.out.2 HWr.out.2.size ?_;intro v6 w6 hown6 hb6)
      go_roundw
      case rel=>exact⟨i+1,by omega,by go_num,by rw[HN.out];exact hown6,hb6⟩
      case measure=>simp[intOf]<;>omega
     ·have hpI:((s.size:Int)-(i:Int)).tmod 2=1:=by rw[Int.tmod_eq_emod_of_nonneg (by omega)];omega
      by_cases hi0:i=0
      ·have hqI:((s.size:Int)).tmod 2=1:=by rw[Int.tmod_eq_emod_of_nonneg (by omega)];omega
       have HN:Hid (hexB cs s.size (i+1)=bs++[x]):=by unfold Hid;rw[HCC.out,hstep,if_pos (.inr ⟨hi0,by omega⟩)]
       have HLB:Hid (bs.length<1073741824):=by have:=HII.out.1;unfold Hid;omega
       have hi0I:(i:Int)=0:=by omega
       have hi0B:((i:Int)==0)=true:=by simp[hi0]
       clear hp hx HCC hM;go_wp2_with (at_builtin;refine wpList_append_one rfl _ _ 24 rfl 5 .u8 1 Tryz.underlying24 Tryz.infoB w.heap.size (.slice ao bs.length cap) bs x (by rfl) HWr.out.1 (by rfl) HLB.out (by decide) w HWr.out.2 HWr.out.2.size ?_;intro v6 w6 hown6 hb6)
       go_roundw
       case rel=>exact⟨i+1,by omega,by go_num,by rw[HN.out];exact hown6,hb6⟩
       case measure=>simp[intOf]<;>omega
      ·obtain⟨g,cap',hv',hat,hgb⟩:=HWr.out.1.at (HII.out.2.1 (by omega));injection hv' with e1 e2 e3;subst e1;subst e3;have hi0B:((i:Int)==0)=false:=by simp[hi0]
       have hl0:0<bs.length:=HII.out.2.1 (by omega);have hc5:=hat.cell (bs.length-1) (by omega);have hf5:=hat.frozen (bs.length-1);have hyd:=HII.out.2.2.getD (by decide) (bs.length-1);have HN:Hid (hexB cs s.size (i+1)=bs.set (bs.length-1) ((bs.getD (bs.length-1) 0*16%256+x)%256)):=by unfold Hid;rw[HCC.out,hstep,if_neg (fun h=>by rcases h with h|h<;>omega)]
       have HAT:Hid (OwnAt 5 .u8 wr g cap bs∧w.heap.size≤g∧Below w.heap.size w wr):=⟨hat,hgb,HWr.out.2⟩
       generalize bs.getD (bs.length-1) 0=y at *;obtain⟨m,hm⟩:∃m,bs.length=m+1:=⟨bs.length-1,by omega⟩
       have hmI:((bs.length:Nat):Int)-1=(m:Int):=by omega
       have hmN:bs.length-1=m:=by omega
       rw[hmN]at hc5 hf5 HN;have hw1:IntKind.u8.wrap (y*16)=y*16%256:=by simp[IntKind.wrap,IntKind.bits,IntKind.signed]
       have hw2:IntKind.u8.wrap (y*16%256+x)=(y*16%256+x)%256:=by simp[IntKind.wrap,IntKind.bits,IntKind.signed]
       have hmL:(m:Int)<(bs.length:Int):=by omega
       have HLen:Hid (bs.length=m+1):=hm;clear hp hx HCC hM hat hm HWr hmN;go_wp2;go_roundw
       case rel=> refine⟨i+1,by omega,by go_num,?_,HAT.out.2.2.setCell HAT.out.2.1 _⟩;have h9:=(HAT.out.1.set m (by have:=HLen.out;omega) ((y*16+x)%256)).ownR HAT.out.2.1;rw[List.length_set]at h9;rw[HN.out,show(y*16%256+x)%256=(y*16+x)%256 by omega];exact h9
       case measure=>simp[intOf]<;>omega
  ·obtain rfl:i=s.size:=by omega
   have HI:=HF s.size (by omega);obtain⟨ao,cap,rfl,hnum⟩:=hown.num HI.2.2 (by omega);have HR:=rRead_any ao _ cap _ wr hnum (by omega);have HBW:Hid (Below w.heap.size w wr):=hbw;clear hown hbw HF HI hnum;go_wp2_with fail
   refine HR.mono ?_;rintro e w2 ⟨v,rfl,hout⟩;obtain⟨q1,q2,q3,q4,rfl,p1,p2,p3,p4,p5⟩:=hout;go_wp2;go_ret;exact⟨_,rfl,q1,q2,q3,q4,rfl,p1,p2,p3,p4,HBW.out.trans (p5.mono HBW.out.size)⟩
def rsaN (i:Int):Int:=if i%2=0 then 8478774692950686948931691623231886540506061736060197768102464703086314338576516908251073744980808318024178470791773212721119574061960704473384495341337591 else 10946859011210766630761700678456930657619854580716871171759543806720678760030654918172574107507588800923464901969980427984494337629330413913164793052846871
def rsaE (i:Int):Int:=if i%2=0 then 65537 else 3
def rsaD (i:Int):Int:=if i%2=0 then 2383713378970908144011267194989815058803793086148422171861512003209871396131481888572373782155166885376097174023812513049970796133554954105071126847058473 else 7297906007473844420507800452304620438413236387144580781173029204480452506686963438357913577234804839559658985100037650548491023180987702123054674724834667
theorem rsa12_any (i:Int) (w:World) (h0:0≤i) (h1:i<256):
  Calls Tryz.prog 17 #[.int .i64 i] w fun e w'=>∃v1 v2 v3,e=.returned (.tuple #[v1,v2,v3])∧Rv w' v1 (rsaN i) 32∧Rv w' v2 (rsaE i) 32∧Rv w' v3 (rsaD i) 32∧Below w.heap.size w w':=by
 unfold rsaN rsaE rsaD;rcases Int.emod_two_eq i with hj|hj
 ·have hjt:i.tmod 2=0:=by rw[Int.tmod_eq_emod_of_nonneg h0];exact hj
  rw[if_pos hj,if_pos hj,if_pos hj];clear hj;go_enter Tryz.func17,Tryz.ntmps17;go_wp2_with fail
  refine(hex_any _ w (by decide +kernel)).mono ?_;rintro e w1 ⟨v1,rfl,ho1⟩;obtain⟨r1,b1⟩:=rv_eq (n':=8478774692950686948931691623231886540506061736060197768102464703086314338576516908251073744980808318024178470791773212721119574061960704473384495341337591) (d:=32) ho1 (by decide +kernel) (by decide +kernel);clear ho1;go_wp2_with fail
  refine(hex_any _ w1 (by decide +kernel)).mono ?_;rintro e w2 ⟨v2,rfl,ho2⟩;obtain⟨r2,b2⟩:=rv_eq (n':=65537) (d:=32) ho2 (by decide +kernel) (by decide +kernel);clear ho2;go_wp2_with fail
  refine(hex_any _ w2 (by decide +kernel)).mono ?_;rintro e w3 ⟨v3,rfl,ho3⟩;obtain⟨r3,b3⟩:=rv_eq (n':=2383713378970908144011267194989815058803793086148422171861512003209871396131481888572373782155166885376097174023812513049970796133554954105071126847058473) (d:=32) ho3 (by decide +kernel) (by decide +kernel);clear ho3;have c2:=b2.trans (b3.mono b2.size);have HR:Hid (Rv w3 v1 8478774692950686948931691623231886540506061736060197768102464703086314338576516908251073744980808318024178470791773212721119574061960704473384495341337591 32∧Rv w3 v2 65537 32∧Rv w3 v3 2383713378970908144011267194989815058803793086148422171861512003209871396131481888572373782155166885376097174023812513049970796133554954105071126847058473 32∧Below w.heap.size w w3):=⟨r1.old c2,r2.old b3,r3,b1.trans (c2.mono b1.size)⟩
  clear r1 r2 r3 b1 b2 b3 c2;go_wp2;go_ret3
  exact⟨_,_,_,rfl,HR.out⟩
 ·have hjt:i.tmod 2=1:=by rw[Int.tmod_eq_emod_of_nonneg h0];exact hj
  rw[if_neg (by omega),if_neg (by omega),if_neg (by omega)];clear hj;go_enter Tryz.func17,Tryz.ntmps17;go_wp2_with fail
  refine(hex_any _ w (by decide +kernel)).mono ?_;rintro e w1 ⟨v1,rfl,ho1⟩;obtain⟨r1,b1⟩:=rv_eq (n':=10946859011210766630761700678456930657619854580716871171759543806720678760030654918172574107507588800923464901969980427984494337629330413913164793052846871) (d:=32) ho1 (by decide +kernel) (by decide +kernel);clear ho1;go_wp2_with fail
  refine(hex_any _ w1 (by decide +kernel)).mono ?_;rintro e w2 ⟨v2,rfl,ho2⟩;obtain⟨r2,b2⟩:=rv_eq (n':=3) (d:=32) ho2 (by decide +kernel) (by decide +kernel);clear ho2;go_wp2_with fail
  refine(hex_any _ w2 (by decide +kernel)).mono ?_;rintro e w3 ⟨v3,rfl,ho3⟩;obtain⟨r3,b3⟩:=rv_eq (n':=7297906007473844420507800452304620438413236387144580781173029204480452506686963438357913577234804839559658985100037650548491023180987702123054674724834667) (d:=32) ho3 (by decide +kernel) (by decide +kernel);clear ho3;have c2:=b2.trans (b3.mono b2.size);have HR:Hid (Rv w3 v1 10946859011210766630761700678456930657619854580716871171759543806720678760030654918172574107507588800923464901969980427984494337629330413913164793052846871 32∧Rv w3 v2 3 32∧Rv w3 v3 7297906007473844420507800452304620438413236387144580781173029204480452506686963438357913577234804839559658985100037650548491023180987702123054674724834667 32∧Below w.heap.size w w3):=⟨r1.old c2,r2.old b3,r3,b1.trans (c2.mono b1.size)⟩
  clear r1 r2 r3 b1 b2 b3 c2;go_wp2;go_ret3
  exact⟨_,_,_,rfl,HR.out⟩
end Go.Proofs.YtcgikjkpbpjgdabGreat
