import Derived.Test.YtkhnnhbmchnajaaGreatK20
import Derived.Deep.RegionHeld3
import Derived.Test.YtkhnnhbmchnajaaGreatK18
set_option maxRecDepth 100000
set_option maxHeartbeats 40000000
set_option linter.unusedVariables false
set_option linter.unusedSimpArgs false
namespace Go.Proofs.YtkhnnhbmchnajaaGreat
section
open Go.RowKit
attribute [local go_sem ↓] keep_l8 keep_l64 keep_s8
theorem Tryz.sizeB:(Tryz.prog.info? 5).map (·.size)=some 1:=by kernel_rfl
theorem Row.range{e:TypeId}{k:IntKind}{w:World}{g:Nat}{xs:List Int}(h:Row e k w g xs):w.rangeAt g 0 (xs.map (Value.int k)):=fun j v hv=>by
 have hj:j<xs.length:=by have:=(List.getElem?_eq_some_iff.1 hv).1;rw[List.length_map]at this;exact this
 rw[Nat.zero_add,h.cell j hj,←hv];simp[List.getD,hj]
theorem lies_cut(b off len cap m:Nat)(bs:List Int)(hlc:len≤cap)(hm:m≤len):∃A:Addr,(if cap=m then some (⟨b,off,none⟩:Addr) else some ⟨b,off+m,none⟩)=some A∧Hid (∀wx,Lies .u8 wx (some ⟨b,off,none⟩) len bs→Lies .u8 wx (some A) (len-m) (bs.drop m)∧A.block=b∧A.spot=none):=by
 by_cases h:cap=m
 ·refine⟨⟨b,off,none⟩,by rw[if_pos h],fun wx hl=>⟨⟨by rw[List.length_drop,hl.1],.inl (by omega)⟩,rfl,rfl⟩⟩
 ·refine⟨⟨b,off+m,none⟩,by rw[if_neg h],fun wx hl=>⟨⟨by rw[List.length_drop,hl.1],?_⟩,rfl,rfl⟩⟩;by_cases h0:len-m=0
  ·exact .inl h0
  ·obtain⟨b',off',e,hlt,hc⟩:=hl.at (by omega)
   cases e
   refine .inr ⟨b,off+m,rfl,hlt,fun i hi => ?_⟩;rw[Nat.add_assoc,hc (m+i) (by omega)];simp[List.getD,List.getElem?_drop]
def PInv (w:World)(g g6 s:Nat)(T rs1:List Int)(k:Nat)(vb:Value)(wr:World):Prop:=
 ∃(D:Nat) (A:Option Addr) (cp:Nat) (ws':List Int),vb=.slice A k cp∧HRow wr g s ws' rs1∧ws'=hb T D∧Row 172 .u32 wr g6 KS∧Lies .u8 wr A k (T.drop (64*D))∧(∀b off s,A=some ⟨b,off,s⟩→b≠g)∧k≤cp∧cp≤2^63-1∧ButS g w wr∧64*D≤T.length∧g6≠g
theorem putBlocks_any(g : Nat)(all bs ws rs : List Int)(s r : Nat)(ao : Option Addr)(len cap : Nat)(w : World)(hs : all.length = s)(hr : s % 64 = r)(h : HRow w g s ws rs)(hh : Holds all ws rs)(hd : Dg 256 bs)
  (hl:Lies .u8 w ao len bs) (hne:∀b off s,ao=some ⟨b,off,s⟩→b≠g) (hlc:len≤cap) (hcm:cap≤maxLen) (hnn:ao=none→cap=0) (hfull:64≤r+len) (hsm:s+len≤1000000000000000):
  Calls Tryz.prog 80 #[.pointer (some ⟨g,0,none⟩),.int .i64 r,.slice ao len cap] w fun e w'=>(∃v,e=.returned v)∧∃ws' rs',HRow w' g s ws' rs'∧Holds (all++bs) ws' rs'∧ButS g w w':=by
 obtain⟨T,hT⟩:∃T,all++bs=T:=⟨_,rfl⟩
 rw[hT];have HT:Hid (all++bs=T):=hT;clear hT;have hsz:=h.size;have HW:Hid (HRow w g s ws rs∧Holds all ws rs∧Dg 256 bs∧Lies .u8 w ao len bs∧(∀b off s,ao=some ⟨b,off,s⟩→b≠g)∧all.length=s∧s%64=r):=⟨h,hh,hd,hl,hne,hs,hr⟩
 unfold maxLen at hcm;have hr64:r<64:=by omega
 have HBEG:=beginning_any;have HCON:=constants_any;by_cases hlt:s<64
 ·have hltI:((s:Int)<64):=by omega
  clear h hh hd hl hne hs;go_enter Tryz.func80,Tryz.ntmps80;go_wp2_with (first
   | (go_at_call 102;refine(HBEG _).mono ?_;rintro e w1 ⟨rfl,hb1⟩;have hr1:HRow w1 g s ws rs:=HW.out.1.old hb1 HW.out.1.lt)
   | (refine wpList_store_words (by with_reducible rfl) 142 _ _ (by with_reducible rfl) Tryz.sizeW8 g (s:Int) ws rs HS (by rfl) (by rfl) rfl hr1 ?_;intro w2 hr2 hb2 hs2))
  have HA:Hid (HRow w2 g s HS rs∧HS=hb T (s/64)∧ButS g w w2):=⟨hr2,by rw[show s/64=0 by omega];rfl,(ButS.ofBelow hb1).trans hb2⟩
  clear hb1 hr1 hr2 hb2 hs2 hsz;generalize HS=ws1 at *;refine(HCON _).mono ?_;rintro e wB ⟨rfl,hbB⟩;have HB:Hid (HRow wB g s ws1 rs∧ws1=hb T (s/64)∧ButS g w wB):=by obtain⟨a1,a2,a3⟩:=HA.out;exact⟨a1.old hbB a1.lt,a2,a3.trans (ButS.ofBelow hbB)⟩
  clear HA hbB HCON HBEG;by_cases hr0:0<r
  ·have hr0I:(0:Int)<(r:Int):=by omega
   obtain⟨m,hm⟩:∃m,64-r=m:=⟨_,rfl⟩
   have hSR:=slice_rest g r hr64;rw[hm]at hSR;obtain⟨b,off,rfl,hblk,_⟩:=HW.out.2.2.2.1.at (by omega);have hlies:Lies .u8 wB (some ⟨b,off,none⟩) len bs:=HB.out.2.2.lies HW.out.2.2.2.1 HW.out.2.2.2.2.1;obtain⟨A,hA,HAD⟩:∃A:Addr,(if cap=m then some (⟨b,off,none⟩:Addr) else some ⟨b,off+m,none⟩)=some A∧Hid (∀wx,Lies .u8 wx (some ⟨b,off,none⟩) len bs→Lies .u8 wx (some A) (len-m) (bs.drop m)∧A.block=b∧A.spot=none):=lies_cut b off len cap m bs hlc (by omega);have hmr:r+m=64:=by omega
   have hml:m≤len:=by omega
   have hmlI:(m:Int)≤(len:Int):=by omega
   clear hm;go_wp2_with (first
    | ((with_reducible show wpList _ _ _ (Oper.mk _ (Op.alloc _) _ _ _ _::_) _ _);refine wpList_alloc_row (w:=wB) (by with_reducible rfl) 172 (by with_reducible rfl) .u32 64 Tryz.infoW64 ?_;intro wC hrC hbC hsC)
    | ((with_reducible show wpList _ _ _ (Oper.mk _ (Op.store _ _ _) _ _ _ _::_) _ _);refine wpList_store_nums (w:=wC) (by with_reducible rfl) 172 _ _ (by with_reducible rfl) .u32 172 64 Tryz.sizeW64 _ (List.replicate 64 0) KS (by rfl) (by rfl) hrC (by simp) rfl ?_;intro wD hrD hbD hsD hoD;have hhD:HRow wD g s ws1 rs:=HB.out.1.old (hbC.trans hbD) HB.out.1.lt;have hlD:Lies .u8 wD (some ⟨b,off,none⟩) len bs:=hlies.old (hbC.trans hbD))
    | ((with_reducible show wpList _ _ _ (Oper.mk _ (Op.call { callee:=.builtin .copy,args:=_,argTypes:=_ }) _ _ _ _::_) _ _);refine wpList_copy_rest (w:=wD) (by with_reducible rfl) _ _ 33 33 (by with_reducible rfl) 5 Tryz.underlying33 Tryz.sizeB g r (some ⟨b,off,none⟩) _ _ _ _ (by rfl) (by rfl) (s:Int) ws1 rs bs hhD hlD (by omega) m (by omega) ?_;intro wE hhE hbE hsE))
   generalize hg6:wB.heap.size=g6 at *;obtain⟨rs1,hrs1⟩:∃rs1,rs.take r++bs.take m++rs.drop (r+m)=rs1:=⟨_,rfl⟩
   rw[hrs1]at hhE;have hKE:Row 172 .u32 wE g6 KS:=hbE.row hrD (by have:=HB.out.1.lt;omega);have hLE:Lies .u8 wE (some A) (len-m) (bs.drop m):=(HAD.out wE (hbE.lies hlD HW.out.2.2.2.2.1)).1;have HT1:Hid (rs1=(T.drop (64*(s/64))).take 64∧bs.drop m=T.drop (64*(s/64+1))∧A.block=b∧A.spot=none∧Dg 256 rs1):=by obtain⟨a1,a2,a3,a4,a5,a6,a7⟩:=HW.out;have e:=full_block a2 a1.lr r (by rw[a6];exact a7) m hmr (by rw[a4.len];exact hml) hr0;rw[hrs1,a6,HT.out]at e;have e2:=drop_after (all:=all) (bs:=bs) r (by rw[a6];exact a7) m hmr;rw[a6,HT.out]at e2;refine⟨e,e2.symm,(HAD.out wE (hbE.lies hlD a5)).2.1,(HAD.out wE (hbE.lies hlD a5)).2.2,?_⟩;rw[e,←HT.out];exact((a2.good.append a3).drop _).take _
   have HE:Hid (HRow wE g s ws1 rs1∧Row 172 .u32 wE g6 KS∧Lies .u8 wE (some A) (len-m) (bs.drop m)∧ButS g w wE∧g≠g6):=⟨hhE,hKE,hLE,HB.out.2.2.trans ((ButS.ofBelow ((hbC.trans hbD).mono (by omega))).trans hbE),by have:=HB.out.1.lt;omega⟩
   clear hrC hbC hsC hrD hbD hsD hoD hhD hlD hhE hbE hsE hKE hLE hrs1 hSR hlies;have hld:(HLD 142 (.pointer (some ⟨g,1,none⟩))).run Tryz.prog wE.drew=.ok (ag .u32 ws1) wE.drew:=(HE.out.1.drewN 1).lda;have hldk:(HLD 172 (.pointer (some ⟨g6,0,none⟩))).run Tryz.prog wE.drew=.ok (ag .u32 KS) wE.drew:=(HE.out.2.1.drewN 1).lda rfl;have hSA:=slice_all g;have HMX:=mix_any ws1 KS g 9 64 rs1 wE.drew HE.out.1.lw rfl ((HE.out.1.drewN 1).rest) HT1.out.2.2.2.2 (by omega) (by unfold maxLen;omega);go_region_with (first|(go_at_call 104;refine HMX.mono ?_;rintro e wF ⟨rfl,hbF⟩;have hst:=((HE.out.1.drewN 1).old hbF (HE.out.1.drewN 1).lt).sta (mixS KS ws1 rs1) rfl))
   all_goals
    have HI:Hid (PInv w g g6 s T rs1 (len-m) (.slice (some A) (len-m) (cap-m)) (wF.setRow g (HC s (mixS KS ws1 rs1) rs1).toArray)):=by
     obtain⟨a1,a2,a3,a4,a5⟩:=HE.out;obtain⟨b1,b2,b3,b4,b5⟩:=HT1.out;have hF:HRow wF g s ws1 rs1:=(a1.drewN 1).old hbF (a1.drewN 1).lt;have hbW:ButS g w wF:=a4.trans ((ButS.drewN g wE 1).trans (ButS.ofBelow hbF));have hbS:=ButS.setRow g wF (HC s (mixS KS ws1 rs1) rs1).toArray;refine⟨s/64+1,some A,cap-m,mixS KS ws1 rs1,rfl,hF.setWords _ rfl,?_,hbS.row ((a2.drewN 1).below hbF (a2.drewN 1).lt) (fun e=>a5 e.symm),?_,?_,by omega,by omega,hbW.trans hbS,?_,fun e=>a5 e.symm⟩
     ·rw[HB.out.2.1,b1];rfl
     ·rw[←b2];exact hbS.lies ((a3.old (Drew.below ⟨1,rfl⟩ _)).old hbF) (fun b0 off0 s0 e=>by cases e;simp only at b3;subst b3;exact HW.out.2.2.2.2.1 _ _ _ rfl)
     ·intro b0 off0 s0 e
      cases e
      simp only at b3;subst b3;exact HW.out.2.2.2.2.1 _ _ _ rfl
     ·have:=HW.out.2.2.2.2.2.1;have:=HW.out.2.2.2.1.len;rw[←HT.out];simp;omega
    have HTD:Hid (Dg 256 T∧T.length≤1000000000000000∧Dg 256 rs1):=by rw[←HT.out];exact⟨HW.out.2.1.good.append HW.out.2.2.1,by have:=HW.out.2.2.2.2.2.1;have:=HW.out.2.2.2.1.len;simp;omega,HT1.out.2.2.2.2⟩
    clear HE HT1 HMX hld hldk hbF hst HB HW HAD hA;go_wp2;go_loopg [2] (len-m) (fun k vb wr=>PInv w g g6 s T rs1 k vb wr)
    case atStart=>exact HI.out
    case round =>
     obtain⟨D,A1,cp1,ws2,rfl,hh2,hw2,hk2,hl2,hne2,hkc,hcp1,hbut,hDT,hg6n⟩:=hrel;clear HI;by_cases hk64:64≤gk
     ·obtain⟨b1,off1,rfl,hblk1,_⟩:=hl2.at (by omega);obtain⟨A2,hA2,HAD2⟩:=lies_cut b1 off1 gk cp1 64 (T.drop (64*D)) hkc hk64;have hldw:(HLD 142 (.pointer (some ⟨g,1,none⟩))).run Tryz.prog wr.drew=.ok (ag .u32 ws2) wr.drew:=(hh2.drewN 1).lda;have hldk:(HLD 172 (.pointer (some ⟨g6,0,none⟩))).run Tryz.prog wr.drew=.ok (ag .u32 KS) wr.drew:=(hk2.drewN 1).lda rfl;have HMX:=mix_any ws2 KS b1 off1 64 ((T.drop (64*D)).take 64) wr.drew hh2.lw rfl ((hl2.take 64 hk64).old (Drew.below ⟨1,rfl⟩ _)) ((HTD.out.1.drop _).take _) (by omega) (by unfold maxLen;omega);have HP:Hid (HRow wr g s ws2 rs1∧mixS KS ws2 ((T.drop (64*D)).take 64)=hb T (D+1)∧Row 172 .u32 wr g6 KS∧Lies .u8 wr (some ⟨b1,off1,none⟩) gk (T.drop (64*D))∧b1≠g∧ButS g w wr∧64*D+gk=T.length∧g6≠g):=
       ⟨hh2,by rw[hw2];rfl,hk2,hl2,hne2 b1 off1 none rfl,hbut,by have:=hl2.len;simp at this;omega,hg6n⟩
      have hk64I:(64:Int)≤(gk:Int):=by omega
      have hc64I:(64:Int)≤(cp1:Int):=by omega
      clear hh2 hw2 hk2 hl2 hne2 hbut hDT;generalize mixS KS ws2 ((T.drop (64*D)).take 64)=wsN at *;go_wp2;go_region_with (first|(go_at_call 104;refine HMX.mono ?_;rintro e wG ⟨rfl,hbG⟩;have hst:=((HP.out.1.drewN 1).old hbG (HP.out.1.drewN 1).lt).sta wsN (by rw[HP.out.2.1];rfl)))
      all_goals
       have HQ:Hid (PInv w g g6 s T rs1 (gk-64) (.slice (some A2) (gk-64) (cp1-64)) (wG.setRow g (HC s wsN rs1).toArray)):=by
        obtain⟨a1,a2,a3,a4,a5,a6,a7,a8⟩:=HP.out;have hG:HRow wG g s ws2 rs1:=(a1.drewN 1).old hbG (a1.drewN 1).lt;have hbW:ButS g w wG:=a6.trans ((ButS.drewN g wr 1).trans (ButS.ofBelow hbG));have hbS:=ButS.setRow g wG (HC s wsN rs1).toArray;have hlG:Lies .u8 wG (some ⟨b1,off1,none⟩) gk (T.drop (64*D)):=(a4.old (Drew.below ⟨1,rfl⟩ _)).old hbG;obtain⟨c1,c2,c3⟩:=HAD2.out _ (hbS.lies hlG (fun b0 off0 s0 e=>by cases e;exact a5));refine⟨D+1,some A2,cp1-64,wsN,rfl,hG.setWords _ (by rw[a2];rfl),a2,hbS.row ((a3.drewN 1).below hbG (a3.drewN 1).lt) a8,?_,?_,by omega,by omega,hbW.trans hbS,by omega,a8⟩
        ·rw[List.drop_drop]at c1;rw[show 64*(D+1)=64*D+64 by omega];exact c1
        ·intro b0 off0 s0 e
         cases e
         simp only at c2;subst c2;exact a5
       clear HP HMX hldw hldk hbG hst HAD2;go_wp2;go_roundg (gk-64)
       case measure=>omega
       case rel=>exact HQ.out
     ·have HFIN:Hid (∀w',HRow w' g s ws2 (rs1.take 0++(T.drop (64*D)).take gk++rs1.drop (0+gk))→ButS g wr w'→∃ws' rs',HRow w' g s ws' rs'∧Holds T ws' rs'∧ButS g w w'):=fun w' h1 h2=>
       ⟨_,_,h1,holds_done D gk hw2 hl2.len (by omega) hDT HTD.out.1 HTD.out.2.2 HTD.out.2.1,hbut.trans h2⟩
      have HH:Hid (HRow wr g s ws2 rs1∧Lies .u8 wr A1 gk (T.drop (64*D))):=⟨hh2,hl2⟩
      have hk64I:¬((64:Int)≤(gk:Int)):=by omega
      clear hh2 hw2 hk2 hl2 hne2 hbut hDT;generalize T.drop (64*D)=tl at *;go_wp2_with ((with_reducible show wpList _ _ _ (Oper.mk _ (Op.call { callee:=.builtin .copy,args:=_,argTypes:=_ }) _ _ _ _::_) _ _);refine wpList_copy_rest (w:=wr) (by with_reducible rfl) _ _ 33 33 (by with_reducible rfl) 5 Tryz.underlying33 Tryz.sizeB g 0 A1 _ _ _ _ (by rfl) (by rfl) (s:Int) ws2 rs1 tl HH.out.1 HH.out.2 (by omega) gk (by omega) ?_;intro wZ hhZ hbZ hsZ)
      exact⟨rfl,_,results_noneS rfl _ _,⟨_,rfl⟩,HFIN.out _ hhZ hbZ⟩
  ·have hr0I:¬((0:Int)<(r:Int)):=by omega
   have hSA:=slice_all g;go_wp2_with (first
    | ((with_reducible show wpList _ _ _ (Oper.mk _ (Op.alloc _) _ _ _ _::_) _ _);refine wpList_alloc_row (w:=wB) (by with_reducible rfl) 172 (by with_reducible rfl) .u32 64 Tryz.infoW64 ?_;intro wC hrC hbC hsC)
    | ((with_reducible show wpList _ _ _ (Oper.mk _ (Op.store _ _ _) _ _ _ _::_) _ _);refine wpList_store_nums (w:=wC) (by with_reducible rfl) 172 _ _ (by with_reducible rfl) .u32 172 64 Tryz.sizeW64 _ (List.replicate 64 0) KS (by rfl) (by rfl) hrC (by simp) rfl ?_;intro wD hrD hbD hsD hoD))
   generalize hg6:wB.heap.size=g6 at *;have HI:Hid (PInv w g g6 s T rs len (.slice ao len cap) wD):=by
    obtain⟨a1,a2,a3⟩:=HB.out;obtain⟨b1,b2,b3,b4,b5,b6,b7⟩:=HW.out;have hbBD:Below g6 wB wD:=hbC.trans hbD;have hlt:=a1.lt;refine⟨s/64,ao,cap,ws1,rfl,a1.old hbBD (by omega),a2,hrD,?_,b5,hlc,hcm,a3.trans (ButS.ofBelow (hbBD.mono (by omega))),?_,by omega⟩
    ·have e:=drop_none (all:=all) (bs:=bs) (by rw[b6];omega);rw[b6,HT.out]at e;rw[e];exact(a3.lies b4 b5).old (hbBD.mono (by omega))
    ·rw[←HT.out];have:=b4.len;simp;omega
   have HTD:Hid (Dg 256 T∧T.length≤1000000000000000∧Dg 256 rs):=by rw[←HT.out];exact⟨HW.out.2.1.good.append HW.out.2.2.1,by have:=HW.out.2.2.2.2.2.1;have:=HW.out.2.2.2.1.len;simp;omega,HW.out.2.1.bytes⟩
   clear HB HW hrC hbC hsC hrD hbD hsD hoD hg6;generalize rs=rs1 at *;go_wp2;go_loopg [2] len (fun k vb wr=>PInv w g g6 s T rs1 k vb wr)
   case atStart=>exact HI.out
   case round =>
    obtain⟨D,A1,cp1,ws2,rfl,hh2,hw2,hk2,hl2,hne2,hkc,hcp1,hbut,hDT,hg6n⟩:=hrel;clear HI;by_cases hk64:64≤gk
    ·obtain⟨b1,off1,rfl,hblk1,_⟩:=hl2.at (by omega);obtain⟨A2,hA2,HAD2⟩:=lies_cut b1 off1 gk cp1 64 (T.drop (64*D)) hkc hk64;have hldw:(HLD 142 (.pointer (some ⟨g,1,none⟩))).run Tryz.prog wr.drew=.ok (ag .u32 ws2) wr.drew:=(hh2.drewN 1).lda;have hldk:(HLD 172 (.pointer (some ⟨g6,0,none⟩))).run Tryz.prog wr.drew=.ok (ag .u32 KS) wr.drew:=(hk2.drewN 1).lda rfl;have HMX:=mix_any ws2 KS b1 off1 64 ((T.drop (64*D)).take 64) wr.drew hh2.lw rfl ((hl2.take 64 hk64).old (Drew.below ⟨1,rfl⟩ _)) ((HTD.out.1.drop _).take _) (by omega) (by unfold maxLen;omega);have HP:Hid (HRow wr g s ws2 rs1∧mixS KS ws2 ((T.drop (64*D)).take 64)=hb T (D+1)∧Row 172 .u32 wr g6 KS∧Lies .u8 wr (some ⟨b1,off1,none⟩) gk (T.drop (64*D))∧b1≠g∧ButS g w wr∧64*D+gk=T.length∧g6≠g):=
      ⟨hh2,by rw[hw2];rfl,hk2,hl2,hne2 b1 off1 none rfl,hbut,by have:=hl2.len;simp at this;omega,hg6n⟩
     have hk64I:(64:Int)≤(gk:Int):=by omega
     have hc64I:(64:Int)≤(cp1:Int):=by omega
     clear hh2 hw2 hk2 hl2 hne2 hbut hDT;generalize mixS KS ws2 ((T.drop (64*D)).take 64)=wsN at *;go_wp2;go_region_with (first|(go_at_call 104;refine HMX.mono ?_;rintro e wG ⟨rfl,hbG⟩;have hst:=((HP.out.1.drewN 1).old hbG (HP.out.1.drewN 1).lt).sta wsN (by rw[HP.out.2.1];rfl)))
     all_goals
      have HQ:Hid (PInv w g g6 s T rs1 (gk-64) (.slice (some A2) (gk-64) (cp1-64)) (wG.setRow g (HC s wsN rs1).toArray)):=by
       obtain⟨a1,a2,a3,a4,a5,a6,a7,a8⟩:=HP.out;have hG:HRow wG g s ws2 rs1:=(a1.drewN 1).old hbG (a1.drewN 1).lt;have hbW:ButS g w wG:=a6.trans ((ButS.drewN g wr 1).trans (ButS.ofBelow hbG));have hbS:=ButS.setRow g wG (HC s wsN rs1).toArray;have hlG:Lies .u8 wG (some ⟨b1,off1,none⟩) gk (T.drop (64*D)):=(a4.old (Drew.below ⟨1,rfl⟩ _)).old hbG;obtain⟨c1,c2,c3⟩:=HAD2.out _ (hbS.lies hlG (fun b0 off0 s0 e=>by cases e;exact a5));refine⟨D+1,some A2,cp1-64,wsN,rfl,hG.setWords _ (by rw[a2];rfl),a2,hbS.row ((a3.drewN 1).below hbG (a3.drewN 1).lt) a8,?_,?_,by omega,by omega,hbW.trans hbS,by omega,a8⟩
       ·rw[List.drop_drop]at c1;rw[show 64*(D+1)=64*D+64 by omega];exact c1
       ·intro b0 off0 s0 e
        cases e
        simp only at c2;subst c2;exact a5
      clear HP HMX hldw hldk hbG hst HAD2;go_wp2;go_roundg (gk-64)
      case measure=>omega
      case rel=>exact HQ.out
    ·have HFIN:Hid (∀w',HRow w' g s ws2 (rs1.take 0++(T.drop (64*D)).take gk++rs1.drop (0+gk))→ButS g wr w'→∃ws' rs',HRow w' g s ws' rs'∧Holds T ws' rs'∧ButS g w w'):=fun w' h1 h2=>
      ⟨_,_,h1,holds_done D gk hw2 hl2.len (by omega) hDT HTD.out.1 HTD.out.2.2 HTD.out.2.1,hbut.trans h2⟩
     have HH:Hid (HRow wr g s ws2 rs1∧Lies .u8 wr A1 gk (T.drop (64*D))):=⟨hh2,hl2⟩
     have hk64I:¬((64:Int)≤(gk:Int)):=by omega
     clear hh2 hw2 hk2 hl2 hne2 hbut hDT;generalize T.drop (64*D)=tl at *;go_wp2_with ((with_reducible show wpList _ _ _ (Oper.mk _ (Op.call { callee:=.builtin .copy,args:=_,argTypes:=_ }) _ _ _ _::_) _ _);refine wpList_copy_rest (w:=wr) (by with_reducible rfl) _ _ 33 33 (by with_reducible rfl) 5 Tryz.underlying33 Tryz.sizeB g 0 A1 _ _ _ _ (by rfl) (by rfl) (s:Int) ws2 rs1 tl HH.out.1 HH.out.2 (by omega) gk (by omega) ?_;intro wZ hhZ hbZ hsZ)
     exact⟨rfl,_,results_noneS rfl _ _,⟨_,rfl⟩,HFIN.out _ hhZ hbZ⟩
 ·have hltI:¬((s:Int)<64):=by omega
  have HA:Hid (HRow w g s ws rs∧ws=hb T (s/64)∧ButS g w w):=by refine⟨h,?_,ButS.refl _ _⟩;rw[←HT.out,hb_append _ _ _ (by omega)];have:=hh.words (by omega);rw[hs]at this;exact this
  clear h hh hd hl hne hs;go_enter Tryz.func80,Tryz.ntmps80;go_wp2_with fail
  clear hsz;generalize hws:ws=ws1 at HA;refine(HCON _).mono ?_;rintro e wB ⟨rfl,hbB⟩;have HB:Hid (HRow wB g s ws1 rs∧ws1=hb T (s/64)∧ButS g w wB):=by obtain⟨a1,a2,a3⟩:=HA.out;exact⟨a1.old hbB a1.lt,a2,a3.trans (ButS.ofBelow hbB)⟩
  clear HA hbB HCON HBEG;by_cases hr0:0<r
  ·have hr0I:(0:Int)<(r:Int):=by omega
   obtain⟨m,hm⟩:∃m,64-r=m:=⟨_,rfl⟩
   have hSR:=slice_rest g r hr64;rw[hm]at hSR;obtain⟨b,off,rfl,hblk,_⟩:=HW.out.2.2.2.1.at (by omega);have hlies:Lies .u8 wB (some ⟨b,off,none⟩) len bs:=HB.out.2.2.lies HW.out.2.2.2.1 HW.out.2.2.2.2.1;obtain⟨A,hA,HAD⟩:∃A:Addr,(if cap=m then some (⟨b,off,none⟩:Addr) else some ⟨b,off+m,none⟩)=some A∧Hid (∀wx,Lies .u8 wx (some ⟨b,off,none⟩) len bs→Lies .u8 wx (some A) (len-m) (bs.drop m)∧A.block=b∧A.spot=none):=lies_cut b off len cap m bs hlc (by omega);have hmr:r+m=64:=by omega
   have hml:m≤len:=by omega
   have hmlI:(m:Int)≤(len:Int):=by omega
   clear hm;go_wp2_with (first
    | ((with_reducible show wpList _ _ _ (Oper.mk _ (Op.alloc _) _ _ _ _::_) _ _);refine wpList_alloc_row (w:=wB) (by with_reducible rfl) 172 (by with_reducible rfl) .u32 64 Tryz.infoW64 ?_;intro wC hrC hbC hsC)
    | ((with_reducible show wpList _ _ _ (Oper.mk _ (Op.store _ _ _) _ _ _ _::_) _ _);refine wpList_store_nums (w:=wC) (by with_reducible rfl) 172 _ _ (by with_reducible rfl) .u32 172 64 Tryz.sizeW64 _ (List.replicate 64 0) KS (by rfl) (by rfl) hrC (by simp) rfl ?_;intro wD hrD hbD hsD hoD;have hhD:HRow wD g s ws1 rs:=HB.out.1.old (hbC.trans hbD) HB.out.1.lt;have hlD:Lies .u8 wD (some ⟨b,off,none⟩) len bs:=hlies.old (hbC.trans hbD))
    | ((with_reducible show wpList _ _ _ (Oper.mk _ (Op.call { callee:=.builtin .copy,args:=_,argTypes:=_ }) _ _ _ _::_) _ _);refine wpList_copy_rest (w:=wD) (by with_reducible rfl) _ _ 33 33 (by with_reducible rfl) 5 Tryz.underlying33 Tryz.sizeB g r (some ⟨b,off,none⟩) _ _ _ _ (by rfl) (by rfl) (s:Int) ws1 rs bs hhD hlD (by omega) m (by omega) ?_;intro wE hhE hbE hsE))
   generalize hg6:wB.heap.size=g6 at *;obtain⟨rs1,hrs1⟩:∃rs1,rs.take r++bs.take m++rs.drop (r+m)=rs1:=⟨_,rfl⟩
   rw[hrs1]at hhE;have hKE:Row 172 .u32 wE g6 KS:=hbE.row hrD (by have:=HB.out.1.lt;omega);have hLE:Lies .u8 wE (some A) (len-m) (bs.drop m):=(HAD.out wE (hbE.lies hlD HW.out.2.2.2.2.1)).1;have HT1:Hid (rs1=(T.drop (64*(s/64))).take 64∧bs.drop m=T.drop (64*(s/64+1))∧A.block=b∧A.spot=none∧Dg 256 rs1):=by obtain⟨a1,a2,a3,a4,a5,a6,a7⟩:=HW.out;have e:=full_block a2 a1.lr r (by rw[a6];exact a7) m hmr (by rw[a4.len];exact hml) hr0;rw[hrs1,a6,HT.out]at e;have e2:=drop_after (all:=all) (bs:=bs) r (by rw[a6];exact a7) m hmr;rw[a6,HT.out]at e2;refine⟨e,e2.symm,(HAD.out wE (hbE.lies hlD a5)).2.1,(HAD.out wE (hbE.lies hlD a5)).2.2,?_⟩;rw[e,←HT.out];exact((a2.good.append a3).drop _).take _
   have HE:Hid (HRow wE g s ws1 rs1∧Row 172 .u32 wE g6 KS∧Lies .u8 wE (some A) (len-m) (bs.drop m)∧ButS g w wE∧g≠g6):=⟨hhE,hKE,hLE,HB.out.2.2.trans ((ButS.ofBelow ((hbC.trans hbD).mono (by omega))).trans hbE),by have:=HB.out.1.lt;omega⟩
   clear hrC hbC hsC hrD hbD hsD hoD hhD hlD hhE hbE hsE hKE hLE hrs1 hSR hlies;have hld:(HLD 142 (.pointer (some ⟨g,1,none⟩))).run Tryz.prog wE.drew=.ok (ag .u32 ws1) wE.drew:=(HE.out.1.drewN 1).lda;have hldk:(HLD 172 (.pointer (some ⟨g6,0,none⟩))).run Tryz.prog wE.drew=.ok (ag .u32 KS) wE.drew:=(HE.out.2.1.drewN 1).lda rfl;have hSA:=slice_all g;have HMX:=mix_any ws1 KS g 9 64 rs1 wE.drew HE.out.1.lw rfl ((HE.out.1.drewN 1).rest) HT1.out.2.2.2.2 (by omega) (by unfold maxLen;omega);go_region_with (first|(go_at_call 104;refine HMX.mono ?_;rintro e wF ⟨rfl,hbF⟩;have hst:=((HE.out.1.drewN 1).old hbF (HE.out.1.drewN 1).lt).sta (mixS KS ws1 rs1) rfl))
   all_goals
    have HI:Hid (PInv w g g6 s T rs1 (len-m) (.slice (some A) (len-m) (cap-m)) (wF.setRow g (HC s (mixS KS ws1 rs1) rs1).toArray)):=by
     obtain⟨a1,a2,a3,a4,a5⟩:=HE.out;obtain⟨b1,b2,b3,b4,b5⟩:=HT1.out;have hF:HRow wF g s ws1 rs1:=(a1.drewN 1).old hbF (a1.drewN 1).lt;have hbW:ButS g w wF:=a4.trans ((ButS.drewN g wE 1).trans (ButS.ofBelow hbF));have hbS:=ButS.setRow g wF (HC s (mixS KS ws1 rs1) rs1).toArray;refine⟨s/64+1,some A,cap-m,mixS KS ws1 rs1,rfl,hF.setWords _ rfl,?_,hbS.row ((a2.drewN 1).below hbF (a2.drewN 1).lt) (fun e=>a5 e.symm),?_,?_,by omega,by omega,hbW.trans hbS,?_,fun e=>a5 e.symm⟩
     ·rw[HB.out.2.1,b1];rfl
     ·rw[←b2];exact hbS.lies ((a3.old (Drew.below ⟨1,rfl⟩ _)).old hbF) (fun b0 off0 s0 e=>by cases e;simp only at b3;subst b3;exact HW.out.2.2.2.2.1 _ _ _ rfl)
     ·intro b0 off0 s0 e
      cases e
      simp only at b3;subst b3;exact HW.out.2.2.2.2.1 _ _ _ rfl
     ·have:=HW.out.2.2.2.2.2.1;have:=HW.out.2.2.2.1.len;rw[←HT.out];simp;omega
    have HTD:Hid (Dg 256 T∧T.length≤1000000000000000∧Dg 256 rs1):=by rw[←HT.out];exact⟨HW.out.2.1.good.append HW.out.2.2.1,by have:=HW.out.2.2.2.2.2.1;have:=HW.out.2.2.2.1.len;simp;omega,HT1.out.2.2.2.2⟩
    clear HE HT1 HMX hld hldk hbF hst HB HW HAD hA;go_wp2;go_loopg [2] (len-m) (fun k vb wr=>PInv w g g6 s T rs1 k vb wr)
    case atStart=>exact HI.out
    case round =>
     obtain⟨D,A1,cp1,ws2,rfl,hh2,hw2,hk2,hl2,hne2,hkc,hcp1,hbut,hDT,hg6n⟩:=hrel;clear HI;by_cases hk64:64≤gk
     ·obtain⟨b1,off1,rfl,hblk1,_⟩:=hl2.at (by omega);obtain⟨A2,hA2,HAD2⟩:=lies_cut b1 off1 gk cp1 64 (T.drop (64*D)) hkc hk64;have hldw:(HLD 142 (.pointer (some ⟨g,1,none⟩))).run Tryz.prog wr.drew=.ok (ag .u32 ws2) wr.drew:=(hh2.drewN 1).lda;have hldk:(HLD 172 (.pointer (some ⟨g6,0,none⟩))).run Tryz.prog wr.drew=.ok (ag .u32 KS) wr.drew:=(hk2.drewN 1).lda rfl;have HMX:=mix_any ws2 KS b1 off1 64 ((T.drop (64*D)).take 64) wr.drew hh2.lw rfl ((hl2.take 64 hk64).old (Drew.below ⟨1,rfl⟩ _)) ((HTD.out.1.drop _).take _) (by omega) (by unfold maxLen;omega);have HP:Hid (HRow wr g s ws2 rs1∧mixS KS ws2 ((T.drop (64*D)).take 64)=hb T (D+1)∧Row 172 .u32 wr g6 KS∧Lies .u8 wr (some ⟨b1,off1,none⟩) gk (T.drop (64*D))∧b1≠g∧ButS g w wr∧64*D+gk=T.length∧g6≠g):=
       ⟨hh2,by rw[hw2];rfl,hk2,hl2,hne2 b1 off1 none rfl,hbut,by have:=hl2.len;simp at this;omega,hg6n⟩
      have hk64I:(64:Int)≤(gk:Int):=by omega
      have hc64I:(64:Int)≤(cp1:Int):=by omega
      clear hh2 hw2 hk2 hl2 hne2 hbut hDT;generalize mixS KS ws2 ((T.drop (64*D)).take 64)=wsN at *;go_wp2;go_region_with (first|(go_at_call 104;refine HMX.mono ?_;rintro e wG ⟨rfl,hbG⟩;have hst:=((HP.out.1.drewN 1).old hbG (HP.out.1.drewN 1).lt).sta wsN (by rw[HP.out.2.1];rfl)))
      all_goals
       have HQ:Hid (PInv w g g6 s T rs1 (gk-64) (.slice (some A2) (gk-64) (cp1-64)) (wG.setRow g (HC s wsN rs1).toArray)):=by
        obtain⟨a1,a2,a3,a4,a5,a6,a7,a8⟩:=HP.out;have hG:HRow wG g s ws2 rs1:=(a1.drewN 1).old hbG (a1.drewN 1).lt;have hbW:ButS g w wG:=a6.trans ((ButS.drewN g wr 1).trans (ButS.ofBelow hbG));have hbS:=ButS.setRow g wG (HC s wsN rs1).toArray;have hlG:Lies .u8 wG (some ⟨b1,off1,none⟩) gk (T.drop (64*D)):=(a4.old (Drew.below ⟨1,rfl⟩ _)).old hbG;obtain⟨c1,c2,c3⟩:=HAD2.out _ (hbS.lies hlG (fun b0 off0 s0 e=>by cases e;exact a5));refine⟨D+1,some A2,cp1-64,wsN,rfl,hG.setWords _ (by rw[a2];rfl),a2,hbS.row ((a3.drewN 1).below hbG (a3.drewN 1).lt) a8,?_,?_,by omega,by omega,hbW.trans hbS,by omega,a8⟩
        ·rw[List.drop_drop]at c1;rw[show 64*(D+1)=64*D+64 by omega];exact c1
        ·intro b0 off0 s0 e
         cases e
         simp only at c2;subst c2;exact a5
       clear HP HMX hldw hldk hbG hst HAD2;go_wp2;go_roundg (gk-64)
       case measure=>omega
       case rel=>exact HQ.out
     ·have HFIN:Hid (∀w',HRow w' g s ws2 (rs1.take 0++(T.drop (64*D)).take gk++rs1.drop (0+gk))→ButS g wr w'→∃ws' rs',HRow w' g s ws' rs'∧Holds T ws' rs'∧ButS g w w'):=fun w' h1 h2=>
       ⟨_,_,h1,holds_done D gk hw2 hl2.len (by omega) hDT HTD.out.1 HTD.out.2.2 HTD.out.2.1,hbut.trans h2⟩
      have HH:Hid (HRow wr g s ws2 rs1∧Lies .u8 wr A1 gk (T.drop (64*D))):=⟨hh2,hl2⟩
      have hk64I:¬((64:Int)≤(gk:Int)):=by omega
      clear hh2 hw2 hk2 hl2 hne2 hbut hDT;generalize T.drop (64*D)=tl at *;go_wp2_with ((with_reducible show wpList _ _ _ (Oper.mk _ (Op.call { callee:=.builtin .copy,args:=_,argTypes:=_ }) _ _ _ _::_) _ _);refine wpList_copy_rest (w:=wr) (by with_reducible rfl) _ _ 33 33 (by with_reducible rfl) 5 Tryz.underlying33 Tryz.sizeB g 0 A1 _ _ _ _ (by rfl) (by rfl) (s:Int) ws2 rs1 tl HH.out.1 HH.out.2 (by omega) gk (by omega) ?_;intro wZ hhZ hbZ hsZ)
      exact⟨rfl,_,results_noneS rfl _ _,⟨_,rfl⟩,HFIN.out _ hhZ hbZ⟩
  ·have hr0I:¬((0:Int)<(r:Int)):=by omega
   have hSA:=slice_all g;go_wp2_with (first
    | ((with_reducible show wpList _ _ _ (Oper.mk _ (Op.alloc _) _ _ _ _::_) _ _);refine wpList_alloc_row (w:=wB) (by with_reducible rfl) 172 (by with_reducible rfl) .u32 64 Tryz.infoW64 ?_;intro wC hrC hbC hsC)
    | ((with_reducible show wpList _ _ _ (Oper.mk _ (Op.store _ _ _) _ _ _ _::_) _ _);refine wpList_store_nums (w:=wC) (by with_reducible rfl) 172 _ _ (by with_reducible rfl) .u32 172 64 Tryz.sizeW64 _ (List.replicate 64 0) KS (by rfl) (by rfl) hrC (by simp) rfl ?_;intro wD hrD hbD hsD hoD))
   generalize hg6:wB.heap.size=g6 at *;have HI:Hid (PInv w g g6 s T rs len (.slice ao len cap) wD):=by
    obtain⟨a1,a2,a3⟩:=HB.out;obtain⟨b1,b2,b3,b4,b5,b6,b7⟩:=HW.out;have hbBD:Below g6 wB wD:=hbC.trans hbD;have hlt:=a1.lt;refine⟨s/64,ao,cap,ws1,rfl,a1.old hbBD (by omega),a2,hrD,?_,b5,hlc,hcm,a3.trans (ButS.ofBelow (hbBD.mono (by omega))),?_,by omega⟩
    ·have e:=drop_none (all:=all) (bs:=bs) (by rw[b6];omega);rw[b6,HT.out]at e;rw[e];exact(a3.lies b4 b5).old (hbBD.mono (by omega))
    ·rw[←HT.out];have:=b4.len;simp;omega
   have HTD:Hid (Dg 256 T∧T.length≤1000000000000000∧Dg 256 rs):=by rw[←HT.out];exact⟨HW.out.2.1.good.append HW.out.2.2.1,by have:=HW.out.2.2.2.2.2.1;have:=HW.out.2.2.2.1.len;simp;omega,HW.out.2.1.bytes⟩
   clear HB HW hrC hbC hsC hrD hbD hsD hoD hg6;generalize rs=rs1 at *;go_wp2;go_loopg [2] len (fun k vb wr=>PInv w g g6 s T rs1 k vb wr)
   case atStart=>exact HI.out
   case round =>
    obtain⟨D,A1,cp1,ws2,rfl,hh2,hw2,hk2,hl2,hne2,hkc,hcp1,hbut,hDT,hg6n⟩:=hrel;clear HI;by_cases hk64:64≤gk
    ·obtain⟨b1,off1,rfl,hblk1,_⟩:=hl2.at (by omega);obtain⟨A2,hA2,HAD2⟩:=lies_cut b1 off1 gk cp1 64 (T.drop (64*D)) hkc hk64;have hldw:(HLD 142 (.pointer (some ⟨g,1,none⟩))).run Tryz.prog wr.drew=.ok (ag .u32 ws2) wr.drew:=(hh2.drewN 1).lda;have hldk:(HLD 172 (.pointer (some ⟨g6,0,none⟩))).run Tryz.prog wr.drew=.ok (ag .u32 KS) wr.drew:=(hk2.drewN 1).lda rfl;have HMX:=mix_any ws2 KS b1 off1 64 ((T.drop (64*D)).take 64) wr.drew hh2.lw rfl ((hl2.take 64 hk64).old (Drew.below ⟨1,rfl⟩ _)) ((HTD.out.1.drop _).take _) (by omega) (by unfold maxLen;omega);have HP:Hid (HRow wr g s ws2 rs1∧mixS KS ws2 ((T.drop (64*D)).take 64)=hb T (D+1)∧Row 172 .u32 wr g6 KS∧Lies .u8 wr (some ⟨b1,off1,none⟩) gk (T.drop (64*D))∧b1≠g∧ButS g w wr∧64*D+gk=T.length∧g6≠g):=
      ⟨hh2,by rw[hw2];rfl,hk2,hl2,hne2 b1 off1 none rfl,hbut,by have:=hl2.len;simp at this;omega,hg6n⟩
     have hk64I:(64:Int)≤(gk:Int):=by omega
     have hc64I:(64:Int)≤(cp1:Int):=by omega
     clear hh2 hw2 hk2 hl2 hne2 hbut hDT;generalize mixS KS ws2 ((T.drop (64*D)).take 64)=wsN at *;go_wp2;go_region_with (first|(go_at_call 104;refine HMX.mono ?_;rintro e wG ⟨rfl,hbG⟩;have hst:=((HP.out.1.drewN 1).old hbG (HP.out.1.drewN 1).lt).sta wsN (by rw[HP.out.2.1];rfl)))
     all_goals
      have HQ:Hid (PInv w g g6 s T rs1 (gk-64) (.slice (some A2) (gk-64) (cp1-64)) (wG.setRow g (HC s wsN rs1).toArray)):=by
       obtain⟨a1,a2,a3,a4,a5,a6,a7,a8⟩:=HP.out;have hG:HRow wG g s ws2 rs1:=(a1.drewN 1).old hbG (a1.drewN 1).lt;have hbW:ButS g w wG:=a6.trans ((ButS.drewN g wr 1).trans (ButS.ofBelow hbG));have hbS:=ButS.setRow g wG (HC s wsN rs1).toArray;have hlG:Lies .u8 wG (some ⟨b1,off1,none⟩) gk (T.drop (64*D)):=(a4.old (Drew.below ⟨1,rfl⟩ _)).old hbG;obtain⟨c1,c2,c3⟩:=HAD2.out _ (hbS.lies hlG (fun b0 off0 s0 e=>by cases e;exact a5));refine⟨D+1,some A2,cp1-64,wsN,rfl,hG.setWords _ (by rw[a2];rfl),a2,hbS.row ((a3.drewN 1).below hbG (a3.drewN 1).lt) a8,?_,?_,by omega,by omega,hbW.trans hbS,by omega,a8⟩
       ·rw[List.drop_drop]at c1;rw[show 64*(D+1)=64*D+64 by omega];exact c1
       ·intro b0 off0 s0 e
        cases e
        simp only at c2;subst c2;exact a5
      clear HP HMX hldw hldk hbG hst HAD2;go_wp2;go_roundg (gk-64)
      case measure=>omega
      case rel=>exact HQ.out
    ·have HFIN:Hid (∀w',HRow w' g s ws2 (rs1.take 0++(T.drop (64*D)).take gk++rs1.drop (0+gk))→ButS g wr w'→∃ws' rs',HRow w' g s ws' rs'∧Holds T ws' rs'∧ButS g w w'):=fun w' h1 h2=>
      ⟨_,_,h1,holds_done D gk hw2 hl2.len (by omega) hDT HTD.out.1 HTD.out.2.2 HTD.out.2.1,hbut.trans h2⟩
     have HH:Hid (HRow wr g s ws2 rs1∧Lies .u8 wr A1 gk (T.drop (64*D))):=⟨hh2,hl2⟩
     have hk64I:¬((64:Int)≤(gk:Int)):=by omega
     clear hh2 hw2 hk2 hl2 hne2 hbut hDT;generalize T.drop (64*D)=tl at *;go_wp2_with ((with_reducible show wpList _ _ _ (Oper.mk _ (Op.call { callee:=.builtin .copy,args:=_,argTypes:=_ }) _ _ _ _::_) _ _);refine wpList_copy_rest (w:=wr) (by with_reducible rfl) _ _ 33 33 (by with_reducible rfl) 5 Tryz.underlying33 Tryz.sizeB g 0 A1 _ _ _ _ (by rfl) (by rfl) (s:Int) ws2 rs1 tl HH.out.1 HH.out.2 (by omega) gk (by omega) ?_;intro wZ hhZ hbZ hsZ)
     exact⟨rfl,_,results_noneS rfl _ _,⟨_,rfl⟩,HFIN.out _ hhZ hbZ⟩
end
section
open Go.RowKit
attribute [local go_sem ↓] keep_l8 keep_l64 keep_s8 keep_s32
def HashAt(w:World)(g:Nat)(all:List Int):Prop:=∃ws rs,HRow w g all.length ws rs∧Holds all ws rs
theorem put_grow{all bs:List Int}{s len:Nat}(hs:all.length=s)(hl:bs.length=len){w:World}{g:Nat}{ws rs:List Int}(h:HRow w g ((s:Int)+(len:Int)) ws rs)(hh:Holds (all++bs) ws rs):HashAt w g (all++bs):=by
 refine⟨ws,rs,?_,hh⟩;rw[List.length_append,hs,hl];have e:((s+len:Nat):Int)=(s:Int)+(len:Int):=by omega
 rw[e];exact h
theorem Put_few(g:Nat)(all bs:List Int)(ao:Option Addr)(len cap:Nat)(w:World)(h:HashAt w g all)(hd:Dg 256 bs)(hl:Lies .u8 w ao len bs)(hne:0<len→∀b off s,ao=some ⟨b,off,s⟩→b≠g)(hlc:len≤cap)(hcm:cap≤maxLen)(hnn:ao=none→cap=0)(hsm:all.length+len≤1000000000000000):
  Calls Tryz.prog 49 #[.pointer (some ⟨g,0,none⟩),.slice ao len cap] w fun e w'=>(∃v,e=.returned v)∧HashAt w' g (all++bs)∧ButS g w w':=by
 obtain⟨ws,rs,hh,ho⟩:=h;obtain⟨s,hs⟩:∃s,all.length=s:=⟨_,rfl⟩
 obtain⟨r,hr⟩:∃r,s%64=r:=⟨_,rfl⟩
 rw[hs]at hh hsm;have hsz:=hh.size;have hrI:(s:Int)%64=(r:Int):=by omega
 have hr64:r<64:=by omega
 have hbl:=hl.len;by_cases hfew:r+len<64
 ·have hfI:((len:Int)<64-(r:Int)):=by omega
  have hSR:=slice_rest g r hr64;have HH:Hid (HRow w g s ws rs∧Lies .u8 w ao len bs):=⟨hh,hl⟩
  have HF:Hid (Holds (all++bs) ws (rs.take r++bs.take len++rs.drop (r+len))∧all.length=s∧bs.length=len):=by have:=holds_few ho hh.lr r (by rw[hs];exact hr) (by rw[hbl];exact hfew) hd (by rw[hs,hbl];exact hsm);rw[hbl]at this;exact⟨this,hs,hbl⟩
  clear ho hs hr hl hne hh;go_enter Tryz.func49,Tryz.ntmps49;go_wp2_with ((with_reducible show wpList _ _ _ (Oper.mk _ (Op.call { callee:=.builtin .copy,args:=_,argTypes:=_ }) _ _ _ _::_) _ _);refine wpList_copy_rest (w:=w) (by with_reducible rfl) _ _ 33 33 (by with_reducible rfl) 5 Tryz.underlying33 Tryz.sizeB g r ao _ _ _ _ (by rfl) (by rfl) (s:Int) ws rs bs HH.out.1 HH.out.2 (by omega) len (by omega) ?_;intro wZ hhZ hbZ hsZ;have hcz:=hhZ.size;have hfz:=hhZ.frozen 0)
  exact⟨rfl,_,results_noneS rfl _ _,⟨_,rfl⟩,put_grow HF.out.2.1 HF.out.2.2 (hhZ.setSize _) HF.out.1,hbZ.trans (ButS.setCell _ _ _ _)⟩
 ·have hfI:¬((len:Int)<64-(r:Int)):=by omega
  have HPB:=putBlocks_any g all bs ws rs s r ao len cap w hs hr hh ho hd hl (hne (by omega)) hlc hcm hnn (by omega) hsm;have HF:Hid (all.length=s∧bs.length=len):=⟨hs,hbl⟩
  clear ho hs hr hl hne hh;go_enter Tryz.func49,Tryz.ntmps49;go_wp2_with (go_at_call 80;refine HPB.mono ?_;rintro e wZ ⟨⟨v,rfl⟩,wsZ,rsZ,hhZ,hoZ,hbZ⟩;have hcz:=hhZ.size;have hfz:=hhZ.frozen 0)
  exact⟨rfl,_,results_noneS rfl _ _,⟨_,rfl⟩,put_grow HF.out.1 HF.out.2 (hhZ.setSize _) hoZ,hbZ.trans (ButS.setCell _ _ _ _)⟩
theorem Put_any(g:Nat)(all bs:List Int)(ao:Option Addr)(len cap:Nat)(w:World)(h:HashAt w g all)(hd:Dg 256 bs)(hl:Lies .u8 w ao len bs)(hne:∀b off s,ao=some ⟨b,off,s⟩→b≠g)(hlc:len≤cap)(hcm:cap≤maxLen)(hnn:ao=none→cap=0)(hsm:all.length+len≤1000000000000000):
  Calls Tryz.prog 49 #[.pointer (some ⟨g,0,none⟩),.slice ao len cap] w fun e w'=>(∃v,e=.returned v)∧HashAt w' g (all++bs)∧ButS g w w':=
 Put_few g all bs ao len cap w h hd hl (fun _=>hne) hlc hcm hnn hsm
end
section
open Go.RowKit
attribute [local go_sem ↓] keep_l8 keep_l64 keep_s8
theorem holds_nil(ws rs:List Int)(hr:Dg 256 rs):Holds [] ws rs:=⟨fun h=>by simp at h,rfl,hr,Dg.nil _,by simp⟩
def zeroC:List Value:=HC 0 (List.replicate 8 0) (List.replicate 64 0)
theorem Tryz.infoH:(Tryz.prog.info? 145).map (fun i=>(i.zero,i.size))=some (some (.agg zeroC.toArray),73):=by kernel_rfl
theorem Tryz.sizeH:(Tryz.prog.info? 145).map (·.size)=some 73:=(zero_of_info Tryz.infoH).2
theorem Tryz.builtH:Tryz.prog.built 145 []=some zeroC.toArray:=by kernel_rfl
theorem hrow_alloc(w:World)(n:Int)(ws rs:List Int)(hw:ws.length=8)(hr:rs.length=64):HRow (w.alloc (.cells (HC n ws rs).toArray 145)) w.heap.size n ws rs:=⟨heap_alloc_new w _,hw,hr⟩
theorem wpList_alloc_hash{w:World}{ops:Array Oper}{rest:List Oper}{o:Oper}{a:Act}{Q:Exit→Act→World→Prop}(hgd:o.guard=none)(hop:o.op=Op.alloc 145)
  (hK:∀w',HRow w' w.heap.size 0 (List.replicate 8 0) (List.replicate 64 0)→Below w.heap.size w w'→w'.heap.size=w.heap.size+1→wpList Tryz.prog ops Q rest (a.put o.dst (.pointer (some ⟨w.heap.size,0,none⟩))) w'):
  wpList Tryz.prog ops Q (o::rest) a w:=by
 refine wpList_plain hgd fun K hK' => ?_;have hr:=(zero_of_info Tryz.infoH).1 w;unfold Oper.wp;simp only[execOp,hop,Instr.alloc,Sem.run_bind,hr,Result.andThen_ok];exact hK' _ _ (hK (w.alloc (.cells zeroC.toArray 145)) (hrow_alloc w 0 _ _ (by simp) (by simp)) (below_alloc w _) (size_alloc' w _))
theorem wpList_box_hash{w:World}{ops:Array Oper}{rest:List Oper}{o:Oper}{a:Act}{Q:Exit→Act→World→Prop}(hgd:o.guard=none)(x:Operand)(hop:o.op=Op.box 145 x)(n:Int)(ws rs:List Int)(hx:a.eval x=.agg (HC n ws rs).toArray)(hw:ws.length=8)(hr:rs.length=64)
  (hK:∀w',HRow w' w.heap.size n ws rs→Below w.heap.size w w'→w'.heap.size=w.heap.size+1→wpList Tryz.prog ops Q rest (a.put o.dst (.pointer (some ⟨w.heap.size,0,none⟩))) w'):
  wpList Tryz.prog ops Q (o::rest) a w:=by
 refine wpList_plain hgd fun K hK' => ?_;unfold Oper.wp;simp only[execOp,hop,hx,Instr.box,Sem.run_bind,Result.andThen_ok];exact hK' _ _ (hK (w.alloc (.cells (HC n ws rs).toArray 145)) (hrow_alloc w n ws rs hw hr) (below_alloc w _) (size_alloc' w _))
theorem wpList_load_hash{w:World}{ops:Array Oper}{rest:List Oper}{o:Oper}{a:Act}{Q:Exit→Act→World→Prop}(hgd:o.guard=none)(x:Operand)(hop:o.op=Op.load 145 x)(g:Nat)(n:Int)(ws rs:List Int)(hx:a.eval x=.pointer (some ⟨g,0,none⟩))(hr:HRow w g n ws rs)
  (h:wpList Tryz.prog ops Q rest (a.put o.dst (.agg (HC n ws rs).toArray)) w):wpList Tryz.prog ops Q (o::rest) a w:=
 wpList_load_row hgd 145 x hop g hx 145 _ (0,0) _ hr.blk Tryz.underlying145 rfl (by rw[Tryz.sizeH];simp[HC_length,hr.lw,hr.lr]) h
theorem wpList_store_hash{w:World}{ops:Array Oper}{rest:List Oper}{o:Oper}{a:Act}{Q:Exit→Act→World→Prop}(hgd:o.guard=none)(x y:Operand)(hop:o.op=Op.store 145 x y)(g:Nat)(n m:Int)(ws rs vs us:List Int)(hx:a.eval x=.pointer (some ⟨g,0,none⟩))(hy:a.eval y=.agg (HC m vs us).toArray)(hr:HRow w g n ws rs)(hv:vs.length=8)(hu:us.length=64)
  (hK:∀w',HRow w' g m vs us→ButS g w w'→w'.heap.size=w.heap.size→wpList Tryz.prog ops Q rest (a.put o.dst undef) w'):wpList Tryz.prog ops Q (o::rest) a w:=
 wpList_store_row hgd 145 x y hop g _ hx hy 145 _ hr.blk (by rw[Tryz.sizeH];simp[HC_length,hv,hu]) (by simp[HC_length,hr.lw,hr.lr,hv,hu])
  (Array.all_eq_true_iff_forall_mem.2 fun v hv => by
   simp only[HC,List.mem_toArray,List.mem_cons,List.mem_append,List.mem_map]at hv;rcases hv with rfl|⟨x,_,rfl⟩|⟨x,_,rfl⟩<;>rfl)
  (hK _ ⟨setRow_heap w g _ _ _ (0,0) hr.blk,hv,hu⟩ (ButS.setRow _ _ _) (by simp))
theorem New_any(w:World):Calls Tryz.prog 48 #[] w fun e w'=>e=.returned (.pointer (some ⟨w.heap.size,0,none⟩))∧HashAt w' w.heap.size []∧Below w.heap.size w w':=by
 go_enter Tryz.func48,Tryz.ntmps48;go_wp2_with (first
  | ((with_reducible show wpList _ _ _ (Oper.mk _ (Op.build _ _) _ _ _ _::_) _ _);refine wpList_build (by with_reducible rfl) 145 #[] (by with_reducible rfl) (by simp[Tryz.builtH]) ?_;simp only[List.map_toArray,List.map_nil,Tryz.builtH,Option.getD_some])
  | ((with_reducible show wpList _ _ _ (Oper.mk _ (Op.box _ _) _ _ _ _::_) _ _);refine wpList_box_hash (w:=w) (by with_reducible rfl) _ (by with_reducible rfl) 0 (List.replicate 8 0) (List.replicate 64 0) (by rfl) (by simp) (by simp) ?_;intro w1 hr1 hb1 hs1))
 go_ret;exact⟨rfl,⟨_,_,hr1,holds_nil _ _ (Dg.zeros (by decide) _)⟩,hb1⟩
theorem gap_len(n:Nat):(n+(gapN n+9))%64=0∧64≤n+(gapN n+9):=by unfold gapN;omega
theorem lies_row{e:TypeId}{w:World}{g:Nat}{xs:List Int}{n:Nat}(h:Row e .u8 w g xs)(hn:xs.length=n):Lies .u8 w (some ⟨g,0,none⟩) n xs:=by have:=h.lies 0 xs.length (by omega);rw[hn]at this;simpa [hn,List.take_of_length_le (show xs.length≤n by omega)] using this
theorem Sum_any(g:Nat)(all:List Int)(w:World)(h:HashAt w g all)(hsm:all.length≤900000000000000):
  Calls Tryz.prog 50 #[.pointer (some ⟨g,0,none⟩)] w fun e w'=>e=.returned (ag .u8 (shaS all))∧Below w.heap.size w w':=by
 obtain⟨ws,rs,hh,ho⟩:=h;obtain⟨n,hn⟩:∃n,all.length=n:=⟨_,rfl⟩
 rw[hn]at hh hsm;have HEND:=fun w=>ending_any n w (by omega);have HPUT:=fun g w ao len cap h hl hne hlc hcm hnn hq=>Put_any g all (ending n) ao len cap w h
  (show Dg 256 (ending n) by
   unfold ending;exact Dg.cons (by decide) ((Dg.zeros (by decide) _).append (fun x hx=>by obtain⟨i,_,rfl⟩:=List.mem_map.1 hx;omega))) hl hne hlc hcm hnn hq
 have HSP:=spread_any;have hel:=ending_length n;obtain⟨L,hL⟩:∃L,gapN n+9=L:=⟨_,rfl⟩
 have HFIN:Hid (∀ws5 rs5,Holds (all++ending n) ws5 rs5→spreadS ws5=shaS all):=fun ws5 rs5 h5=>by have hg:=gap_len n;unfold shaS;rw[h5.words (by simp[hn,hel];omega),hn]
 have hL73:L≤73:=by have:gapN n<64:=Nat.mod_lt _ (by decide);omega
 rw[hL]at hel HEND;have HH:Hid (HRow w g n ws rs∧Holds all ws rs∧all.length=n∧(ending n).length=L∧gapN n+9=L):=⟨hh,ho,hn,hel,hL⟩
 clear hh ho hel hL hn;go_enter Tryz.func50,Tryz.ntmps50;go_wp2_with (first
  | ((with_reducible show wpList _ _ _ (Oper.mk _ (Op.alloc _) _ _ _ _::_) _ _);refine wpList_alloc_row (w:=w) (by with_reducible rfl) 71 (by with_reducible rfl) .u8 32 Tryz.infoB32 ?_;intro w1 hr1 hb1 hs1;have hh1:HRow w1 g n ws rs:=HH.out.1.old hb1 HH.out.1.lt)
  | ((with_reducible show wpList _ _ _ (Oper.mk _ (Op.load _ _) _ _ _ _::_) _ _);refine wpList_load_hash (w:=w1) (by with_reducible rfl) _ (by with_reducible rfl) g _ ws rs (by rfl) hh1 ?_)
  | ((with_reducible show wpList _ _ _ (Oper.mk _ (Op.alloc _) _ _ _ _::_) _ _);refine wpList_alloc_hash (w:=w1) (by with_reducible rfl) (by with_reducible rfl) ?_;intro w2 hr2 hb2 hs2)
  | ((with_reducible show wpList _ _ _ (Oper.mk _ (Op.store _ _ _) _ _ _ _::_) _ _);refine wpList_store_hash (w:=w2) (by with_reducible rfl) _ _ (by with_reducible rfl) w1.heap.size 0 n _ _ ws rs (by rfl) (by rfl) hr2 HH.out.1.lw HH.out.1.lr ?_;intro w3 hr3 hb3 hs3;have hc3:=((hh1.old hb2 hh1.lt).but hb3 (by have:=HH.out.1.lt;omega)).size))
 have HW3:Hid (HRow w3 (w.heap.size+1) n ws rs∧Row 71 .u8 w3 w.heap.size (List.replicate 32 0)∧Below w.heap.size w w3∧w.heap.size+2≤w3.heap.size):=by refine⟨by rw[←hs1];exact hr3,hb3.row (hr1.below hb2 (by omega)) (by omega),?_,by omega⟩;exact hb1.trans ((hb2.mono (by omega)).trans (hb3.below (by omega) (by omega)))
 clear hr1 hb1 hh1 hr2 hb2 hs2 hr3 hb3 hs3 hs1;refine(HEND w3).mono ?_;rintro e w4 ⟨rfl,hr4,hb4⟩;have HW4:Hid (HashAt w4 (w.heap.size+1) all∧Row 71 .u8 w4 w.heap.size (List.replicate 32 0)∧Below w.heap.size w w4∧Lies .u8 w4 (some ⟨w3.heap.size,0,none⟩) L (ending n)∧w.heap.size+2≤w4.heap.size∧w.heap.size+2≤w3.heap.size):=by obtain⟨a1,a2,a3,a4⟩:=HW3.out;obtain⟨b1,b2,b3,b4,b5⟩:=HH.out;exact⟨⟨ws,rs,by rw[b3];exact a1.old hb4 (by omega),b2⟩,a2.below hb4 (by omega),a3.trans (hb4.mono (by omega)),lies_row hr4 b4,by have:=hb4.size;omega,a4⟩
 clear HW3 hr4 hb4 hc3 HEND;go_wp2_with fail
 refine(HPUT (w.heap.size+1) w4 (some ⟨w3.heap.size,0,none⟩) L L HW4.out.1 HW4.out.2.2.2.1 (fun b off s e=>by cases e;have:=HW4.out.2.2.2.2.2;omega) (Nat.le_refl _) (by unfold maxLen;omega) (fun h=>by cases h) (by have:=HH.out.2.2.1;omega)).mono ?_;rintro e w5 ⟨⟨v,rfl⟩,⟨ws5,rs5,hh5,ho5⟩,hb5⟩;have hld5:(HLD 142 (.pointer (some ⟨w.heap.size+1,1,none⟩))).run Tryz.prog w5=.ok (ag .u32 ws5) w5:=hh5.lda;have HW5:Hid (spreadS ws5=shaS all∧ws5.length=8∧Row 71 .u8 w5 w.heap.size (List.replicate 32 0)∧Below w.heap.size w w5):=by obtain⟨a1,a2,a3,a4,a5,a6⟩:=HW4.out;exact⟨HFIN.out _ _ ho5,hh5.lw,hb5.row a2 (by omega),a3.trans (hb5.below (by omega) (by omega))⟩
 clear HW4 hh5 ho5 hb5 HFIN HPUT;have HSPL:=fun w=>HSP ws5 w HW5.out.2.1;rw[HW5.out.1]at HSPL;go_wp2_with fail
 refine(HSPL _).mono ?_;rintro e w6 ⟨rfl,hb6⟩;have hr6:=HW5.out.2.2.1.below hb6 (HW5.out.2.2.1).lt;have hln:(shaS all).length=32:=by unfold shaS;exact spreadS_length _
 go_wp2_with ((with_reducible show wpList _ _ _ (Oper.mk _ (Op.store _ _ _) _ _ _ _::_) _ _);refine wpList_store_nums (w:=w6) (by with_reducible rfl) 71 _ _ (by with_reducible rfl) .u8 71 32 Tryz.sizeB32 _ (List.replicate 32 0) (shaS all) (by rfl) (by rfl) hr6 (by simp) hln ?_;intro w7 hr7 hb7 hs7 ho7)
 refine bodyPost_ret (v:=ag .u8 (shaS all)) (results_nums rfl _ _ _ 71 5 .u8 32 _ rfl hr7 Tryz.underlying71 Tryz.sizeB32 hln) rfl ⟨rfl,HW5.out.2.2.2.trans ((hb6.mono (by have:=HW5.out.2.2.2.size;omega)).trans hb7)⟩
theorem HOf_few(bs:List Int)(ao:Option Addr)(len cap:Nat)(w:World)(hd:Dg 256 bs)(hl:Lies .u8 w ao len bs)(hlc:len≤cap)(hcm:cap≤maxLen)(hnn:ao=none→cap=0)(hsm:len≤900000000000000)(hold:0<len→∀b off s,ao=some ⟨b,off,s⟩→b<w.heap.size):
  Calls Tryz.prog 21 #[.slice ao len cap] w fun e w'=>e=.returned (ag .u8 (shaS bs))∧Below w.heap.size w w':=by
 have HL:Hid (Lies .u8 w ao len bs∧(0<len→∀b off s,ao=some ⟨b,off,s⟩→b<w.heap.size)):=⟨hl,hold⟩
 have HNEW:=New_any;clear hl hold;go_enter Tryz.func21,Tryz.ntmps21;go_wp2_with ((with_reducible show wpList _ _ _ (Oper.mk _ (Op.alloc _) _ _ _ _::_) _ _);refine wpList_alloc_row (w:=w) (by with_reducible rfl) 71 (by with_reducible rfl) .u8 32 Tryz.infoB32 ?_;intro w1 hr1 hb1 hs1)
 refine(HNEW w1).mono ?_;rintro e w2 ⟨rfl,hh2,hb2⟩;have HW2:Hid (HashAt w2 (w.heap.size+1) []∧Row 71 .u8 w2 w.heap.size (List.replicate 32 0)∧Below w.heap.size w w2∧Lies .u8 w2 ao len bs):=
  ⟨by rw[←hs1];exact hh2,hr1.below hb2 (by omega),hb1.trans (hb2.mono (by omega)),(HL.out.1.old hb1).old hb2⟩
 clear hh2 hb2 hr1 hb1;go_wp2_with fail
 refine(Put_few (w.heap.size+1) [] bs ao len cap w2 HW2.out.1 hd HW2.out.2.2.2 (fun h0 b off s e=>by have:=HL.out.2 h0 b off s e;omega) hlc hcm hnn (by simp;omega)).mono ?_;rintro e w3 ⟨⟨v,rfl⟩,hh3,hb3⟩;rw[List.nil_append]at hh3;have HW3:Hid (HashAt w3 (w.heap.size+1) bs∧Row 71 .u8 w3 w.heap.size (List.replicate 32 0)∧Below w.heap.size w w3):=
  ⟨hh3,hb3.row HW2.out.2.1 (by omega),HW2.out.2.2.1.trans (hb3.below (by omega) HW2.out.2.2.1.size)⟩
 have hbl:bs.length≤900000000000000:=by have:=HL.out.1.len;omega
 clear HW2 hh3 hb3;go_wp2_with fail
 refine(Sum_any (w.heap.size+1) bs w3 HW3.out.1 hbl).mono ?_;rintro e w6 ⟨rfl,hb6⟩;have hr6:=HW3.out.2.1.below hb6 (HW3.out.2.1).lt;have hln:(shaS bs).length=32:=by unfold shaS;exact spreadS_length _
 go_wp2_with ((with_reducible show wpList _ _ _ (Oper.mk _ (Op.store _ _ _) _ _ _ _::_) _ _);refine wpList_store_nums (w:=w6) (by with_reducible rfl) 71 _ _ (by with_reducible rfl) .u8 71 32 Tryz.sizeB32 _ (List.replicate 32 0) (shaS bs) (by rfl) (by rfl) hr6 (by simp) hln ?_;intro w7 hr7 hb7 hs7 ho7)
 refine bodyPost_ret (v:=ag .u8 (shaS bs)) (results_nums rfl _ _ _ 71 5 .u8 32 _ rfl hr7 Tryz.underlying71 Tryz.sizeB32 hln) rfl ⟨rfl,HW3.out.2.2.trans ((hb6.mono (by have:=HW3.out.2.2.size;omega)).trans hb7)⟩
theorem HOf_num(bs:List Int)(ao:Option Addr)(len cap:Nat)(w:World)(h:NumIn .u8 256 w ao len cap bs):Calls Tryz.prog 21 #[.slice ao len cap] w fun e w'=>e=.returned (ag .u8 (shaS bs))∧Below w.heap.size w w':=
 HOf_few bs ao len cap w h.dg h.lies h.lc h.cm h.nn (by have:=h.sm;omega) (fun h0 b off s e=>by
  obtain⟨b',off',e',hlt,_⟩:=h.lies.at h0;rw[e']at e
  cases e
  exact hlt)
end
section
open Go.RowKit Go.Shelf
theorem inv_ex{m a:Int}(hm:0<m)(h:gd m (a%m)=1):∃i,0≤i∧i<m∧Cg m (i*a) 1:=by have h0:=Int.emod_nonneg a (b:=m) (by omega);obtain⟨x,y,hxy⟩:=bez m.toNat (a%m).toNat;unfold gd at h;rw[h,show((m.toNat:Nat):Int)=m by omega,show(((a%m).toNat:Nat):Int)=a%m by omega]at hxy;refine⟨y%m,Int.emod_nonneg _ (by omega),Int.emod_lt_of_pos _ hm,?_⟩;have h1:Cg m (y%m*a) (y*(a%m)):=(Cg.mod m y).mul (Cg.mod m a).symm;refine h1.trans ⟨-x,?_⟩;rw[Int.mul_neg,Int.mul_comm y];omega
theorem add_some{P:Nat}[NeZero P]{K:Cz}(g:GoodK K P)(p q:Pz):∃s,AddZ K p q (some s):=by
 cases hpi:p.inf with
 | true=>exact⟨ownZ q,by unfold AddZ;rw[if_neg (good_p0 g),hpi,if_pos rfl]⟩
 | false =>
  cases hqi:q.inf with
  | true=>exact⟨ownZ p,by unfold AddZ;rw[if_neg (good_p0 g),hpi,hqi,if_neg (by simp),if_pos rfl]⟩
  | false =>
   by_cases h:runZ K p q=0
   ·exact⟨noZ,by unfold AddZ;rw[if_neg (good_p0 g),hpi,hqi,if_neg (by simp),if_neg (by simp)];unfold AddN;rw[if_pos h]⟩
   ·have hP:0<K.p:=by rw[g.p];exact ppos P
    have e:runZ K p q%K.p=runZ K p q:=by
     unfold runZ;split
     ·exact Int.emod_emod _ _
     ·exact Int.emod_emod _ _
    have hg:=(gdP g (runZ K p q) (by rw[e];exact h)).1;obtain⟨n,h1,h2,h3⟩:=inv_ex hP hg;exact⟨_,by unfold AddZ;rw[if_neg (good_p0 g),hpi,hqi,if_neg (by simp),if_neg (by simp)];unfold AddN;rw[if_neg h,if_neg (by rw[hg];simp)];exact⟨n,h1,h2,h3,rfl⟩⟩
theorem verZ_ex{P:Nat}[NeZero P]{K:Cz}(g:GoodK K P)(hb:Gd K P (baseZ K))(hN:0<K.n)(q:Pz)(hq:0≤q.x∧0≤q.y)(z x y:Int):∃b,VerZ K P q z x y b:=by
 by_cases h:VerNo K q x y
 ·exact⟨false,.inl ⟨h,rfl⟩⟩
 ·have hqi:q.inf=false:=by
   cases hc:q.inf with
   | false=>rfl
   | true=>exact absurd (.inl hc) h
  have hon:onB K q=true:=by
   cases hc:onB K q with
   | true=>rfl
   | false=>exact absurd (.inr (.inl hc)) h
  have hg:gd K.n (y%K.n)=1:=Classical.byContradiction fun h'=>h (.inr (.inr (.inr (.inr h'))));have hG:=good_on g hqi hq.1 hq.2 hon;obtain⟨i,h1,h2,h3⟩:=inv_ex hN hg;obtain⟨p1,hp1⟩:=mt_ex g hb ((z*i)%K.n).toNat;obtain⟨p2,hp2⟩:=mt_ex g hG ((x*i)%K.n).toNat;obtain⟨p3,hp3⟩:=add_some g p1 p2;exact⟨_,.inr ⟨h,i,p1,p2,p3,⟨h1,h2,h3⟩,hp1,hp2,hp3,rfl⟩⟩
theorem verZ_of{P:Nat}[NeZero P]{K:Cz}{p:Pz}{z x y:Int}{b:Bool}(ho:ofB p=true)(h:VerZ K P (ofZ p) z x y b):VerZ K P p z x y b:=by
 obtain⟨px,py,pi⟩:=p
 cases pi with
 | true =>
  have h1:VerNo K (ofZ ⟨px,py,true⟩) x y:=.inl rfl;rcases h with⟨_,rfl⟩|⟨h2,_⟩
  ·exact .inl ⟨.inl rfl,rfl⟩
  ·exact absurd h1 h2
 | false =>
  unfold ofB at ho;simp only[Bool.false_or,Bool.and_eq_true,decide_eq_true_eq]at ho;have e:ofZ ⟨px,py,false⟩=⟨px,py,false⟩:=by unfold ofZ n31;rw[if_neg (by simp),if_pos ho.1,if_pos ho.2]
  rwa [e]at h
theorem verZ_big{P:Nat}[NeZero P]{K:Cz}{p:Pz}{z x y:Int}{b:Bool}(hp:K.p<2147483648)(ho:ofB p=false)(h:VerZ K P p z x y b):b=false:=by
 rcases h with⟨_,rfl⟩|⟨h2,_⟩
 ·rfl
 ·exfalso;apply h2;right;left;unfold ofB at ho;unfold onB;rw[Bool.or_eq_false_iff]at ho;rw[ho.1,Bool.false_or];by_cases hx:p.x<K.p
  ·by_cases hy:p.y<K.p
   ·have:=ho.2;simp at this;omega
   ·simp[hy]
  ·simp[hx]
end
end Go.Proofs.YtkhnnhbmchnajaaGreat
