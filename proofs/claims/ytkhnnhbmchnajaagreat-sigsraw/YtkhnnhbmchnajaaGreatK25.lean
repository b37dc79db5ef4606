import Derived.Test.YtkhnnhbmchnajaaGreatK24
set_option maxRecDepth 100000
set_option maxHeartbeats 40000000
set_option linter.unusedVariables false
set_option linter.unusedSimpArgs false
namespace Go.Proofs.YtkhnnhbmchnajaaGreat
section
open Go.Shelf Go.RowKit
def verB (n e:Int)(hs:List Int)(m:Nat)(bs:List Int):Bool:=keyB n e&&(decide ((m:Int)=szZ n)&&(decide (val 256 bs.reverse<n)&&decide (val 256 bs.reverse^e.toNat%n=val 256 (padA (m:Int) hs).reverse)))
theorem keyB_facts{n e:Int}(h:keyB n e=true):62≤szZ n∧szZ n≤256∧n%2=1∧3≤e∧e<n:=by unfold keyB expB at h;simp only[Bool.and_eq_true,decide_eq_true_eq]at h;omega
theorem read_nv(v:Value)(bs:List Int)(w:World)(h:By8 w v bs)(hl:bs.length≤512):
  Calls Tryz.prog 44 #[v] w fun e w'=>∃r,e=.returned (.tuple #[r,.int .i64 0])∧Nv w' r (val 256 bs.reverse) 64∧Below w.heap.size w w':=by
 obtain⟨ao,l,c,rfl,h⟩:=h;refine(Read_yes ao l c bs w h (by rw[←h.len];exact hl)).mono ?_;rintro e w' ⟨r,rfl,ho⟩;exact⟨r,rfl,nv_of ho⟩
theorem rread_rv(v:Value)(bs:List Int)(d:Nat)(w:World)(h:By8 w v bs)(hl:bs.length≤2*d)(hd:d≤1000):
  Calls Tryz.prog 28 #[v] w fun e w'=>∃r,e=.returned r∧Rv w' r (val 256 bs.reverse) d∧Below w.heap.size w w':=by
 obtain⟨ao,l,c,rfl,h⟩:=h;have hlen:=h.len;refine(rRead_any ao l c bs w h (by omega)).mono ?_;rintro e w' ⟨r,rfl,ho⟩;refine⟨r,rfl,(rv_of ho).1.fit ?_,(rv_of ho).2⟩;have h1:=val_lt (B:=256) (by decide) (xs:=bs.reverse) (fun x hx=>h.dg x (List.mem_reverse.1 hx));rw[List.length_reverse]at h1;have h2:=pow_mono (B:=256) (by decide) hl;have h3:(256:Int)^(2*d)=D16^d:=by rw[Int.pow_mul];rfl
 omega
theorem pow_nv(a b c:Value)(x y m:Int)(La Lb Lc:Nat)(w:World)(ha:Nv w a x La)(hb:Nv w b y Lb)(hc:Nv w c m Lc)(h0:m≠0)(h1:Lb≤70)(h2:La≤1000)(h3:Lc≤1000):
  Calls Tryz.prog 46 #[a,b,c] w fun e w'=>∃r,e=.returned (.tuple #[r,.int .i64 0])∧Nv w' r (x^y.toNat%m) Lc∧Below w.heap.size w w':=by
 obtain⟨a1,a2,a3,a4,rfl,a5,a6,a7⟩:=ha;obtain⟨b1,b2,b3,b4,rfl,b5,b6,b7⟩:=hb;obtain⟨c1,c2,c3,c4,rfl,c5,c6,c7⟩:=hc;refine(mPow_any a1 b1 c1 a2 a3 b2 b3 c2 c3 a4 b4 c4 w a5 b5 c5 (by rw[c6];exact h0) (by omega) (by omega)).mono ?_;rintro e w' ⟨r,rfl,ho⟩;rw[a6,b6,c6]at ho;obtain⟨⟨q1,q2,q3,q4,rfl,p1,p2,p3⟩,p4⟩:=nv_of ho;exact⟨_,rfl,⟨q1,q2,q3,q4,rfl,p1,p2,by omega⟩,p4⟩
theorem rpow_rv(a b c:Value)(x y m:Int)(La Lb Lc:Nat)(w:World)(ha:Rv w a x La)(hb:Rv w b y Lb)(hc:Rv w c m Lc)(h0:m≠0)(h1:Lb≤1000)(h2:La≤1000)(h3:Lc≤1000):
  Calls Tryz.prog 32 #[a,b,c] w fun e w'=>∃r,e=.returned r∧Rv w' r (x^y.toNat%m) Lc∧Below w.heap.size w w':=by
 obtain⟨a1,a2,a3,a4,rfl,a5,a6,a7,a8⟩:=ha;obtain⟨b1,b2,b3,b4,rfl,b5,b6,b7,b8⟩:=hb;obtain⟨c1,c2,c3,c4,rfl,c5,c6,c7,c8⟩:=hc;refine(rPow_any a1 b1 c1 a2 a3 b2 b3 c2 c3 a4 b4 c4 w a5 b5 c5 a6 b6 c6 (by rw[c7];exact h0) (by omega) (by omega) (by omega)).mono ?_;rintro e w' ⟨r,rfl,ho⟩;rw[a7,b7,c7]at ho;obtain⟨⟨q1,q2,q3,q4,rfl,p1,p2,p3,p5⟩,p4⟩:=rv_of ho;exact⟨_,rfl,⟨q1,q2,q3,q4,rfl,p1,p2,p3,by omega⟩,p4⟩
theorem padA_len(n:Int)(hs:List Int)(hl:hs.length=32):(padA n hs).length≤512:=by
 unfold padA;split
 ·simp
 ·rw[padL_len _ _ hl (by omega)];omega
theorem verify_any(k:Value)(n e:Int)(L:Nat)(hs:List Int)(ao:Option Addr)(m c:Nat)(bs:List Int)(w:World)(hk:Kv w k n e L)(hL:L≤64)(hl:hs.length=32)(hd:Dg 256 hs)(hb:NumIn .u8 256 w ao m c bs):
  Calls Tryz.prog 20 #[k,ag .u8 hs,.slice ao m c] w fun r w'=>r=.returned (.bool (verB n e hs m bs))∧Below w.heap.size w w':=by
 have HBS:Hid (NumIn .u8 256 w ao m c bs):=hb;have hk2:=hk;have HSZ:=fun W (hb:Below w.heap.size w W)=>size_any k n e L W (hk.old hb) (by omega);have HCK:=fun W (hb:Below w.heap.size w W)=>check_any k n e L W (hk.old hb) (by omega);obtain⟨vn,ve,rfl,hn,he⟩:=hk2;have hn2:=hn;have he2:=he;obtain⟨a1,a2,a3,a4,rfl,-⟩:=hn2;obtain⟨e1,e2,e3,e4,rfl,-⟩:=he2;have HN:Hid (Nv w (.slice a1 a2 a3) n L∧Nv w (.slice e1 e2 e3) e L):=⟨hn,he⟩
 have HKV:Hid (Kv w (.agg #[.slice a1 a2 a3,.slice e1 e2 e3]) n e L):=hk;obtain⟨BB,hBB⟩:∃BB,verB n e hs m bs=BB:=⟨_,rfl⟩
 rw[hBB];have HKB:Hid ((keyB n e&&(decide ((m:Int)=szZ n)&&(decide (val 256 bs.reverse<n)&&decide (val 256 bs.reverse^e.toNat%n=val 256 (padA (m:Int) hs).reverse))))=BB):=hBB;have HF:Hid (keyB n e=true→62≤szZ n∧szZ n≤256∧n%2=1∧3≤e∧e<n):=keyB_facts;have hml:m≤1073741824:=hb.sm;clear hb hk hn he hBB;go_enter Tryz.func20,Tryz.ntmps20;go_wp2_with (first
  | ((with_reducible show wpList _ _ _ (Oper.mk _ (Op.box 71 _) _ _ _ _::_) _ _);refine wpList_box_row (w:=w.alloc (.cells #[.slice a1 a2 a3,.slice e1 e2 e3] 28)) (by with_reducible rfl) 71 _ (by with_reducible rfl) .u8 hs rfl ?_;intro w1 hr1 hb1 hs1;obtain⟨u0,u1⟩:=cells2 (W:=w1) (t:=28) ((hb1.block w.heap.size (by rw[alloc_sz7];omega)).trans (heap_alloc_new w _))))
 have b0:=(Below.refl w.heap.size w).alloc (Nat.le_refl _) (.cells #[.slice a1 a2 a3,.slice e1 e2 e3] 28);have z0:=alloc_sz7 w (.cells #[.slice a1 a2 a3,.slice e1 e2 e3] 28);have hblk:(w.alloc (.cells #[.slice a1 a2 a3,.slice e1 e2 e3] 28)).heap[w.heap.size]?=some (.cells #[.slice a1 a2 a3,.slice e1 e2 e3] 28 (0,0)):=heap_alloc_new w _;generalize w.alloc (.cells #[.slice a1 a2 a3,.slice e1 e2 e3] 28)=wz at *;rw[z0]at hr1 hs1;have B1:Hid (Below w.heap.size w w1):=b0.trans (hb1.mono b0.size);have HX:Hid (∀W,Below w1.heap.size w1 W→W.cell? ⟨w.heap.size,0,none⟩=some (.slice a1 a2 a3)∧W.cell? ⟨w.heap.size,1,none⟩=some (.slice e1 e2 e3)):=fun W hW=>cells2 (t:=28) (by rw[hW.block _ (by omega),hb1.block _ (by omega)];exact hblk);have HR:Hid (∀W,Below w1.heap.size w1 W→Row 71 .u8 W (w.heap.size+1) hs):=fun W hW=>hr1.below hW (by omega);clear b0 z0 hblk hr1 hb1 hs1 u0 u1;refine(HSZ w1 B1.out).mono ?_;rintro r w2 ⟨rfl,d2⟩;have D2:Hid (Below w1.heap.size w1 w2):=d2;obtain⟨x0,x1⟩:=HX.out w2 d2;clear d2;go_wp2_with fail
 refine(HCK w2 (B1.out.trans (D2.out.mono B1.out.size))).mono ?_;rintro r w3 ⟨rfl,d3⟩;have D3:Hid (Below w1.heap.size w1 w3):=D2.out.trans (d3.mono D2.out.size);have E3:Hid (Below w.heap.size w w3):=B1.out.trans (D3.out.mono B1.out.size);clear d3 x0 x1
 cases hkb:keyB n e with
 | false=>
  have hB':BB=false:=by rw[←HKB.out];simp[hkb]
  rw[if_neg (by simp)];clear HKB HF;subst hB';go_wp2;go_ret;exact⟨rfl,E3.out⟩
 | true =>
  rw[if_pos rfl];have hkf:=HF.out hkb;by_cases hm:(m:Int)=szZ n
  rotate_left
  ·have hB':BB=false:=by rw[←HKB.out];simp[hm]
   have hmb:((m:Int) != szZ n)=true:=by simp[hm]
   clear HKB HF;subst hB';generalize szZ n=sz at *;go_wp2;go_ret;exact⟨rfl,E3.out⟩
  ·have HS:Hid (szZ n=(m:Int)):=hm.symm;have hm2:m≤256:=by omega
   have HRD:=read_nv _ bs w3 ⟨ao,m,c,rfl,HBS.out.old E3.out⟩ (by rw[HBS.out.len];omega);have hn1:3<n:=by omega
   rw[hm.symm];clear HF hm;go_wp2_with fail
   refine HRD.mono ?_;rintro r w4 ⟨v4,rfl,hv4,d4⟩;have D4:Hid (Below w1.heap.size w1 w4):=D3.out.trans (d4.mono D3.out.size);have E4:Hid (Below w.heap.size w w4):=B1.out.trans (D4.out.mono B1.out.size);obtain⟨x0,x1⟩:=HX.out w4 D4.out;have HCM:=cmp_kv v4 (.slice a1 a2 a3) (val 256 bs.reverse) n 64 L w4 hv4 (HN.out.1.old E4.out);have HV4:Hid (Nv w4 v4 (val 256 bs.reverse) 64):=hv4;obtain⟨q1,q2,q3,q4,rfl,-⟩:=hv4;have hq:=cmpI_ge (val 256 bs.reverse) n;generalize cmpI (val 256 bs.reverse) n=c1 at *;clear HRD d4;go_wp2_with fail
   refine HCM.mono ?_;rintro r w5 ⟨rfl,d5⟩;have D5:Hid (Below w1.heap.size w1 w5):=D4.out.trans (d5.mono D4.out.size);have E5:Hid (Below w.heap.size w w5):=B1.out.trans (D5.out.mono B1.out.size);have HV5:Hid (Nv w5 (.slice q1 q2 q3) (val 256 bs.reverse) 64):=HV4.out.old d5;clear x0 x1 HCM d5;by_cases hge:n≤val 256 bs.reverse
   ·have hB':BB=false:=by rw[←HKB.out,decide_eq_false (show ¬val 256 bs.reverse<n by omega)];simp
    have hc1:=hq.2 hge;clear HKB hq hge;subst hB';go_wp2;go_ret;exact⟨rfl,E5.out⟩
   ·have hc1:¬0≤c1:=fun h=>hge (hq.1 h);obtain⟨x0,x1⟩:=HX.out w5 D5.out;have HPW:=pow_nv (.slice q1 q2 q3) (.slice e1 e2 e3) (.slice a1 a2 a3) _ e n 64 L L w5 HV5.out (HN.out.2.old E5.out) (HN.out.1.old E5.out) (by omega) (by omega) (by decide) (by omega);have HKB2:Hid (decide (val 256 bs.reverse^e.toNat%n=val 256 (padA (m:Int) hs).reverse)=BB):=by
     unfold Hid;rw[←HKB.out,hkb,HS.out,decide_eq_true (show val 256 bs.reverse<n by omega)];simp
    clear HKB hq hge hkb;go_wp2_with fail
    refine HPW.mono ?_;rintro r w6 ⟨v6,rfl,hv6,d6⟩;have D6:Hid (Below w1.heap.size w1 w6):=D5.out.trans (d6.mono D5.out.size);have E6:Hid (Below w.heap.size w w6):=B1.out.trans (D6.out.mono B1.out.size);have HV6:Hid (Nv w6 v6 (val 256 bs.reverse^e.toNat%n) L):=hv6;obtain⟨p1,p2,p3,p4,rfl,-⟩:=hv6;have HROW:Hid (Row 71 .u8 w6 (w.heap.size+1) hs):=HR.out w6 D6.out;have HPD:=Pad_any (m:Int) hs w6 hl hd;clear x0 x1 HPW d6;go_wp2_with (first
     | ((with_reducible show wpList _ _ _ (Oper.mk _ (Op.load 71 _) _ _ _ _::_) _ _);refine wpList_load_nums (by with_reducible rfl) 71 _ (by with_reducible rfl) .u8 71 5 32 Tryz.underlying71 Tryz.sizeB32 (w.heap.size+1) hs (by rfl) HROW.out hl ?_))
    refine HPD.mono ?_;rintro r w7 ⟨v7,rfl,hv7,d7⟩;have HRD:=read_nv v7 _ w7 hv7 (padA_len _ _ hl);have HV7:Hid (Nv w7 (.slice p1 p2 p3) (val 256 bs.reverse^e.toNat%n) L):=HV6.out.old d7;have E7:Hid (Below w.heap.size w w7):=E6.out.trans (d7.mono E6.out.size);obtain⟨s1,s2,s3,rfl,-⟩:=hv7;clear HPD d7;go_wp2_with fail
    refine HRD.mono ?_;rintro r w8 ⟨v8,rfl,hv8,d8⟩;have HCM:=cmp_kv (.slice p1 p2 p3) v8 _ _ L 64 w8 (HV7.out.old d8) hv8;have E8:Hid (Below w.heap.size w w8):=E7.out.trans (d8.mono E7.out.size);obtain⟨t1,t2,t3,t4,rfl,-⟩:=hv8;have hz:=cmpI_z (val 256 bs.reverse^e.toNat%n) (val 256 (padA (m:Int) hs).reverse);generalize cmpI (val 256 bs.reverse^e.toNat%n) (val 256 (padA (m:Int) hs).reverse)=c2 at *;clear HRD d8;go_wp2_with fail
    refine HCM.mono ?_;rintro r w9 ⟨rfl,d9⟩;have E9:Hid (Below w.heap.size w w9):=E8.out.trans (d9.mono E8.out.size);clear HCM d9;by_cases he:val 256 bs.reverse^e.toNat%n=val 256 (padA (m:Int) hs).reverse
    ·have hB':BB=true:=by rw[←HKB2.out];simp[he]
     have hc2:=hz.2 he;clear hz he HKB2;subst hB';subst hc2;go_wp2;go_ret;exact⟨rfl,E9.out⟩
    ·have hB':BB=false:=by rw[←HKB2.out];simp[he]
     have hc2:(c2==0)=false:=by simp;exact fun h=>he (hz.1 h)
     clear hz he HKB2;subst hB';go_wp2;go_ret;exact⟨rfl,E9.out⟩
theorem power_full(k:Value)(n e:Int)(L:Nat)(hs:List Int)(ao:Option Addr)(m c:Nat)(bs:List Int)(w:World)(hk:Kv w k n e L)(hL:L≤64)(hl:hs.length=32)(hd:Dg 256 hs)(hb:NumIn .u8 256 w ao m c bs):
  Calls Tryz.prog 24 #[k,ag .u8 hs,.slice ao m c] w fun r w'=>r=.returned (.bool (verB n e hs m bs))∧Below w.heap.size w w':=by
 have HBS:Hid (NumIn .u8 256 w ao m c bs):=hb;have hk2:=hk;have HSZ:=fun W (hb:Below w.heap.size w W)=>size_any k n e L W (hk.old hb) (by omega);have HCK:=fun W (hb:Below w.heap.size w W)=>check_any k n e L W (hk.old hb) (by omega);obtain⟨vn,ve,rfl,hn,he⟩:=hk2;have hn2:=hn;have he2:=he;obtain⟨a1,a2,a3,a4,rfl,-⟩:=hn2;obtain⟨e1,e2,e3,e4,rfl,-⟩:=he2;have HN:Hid (Nv w (.slice a1 a2 a3) n L∧Nv w (.slice e1 e2 e3) e L):=⟨hn,he⟩
 have HKV:Hid (Kv w (.agg #[.slice a1 a2 a3,.slice e1 e2 e3]) n e L):=hk;obtain⟨BB,hBB⟩:∃BB,verB n e hs m bs=BB:=⟨_,rfl⟩
 rw[hBB];have HKB:Hid ((keyB n e&&(decide ((m:Int)=szZ n)&&(decide (val 256 bs.reverse<n)&&decide (val 256 bs.reverse^e.toNat%n=val 256 (padA (m:Int) hs).reverse))))=BB):=hBB;have HF:Hid (keyB n e=true→62≤szZ n∧szZ n≤256∧n%2=1∧3≤e∧e<n):=keyB_facts;have hml:m≤1073741824:=hb.sm;clear hb hk hn he hBB;have HRS:=fun W (hb:Below w.heap.size w W)=>rrsa_full _ n e L W (HKV.out.old hb) (by omega);have HRZ:=fun W (hb:Below w.heap.size w W)=>rsize_any _ n e L W (HKV.out.old hb) (by omega);clear HSZ HCK;go_enter Tryz.func24,Tryz.ntmps24;go_wp2_with (first
  | ((with_reducible show wpList _ _ _ (Oper.mk _ (Op.box 71 _) _ _ _ _::_) _ _);refine wpList_box_row (w:=w.alloc (.cells #[.slice a1 a2 a3,.slice e1 e2 e3] 28)) (by with_reducible rfl) 71 _ (by with_reducible rfl) .u8 hs rfl ?_;intro w1 hr1 hb1 hs1;obtain⟨u0,u1⟩:=cells2 (W:=w1) (t:=28) ((hb1.block w.heap.size (by rw[alloc_sz7];omega)).trans (heap_alloc_new w _))))
 have b0:=(Below.refl w.heap.size w).alloc (Nat.le_refl _) (.cells #[.slice a1 a2 a3,.slice e1 e2 e3] 28);have z0:=alloc_sz7 w (.cells #[.slice a1 a2 a3,.slice e1 e2 e3] 28);have hblk:(w.alloc (.cells #[.slice a1 a2 a3,.slice e1 e2 e3] 28)).heap[w.heap.size]?=some (.cells #[.slice a1 a2 a3,.slice e1 e2 e3] 28 (0,0)):=heap_alloc_new w _;generalize w.alloc (.cells #[.slice a1 a2 a3,.slice e1 e2 e3] 28)=wz at *;rw[z0]at hr1 hs1;have B1:Hid (Below w.heap.size w w1):=b0.trans (hb1.mono b0.size);have HX:Hid (∀W,Below w1.heap.size w1 W→W.cell? ⟨w.heap.size,0,none⟩=some (.slice a1 a2 a3)∧W.cell? ⟨w.heap.size,1,none⟩=some (.slice e1 e2 e3)):=fun W hW=>cells2 (t:=28) (by rw[hW.block _ (by omega),hb1.block _ (by omega)];exact hblk);have HR:Hid (∀W,Below w1.heap.size w1 W→Row 71 .u8 W (w.heap.size+1) hs):=fun W hW=>hr1.below hW (by omega);clear b0 z0 hblk hr1 hb1 hs1 u0 u1;refine(HRS w1 B1.out).mono ?_;rintro r w3 ⟨rfl,d3⟩;have D3:Hid (Below w1.heap.size w1 w3):=d3;have E3:Hid (Below w.heap.size w w3):=B1.out.trans (D3.out.mono B1.out.size);obtain⟨x0,x1⟩:=HX.out w3 d3;clear d3
 cases hkb:keyB n e with
 | false=>
  have hB':BB=false:=by rw[←HKB.out];simp[hkb]
  clear HKB HF;subst hB';go_wp2;go_ret;exact⟨rfl,E3.out⟩
 | true =>
  have hkf:=HF.out hkb;go_wp2_with fail
  refine(HRZ w3 E3.out).mono ?_;rintro r w2 ⟨rfl,d2⟩;have D2:Hid (Below w1.heap.size w1 w2):=D3.out.trans (d2.mono D3.out.size);have E2:Hid (Below w.heap.size w w2):=B1.out.trans (D2.out.mono B1.out.size);clear x0 x1 d2;by_cases hm:(m:Int)=szZ n
  rotate_left
  ·have hB':BB=false:=by rw[←HKB.out];simp[hm]
   have hmb:((m:Int) != szZ n)=true:=by simp[hm]
   clear HKB HF;subst hB';generalize szZ n=sz at *;go_wp2;go_ret;exact⟨rfl,E2.out⟩
  ·have HS:Hid (szZ n=(m:Int)):=hm.symm;have hm2:m≤256:=by omega
   have HO:=rOf_rv (.slice a1 a2 a3) n L w2 (HN.out.1.old E2.out) (by omega);have hn1:3<n:=by omega
   obtain⟨x0,x1⟩:=HX.out w2 D2.out;rw[hm.symm];clear HF hm;go_wp2_with fail
   refine HO.mono ?_;rintro r w4 ⟨vN,rfl,hvN,d4⟩;have D4:Hid (Below w1.heap.size w1 w4):=D2.out.trans (d4.mono D2.out.size);have E4:Hid (Below w.heap.size w w4):=B1.out.trans (D4.out.mono B1.out.size);have HRD:=rread_rv _ bs 128 w4 ⟨ao,m,c,rfl,HBS.out.old E4.out⟩ (by rw[HBS.out.len];omega) (by decide);have HVN:Hid (Rv w4 vN n (4*L)):=hvN;obtain⟨g1,g2,g3,g4,rfl,-⟩:=hvN;clear HO d4 x0 x1;go_wp2_with fail
   refine HRD.mono ?_;rintro r w5 ⟨vS,rfl,hvS,d5⟩;have D5:Hid (Below w1.heap.size w1 w5):=D4.out.trans (d5.mono D4.out.size);have E5:Hid (Below w.heap.size w w5):=B1.out.trans (D5.out.mono B1.out.size);have HVN5:Hid (Rv w5 (.slice g1 g2 g3) n (4*L)):=HVN.out.old d5;have HVS:Hid (Rv w5 vS (val 256 bs.reverse) 128):=hvS;have HCM:=rCmp_rv vS (.slice g1 g2 g3) _ n 128 (4*L) w5 hvS HVN5.out (by decide) (by omega);obtain⟨q1,q2,q3,q4,rfl,-⟩:=hvS;have hq:=cmpI_ge (val 256 bs.reverse) n;generalize cmpI (val 256 bs.reverse) n=c1 at *;clear HRD d5;go_wp2_with fail
   refine HCM.mono ?_;rintro r w6 ⟨rfl,d6⟩;have D6:Hid (Below w1.heap.size w1 w6):=D5.out.trans (d6.mono D5.out.size);have E6:Hid (Below w.heap.size w w6):=B1.out.trans (D6.out.mono B1.out.size);have HVN6:Hid (Rv w6 (.slice g1 g2 g3) n (4*L)):=HVN5.out.old d6;have HVS6:Hid (Rv w6 (.slice q1 q2 q3) (val 256 bs.reverse) 128):=HVS.out.old d6;clear HCM d6;by_cases hge:n≤val 256 bs.reverse
   ·have hB':BB=false:=by rw[←HKB.out,decide_eq_false (show ¬val 256 bs.reverse<n by omega)];simp
    have hc1:=hq.2 hge;clear HKB hq hge;subst hB';go_wp2;go_ret;exact⟨rfl,E6.out⟩
   ·have hc1:¬0≤c1:=fun h=>hge (hq.1 h);obtain⟨x0,x1⟩:=HX.out w6 D6.out;have HO:=rOf_rv (.slice e1 e2 e3) e L w6 (HN.out.2.old E6.out) (by omega);have HKB2:Hid (decide (val 256 bs.reverse^e.toNat%n=val 256 (padA (m:Int) hs).reverse)=BB):=by
     unfold Hid;rw[←HKB.out,hkb,HS.out,decide_eq_true (show val 256 bs.reverse<n by omega)];simp
    clear HKB hq hge hkb;go_wp2_with fail
    refine HO.mono ?_;rintro r w7 ⟨vE,rfl,hvE,d7⟩;have D7:Hid (Below w1.heap.size w1 w7):=D6.out.trans (d7.mono D6.out.size);have E7:Hid (Below w.heap.size w w7):=B1.out.trans (D7.out.mono B1.out.size);have HPW:=rpow_rv (.slice q1 q2 q3) vE (.slice g1 g2 g3) _ e n 128 (4*L) (4*L) w7 (HVS6.out.old d7) hvE (HVN6.out.old d7) (by omega) (by omega) (by decide) (by omega);obtain⟨o1,o2,o3,o4,rfl,-⟩:=hvE;clear HO d7 x0 x1;go_wp2_with fail
    refine HPW.mono ?_;rintro r w8 ⟨vM,rfl,hvM,d8⟩;have D8:Hid (Below w1.heap.size w1 w8):=D7.out.trans (d8.mono D7.out.size);have E8:Hid (Below w.heap.size w w8):=B1.out.trans (D8.out.mono B1.out.size);have HVM:Hid (Rv w8 vM (val 256 bs.reverse^e.toNat%n) (4*L)):=hvM;obtain⟨p1,p2,p3,p4,rfl,-⟩:=hvM;have HROW:Hid (Row 71 .u8 w8 (w.heap.size+1) hs):=HR.out w8 D8.out;have HPD:=rPad_any (m:Int) hs w8 hl hd;clear HPW d8;go_wp2_with (first
     | ((with_reducible show wpList _ _ _ (Oper.mk _ (Op.load 71 _) _ _ _ _::_) _ _);refine wpList_load_nums (by with_reducible rfl) 71 _ (by with_reducible rfl) .u8 71 5 32 Tryz.underlying71 Tryz.sizeB32 (w.heap.size+1) hs (by rfl) HROW.out hl ?_))
    refine HPD.mono ?_;rintro r w9 ⟨v7,rfl,hv7,d9⟩;have HRD:=rread_rv v7 _ 256 w9 hv7 (padA_len _ _ hl) (by decide);have HVM9:Hid (Rv w9 (.slice p1 p2 p3) (val 256 bs.reverse^e.toNat%n) (4*L)):=HVM.out.old d9;have E9:Hid (Below w.heap.size w w9):=E8.out.trans (d9.mono E8.out.size);obtain⟨s1,s2,s3,rfl,-⟩:=hv7;clear HPD d9;go_wp2_with fail
    refine HRD.mono ?_;rintro r wA ⟨v8,rfl,hv8,dA⟩;have HCM:=rCmp_rv (.slice p1 p2 p3) v8 _ _ (4*L) 256 wA (HVM9.out.old dA) hv8 (by omega) (by decide);have EA:Hid (Below w.heap.size w wA):=E9.out.trans (dA.mono E9.out.size);obtain⟨t1,t2,t3,t4,rfl,-⟩:=hv8;have hz:=cmpI_z (val 256 bs.reverse^e.toNat%n) (val 256 (padA (m:Int) hs).reverse);generalize cmpI (val 256 bs.reverse^e.toNat%n) (val 256 (padA (m:Int) hs).reverse)=c2 at *;clear HRD dA;go_wp2_with fail
    refine HCM.mono ?_;rintro r wB ⟨rfl,dB⟩;have EB:Hid (Below w.heap.size w wB):=EA.out.trans (dB.mono EA.out.size);clear HCM dB;by_cases he:val 256 bs.reverse^e.toNat%n=val 256 (padA (m:Int) hs).reverse
    ·have hB':BB=true:=by rw[←HKB2.out];simp[he]
     have hc2:=hz.2 he;clear hz he HKB2;subst hB';subst hc2;go_wp2;go_ret;exact⟨rfl,EB.out⟩
    ·have hB':BB=false:=by rw[←HKB2.out];simp[he]
     have hc2:(c2==0)=false:=by simp;exact fun h=>he (hz.1 h)
     clear hz he HKB2;subst hB';go_wp2;go_ret;exact⟨rfl,EB.out⟩
end
end Go.Proofs.YtkhnnhbmchnajaaGreat
