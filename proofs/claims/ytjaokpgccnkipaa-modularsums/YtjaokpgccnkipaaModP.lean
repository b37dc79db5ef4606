/-
  Contract of modular.Pow.
-/
import Derived.Test.YtjaokpgccnkipaaModC
import Derived.Stop.RegionWithIn
import Derived.Deep.RegionHeld3
namespace Go.Proofs.Ytjaokpgccnkipaa
open Go.RowKit Go.Shelf
set_option linter.unusedVariables false
set_option linter.unusedSimpArgs false
attribute [local go_sem] Oper.semAt_some

/-- Between two rounds: the modulus, the base and the power in their cells. -/
def PGo (w : World) (g5 g8 g : Nat) (mo : Option Addr) (lm cm : Nat) (ms : List Int) (a1 : Option Addr) (l1 c1 : Nat) (zs : List Int) (M X : Int) (pre : List (Int × Bool)) (W : World) : Prop :=
  (Kc W g5 (.slice mo lm cm) ∧ Kc W g8 (.slice a1 l1 c1) ∧ NumIn .u64 B64 W a1 l1 c1 zs ∧ ∃ a l c xs, Kc W g (.slice a l c) ∧ NumIn .u64 B64 W a l c xs ∧ Canon xs ∧ val B64 xs = pfold M X pre ∧ l ≤ lm) ∧ Below w.heap.size w W
theorem PGo.kept {w : World} {g5 g8 g : Nat} {mo : Option Addr} {lm cm : Nat} {ms : List Int} {a1 : Option Addr} {l1 c1 : Nat} {zs : List Int} {M X : Int} {B : Nat} (hB : w.heap.size ≤ B) : OwnFrom B (PGo w g5 g8 g mo lm cm ms a1 l1 c1 zs M X) := by
  rintro pre A A' row ⟨⟨h1, h2, h3, a, l, c, xs, h4, h5, h6⟩, h7⟩ hg hr
  have hr2 := fun r e => (hr r e).2
  exact ⟨⟨h1.kept hg hr2, h2.kept hg hr2, h3.keptc hg hr2, a, l, c, xs, h4.kept hg hr2, h5.keptc hg hr2, h6⟩, ownFrom_below (β := Unit) (Nat.le_refl _) hB () A A' row h7 hg hr⟩

theorem wpIn_noPanic {F : Fence} {n : Nat} {P : Program} {c : Code} {Q : Exit → Act → World → Prop} {a : Act} {w : World} (h : c.wpIn F n P (NoPanic Q) a w) : c.wpIn F n P Q a w :=
  Code.wpIn_mono NoPanic.imp h

set_option maxRecDepth 100000 in
set_option maxHeartbeats 4000000 in
/-- modular.Pow. -/
theorem mPow_any (ao no mo : Option Addr) (la ca ln cn lm cm : Nat) (xs ns ms : List Int) (w : World) (h : NumIn .u64 B64 w ao la ca xs) (hn : NumIn .u64 B64 w no ln cn ns) (h' : NumIn .u64 B64 w mo lm cm ms) (h0 : val B64 ms ≠ 0) (hln : ln ≤ 70) (hsm : la + lm < 100000000) :
    Calls Try.prog 25 #[.slice ao la ca, .slice no ln cn, .slice mo lm cm] w fun e w' => ∃ v, e = .returned (.tuple #[v, .int .i64 0]) ∧ NumOut .u64 B64 w w' v (val B64 xs ^ (val B64 ns).toNat % val B64 ms) lm := by
  obtain ⟨w1, hw1⟩ : ∃ w1, w.alloc (.cells #[.slice mo lm cm] 23) = w1 := ⟨_, rfl⟩
  have hb1 : Below w.heap.size w (w.alloc (.cells #[.slice mo lm cm] 23)) := (Below.refl _ _).alloc (Nat.le_refl _) _
  have K5 : Hid (Kc (w.alloc (.cells #[.slice mo lm cm] 23)) w.heap.size (.slice mo lm cm)) := Kc.new _ _ _ _ rfl
  have c5a := K5.out.1
  have HO := mOf_any ao mo la ca lm cm xs ms (w.alloc (.cells #[.slice mo lm cm] 23)) (h.old hb1) (h'.old hb1) h0 (by omega)
  have NN : Hid (NumIn .u64 B64 (w.alloc (.cells #[.slice mo lm cm] 23)) no ln cn ns) := hn.old hb1
  have NM : Hid (NumIn .u64 B64 w mo lm cm ms) := h'
  have hM := val_nonneg B64_pos h'.dg
  have HZ : Hid (val B64 ms ≠ 0 ∧ 0 < val B64 ms ∧ lm < 100000000) := ⟨h0, by omega, by omega⟩
  have HVN : Hid (0 ≤ val B64 ns) := val_nonneg B64_pos hn.dg
  rw [hw1] at hb1 c5a HO NN K5
  have B1 : Hid (Below w.heap.size w w1) := hb1
  clear h hn h' hb1 h0 hM
  refine (callsIn_wide (n := 4)).1 ?_
  refine callsIn_of_wp_marks Try.func25 rfl trivial ?_ rfl
  simp only [Try.ntmps25, List.size_toArray, List.length_cons, List.length_nil, Nat.reduceAdd, Nat.reduceSub, Array.replicate_succ, Array.replicate_zero, List.push_toArray, List.append_toArray, List.nil_append, List.cons_append]
  gi_wp2_with fail
  refine ⟨trivial, ?_⟩
  refine (callsIn_wide.2 HO).mono ?_
  rintro e w2 ⟨v, rfl, a1, l1, c1, zs, rfl, n1, n2, n3, n4, n5⟩
  clear hw1
  have NX : Hid (NumIn .u64 B64 w2 a1 l1 c1 zs ∧ Canon zs ∧ val B64 zs = val B64 xs % val B64 ms ∧ l1 ≤ lm) := ⟨n1, n2, n3, n4⟩
  replace K5 : Hid (Kc w2 w.heap.size (.slice mo lm cm)) := K5.out.old n5
  replace NN : Hid (NumIn .u64 B64 w2 no ln cn ns) := NN.out.old n5
  replace B1 : Hid (Below w.heap.size w w2) := B1.out.trans (n5.mono B1.out.size)
  clear HO c5a n1 n2 n3 n4 n5
  gi_wp2_with fail
  rename_i K0 a0
  have HA0 : Hid _ := a0
  have K8 : Hid (Kc (w2.alloc (.cells #[.slice a1 l1 c1] 23)) w2.heap.size (.slice a1 l1 c1)) := Kc.new _ _ _ _ rfl
  have hb3 : Below w2.heap.size w2 (w2.alloc (.cells #[.slice a1 l1 c1] 23)) := (Below.refl _ _).alloc (Nat.le_refl _) _
  replace NX : Hid (NumIn .u64 B64 (w2.alloc (.cells #[.slice a1 l1 c1] 23)) a1 l1 c1 zs ∧ Canon zs ∧ val B64 zs = val B64 xs % val B64 ms ∧ l1 ≤ lm) := ⟨NX.out.1.old hb3, NX.out.2⟩
  replace K5 : Hid (Kc (w2.alloc (.cells #[.slice a1 l1 c1] 23)) w.heap.size (.slice mo lm cm)) := K5.out.old hb3
  replace NN : Hid (NumIn .u64 B64 (w2.alloc (.cells #[.slice a1 l1 c1] 23)) no ln cn ns) := NN.out.old hb3
  replace B1 : Hid (Below w.heap.size w (w2.alloc (.cells #[.slice a1 l1 c1] 23))) := B1.out.trans (hb3.mono B1.out.size)
  clear hb3 a0
  generalize w2.alloc (.cells #[.slice a1 l1 c1] 23) = w3 at *
  have HREST : Hid (∀ (v24 : Value) (a5 : Option Addr) (l5 c5 : Nat) (x5 : List Int) (g : Nat) (W : World), Below w3.heap.size w3 W → w3.heap.size ≤ g → Kc W g (.slice a5 l5 c5) → NumIn .u64 B64 W a5 l5 c5 x5 → Canon x5 → val B64 x5 = 1 % val B64 ms → l5 ≤ lm → K0 { tmps := #[.slice ao la ca, .slice no ln cn, .slice mo lm cm, undef, undef, .pointer (some ⟨w.heap.size, 0, none⟩), .slice none 0 0, .int .i64 0, .pointer (some ⟨w2.heap.size, 0, none⟩), .int .i64 0, .pointer (some ⟨g, 0, none⟩), .int .i64 0, undef, undef, .tuple #[.slice a1 l1 c1, .int .i64 0], .slice ao la ca, .slice mo lm cm, .tuple #[.slice a1 l1 c1, .int .i64 0], .slice a1 l1 c1, .int .i64 0, .int .i64 0, .bool false, undef, .tuple #[.slice a5 l5 c5, .int .i64 0], v24, .slice mo lm cm, .tuple #[.slice a5 l5 c5, .int .i64 0], .slice a5 l5 c5, .int .i64 0, undef, undef, undef, undef, undef, undef, undef, undef, undef, undef, undef, undef, undef, undef, undef, undef, undef, undef, undef, undef], defers := [] } W) := by
    intro v24 a5 l5 c5 x5 g W hW hgw hk hx5 hcx hvx hlx
    refine HA0.out _ _ ?_
    clear HA0
    have HBITS := Bits_new no ln cn ns W (NN.out.old hW) hln
    have KW5 : Hid (Kc W w.heap.size (.slice mo lm cm)) := K5.out.old hW
    have KW8 : Hid (Kc W w2.heap.size (.slice a1 l1 c1)) := K8.out.old hW
    have HG : Hid (g < W.heap.size ∧ w.heap.size < w3.heap.size ∧ w2.heap.size < w3.heap.size ∧ w3.heap.size ≤ g) := ⟨hk.lt, K5.out.lt, K8.out.lt, hgw⟩
    have KWg : Hid (Kc W g (.slice a5 l5 c5)) := hk
    have BW : Hid (Below w.heap.size w W) := B1.out.trans (hW.mono B1.out.size)
    have NXW : Hid (NumIn .u64 B64 W a1 l1 c1 zs ∧ Canon zs ∧ val B64 zs = val B64 xs % val B64 ms ∧ l1 ≤ lm) := ⟨NX.out.1.old hW, NX.out.2⟩
    have NPW : Hid (NumIn .u64 B64 W a5 l5 c5 x5 ∧ Canon x5 ∧ val B64 x5 = 1 % val B64 ms ∧ l5 ≤ lm) := ⟨hx5, hcx, hvx, hlx⟩
    clear hk hW hgw hx5 hcx hvx hlx K5 K8 NX NN B1
    gi_wp2_with fail
    refine ⟨trivial, ?_⟩
    refine (callsIn_wide.2 HBITS).mono ?_
    rintro e W6 ⟨g3, g4, rfl, hBA, hbl, hg3⟩
    have KL : Hid (val B64 ns < 2 ^ blen (val B64 ns).toNat) := by
      unfold Hid
      have := blen_lt (val B64 ns).toNat
      have h1 := HVN.out
      have e : ((2 ^ blen (val B64 ns).toNat : Nat) : Int) = 2 ^ blen (val B64 ns).toNat := by rw [Int.natCast_pow]; rfl
      omega
    generalize blen (val B64 ns).toNat = L at *
    have HGI : Hid (PGo w w.heap.size w2.heap.size g mo lm cm ms a1 l1 c1 zs (val B64 ms) (val B64 xs % val B64 ms) [] W6) :=
      ⟨⟨KW5.out.old hbl, KW8.out.old hbl, NXW.out.1.old hbl, a5, l5, c5, x5, KWg.out.old hbl, NPW.out.1.old hbl, NPW.out.2.1, NPW.out.2.2.1, NPW.out.2.2.2⟩, BW.out.trans (hbl.mono BW.out.size)⟩
    have HNE : Hid (g ≠ g3) := by unfold Hid; have := HG.out; omega
    have HW6 : Hid (w.heap.size ≤ W6.heap.size) := HGI.out.2.size
    have HXV : Hid (val B64 zs = val B64 xs % val B64 ms ∧ l1 ≤ lm) := NXW.out.2.2
    have HGS : Hid (w.heap.size ≤ g ∧ w.heap.size ≠ g ∧ w2.heap.size ≠ g) := by unfold Hid; have := HG.out; omega
    clear KW5 KW8 KWg NXW NPW BW hbl HBITS hg3 HG
    gi_wp2
    refine wpIn_rangeFunc_ownF rfl (by omega) (gf := 62) (lb := #[.pointer (some ⟨g4, 0, none⟩), .pointer (some ⟨g3, 0, none⟩)]) rfl trivial (enters_of Try.func62 (by kernel_rfl) rfl)
      (bits_stopsI (4 - 1) (by omega) W6 g3 g4 (val B64 ns) L hBA) (fun h k hB => k (h hB)) (fun W l o o' _ hl hc _ hB => hB.keptc (grownBy_putObj' W l o') (fun r e => by cases e; exact ⟨o, hl, hc⟩)) (Below.refl _ _) (fun _ => rfl)
      (PGo w w.heap.size w2.heap.size g mo lm cm ms a1 l1 c1 zs (val B64 ms) (val B64 xs % val B64 ms)) (fun _ _ _ => False)
      (PGo.kept HW6.out) (fun _ _ _ _ _ hs _ _ => hs) HGI.out
      (fun x => { tmps := #[.slice ao la ca, .slice no ln cn, .slice mo lm cm, undef, undef, .pointer (some ⟨w.heap.size, 0, none⟩), .slice none 0 0, .int .i64 0, .pointer (some ⟨w2.heap.size, 0, none⟩), .int .i64 0, .pointer (some ⟨g, 0, none⟩), .int .i64 0, undef, .bool x.2, .tuple #[.slice a1 l1 c1, .int .i64 0], .slice ao la ca, .slice mo lm cm, .tuple #[.slice a1 l1 c1, .int .i64 0], .slice a1 l1 c1, .int .i64 0, .int .i64 0, .bool false, undef, .tuple #[.slice a5 l5 c5, .int .i64 0], v24, .slice mo lm cm, .tuple #[.slice a5 l5 c5, .int .i64 0], .slice a5 l5 c5, .int .i64 0, .slice no ln cn, .func (.func 62) #[] #[.pointer (some ⟨g4, 0, none⟩), .pointer (some ⟨g3, 0, none⟩)], .int .i64 x.1, .bool x.2, undef, undef, undef, undef, undef, undef, undef, undef, undef, undef, undef, undef, undef, undef, undef, undef], defers := [] }) ?assign ?body ?done ?stop
    case assign =>
      intro l x W' K hK
      gi_wp2
      exact hK
    case body =>
      rintro l pre ⟨x1, x2⟩ W' ⟨⟨h5, h8, hz, a, lp, cp, ps, hg, hp, hcp, hvp, hlp⟩, hbW⟩ hlen
      have HM1 := mMul_any a a mo lp cp lp cp lm cm ps ps ms W' hp hp (NM.out.old hbW) HZ.out.1 (by have := HZ.out.2.2; omega)
      rw [hvp] at HM1
      have k10 := hg.1
      have k5 := h5.1
      have H5 : Hid (Kc W' w.heap.size (.slice mo lm cm)) := h5
      have H8 : Hid (Kc W' w2.heap.size (.slice a1 l1 c1)) := h8
      have HGc : Hid (Kc W' g (.slice a lp cp)) := hg
      have HNz : Hid (NumIn .u64 B64 W' a1 l1 c1 zs) := hz
      have HBW : Hid (Below w.heap.size w W') := hbW
      clear h5 h8 hg hz hp hcp hvp hlp hbW hBA HGI
      generalize hpf : pfold (val B64 ms) (val B64 xs % val B64 ms) pre = pf at *
      have HPF : Hid (pfold (val B64 ms) (val B64 xs % val B64 ms) pre = pf) := hpf
      clear hpf
      gi_wp2_with fail
      refine ⟨trivial, ?_⟩
      refine (CallsIn.inRound l (callsIn_wide.2 HM1)).mono ?_
      rintro e W2 ⟨v, rfl, a2, l2, c2, qs, rfl, q1, q2, q3, q4, q5⟩
      have g2 := HGc.out.old q5
      have k10b := g2.1
      have f10b := g2.2
      have HG2 : Hid (Kc W2 g (.slice a lp cp)) := g2
      have HQ : Hid (NumIn .u64 B64 W2 a2 l2 c2 qs ∧ Canon qs ∧ val B64 qs = pf * pf % val B64 ms ∧ l2 ≤ lm) := ⟨q1, q2, q3, q4⟩
      replace H5 : Hid (Kc W2 w.heap.size (.slice mo lm cm)) := H5.out.old q5
      replace H8 : Hid (Kc W2 w2.heap.size (.slice a1 l1 c1)) := H8.out.old q5
      replace HNz : Hid (NumIn .u64 B64 W2 a1 l1 c1 zs) := HNz.out.old q5
      replace HBW : Hid (Below w.heap.size w W2) := HBW.out.trans (q5.mono HBW.out.size)
      have HQ5 : Hid (Below W'.heap.size W' W2) := q5
      clear g2 q1 q2 q3 q4 q5 HM1 k10 k5 HGc
      have P3 : Hid (Kc (W2.setCell ⟨g, 0, none⟩ (.slice a2 l2 c2)) w.heap.size (.slice mo lm cm) ∧ Kc (W2.setCell ⟨g, 0, none⟩ (.slice a2 l2 c2)) w2.heap.size (.slice a1 l1 c1) ∧ Kc (W2.setCell ⟨g, 0, none⟩ (.slice a2 l2 c2)) g (.slice a2 l2 c2)) :=
        ⟨H5.out.other (fun e => HGS.out.2.1 e.symm) _, H8.out.other (fun e => HGS.out.2.2 e.symm) _, HG2.out.set _⟩
      have N3 : Hid (NumIn .u64 B64 (W2.setCell ⟨g, 0, none⟩ (.slice a2 l2 c2)) a1 l1 c1 zs ∧ NumIn .u64 B64 (W2.setCell ⟨g, 0, none⟩ (.slice a2 l2 c2)) a2 l2 c2 qs ∧ Below w.heap.size w (W2.setCell ⟨g, 0, none⟩ (.slice a2 l2 c2))) :=
        ⟨HNz.out.setSlice HG2.out _, HQ.out.1.setSlice HG2.out _, HBW.out.setCell (p := ⟨g, 0, none⟩) HGS.out.1 _⟩
      have KP : Hid (BitsAt W' g3 g4 (val B64 ns) L → BitsAt (W2.setCell ⟨g, 0, none⟩ (.slice a2 l2 c2)) g3 g4 (val B64 ns) L) := fun hB => (hB.old HQ5.out).setSlice HG2.out HNE.out _
      have KO : Hid (KeepsOthers W' (W2.setCell ⟨g, 0, none⟩ (.slice a2 l2 c2))) := (KeepsOthers.of_below HQ5.out).trans (KeepsOthers.setCell _ _ _)
      clear H5 H8 HG2 HNz HBW HQ5
      cases x2 with
      | false =>
        gi_wp2
        exact ⟨KO.out, KP.out, ⟨P3.out.1, P3.out.2.1, N3.out.1, a2, l2, c2, qs, P3.out.2.2, N3.out.2.1, HQ.out.2.1, by rw [pfold_snoc, HPF.out]; exact HQ.out.2.2.1, HQ.out.2.2.2⟩, N3.out.2.2⟩
      | true =>
        have HM2 := mMul_any a2 a1 mo l2 c2 l1 c1 lm cm qs zs ms (W2.setCell ⟨g, 0, none⟩ (.slice a2 l2 c2)) N3.out.2.1 N3.out.1 (NM.out.old N3.out.2.2) HZ.out.1 (by have := HZ.out.2.2; have := HXV.out.2; have := HQ.out.2.2.2; omega)
        rw [HQ.out.2.2.1, HXV.out.1] at HM2
        have k5 := P3.out.1.1
        have k8 := P3.out.2.1.1
        have k10 := P3.out.2.2.1
        clear HQ
        gi_wp2_with fail
        refine ⟨trivial, ?_⟩
        refine (CallsIn.inRound l (callsIn_wide.2 HM2)).mono ?_
        rintro e W4 ⟨v, rfl, a3, l3, c3, rs, rfl, q1, q2, q3, q4, q5⟩
        have g5 := P3.out.2.2.old q5
        have k10c := g5.1
        have f10c := g5.2
        have HFIN : Hid (KeepsOthers W' (W4.setCell ⟨g, 0, none⟩ (.slice a3 l3 c3)) ∧ (BitsAt W' g3 g4 (val B64 ns) L → BitsAt (W4.setCell ⟨g, 0, none⟩ (.slice a3 l3 c3)) g3 g4 (val B64 ns) L) ∧ PGo w w.heap.size w2.heap.size g mo lm cm ms a1 l1 c1 zs (val B64 ms) (val B64 xs % val B64 ms) (pre ++ [(x1, true)]) (W4.setCell ⟨g, 0, none⟩ (.slice a3 l3 c3))) := by
          refine ⟨KO.out.trans ((KeepsOthers.of_below q5).trans (KeepsOthers.setCell _ _ _)), fun hB => ((KP.out hB).old q5).setSlice g5 HNE.out _, ⟨(P3.out.1.old q5).other (fun e => HGS.out.2.1 e.symm) _, (P3.out.2.1.old q5).other (fun e => HGS.out.2.2 e.symm) _, (N3.out.1.old q5).setSlice g5 _, a3, l3, c3, rs, g5.set _, q1.setSlice g5 _, q2, ?_, q4⟩, (N3.out.2.2.trans (q5.mono N3.out.2.2.size)).setCell (p := ⟨g, 0, none⟩) HGS.out.1 _⟩
          rw [pfold_snoc, HPF.out]; exact q3
        clear q1 q2 q3 q4 q5 g5 HM2 k5 k8 k10 P3 N3 KP KO k10b f10b
        gi_wp2
        exact HFIN.out
    case done =>
      rintro D ys W' hD hys ⟨⟨h5, h8, hz, a, lp, cp, ps, hg, hp, hcp, hvp, hlp⟩, hbW⟩ hK
      have k10 := hg.1
      have HV : Hid (val B64 ps = val B64 xs ^ (val B64 ns).toNat % val B64 ms) := by
        unfold Hid
        rw [hvp, hys, pfold_all _ _ _ HVN.out HZ.out.2.1 L KL.out (pfold_range _ _ HZ.out.2.1)]
      have HP : Hid (NumIn .u64 B64 W' a lp cp ps ∧ Canon ps ∧ lp ≤ lm ∧ Below w.heap.size w W') := ⟨hp, hcp, hlp, hbW⟩
      have HK : Hid (W'.heap[D]? = some (.deferred (some [])) ∧ W6.heap.size ≤ D) := ⟨hK, hD⟩
      clear h5 h8 hg hz hp hcp hvp hlp hbW hBA HGI hys hK hD
      gi_wp2
      refine ⟨by simp, .inl ⟨_, _, rfl, run_takeDeferred HK.out.1, ?_⟩⟩
      refine ⟨_, results_tmp2 rfl _ _ _, _, rfl, a, lp, cp, ps, rfl, HP.out.1.keptc (grownBy_putObj' _ D (.deferred none)) (fun r e => by cases e; exact ⟨_, HK.out.1, rfl⟩), HP.out.2.1, HV.out, HP.out.2.2.1, HP.out.2.2.2.trans (belowK_b (w := w) (Nat.le_refl _) _ D _ _ (by have := HK.out.2; have := HW6.out; omega) HK.out.1 rfl rfl)⟩
    case stop =>
      rintro D c pre W' _ _ h _
      exact h.elim
  have c5 : w3.cell? ⟨w.heap.size, 0, none⟩ = some (.slice mo lm cm) := K5.out.1
  have bD : Hid (Below w3.heap.size w3 w3.drew) := (Below.refl _ _).drew
  have bA : Hid (Below w3.heap.size w3 (w3.drew.alloc (.cells #[.slice none 0 0] 23))) := bD.out.alloc (Nat.le_refl _) _
  have hlt5 := K5.out.lt
  have cA5 := (K5.out.old bA.out).1
  clear HA0 HVN
  refine wpIn_noPanic ?_
  gi_region_with (first
    | (refine ⟨trivial, ?_⟩; gi_at_call 36; refine (callsIn_wide.2 (Of_any 1 _ (by decide) (by decide))).mono ?_; rintro e w4 ⟨v4, rfl, a4, l4, c4, x4, rfl, o1, o2, o3, o4, o5⟩
       have b4 : Below w3.heap.size w3 w4 := (by first | exact bD.out.trans (o5.mono (Nat.le_refl _)) | exact bA.out.trans (o5.mono bA.out.size))
       have c4m : w4.cell? ⟨w.heap.size, 0, none⟩ = some (.slice mo lm cm) := (b4.cell (p := ⟨w.heap.size, 0, none⟩) K5.out.lt).trans K5.out.1
       try (have kA : Kc w4 w3.heap.size (.slice none 0 0) := (Kc.new w3.drew _ _ _ rfl).old o5
            have kA1 := kA.1
            have kA2 := kA.2)
       have c4A : (w4.alloc (.cells #[.slice none 0 0] 23)).cell? ⟨w.heap.size, 0, none⟩ = some (.slice mo lm cm) := more_cell _ c4m
       have O1 : Hid (NumIn .u64 B64 w4 a4 l4 c4 x4 ∧ val B64 x4 = 1 ∧ l4 ≤ 1) := ⟨o1, o3, o4⟩
       have B4 : Hid (Below w3.heap.size w3 w4) := b4
       clear o1 o2 o3 o4 o5 b4)
    | (refine ⟨trivial, ?_⟩; gi_at_call 12; refine (callsIn_wide.2 (mOf_any a4 mo l4 c4 lm cm x4 ms _ (by first | exact O1.out.1 | exact O1.out.1.old ((Below.refl _ _).alloc (Nat.le_refl _) _)) (NM.out.old (B1.out.trans ((by first | exact B4.out | exact B4.out.alloc B4.out.size _ : Below w3.heap.size w3 _).mono B1.out.size))) HZ.out.1 (by have := O1.out.2.2; have := HZ.out.2.2; omega))).mono ?_; rintro e w5 ⟨v5, rfl, a5, l5, c5', x5, rfl, s1, s2, s3, s4, s5⟩
       have b5 : Below w3.heap.size w3 w5 := (by first | exact B4.out.trans (s5.mono B4.out.size) | exact (B4.out.alloc B4.out.size _).trans (s5.mono (B4.out.alloc B4.out.size _).size))
       try (have kB : Kc w5 w3.heap.size (.slice none 0 0) := kA.old s5
            have kB1 := kB.1
            have kB2 := kB.2)
       try (have kB : Kc w5 w4.heap.size (.slice none 0 0) := (Kc.new w4 _ _ _ rfl).old s5
            have kB1 := kB.1
            have kB2 := kB.2)
       have O5 : Hid (NumIn .u64 B64 w5 a5 l5 c5' x5 ∧ Canon x5 ∧ val B64 x5 = 1 % val B64 ms ∧ l5 ≤ lm) := ⟨s1, s2, (by rw [s3, O1.out.2.1]), s4⟩
       have B5 : Hid (Below w3.heap.size w3 w5) := b5
       clear s1 s2 s3 s4 s5 b5))
  all_goals (refine NoPanic.normal ?_; go_simp)
  all_goals first
    | exact HREST.out _ a5 l5 c5' x5 w5.heap.size _ (B5.out.alloc B5.out.size _) B5.out.size (Kc.new _ _ _ _ rfl) (O5.out.1.old ((Below.refl _ _).alloc (Nat.le_refl _) _)) O5.out.2.1 O5.out.2.2.1 O5.out.2.2.2
    | exact HREST.out _ a5 l5 c5' x5 w4.heap.size _ (B5.out.setCell (p := ⟨w4.heap.size, 0, none⟩) B4.out.size _) B4.out.size (kB.set _) (O5.out.1.setSlice kB _) O5.out.2.1 O5.out.2.2.1 O5.out.2.2.2
    | exact HREST.out _ a5 l5 c5' x5 w3.heap.size _ (B5.out.setCell (p := ⟨w3.heap.size, 0, none⟩) (Nat.le_refl _) _) (Nat.le_refl _) (kB.set _) (O5.out.1.setSlice kB _) O5.out.2.1 O5.out.2.2.1 O5.out.2.2.2

set_option maxHeartbeats 1000000 in
/-- modular.Pow: of a modulus of 0. -/
theorem mPow_zero (ao no mo : Option Addr) (la ca ln cn lm cm : Nat) (xs ms : List Int) (w : World) (h : NumIn .u64 B64 w ao la ca xs) (h' : NumIn .u64 B64 w mo lm cm ms) (h0 : val B64 ms = 0) :
    Calls Try.prog 25 #[.slice ao la ca, .slice no ln cn, .slice mo lm cm] w fun e w' => e = .returned (.tuple #[.slice none 0 0, .int .i64 4]) ∧ Below w.heap.size w w' := by
  obtain ⟨w1, hw1⟩ : ∃ w1, w.alloc (.cells #[.slice mo lm cm] 23) = w1 := ⟨_, rfl⟩
  have hb1 : Below w.heap.size w (w.alloc (.cells #[.slice mo lm cm] 23)) := (Below.refl _ _).alloc (Nat.le_refl _) _
  have c5a := (Kc.new w (.slice mo lm cm) 23 _ rfl).1
  have HO := mOf_zero ao mo la ca lm cm xs ms (w.alloc (.cells #[.slice mo lm cm] 23)) (h.old hb1) (h'.old hb1) h0
  rw [hw1] at hb1 c5a HO
  have B1 : Hid (Below w.heap.size w w1) := hb1
  clear h h' hb1 h0
  refine (callsIn_wide (n := 4)).1 ?_
  refine callsIn_of_wp_marks Try.func25 rfl trivial ?_ rfl
  simp only [Try.ntmps25, List.size_toArray, List.length_cons, List.length_nil, Nat.reduceAdd, Nat.reduceSub, Array.replicate_succ, Array.replicate_zero, List.push_toArray, List.append_toArray, List.nil_append, List.cons_append]
  gi_wp2_with fail
  refine ⟨trivial, ?_⟩
  refine (callsIn_wide.2 HO).mono ?_
  rintro e w2 ⟨rfl, rfl⟩
  clear hw1 HO c5a
  gi_wp2
  exact ⟨_, results_tmp2 rfl _ _ _, rfl, B1.out.trans (((Below.refl _ w2).alloc (Nat.le_refl _) _).mono B1.out.size)⟩
end Go.Proofs.Ytjaokpgccnkipaa
