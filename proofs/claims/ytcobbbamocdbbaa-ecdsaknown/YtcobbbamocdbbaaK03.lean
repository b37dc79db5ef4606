import Derived.Test.YtcobbbamocdbbaaK02
import Derived.Stop.RegionWithIn
import Derived.Deep.RegionHeld3
import Derived.Laws.ResultCell
/-
  Contracts of modular.euclid, Inv.
-/
namespace Go.Proofs.Ytcobbbamocdbbaa
open Go.RowKit
set_option linter.unusedVariables false
set_option linter.unusedSimpArgs false

/-- The value v is that number, of at most L digits. -/
def Nm (k : IntKind) (B : Int) (w : World) (v : Value) (n : Int) (L : Nat) : Prop :=
  ∃ ao len cap xs, v = .slice ao len cap ∧ NumIn k B w ao len cap xs ∧ val B xs = n ∧ len ≤ L
theorem Nm.old {k : IntKind} {B : Int} {w w' : World} {v : Value} {n : Int} {L : Nat} (h : Nm k B w v n L) (hb : Below w.heap.size w w') : Nm k B w' v n L := by
  obtain ⟨ao, len, cap, xs, rfl, h1, h2, h3⟩ := h
  exact ⟨ao, len, cap, xs, rfl, h1.old hb, h2, h3⟩
theorem NumOut.nm {k : IntKind} {B : Int} {w w' : World} {v : Value} {n : Int} {L : Nat} (h : NumOut k B w w' v n L) : Nm k B w' v n L := by
  obtain ⟨ao, len, cap, xs, rfl, h1, h2, h3, h4, h5⟩ := h
  exact ⟨ao, len, cap, xs, rfl, h1, h3, h4⟩
theorem NumOut.bl {k : IntKind} {B : Int} {w w' : World} {v : Value} {n : Int} {L : Nat} (h : NumOut k B w w' v n L) : Below w.heap.size w w' := by
  obtain ⟨ao, len, cap, xs, rfl, h1, h2, h3, h4, h5⟩ := h
  exact h5
/-- The number that a slice says, read off the world. -/
def nval (B : Int) (w : World) (v : Value) : Nat :=
  match v with
  | .slice (some ⟨b, off, _⟩) len _ => (val B ((List.range len).map fun i => intOf ((w.cell? ⟨b, off + i, none⟩).getD undef))).toNat
  | _ => 0
theorem Nm.nval {k : IntKind} {B : Int} {w : World} {v : Value} {n : Int} {L : Nat} (h : Nm k B w v n L) : nval B w v = n.toNat := by
  obtain ⟨ao, len, cap, xs, rfl, h1, rfl, h3⟩ := h
  rcases h1.lies.2 with h0 | ⟨b, off, rfl, _, hc⟩
  · have hx : xs = [] := List.eq_nil_of_length_eq_zero (by rw [h1.len]; exact h0)
    subst hx; subst h0
    cases ao <;> simp [Go.Proofs.Ytcobbbamocdbbaa.nval, val]
  · have e : ((List.range len).map fun i => intOf ((w.cell? ⟨b, off + i, none⟩).getD undef)) = xs := by
      apply List.ext_getElem
      · simp [h1.len]
      · intro i g1 g2
        simp only [List.getElem_map, List.getElem_range]
        rw [hc i (by simpa using g1)]
        simp [intOf, List.getD, g2]
    simp only [Go.Proofs.Ytcobbbamocdbbaa.nval]
    rw [e]
theorem lenOf_zero {xs : List Int} (hd : Dg B64 xs) (h : val B64 xs = 0) : lenOf xs = 0 := by rw [lenOf_eq xs hd, h]; rfl
theorem lenOf_pos {xs : List Int} (hd : Dg B64 xs) (h : 0 < val B64 xs) : 0 < lenOf xs := by rw [lenOf_eq xs hd]; exact blen_pos _ (by omega)
theorem lenOf_le {xs : List Int} (hd : Dg B64 xs) (n : Nat) (hn : xs.length ≤ n) : lenOf xs ≤ 64 * n := by
  rw [lenOf_eq xs hd]
  refine blen_le _ _ ?_
  have h0 := val_nonneg B64_pos hd
  have h1 := val_lt B64_pos hd
  have h2 := pow_mono (B := B64) (by decide) hn
  have e : B64 ^ n = ((2 ^ (64 * n) : Nat) : Int) := by
    rw [Nat.pow_mul, Int.natCast_pow]; rfl
  omega

set_option maxHeartbeats 2000000 in
/-- modular.euclid. -/
theorem euclid_any (ao mo : Option Addr) (la ca lm cm : Nat) (xs ms : List Int) (w : World) (h : NumIn .u64 B64 w ao la ca xs) (h' : NumIn .u64 B64 w mo lm cm ms) (h0 : val B64 ms ≠ 0) (hlt : val B64 xs < val B64 ms) (hla : la ≤ lm) (hsm : lm < 100000000) :
    Calls Try.prog 80 #[.slice ao la ca, .slice mo lm cm] w fun e w' => ∃ vd vt b T, e = .returned (.tuple #[vd, vt, .bool b]) ∧ Nm .u64 B64 w' vd (gd (val B64 ms) (val B64 xs)) lm ∧ Nm .u64 B64 w' vt T lm ∧ Cg (val B64 ms) (gd (val B64 ms) (val B64 xs)) (bif b then -(T * val B64 xs) else T * val B64 xs) ∧ Below w.heap.size w w' := by
  have hM := val_nonneg B64_pos h'.dg
  have hA := val_nonneg B64_pos h.dg
  have HDM : Hid (Dg B64 ms ∧ ms.length = lm) := ⟨h'.dg, h'.len⟩
  have NA : Hid (Nm .u64 B64 w (.slice ao la ca) (val B64 xs) lm) := ⟨ao, la, ca, xs, rfl, h, rfl, hla⟩
  have NM : Hid (Nm .u64 B64 w (.slice mo lm cm) (val B64 ms) lm) := ⟨mo, lm, cm, ms, rfl, h', rfl, Nat.le_refl _⟩
  have HE : Hid (Euc (val B64 ms) (val B64 xs) (val B64 ms) (val B64 xs) 0 1 true) := Euc.start _ _ (by omega) hA hlt
  have HV : Hid (val B64 ms = val B64 ms) := rfl
  obtain ⟨M, hMv⟩ : ∃ M, val B64 ms = M := ⟨_, rfl⟩
  have HMV : Hid (val B64 ms = M ∧ 0 < M) := ⟨hMv, by omega⟩
  rw [hMv] at HE NM ⊢
  obtain ⟨A, hAv⟩ : ∃ A, val B64 xs = A := ⟨_, rfl⟩
  rw [hAv] at HE NA ⊢
  clear h h' hM hA h0 hlt hla HV hMv hAv
  go_enter Try.func80, Try.ntmps80
  go_wp2_with fail
  refine (Of_any 1 w (by decide) (by decide)).mono ?_
  rintro e w1 ⟨v1, rfl, hv1⟩
  have hv2 := hv1.fit B64_one HDM.out.1 (by have := HMV.out; omega)
  rw [HDM.out.2] at hv2
  have N1 : Hid (Nm .u64 B64 w1 v1 1 lm) := hv2.nm
  replace NA : Hid (Nm .u64 B64 w1 (.slice ao la ca) A lm) := NA.out.old hv1.bl
  replace NM : Hid (Nm .u64 B64 w1 (.slice mo lm cm) M lm) := NM.out.old hv1.bl
  have BW : Hid (Below w.heap.size w w1) := hv1.bl
  clear hv1 hv2
  go_wp2
  go_loopw [5, 6, 7, 8, 9] (fun t b l n m wr => ∃ (bb : Bool) (T N Lv Mo : Int), b = .bool bb ∧ Nm .u64 B64 wr t T lm ∧ Nm .u64 B64 wr l Lv lm ∧ Nm .u64 B64 wr n N lm ∧ Nm .u64 B64 wr m Mo lm ∧ Euc M A Lv N T Mo bb ∧ Below w.heap.size w wr) (fun t b l n m wr => nval B64 wr n)
  case atStart =>
    exact ⟨true, 0, A, M, 1, rfl, ⟨none, 0, 0, [], rfl, NumIn.nil, rfl, Nat.zero_le _⟩, NM.out, NA.out, N1.out, HE.out, BW.out⟩
  case round =>
    clear NA NM N1 BW HE
    obtain ⟨bb, T, N, Lv, Mo, rfl, nT, nL, nN, nM, hE, hB⟩ := hrel
    have HMS : Hid (nval B64 wr u8 = N.toNat) := nN.nval
    have n0 := hE.2.2.1
    obtain ⟨a8, l8, c8, x8, rfl, i8, v8, b8⟩ := nN
    have HLEN := Len_any a8 l8 c8 x8 wr i8
    by_cases hz : N = 0
    · subst hz
      rw [lenOf_zero i8.dg v8] at HLEN
      have HD : Hid (Lv = gd M A ∧ Cg M (gd M A) (bif bb then -(T * A) else T * A)) := hE.done
      obtain ⟨a7, l7, c7, x7, rfl, i7, v7, b7⟩ := nL
      have HL : Hid (Nm .u64 B64 wr (.slice a7 l7 c7) Lv lm) := ⟨a7, l7, c7, x7, rfl, i7, v7, b7⟩
      obtain ⟨a5, l5, c5, x5, rfl, i5, v5, b5⟩ := nT
      have HT : Hid (Nm .u64 B64 wr (.slice a5 l5 c5) T lm) := ⟨a5, l5, c5, x5, rfl, i5, v5, b5⟩
      have BW : Hid (Below w.heap.size w wr) := hB
      clear i8 v8 i7 v7 b7 i5 v5 b5 hE nM hB
      go_wp2_with fail
      refine HLEN.mono ?_
      rintro e wr2 ⟨rfl, rfl⟩
      go_wp2
      go_ret3
      exact ⟨_, _, _, T, rfl, by rw [← HD.out.1]; exact HL.out, HT.out, HD.out.2, BW.out⟩
    · have hpos : 0 < N := by omega
      have hlp := lenOf_pos i8.dg (by omega)
      have hle := lenOf_le i8.dg lm (by rw [i8.len]; exact b8)
      obtain ⟨a7, l7, c7, x7, rfl, i7, v7, b7⟩ := nL
      obtain ⟨a9, l9, c9, x9, rfl, i9, v9, b9⟩ := nM
      obtain ⟨a5, l5, c5, x5, rfl, i5, v5, b5⟩ := nT
      have HS : Hid (Euc M A N (Lv % N) Mo (T + Lv / N * Mo) (!bb)) := hE.step hpos
      have HDIV := Div_any a7 a8 l7 c7 l8 c8 x7 x8 wr i7 i8 (by omega) (by omega)
      rw [v7, v8] at HDIV
      have N8 : Hid (NumIn .u64 B64 wr a8 l8 c8 x8 ∧ val B64 x8 = N ∧ l8 ≤ lm) := ⟨i8, v8, b8⟩
      have N9 : Hid (NumIn .u64 B64 wr a9 l9 c9 x9 ∧ val B64 x9 = Mo ∧ l9 ≤ lm) := ⟨i9, v9, b9⟩
      have N5 : Hid (NumIn .u64 B64 wr a5 l5 c5 x5 ∧ val B64 x5 = T ∧ l5 ≤ lm) := ⟨i5, v5, b5⟩
      have L7 : Hid (l7 ≤ lm) := b7
      have BW : Hid (Below w.heap.size w wr) := hB
      have HP : Hid (0 < N) := hpos
      clear i8 v8 b8 i7 v7 b7 i5 v5 b5 i9 v9 b9 hE hB hpos hz n0
      generalize lenOf x8 = len8 at *
      go_wp2_with fail
      refine HLEN.mono ?_
      rintro e wr2 ⟨rfl, rfl⟩
      clear HLEN
      go_wp2_with fail
      refine HDIV.mono ?_
      rintro e w2 ⟨q, r, rfl, hq, hr⟩
      have HR := hr.fit B64_one HDM.out.1 (by have := HS.out.2.2.2.1; have := HMV.out; omega)
      rw [HDM.out.2] at HR
      have HR : Hid (Nm .u64 B64 w2 r (Lv % N) lm) := HR.nm
      have hbl := hr.bl
      obtain ⟨aq, lq, cq, xq, rfl, q1, q2, q3, q4, q5⟩ := hq
      obtain ⟨ar, lr, cr, xr, rfl, _, _, _, _, _⟩ := hr
      replace N8 : Hid (NumIn .u64 B64 w2 a8 l8 c8 x8 ∧ val B64 x8 = N ∧ l8 ≤ lm) := ⟨N8.out.1.old hbl, N8.out.2⟩
      replace N9 : Hid (NumIn .u64 B64 w2 a9 l9 c9 x9 ∧ val B64 x9 = Mo ∧ l9 ≤ lm) := ⟨N9.out.1.old hbl, N9.out.2⟩
      replace N5 : Hid (NumIn .u64 B64 w2 a5 l5 c5 x5 ∧ val B64 x5 = T ∧ l5 ≤ lm) := ⟨N5.out.1.old hbl, N5.out.2⟩
      replace BW : Hid (Below w.heap.size w w2) := BW.out.trans (hbl.mono BW.out.size)
      have HMUL := Mul_any aq a9 lq cq l9 c9 xq x9 w2 q1 N9.out.1 (by have := L7.out; have := N9.out.2.2; omega)
      rw [q3, N9.out.2.1] at HMUL
      have LQ : Hid (lq ≤ lm + 1) := by unfold Hid; have := L7.out; omega
      clear q1 q2 q3 q4 q5 hbl HDIV
      go_wp2_with fail
      refine HMUL.mono ?_
      rintro e w3 ⟨v, rfl, a3, l3, c3, x3, rfl, q1, q2, q3, q4, q5⟩
      replace HR : Hid (Nm .u64 B64 w3 (.slice ar lr cr) (Lv % N) lm) := HR.out.old q5
      replace N8 : Hid (NumIn .u64 B64 w3 a8 l8 c8 x8 ∧ val B64 x8 = N ∧ l8 ≤ lm) := ⟨N8.out.1.old q5, N8.out.2⟩
      replace N9 : Hid (NumIn .u64 B64 w3 a9 l9 c9 x9 ∧ val B64 x9 = Mo ∧ l9 ≤ lm) := ⟨N9.out.1.old q5, N9.out.2⟩
      replace BW : Hid (Below w.heap.size w w3) := BW.out.trans (q5.mono BW.out.size)
      have HADD := Add_any a5 a3 l5 c5 l3 c3 x5 x3 w3 (N5.out.1.old q5) q1 (by have := LQ.out; have := N9.out.2.2; have := N5.out.2.2; omega)
      rw [q3, N5.out.2.1] at HADD
      clear q1 q2 q3 q4 q5 N5 HMUL
      go_wp2_with fail
      refine HADD.mono ?_
      rintro e w4 ⟨v, rfl, hv⟩
      have HM2 := hv.fit B64_one HDM.out.1 (by have := HS.out.2.2.2.2.2.2.2.1; have := HMV.out; omega)
      rw [HDM.out.2] at HM2
      have HM2 : Hid (Nm .u64 B64 w4 v (T + Lv / N * Mo) lm) := HM2.nm
      replace HR : Hid (Nm .u64 B64 w4 (.slice ar lr cr) (Lv % N) lm) := HR.out.old hv.bl
      have N8' : Hid (Nm .u64 B64 w4 (.slice a8 l8 c8) N lm) := ⟨a8, l8, c8, x8, rfl, N8.out.1.old hv.bl, N8.out.2⟩
      have N9' : Hid (Nm .u64 B64 w4 (.slice a9 l9 c9) Mo lm) := ⟨a9, l9, c9, x9, rfl, N9.out.1.old hv.bl, N9.out.2⟩
      replace BW : Hid (Below w.heap.size w w4) := BW.out.trans (hv.bl.mono BW.out.size)
      clear hv HADD N8 N9 LQ L7
      go_wp2
      go_roundw
      case rel => exact ⟨!bb, Mo, Lv % N, N, T + Lv / N * Mo, rfl, N9'.out, N8'.out, HR.out, HM2.out, HS.out, BW.out⟩
      case measure =>
        rw [HMS.out, HR.out.nval]
        have := Int.emod_lt_of_pos Lv HP.out
        have := HP.out
        have := HS.out.2.2.1
        omega

set_option maxHeartbeats 1000000 in
/-- modular.Inv: nothing gives 1. -/
theorem mInv_no (ao mo : Option Addr) (la ca lm cm : Nat) (xs ms : List Int) (w : World) (h : NumIn .u64 B64 w ao la ca xs) (h' : NumIn .u64 B64 w mo lm cm ms) (h0 : val B64 ms ≠ 0) (hg : gd (val B64 ms) (val B64 xs % val B64 ms) ≠ 1) (hsm : la + lm < 100000000) :
    Calls Try.prog 51 #[.slice ao la ca, .slice mo lm cm] w fun e w' => e = .returned (.tuple #[.slice none 0 0, .int .i64 5]) ∧ Below w.heap.size w w' := by
  have HO := mOf_any ao mo la ca lm cm xs ms w h h' h0 (by omega)
  have hM := val_nonneg B64_pos h'.dg
  have hr := mod_range (val B64 xs) (val B64 ms) hM h0
  have HM : Hid (NumIn .u64 B64 w mo lm cm ms) := h'
  have HZ : Hid (val B64 ms ≠ 0) := h0
  have HR : Hid (val B64 xs % val B64 ms < val B64 ms) := hr.2
  have HG : Hid (gd (val B64 ms) (val B64 xs % val B64 ms) ≠ 1) := hg
  clear h h' h0 hM hr hg
  go_enter Try.func51, Try.ntmps51
  go_wp2_with fail
  refine HO.mono ?_
  rintro e w1 ⟨v, rfl, a1, l1, c1, zs, rfl, n1, n2, n3, n4, n5⟩
  have HEU := euclid_any a1 mo l1 c1 lm cm zs ms w1 n1 (HM.out.old n5) HZ.out (by rw [n3]; exact HR.out) n4 (by omega)
  rw [n3] at HEU
  replace HM : Hid (NumIn .u64 B64 w1 mo lm cm ms) := HM.out.old n5
  have BW : Hid (Below w.heap.size w w1) := n5
  clear n1 n2 n3 n4 n5 HO
  go_wp2_with fail
  refine HEU.mono ?_
  rintro e w2 ⟨vd, vt, b, T, rfl, ⟨ad, ld, cd, ds, rfl, d1, d2, d3⟩, ⟨at', lt, ct, ts, rfl, t1, t2, t3⟩, hcg, n5⟩
  replace HM : Hid (NumIn .u64 B64 w2 mo lm cm ms) := HM.out.old n5
  replace BW : Hid (Below w.heap.size w w2) := BW.out.trans (n5.mono BW.out.size)
  have ND : Hid (NumIn .u64 B64 w2 ad ld cd ds ∧ val B64 ds = gd (val B64 ms) (val B64 xs % val B64 ms)) := ⟨d1, d2⟩
  have NT : Hid (NumIn .u64 B64 w2 at' lt ct ts ∧ val B64 ts = T ∧ lt ≤ lm) := ⟨t1, t2, t3⟩
  have CG : Hid (Cg (val B64 ms) (gd (val B64 ms) (val B64 xs % val B64 ms)) (bif b then -(T * (val B64 xs % val B64 ms)) else T * (val B64 xs % val B64 ms))) := hcg
  clear d1 d2 d3 t1 t2 t3 hcg n5 HEU
  go_wp2_with fail
  refine (Of_any 1 w2 (by decide) (by decide)).mono ?_
  rintro e w3 ⟨v, rfl, a1, l1, c1, zs, rfl, n1, n2, n3, n4, n5⟩
  replace HM : Hid (NumIn .u64 B64 w3 mo lm cm ms) := HM.out.old n5
  replace BW : Hid (Below w.heap.size w w3) := BW.out.trans (n5.mono BW.out.size)
  replace NT : Hid (NumIn .u64 B64 w3 at' lt ct ts ∧ val B64 ts = T ∧ lt ≤ lm) := ⟨NT.out.1.old n5, NT.out.2⟩
  have HC := Cmp_any ad a1 ld cd l1 c1 ds zs w3 (ND.out.1.old n5) n1
  rw [n3, ND.out.2] at HC
  have hcc : (cmpI (gd (val B64 ms) (val B64 xs % val B64 ms)) 1 != 0) = true := by
    rcases Int.lt_trichotomy (gd (val B64 ms) (val B64 xs % val B64 ms)) 1 with g | g | g
    · rw [cmpI_lt g]; decide
    · exact absurd g HG.out
    · rw [cmpI_gt g]; decide
  generalize cmpI (gd (val B64 ms) (val B64 xs % val B64 ms)) 1 = cc at HC hcc
  clear n1 n2 n3 n4 n5 ND
  go_wp2_with fail
  refine HC.mono ?_
  rintro e w4 ⟨rfl, hd⟩
  have HF : Hid (Below w.heap.size w w4) := BW.out.trans (hd.below _)
  clear hd HC
  go_wp2
  go_ret2
  exact ⟨rfl, HF.out⟩

set_option maxHeartbeats 1000000 in
/-- modular.Inv: what gives 1. -/
theorem mInv_yes (ao mo : Option Addr) (la ca lm cm : Nat) (xs ms : List Int) (w : World) (h : NumIn .u64 B64 w ao la ca xs) (h' : NumIn .u64 B64 w mo lm cm ms) (h0 : val B64 ms ≠ 0) (hg : gd (val B64 ms) (val B64 xs % val B64 ms) = 1) (hsm : la + lm < 100000000) :
    Calls Try.prog 51 #[.slice ao la ca, .slice mo lm cm] w fun e w' => ∃ v n, e = .returned (.tuple #[v, .int .i64 0]) ∧ NumOut .u64 B64 w w' v n lm ∧ 0 ≤ n ∧ n < val B64 ms ∧ Cg (val B64 ms) (n * val B64 xs) 1 := by
  have HO := mOf_any ao mo la ca lm cm xs ms w h h' h0 (by omega)
  have hM := val_nonneg B64_pos h'.dg
  have hr := mod_range (val B64 xs) (val B64 ms) hM h0
  have HM : Hid (NumIn .u64 B64 w mo lm cm ms) := h'
  have HZ : Hid (val B64 ms ≠ 0) := h0
  have HR : Hid (val B64 xs % val B64 ms < val B64 ms) := hr.2
  have HG : Hid (gd (val B64 ms) (val B64 xs % val B64 ms) = 1) := hg
  clear h h' h0 hM hr hg
  go_enter Try.func51, Try.ntmps51
  go_wp2_with fail
  refine HO.mono ?_
  rintro e w1 ⟨v, rfl, a1, l1, c1, zs, rfl, n1, n2, n3, n4, n5⟩
  have HEU := euclid_any a1 mo l1 c1 lm cm zs ms w1 n1 (HM.out.old n5) HZ.out (by rw [n3]; exact HR.out) n4 (by omega)
  rw [n3] at HEU
  replace HM : Hid (NumIn .u64 B64 w1 mo lm cm ms) := HM.out.old n5
  have BW : Hid (Below w.heap.size w w1) := n5
  clear n1 n2 n3 n4 n5 HO
  go_wp2_with fail
  refine HEU.mono ?_
  rintro e w2 ⟨vd, vt, b, T, rfl, ⟨ad, ld, cd, ds, rfl, d1, d2, d3⟩, ⟨at', lt, ct, ts, rfl, t1, t2, t3⟩, hcg, n5⟩
  replace HM : Hid (NumIn .u64 B64 w2 mo lm cm ms) := HM.out.old n5
  replace BW : Hid (Below w.heap.size w w2) := BW.out.trans (n5.mono BW.out.size)
  have ND : Hid (NumIn .u64 B64 w2 ad ld cd ds ∧ val B64 ds = gd (val B64 ms) (val B64 xs % val B64 ms)) := ⟨d1, d2⟩
  have NT : Hid (NumIn .u64 B64 w2 at' lt ct ts ∧ val B64 ts = T ∧ lt ≤ lm) := ⟨t1, t2, t3⟩
  have CG : Hid (Cg (val B64 ms) (gd (val B64 ms) (val B64 xs % val B64 ms)) (bif b then -(T * (val B64 xs % val B64 ms)) else T * (val B64 xs % val B64 ms))) := hcg
  clear d1 d2 d3 t1 t2 t3 hcg n5 HEU
  go_wp2_with fail
  refine (Of_any 1 w2 (by decide) (by decide)).mono ?_
  rintro e w3 ⟨v, rfl, a1, l1, c1, zs, rfl, n1, n2, n3, n4, n5⟩
  replace HM : Hid (NumIn .u64 B64 w3 mo lm cm ms) := HM.out.old n5
  replace BW : Hid (Below w.heap.size w w3) := BW.out.trans (n5.mono BW.out.size)
  replace NT : Hid (NumIn .u64 B64 w3 at' lt ct ts ∧ val B64 ts = T ∧ lt ≤ lm) := ⟨NT.out.1.old n5, NT.out.2⟩
  have HC := Cmp_any ad a1 ld cd l1 c1 ds zs w3 (ND.out.1.old n5) n1
  rw [n3, ND.out.2] at HC
  rw [HG.out, cmpI_eq rfl] at HC
  rw [HG.out] at CG
  clear n1 n2 n3 n4 n5 ND
  go_wp2_with fail
  refine HC.mono ?_
  rintro e w4 ⟨rfl, hd⟩
  have n5 := hd.below w3.heap.size
  replace HM : Hid (NumIn .u64 B64 w4 mo lm cm ms) := HM.out.old n5
  replace BW : Hid (Below w.heap.size w w4) := BW.out.trans (n5.mono BW.out.size)
  replace NT : Hid (NumIn .u64 B64 w4 at' lt ct ts ∧ val B64 ts = T ∧ lt ≤ lm) := ⟨NT.out.1.old n5, NT.out.2⟩
  have hM := val_nonneg B64_pos HM.out.dg
  clear hd HC n5
  cases b with
  | true =>
    have HS := mSub_any none at' mo 0 0 lt ct lm cm [] ts ms w4 NumIn.nil NT.out.1 HM.out HZ.out (by have := NT.out.2.2; omega)
    rw [NT.out.2.1, val_nil] at HS
    have HRG : Hid (0 ≤ (0 - T) % val B64 ms ∧ (0 - T) % val B64 ms < val B64 ms) := mod_range _ _ hM HZ.out
    have HCG : Hid (Cg (val B64 ms) ((0 - T) % val B64 ms * val B64 xs) 1) := by
      have c1 := ((Cg.mod (val B64 ms) (0 - T)).mul (Cg.mod (val B64 ms) (val B64 xs)).symm)
      exact c1.trans ((Cg.of_eq (by simp only [cond_true]; grind)).trans CG.out.symm)
    clear NT CG hM
    go_wp2_with fail
    refine HS.mono ?_
    rintro e w5 ⟨v, rfl, hv⟩
    have HV : Hid (NumOut .u64 B64 w w5 v ((0 - T) % val B64 ms) lm) := hv.from BW.out
    clear hv HS
    go_wp2
    go_ret2
    exact ⟨_, _, rfl, HV.out, HRG.out.1, HRG.out.2, HCG.out⟩
  | false =>
    have HS := mOf_any at' mo lt ct lm cm ts ms w4 NT.out.1 HM.out HZ.out (by have := NT.out.2.2; omega)
    rw [NT.out.2.1] at HS
    have HRG : Hid (0 ≤ T % val B64 ms ∧ T % val B64 ms < val B64 ms) := mod_range _ _ hM HZ.out
    have HCG : Hid (Cg (val B64 ms) (T % val B64 ms * val B64 xs) 1) := by
      have c1 := ((Cg.mod (val B64 ms) T).mul (Cg.mod (val B64 ms) (val B64 xs)).symm)
      exact c1.trans ((Cg.of_eq (by simp only [cond_false])).trans CG.out.symm)
    clear NT CG hM
    go_wp2_with fail
    refine HS.mono ?_
    rintro e w5 ⟨v, rfl, hv⟩
    have HV : Hid (NumOut .u64 B64 w w5 v (T % val B64 ms) lm) := hv.from BW.out
    clear hv HS
    go_wp2
    go_ret2
    exact ⟨_, _, rfl, HV.out, HRG.out.1, HRG.out.2, HCG.out⟩

set_option maxHeartbeats 400000 in
/-- modular.Inv: of a modulus of 0. -/
theorem mInv_zero (ao mo : Option Addr) (la ca lm cm : Nat) (xs ms : List Int) (w : World) (h : NumIn .u64 B64 w ao la ca xs) (h' : NumIn .u64 B64 w mo lm cm ms) (h0 : val B64 ms = 0) :
    Calls Try.prog 51 #[.slice ao la ca, .slice mo lm cm] w fun e w' => e = .returned (.tuple #[.slice none 0 0, .int .i64 4]) ∧ w' = w := by
  have HO := mOf_zero ao mo la ca lm cm xs ms w h h' h0
  clear h h' h0
  go_enter Try.func51, Try.ntmps51
  go_wp2_with fail
  refine HO.mono ?_
  rintro e w2 ⟨rfl, rfl⟩
  go_wp2
  go_ret2
  exact ⟨rfl, rfl⟩
end Go.Proofs.Ytcobbbamocdbbaa
/-
  Cells of the call's own beside numbers; powers bit by bit.
-/
namespace Go.Proofs.Ytcobbbamocdbbaa
open Go.RowKit Go.Shelf
set_option linter.unusedVariables false
set_option linter.unusedSimpArgs false
attribute [local go_sem] Oper.semAt_some

/-- A cell of the call's own, with what it holds. -/
def Kc (W : World) (b : Nat) (v : Value) : Prop := W.cell? ⟨b, 0, none⟩ = some v ∧ W.frozen? ⟨b, 0, none⟩ = false
theorem Kc.lt {W : World} {b : Nat} {v : Value} (h : Kc W b v) : b < W.heap.size := World.block_lt_of_cell? W ⟨b, 0, none⟩ h.1
theorem Kc.kept {W W' : World} {b : Nat} {v : Value} {row : Option Nat} (h : Kc W b v) (hg : W.grownBy W' row) (hr : ∀ r, row = some r → ∃ o : Obj, W.heap[r]? = some o ∧ o.isCells = false) : Kc W' b v :=
  ⟨cell_kept h.1 hg hr, (frozen_kept h.1 hg hr).trans h.2⟩
theorem Kc.new (W : World) (v : Value) (t : TypeId) (b : Nat) (hb : b = W.heap.size) : Kc (W.alloc (.cells #[v] t)) b v := by subst hb; exact new_cell W v t
theorem Kc.alloc {W : World} {b : Nat} {v : Value} (h : Kc W b v) (o : Obj) : Kc (W.alloc o) b v := ⟨more_cell o h.1, more_frozen o h.1 h.2⟩
theorem Kc.set {W : World} {b : Nat} {v : Value} (h : Kc W b v) (u : Value) : Kc (W.setCell ⟨b, 0, none⟩ u) b u := ⟨World.cell?_setCell_same _ _ _ h.1, by rw [World.frozen?_setCell]; exact h.2⟩
theorem Kc.other {W : World} {b c : Nat} {v : Value} (h : Kc W b v) (hne : c ≠ b) (u : Value) : Kc (W.setCell ⟨c, 0, none⟩ u) b v := ⟨(World.cell?_setCell_other _ _ _ _ (by intro e; injection e with e; exact hne e)).trans h.1, by rw [World.frozen?_setCell]; exact h.2⟩
theorem Kc.old {W W' : World} {b : Nat} {v : Value} (h : Kc W b v) (hb : Below W.heap.size W W') : Kc W' b v :=
  ⟨(hb.cell (p := ⟨b, 0, none⟩) h.lt).trans h.1, (hb.frozen (p := ⟨b, 0, none⟩) h.lt).trans h.2⟩
/-- Two cells that hold other things are two. -/
theorem Kc.ne {W : World} {b c : Nat} {u v : Value} (h : Kc W b u) (h' : Kc W c v) (hne : u ≠ v) : b ≠ c := fun e => hne (by
  subst e
  have := h.1.symm.trans h'.1
  exact Option.some.inj this)

theorem NumIn.keptc {k : IntKind} {B : Int} {W W' : World} {ao : Option Addr} {len cap : Nat} {xs : List Int} (h : NumIn k B W ao len cap xs) {row : Option Nat} (hg : W.grownBy W' row) (hr : ∀ r, row = some r → ∃ o : Obj, W.heap[r]? = some o ∧ o.isCells = false) : NumIn k B W' ao len cap xs := by
  refine ⟨⟨h.len, ?_⟩, h.lc, h.cm, h.nn, h.dg, h.sm⟩
  by_cases h0 : len = 0
  · exact .inl h0
  · obtain ⟨b, off, e, hlt, hc⟩ := h.lies.at (by omega)
    have hc0 := cell_kept (hc 0 (by omega)) hg hr
    exact .inr ⟨b, off, e, World.block_lt_of_cell? W' ⟨b, off + 0, none⟩ hc0, fun i hi => cell_kept (hc i hi) hg hr⟩
/-- A store into a cell that holds a slice leaves numbers alone. -/
theorem NumIn.setSlice {k : IntKind} {B : Int} {W : World} {ao : Option Addr} {len cap : Nat} {xs : List Int} (h : NumIn k B W ao len cap xs) {b : Nat} {a : Option Addr} {l c : Nat} (hk : Kc W b (.slice a l c)) (u : Value) : NumIn k B (W.setCell ⟨b, 0, none⟩ u) ao len cap xs := by
  refine ⟨⟨h.len, ?_⟩, h.lc, h.cm, h.nn, h.dg, h.sm⟩
  by_cases h0 : len = 0
  · exact .inl h0
  · obtain ⟨b', off, e, hlt, hc⟩ := h.lies.at (by omega)
    refine .inr ⟨b', off, e, by rw [World.size_setCell]; exact hlt, fun i hi => ?_⟩
    refine (World.cell?_setCell_other _ _ _ _ ?_).trans (hc i hi)
    intro e2
    have h1 := hc i hi
    rw [← e2] at h1
    have h2 := hk.1.symm.trans h1
    cases h2
theorem KeepsOthers.of_below {W W' : World} (hb : Below W.heap.size W W') : KeepsOthers W W' :=
  ⟨hb.size, fun j o hj _ => (hb.block j (Array.getElem?_eq_some_iff.1 hj).1).trans hj⟩

theorem BitsAt.keptc {W W' : World} {g3 g4 : Nat} {V : Int} {L : Nat} (h : BitsAt W g3 g4 V L) {row : Option Nat} (hg : W.grownBy W' row) (hr : ∀ r, row = some r → ∃ o : Obj, W.heap[r]? = some o ∧ o.isCells = false) : BitsAt W' g3 g4 V L := by
  obtain ⟨ao, la, ca, xs, h1, h2, h3, h4, h5, h6, h7⟩ := h
  have c4 := cell_kept h3 hg hr
  have c3 := cell_kept h4 hg hr
  exact ⟨ao, la, ca, xs, World.block_lt_of_cell? W' _ c3, World.block_lt_of_cell? W' _ c4, c4, c3, h5.keptc hg hr, h6, h7⟩
theorem BitsAt.setSlice {W : World} {g3 g4 : Nat} {V : Int} {L : Nat} (h : BitsAt W g3 g4 V L) {b : Nat} {a : Option Addr} {l c : Nat} (hk : Kc W b (.slice a l c)) (hne : b ≠ g3) (u : Value) : BitsAt (W.setCell ⟨b, 0, none⟩ u) g3 g4 V L := by
  obtain ⟨ao, la, ca, xs, h1, h2, h3, h4, h5, h6, h7⟩ := h
  have hne4 : b ≠ g4 := fun e => by
    subst e
    have := hk.1.symm.trans h3
    cases this
  refine ⟨ao, la, ca, xs, by rw [World.size_setCell]; exact h1, by rw [World.size_setCell]; exact h2, ?_, ?_, h5.setSlice hk u, h6, h7⟩
  · exact (World.cell?_setCell_other _ _ _ _ (by intro e; injection e with e; exact hne4 e)).trans h3
  · exact (World.cell?_setCell_other _ _ _ _ (by intro e; injection e with e; exact hne e)).trans h4

set_option maxRecDepth 100000 in
set_option maxHeartbeats 2000000 in
/-- The iterator of nat.Bits, where the rounds keep just what it reads. -/
theorem bits_stopsI (n : Nat) (hn : 1 ≤ n) (w0 : World) (g3 g4 : Nat) (V : Int) (L : Nat) (h : BitsAt w0 g3 g4 V L) :
    SeqStopsK Fence.wide n Try.prog 85 #[.pointer (some ⟨g4, 0, none⟩), .pointer (some ⟨g3, 0, none⟩)] encB (fun A B => BitsAt A g3 g4 V L → BitsAt B g3 g4 V L) (fun xs => xs = bitsOf V L L) (fun pre => pre <+: bitsOf V L L) L w0 := fun l J Jx W hW hJ hJx hY h0 => by
  have HW : Hid (BitsAt W g3 g4 V L) := h.old hW
  obtain ⟨_, _, _, _, _, _, hcW, _, _, _, hL⟩ := HW.out
  clear hJ hJx hW h
  refine callsIn_of_wp Try.func85 rfl trivial ?_ rfl
  simp only [Try.ntmps85, List.size_toArray, List.length_cons, List.length_nil, Nat.reduceAdd, Nat.reduceSub, Array.replicate_succ, Array.replicate_zero, List.push_toArray, List.append_toArray, List.nil_append, List.cons_append]
  gi_wp2
  gi_loopw [4, 5, 7] (fun _ _ vi wr => ∃ (k : Nat), k ≤ L ∧ vi = .int .i64 k ∧ J (bitsOf V L k) wr ∧ BitsAt wr g3 g4 V L) (fun _ _ vi _ => L - (intOf vi).toNat)
  case atStart => exact ⟨0, Nat.zero_le _, rfl, h0, HW.out⟩
  case round =>
    obtain ⟨k, hk, rfl, hJs, hb⟩ := hrel
    clear hcW HW h0
    by_cases hlt : k < L
    · have HB : Hid (BitsAt wr g3 g4 V L) := hb
      obtain ⟨ao, la, ca, xs, _, _, hc4, hc3, hnum, hv, _⟩ := hb
      obtain ⟨fn, tmps, assign, body, hy, hR⟩ := hY (bitsOf V L k) (bitOf V L k) wr hJs (by rw [bitsOf_len]; exact hlt)
      have HI := isSet_any ao la ca xs (L - 1 - k) wr hnum (by omega)
      rw [hv] at HI
      dsimp only [encB, bitOf] at hy
      obtain ⟨p, hp⟩ : ∃ p, L - 1 - k = p := ⟨_, rfl⟩
      have ep : (L : Int) - 1 - (k : Int) = (p : Int) := by omega
      rw [hp] at hy HI
      clear hp hnum hv
      have HP : Hid (bitsOf V L (k + 1) = bitsOf V L k ++ [bitOf V L k] ∧ bitsOf V L (k + 1) <+: bitsOf V L L) := ⟨bitsOf_succ V L k, bitsOf_pre V L _ _ (by omega)⟩
      clear hY
      generalize (bitAt V p == 1) = bb at *
      generalize bitOf V L k = bk at *
      gi_wp2_with (refine ⟨trivial, ?_⟩; gi_at_call 86; refine (callsIn_wide.2 HI).mono ?_; rintro e w' ⟨rfl, rfl⟩)
      refine hR.mono ?_
      rintro e W3 (⟨rfl, hJ3, hk3⟩ | ⟨rfl, hJx3⟩)
      · rw [← HP.out.1] at hJ3
        have HB3 : Hid (BitsAt W3 g3 g4 V L) := hk3 HB.out
        clear hR hy HI hc3 hc4 hJs hk3
        gi_wp2
        go_roundw
        case rel => exact ⟨k + 1, by omega, by go_num, hJ3, HB3.out⟩
        case measure => simp [intOf] <;> omega
      · rw [← HP.out.1] at hJx3
        clear hR hy HI hc3 hc4 hJs
        gi_wp2
        refine bodyPost_ret (results_none rfl _ _ _) rfl ?_
        exact ⟨⟨_, rfl⟩, .inr ⟨_, HP.out.2, hJx3⟩⟩
    · obtain rfl : k = L := by omega
      clear hY hb
      gi_wp2
      go_end0
      exact ⟨⟨_, rfl⟩, .inl ⟨_, rfl, hJs⟩⟩

/-- The power that the bits that have come give. -/
def pstep (M X : Int) (p : Int) (x : Int × Bool) : Int := bif x.2 then p * p % M * X % M else p * p % M
def pfold (M X : Int) (pre : List (Int × Bool)) : Int := pre.foldl (pstep M X) (1 % M)
theorem pfold_nil (M X : Int) : pfold M X [] = 1 % M := rfl
theorem pfold_snoc (M X : Int) (pre : List (Int × Bool)) (x : Int × Bool) : pfold M X (pre ++ [x]) = pstep M X (pfold M X pre) x := by simp [pfold]
theorem pfold_cg (M X V : Int) (h0 : 0 ≤ V) (L : Nat) (hL : V < 2 ^ L) : ∀ k, k ≤ L → Cg M (pfold M (X % M) (bitsOf V L k)) (pws X V (L - k))
  | 0, _ => by
    rw [Nat.sub_zero, pws_top X V h0 L hL]
    exact Cg.mod M 1
  | k + 1, hk => by
    have ih := pfold_cg M X V h0 L hL k (by omega)
    rw [bitsOf_succ, pfold_snoc]
    have e : L - k = (L - (k + 1)) + 1 := by omega
    have e2 : L - 1 - k = L - (k + 1) := by omega
    rw [e] at ih
    have sq := (Cg.mod M _).trans (ih.mul ih)
    unfold pstep bitOf
    rw [e2]
    simp only
    rcases bitAt_01 V (L - (k + 1)) with hb | hb
    · rw [hb, pws_even X V h0 _ hb]
      exact sq
    · rw [hb, pws_odd X V h0 _ hb]
      exact (Cg.mod M _).trans (sq.mul (Cg.mod M X))
theorem pfold_all (M X V : Int) (h0 : 0 ≤ V) (hM : 0 < M) (L : Nat) (hL : V < 2 ^ L) (h : ∀ ys, 0 ≤ pfold M (X % M) ys ∧ pfold M (X % M) ys < M) : pfold M (X % M) (bitsOf V L L) = X ^ V.toNat % M := by
  have hc := pfold_cg M X V h0 L hL L (Nat.le_refl _)
  rw [Nat.sub_self, pws_zero] at hc
  have r := h (bitsOf V L L)
  rw [← hc.emod, Int.emod_eq_of_lt r.1 r.2]
theorem pfold_range (M X : Int) (hM : 0 < M) (ys : List (Int × Bool)) : 0 ≤ pfold M X ys ∧ pfold M X ys < M := by
  have h : ∀ (l : List (Int × Bool)) (p : Int), 0 ≤ p ∧ p < M → 0 ≤ l.foldl (pstep M X) p ∧ l.foldl (pstep M X) p < M := by
    intro l
    induction l with
    | nil => intro p hp; exact hp
    | cons x l ih =>
      intro p hp
      refine ih _ ?_
      unfold pstep
      cases x.2
      · exact mod_range _ _ (by omega) (by omega)
      · exact mod_range _ _ (by omega) (by omega)
  exact h ys _ (mod_range _ _ (by omega) (by omega))
end Go.Proofs.Ytcobbbamocdbbaa
/-
  Contract of modular.Pow.
-/
namespace Go.Proofs.Ytcobbbamocdbbaa
open Go.RowKit Go.Shelf
set_option linter.unusedVariables false
set_option linter.unusedSimpArgs false
attribute [local go_sem] Oper.semAt_some

/-- Between two rounds: the modulus, the base and the power in their cells. -/
def PGo (w : World) (g5 g8 g : Nat) (mo : Option Addr) (lm cm : Nat) (ms : List Int) (a1 : Option Addr) (l1 c1 : Nat) (zs : List Int) (M X : Int) (pre : List (Int × Bool)) (W : World) : Prop :=
  (Kc W g5 (.slice mo lm cm) ∧ Kc W g8 (.slice a1 l1 c1) ∧ NumIn .u64 B64 W a1 l1 c1 zs ∧ ∃ a l c xs, Kc W g (.slice a l c) ∧ NumIn .u64 B64 W a l c xs ∧ Canon xs ∧ val B64 xs = pfold M X pre ∧ l ≤ lm) ∧ Below w.heap.size w W
theorem PGo.kept {w : World} {g5 g8 g : Nat} {mo : Option Addr} {lm cm : Nat} {ms : List Int} {a1 : Option Addr} {l1 c1 : Nat} {zs : List Int} {M X : Int} {B : Nat} (hB : w.heap.size ≤ B) : OwnFrom B (PGo w g5 g8 g mo lm cm ms a1 l1 c1 zs M X) := by
  rintro pre A A' row ⟨⟨h1, h2, h3, a, l, c, xs, h4, h5, h6⟩, h7⟩ hg hr
  have hr2 := fun r e => (hr r e).2
  exact ⟨⟨h1.kept hg hr2, h2.kept hg hr2, h3.keptc hg hr2, a, l, c, xs, h4.kept hg hr2, h5.keptc hg hr2, h6⟩, ownFrom_below (β := Unit) (Nat.le_refl _) hB () A A' row h7 hg hr⟩

theorem wpIn_noPanic {F : Fence} {n : Nat} {P : Program} {c : Code} {Q : Exit → Act → World → Prop} {a : Act} {w : World} (h : c.wpIn F n P (NoPanic Q) a w) : c.wpIn F n P Q a w :=
  Code.wpIn_mono NoPanic.imp h

end Go.Proofs.Ytcobbbamocdbbaa
/-
  The code's field: sums, differences, products, quotients of numbers in memory.
-/
namespace Go.Proofs.Ytcobbbamocdbbaa
open Go.Shelf Go.RowKit
set_option linter.unusedVariables false
set_option linter.unusedSimpArgs false

/-- A value that is a number in memory. -/
def Nv (w : World) (v : Value) (n : Int) (L : Nat) : Prop := ∃ ao len cap xs, v = .slice ao len cap ∧ NumIn .u64 B64 w ao len cap xs ∧ val B64 xs = n ∧ len ≤ L
theorem Nv.old {w w' : World} {v : Value} {n : Int} {L : Nat} (h : Nv w v n L) (hb : Below w.heap.size w w') : Nv w' v n L := by
  obtain ⟨ao, len, cap, xs, e, h1, h2, h3⟩ := h
  exact ⟨ao, len, cap, xs, e, h1.old hb, h2, h3⟩
theorem Nv.up {w : World} {v : Value} {n : Int} {L L' : Nat} (h : Nv w v n L) (hl : L ≤ L') : Nv w v n L' := by
  obtain ⟨ao, len, cap, xs, e, h1, h2, h3⟩ := h
  exact ⟨ao, len, cap, xs, e, h1, h2, by omega⟩
theorem Nv.nonneg {w : World} {v : Value} {n : Int} {L : Nat} (h : Nv w v n L) : 0 ≤ n := by
  obtain ⟨ao, len, cap, xs, e, h1, h2, h3⟩ := h
  rw [← h2]
  exact val_nonneg B64_pos h1.dg
/-- A number that was answered. -/
def Na (w w' : World) (v : Value) (n : Int) (L : Nat) : Prop := Nv w' v n L ∧ Below w.heap.size w w'
theorem NumOut.na {w w' : World} {v : Value} {n : Int} {L : Nat} (h : NumOut .u64 B64 w w' v n L) : Na w w' v n L := by
  obtain ⟨ao, len, cap, xs, e, h1, _, h2, h3, h4⟩ := h
  exact ⟨⟨ao, len, cap, xs, e, h1, h2, h3⟩, h4⟩
theorem alloc_sz7 (w : World) (o : Obj) : (w.alloc o).heap.size = w.heap.size + 1 := by
  show (w.heap.push o).size = _
  simp
theorem box_cell (w : World) (v : Value) (t : TypeId) : (w.alloc (.cells #[v] t)).cell? ⟨w.heap.size, 0, none⟩ = some v := by
  rw [cell_of_row _ _ _ _ _ _ (heap_alloc_new w _)]
  rfl
theorem box_keep {w W : World} {v : Value} {t : TypeId} (hb : Below (w.alloc (.cells #[v] t)).heap.size (w.alloc (.cells #[v] t)) W) : W.cell? ⟨w.heap.size, 0, none⟩ = some v := (hb.cell (p := ⟨w.heap.size, 0, none⟩) (by rw [alloc_sz7]; show w.heap.size < _; omega)).trans (box_cell w v t)
theorem add_nv (a b m : Value) (x y M : Int) (L Lm : Nat) (w : World) (ha : Nv w a x L) (hb : Nv w b y L) (hm : Nv w m M Lm) (h0 : M ≠ 0) (hs : L + L + Lm < 100000000) :
    Calls Try.prog 93 #[a, b, m] w fun e w' => ∃ v, e = .returned (.tuple #[v, .int .i64 0]) ∧ Na w w' v ((x + y) % M) Lm := by
  obtain ⟨ao, la, ca, xs, rfl, h1, rfl, h2⟩ := ha
  obtain ⟨bo, lb, cb, ys, rfl, k1, rfl, k2⟩ := hb
  obtain ⟨mo, lm, cm, ms, rfl, m1, rfl, m2⟩ := hm
  refine (mAdd_any ao bo mo la ca lb cb lm cm xs ys ms w h1 k1 m1 h0 (by omega)).mono ?_
  rintro e w' ⟨v, rfl, h⟩
  exact ⟨v, rfl, h.na.1.up m2, h.na.2⟩
theorem mul_nv (a b m : Value) (x y M : Int) (L Lm : Nat) (w : World) (ha : Nv w a x L) (hb : Nv w b y L) (hm : Nv w m M Lm) (h0 : M ≠ 0) (hs : L + L + Lm < 100000000) :
    Calls Try.prog 52 #[a, b, m] w fun e w' => ∃ v, e = .returned (.tuple #[v, .int .i64 0]) ∧ Na w w' v ((x * y) % M) Lm := by
  obtain ⟨ao, la, ca, xs, rfl, h1, rfl, h2⟩ := ha
  obtain ⟨bo, lb, cb, ys, rfl, k1, rfl, k2⟩ := hb
  obtain ⟨mo, lm, cm, ms, rfl, m1, rfl, m2⟩ := hm
  refine (mMul_any ao bo mo la ca lb cb lm cm xs ys ms w h1 k1 m1 h0 (by omega)).mono ?_
  rintro e w' ⟨v, rfl, h⟩
  exact ⟨v, rfl, h.na.1.up m2, h.na.2⟩
theorem sub_nv (a b m : Value) (x y M : Int) (L Lm : Nat) (w : World) (ha : Nv w a x L) (hb : Nv w b y L) (hm : Nv w m M Lm) (h0 : M ≠ 0) (hs : L + L + Lm < 100000000) :
    Calls Try.prog 81 #[a, b, m] w fun e w' => ∃ v, e = .returned (.tuple #[v, .int .i64 0]) ∧ Na w w' v ((x - y) % M) Lm := by
  obtain ⟨ao, la, ca, xs, rfl, h1, rfl, h2⟩ := ha
  obtain ⟨bo, lb, cb, ys, rfl, k1, rfl, k2⟩ := hb
  obtain ⟨mo, lm, cm, ms, rfl, m1, rfl, m2⟩ := hm
  refine (mSub_any ao bo mo la ca lb cb lm cm xs ys ms w h1 k1 m1 h0 (by omega)).mono ?_
  rintro e w' ⟨v, rfl, h⟩
  exact ⟨v, rfl, h.na.1.up m2, h.na.2⟩
set_option maxHeartbeats 1000000 in
theorem plus_any (a b m : Value) (x y M : Int) (L Lm : Nat) (w : World) (ha : Nv w a x L) (hb : Nv w b y L) (hm : Nv w m M Lm) (h0 : M ≠ 0) (hs : L + L + Lm < 100000000) :
    Calls Try.prog 76 #[.agg #[m], a, b] w fun e w' => ∃ v, e = .returned v ∧ Na w w' v ((x + y) % M) Lm := by
  have HA := fun W (hW : Below w.heap.size w W) => add_nv a b m x y M L Lm W (ha.old hW) (hb.old hW) (hm.old hW) h0 hs
  obtain ⟨ao, la, ca, xs, rfl, _⟩ := ha
  obtain ⟨bo, lb, cb, ys, rfl, _⟩ := hb
  obtain ⟨mo, lm, cm, ms, rfl, _⟩ := hm
  have b0 := (Below.refl w.heap.size w).alloc (Nat.le_refl _) (.cells #[.slice mo lm cm] 123)
  have HB := HA _ b0
  go_enter Try.func76, Try.ntmps76
  go_wp2_with (go_at_call 93; refine HB.mono ?_; rintro e w1 ⟨v, rfl, h1, h2⟩; obtain ⟨p1, p2, p3, p4, rfl, h3⟩ := h1)
  go_ret
  exact ⟨_, rfl, ⟨p1, p2, p3, p4, rfl, h3⟩, b0.trans (h2.mono b0.size)⟩
set_option maxHeartbeats 1000000 in
theorem minus_any (a b m : Value) (x y M : Int) (L Lm : Nat) (w : World) (ha : Nv w a x L) (hb : Nv w b y L) (hm : Nv w m M Lm) (h0 : M ≠ 0) (hs : L + L + Lm < 100000000) :
    Calls Try.prog 89 #[.agg #[m], a, b] w fun e w' => ∃ v, e = .returned v ∧ Na w w' v ((x - y) % M) Lm := by
  have HA := fun W (hW : Below w.heap.size w W) => sub_nv a b m x y M L Lm W (ha.old hW) (hb.old hW) (hm.old hW) h0 hs
  obtain ⟨ao, la, ca, xs, rfl, _⟩ := ha
  obtain ⟨bo, lb, cb, ys, rfl, _⟩ := hb
  obtain ⟨mo, lm, cm, ms, rfl, _⟩ := hm
  have b0 := (Below.refl w.heap.size w).alloc (Nat.le_refl _) (.cells #[.slice mo lm cm] 123)
  have HB := HA _ b0
  go_enter Try.func89, Try.ntmps89
  go_wp2_with (go_at_call 81; refine HB.mono ?_; rintro e w1 ⟨v, rfl, h1, h2⟩; obtain ⟨p1, p2, p3, p4, rfl, h3⟩ := h1)
  go_ret
  exact ⟨_, rfl, ⟨p1, p2, p3, p4, rfl, h3⟩, b0.trans (h2.mono b0.size)⟩
set_option maxHeartbeats 1000000 in
theorem product_any (a b m : Value) (x y M : Int) (L Lm : Nat) (w : World) (ha : Nv w a x L) (hb : Nv w b y L) (hm : Nv w m M Lm) (h0 : M ≠ 0) (hs : L + L + Lm < 100000000) :
    Calls Try.prog 68 #[.agg #[m], a, b] w fun e w' => ∃ v, e = .returned v ∧ Na w w' v ((x * y) % M) Lm := by
  have HA := fun W (hW : Below w.heap.size w W) => mul_nv a b m x y M L Lm W (ha.old hW) (hb.old hW) (hm.old hW) h0 hs
  obtain ⟨ao, la, ca, xs, rfl, _⟩ := ha
  obtain ⟨bo, lb, cb, ys, rfl, _⟩ := hb
  obtain ⟨mo, lm, cm, ms, rfl, _⟩ := hm
  have b0 := (Below.refl w.heap.size w).alloc (Nat.le_refl _) (.cells #[.slice mo lm cm] 123)
  have HB := HA _ b0
  go_enter Try.func68, Try.ntmps68
  go_wp2_with (go_at_call 52; refine HB.mono ?_; rintro e w1 ⟨v, rfl, h1, h2⟩; obtain ⟨p1, p2, p3, p4, rfl, h3⟩ := h1)
  go_ret
  exact ⟨_, rfl, ⟨p1, p2, p3, p4, rfl, h3⟩, b0.trans (h2.mono b0.size)⟩
theorem inv_no (b m : Value) (y M : Int) (L Lm : Nat) (w : World) (hb : Nv w b y L) (hm : Nv w m M Lm) (h0 : M ≠ 0) (hg : gd M (y % M) ≠ 1) (hs : L + Lm < 100000000) :
    Calls Try.prog 51 #[b, m] w fun e w' => e = .returned (.tuple #[.slice none 0 0, .int .i64 5]) ∧ Below w.heap.size w w' := by
  obtain ⟨bo, lb, cb, ys, rfl, k1, rfl, k2⟩ := hb
  obtain ⟨mo, lm, cm, ms, rfl, m1, rfl, m2⟩ := hm
  exact mInv_no bo mo lb cb lm cm ys ms w k1 m1 h0 hg (by omega)
theorem inv_yes (b m : Value) (y M : Int) (L Lm : Nat) (w : World) (hb : Nv w b y L) (hm : Nv w m M Lm) (h0 : M ≠ 0) (hg : gd M (y % M) = 1) (hs : L + Lm < 100000000) :
    Calls Try.prog 51 #[b, m] w fun e w' => ∃ v n, e = .returned (.tuple #[v, .int .i64 0]) ∧ Na w w' v n Lm ∧ 0 ≤ n ∧ n < M ∧ Cg M (n * y) 1 := by
  obtain ⟨bo, lb, cb, ys, rfl, k1, rfl, k2⟩ := hb
  obtain ⟨mo, lm, cm, ms, rfl, m1, rfl, m2⟩ := hm
  refine (mInv_yes bo mo lb cb lm cm ys ms w k1 m1 h0 hg (by omega)).mono ?_
  rintro e w' ⟨v, n, rfl, h, h2, h3, h4⟩
  exact ⟨v, n, rfl, ⟨h.na.1.up m2, h.na.2⟩, h2, h3, h4⟩
set_option maxHeartbeats 1000000 in
theorem quot_no (a b m : Value) (x y M : Int) (L Lm : Nat) (w : World) (ha : Nv w a x L) (hb : Nv w b y L) (hm : Nv w m M Lm) (h0 : M ≠ 0) (hg : gd M (y % M) ≠ 1) (hs : L + L + Lm < 100000000) :
    Calls Try.prog 88 #[.agg #[m], a, b] w fun e w' => e = .returned (.tuple #[.slice none 0 0, .bool false]) ∧ Below w.heap.size w w' := by
  have HA := fun W (hW : Below w.heap.size w W) => inv_no b m y M L Lm W (hb.old hW) (hm.old hW) h0 hg (by omega)
  obtain ⟨ao, la, ca, xs, rfl, _⟩ := ha
  obtain ⟨bo, lb, cb, ys, rfl, _⟩ := hb
  obtain ⟨mo, lm, cm, ms, rfl, _⟩ := hm
  have b0 := (Below.refl w.heap.size w).alloc (Nat.le_refl _) (.cells #[.slice mo lm cm] 123)
  have HB := HA _ b0
  go_enter Try.func88, Try.ntmps88
  go_wp2_with (go_at_call 51; refine HB.mono ?_; rintro e w1 ⟨rfl, h2⟩)
  go_ret2
  exact ⟨rfl, b0.trans (h2.mono b0.size)⟩
set_option maxHeartbeats 1000000 in
theorem quot_yes (a b m : Value) (x y M : Int) (L Lm : Nat) (w : World) (ha : Nv w a x L) (hb : Nv w b y L) (hm : Nv w m M Lm) (h0 : M ≠ 0) (hg : gd M (y % M) = 1) (hs : L + L + Lm + Lm + Lm < 100000000) :
    Calls Try.prog 88 #[.agg #[m], a, b] w fun e w' => ∃ v n, e = .returned (.tuple #[v, .bool true]) ∧ Na w w' v ((x * n) % M) Lm ∧ 0 ≤ n ∧ n < M ∧ Cg M (n * y) 1 := by
  have HA := fun W (hW : Below w.heap.size w W) => inv_yes b m y M L Lm W (hb.old hW) (hm.old hW) h0 hg (by omega)
  have HP := fun W (hW : Below w.heap.size w W) v n (hv : Nv W v n Lm) => product_any a v m x n M (L + Lm) Lm W ((ha.old hW).up (by omega)) (hv.up (by omega)) (hm.old hW) h0
  obtain ⟨ao, la, ca, xs, rfl, _⟩ := ha
  obtain ⟨bo, lb, cb, ys, rfl, _⟩ := hb
  obtain ⟨mo, lm, cm, ms, rfl, _⟩ := hm
  have b0 := (Below.refl w.heap.size w).alloc (Nat.le_refl _) (.cells #[.slice mo lm cm] 123)
  have HB := HA _ b0
  go_enter Try.func88, Try.ntmps88
  go_wp2_with (go_at_call 51; refine HB.mono ?_; rintro e w1 ⟨v, n, rfl, ⟨h1, h2⟩, h3⟩; obtain ⟨p1, p2, p3, p4, rfl, h4⟩ := h1; have c1 := box_keep h2)
  have b1 := b0.trans (h2.mono b0.size)
  have HQ := HP w1 b1 (.slice p1 p2 p3) n ⟨p1, p2, p3, p4, rfl, h4⟩ (by omega)
  go_at_call 68
  refine HQ.mono ?_
  rintro e w2 ⟨v2, rfl, h5, h6⟩
  obtain ⟨q1, q2, q3, q4, rfl, h7⟩ := h5
  go_wp2
  go_ret2
  exact ⟨_, n, rfl, ⟨⟨q1, q2, q3, q4, rfl, h7⟩, b1.trans (h6.mono b1.size)⟩, h3⟩
theorem drew7 (w : World) : ∀ k, Below w.heap.size w (w.drewN k)
  | 0 => Below.refl _ _
  | k + 1 => (drew7 w k).drew
set_option maxHeartbeats 1000000 in
theorem isZero_any (a : Value) (x : Int) (L : Nat) (w : World) (ha : Nv w a x L) :
    Calls Try.prog 40 #[a] w fun e w' => e = .returned (.bool (decide (x = 0))) ∧ w' = w := by
  obtain ⟨ao, la, ca, xs, rfl, h1, h2, h3⟩ := ha
  have HL := Len_any ao la ca xs w h1
  have hn := val_nonneg B64_pos h1.dg
  obtain ⟨ln, hln⟩ : ∃ ln, lenOf xs = ln := ⟨_, rfl⟩
  have hz : decide ((ln : Int) = 0) = decide (x = 0) := by
    by_cases h0 : x = 0
    · rw [← hln, lenOf_zero h1.dg (by omega)]; simp [h0]
    · have := lenOf_pos h1.dg (by omega)
      simp [h0]; omega
  rw [hln] at HL
  rw [← hz]
  go_enter Try.func40, Try.ntmps40
  go_wp2_with (go_at_call 72; refine HL.mono ?_; rintro e w1 ⟨rfl, rfl⟩)
  go_ret
  exact ⟨by first | rfl | simp, rfl⟩
set_option maxHeartbeats 1000000 in
theorem isBelow_any (a b : Value) (x y : Int) (L : Nat) (w : World) (ha : Nv w a x L) (hb : Nv w b y L) :
    Calls Try.prog 67 #[a, b] w fun e w' => e = .returned (.bool (decide (x < y))) ∧ Below w.heap.size w w' := by
  obtain ⟨ao, la, ca, xs, rfl, h1, h2, h3⟩ := ha
  obtain ⟨bo, lb, cb, ys, rfl, k1, k2, k3⟩ := hb
  have HC := Cmp_any ao bo la ca lb cb xs ys w h1 k1
  rw [h2, k2] at HC
  obtain ⟨z, hz⟩ : ∃ z, cmpI x y = z := ⟨_, rfl⟩
  rw [hz] at HC
  have hd : decide (z < 0) = decide (x < y) := by
    rw [← hz]
    unfold cmpI
    by_cases q : x < y
    · simp [q]
    · rw [if_neg q]
      split <;> simp [q]
  clear hz
  go_enter Try.func67, Try.ntmps67
  go_wp2_with (go_at_call 31; refine HC.mono ?_; rintro e w1 ⟨rfl, k, rfl⟩)
  go_ret
  exact ⟨rfl, (drew7 _ _)⟩
/-- A curve's numbers; a point's. -/
structure Cz where
  p : Int
  a : Int
  b : Int
  gx : Int
  gy : Int
  n : Int
structure Pz where
  x : Int
  y : Int
  inf : Bool
/-- A curve in memory. -/
def Cu (w : World) (c : Value) (K : Cz) (L : Nat) : Prop := ∃ (g1 g2 : Int) (oo : Option Addr) (lo co : Nat) (vp va vb vx vy vn : Value), c = .agg #[.int .i64 g1, .int .i64 g2, .slice oo lo co, vp, va, vb, vx, vy, vn] ∧ Nv w vp K.p L ∧ Nv w va K.a L ∧ Nv w vb K.b L ∧ Nv w vx K.gx L ∧ Nv w vy K.gy L ∧ Nv w vn K.n L
/-- A point in memory. -/
def Pv (w : World) (c : Value) (p : Pz) (L : Nat) : Prop := ∃ vx vy, c = .agg #[vx, vy, .bool p.inf] ∧ Nv w vx p.x L ∧ Nv w vy p.y L
theorem Cu.old {w w' : World} {c : Value} {K : Cz} {L : Nat} (h : Cu w c K L) (hb : Below w.heap.size w w') : Cu w' c K L := by
  obtain ⟨g1, g2, oo, lo, co, vp, va, vb, vx, vy, vn, e, h1, h2, h3, h4, h5, h6⟩ := h
  exact ⟨g1, g2, oo, lo, co, vp, va, vb, vx, vy, vn, e, h1.old hb, h2.old hb, h3.old hb, h4.old hb, h5.old hb, h6.old hb⟩
theorem Pv.old {w w' : World} {c : Value} {p : Pz} {L : Nat} (h : Pv w c p L) (hb : Below w.heap.size w w') : Pv w' c p L := by
  obtain ⟨vx, vy, e, h1, h2⟩ := h
  exact ⟨vx, vy, e, h1.old hb, h2.old hb⟩
theorem Pv.up {w : World} {c : Value} {p : Pz} {L L' : Nat} (h : Pv w c p L) (hl : L ≤ L') : Pv w c p L' := by
  obtain ⟨vx, vy, e, h1, h2⟩ := h
  exact ⟨vx, vy, e, h1.up hl, h2.up hl⟩
/-- What slope keeps in memory. -/
structure FrS (W : World) (b : Nat) (cv pv qv : Array Value) (m : Value) : Prop where
  c : W.heap[b]? = some (.cells cv 29 (0, 0))
  p : W.heap[b + 1]? = some (.cells pv 51 (0, 0))
  q : W.heap[b + 1 + 1]? = some (.cells qv 51 (0, 0))
  f : W.heap[b + 1 + 1 + 1]? = some (.cells #[m] 123 (0, 0))
theorem heap_new {w : World} {o : Obj} {k : Nat} {x : Option Obj} (h : w.heap[k]? = x) (hx : k < w.heap.size) : (w.alloc o).heap[k]? = x := by
  rw [← h]
  exact heap_alloc_old _ _ hx
theorem frS_new (w : World) (cv pv qv : Array Value) (m : Value) : FrS ((((w.alloc (.cells cv 29)).alloc (.cells pv 51)).alloc (.cells qv 51)).alloc (.cells #[m] 123)) w.heap.size cv pv qv m ∧ Below w.heap.size w ((((w.alloc (.cells cv 29)).alloc (.cells pv 51)).alloc (.cells qv 51)).alloc (.cells #[m] 123)) := by
  have z1 := alloc_sz7 w (.cells cv 29)
  have z2 := alloc_sz7 (w.alloc (.cells cv 29)) (.cells pv 51)
  have z3 := alloc_sz7 ((w.alloc (.cells cv 29)).alloc (.cells pv 51)) (.cells qv 51)
  have n1 := heap_alloc_new w (.cells cv 29)
  have n2 := heap_alloc_new (w.alloc (.cells cv 29)) (.cells pv 51)
  have n3 := heap_alloc_new ((w.alloc (.cells cv 29)).alloc (.cells pv 51)) (.cells qv 51)
  have n4 := heap_alloc_new (((w.alloc (.cells cv 29)).alloc (.cells pv 51)).alloc (.cells qv 51)) (.cells #[m] 123)
  rw [z1] at n2
  rw [z2, z1] at n3
  rw [z3, z2, z1] at n4
  refine ⟨⟨heap_new (heap_new (heap_new n1 (by omega)) (by omega)) (by omega), heap_new (heap_new n2 (by omega)) (by omega), heap_new n3 (by omega), n4⟩, ?_⟩
  exact ((((Below.refl w.heap.size w).alloc (Nat.le_refl _) _).alloc (by omega) _).alloc (by omega) _).alloc (by omega) _
theorem FrS.keep {W W' : World} {b : Nat} {cv pv qv : Array Value} {m : Value} (h : FrS W b cv pv qv m) (hb : Below W.heap.size W W') : FrS W' b cv pv qv m :=
  ⟨(hb.block _ (Array.getElem?_eq_some_iff.1 h.c).1).trans h.c, (hb.block _ (Array.getElem?_eq_some_iff.1 h.p).1).trans h.p, (hb.block _ (Array.getElem?_eq_some_iff.1 h.q).1).trans h.q, (hb.block _ (Array.getElem?_eq_some_iff.1 h.f).1).trans h.f⟩
theorem FrS.cells {W : World} {b : Nat} {y0 y1 y2 y3 y4 y5 y6 y7 y8 p0 p1 p2 q0 q1 q2 m : Value} (h : FrS W b #[y0, y1, y2, y3, y4, y5, y6, y7, y8] #[p0, p1, p2] #[q0, q1, q2] m) : W.cell? ⟨b, 3, none⟩ = some y3 ∧ W.cell? ⟨b, 4, none⟩ = some y4 ∧ W.cell? ⟨b + 1, 0, none⟩ = some p0 ∧ W.cell? ⟨b + 1, 1, none⟩ = some p1 ∧ W.cell? ⟨b + 1 + 1, 0, none⟩ = some q0 ∧ W.cell? ⟨b + 1 + 1, 1, none⟩ = some q1 ∧ W.cell? ⟨b + 1 + 1 + 1, 0, none⟩ = some m := by
  refine ⟨?_, ?_, ?_, ?_, ?_, ?_, ?_⟩
  · rw [cell_of_row _ _ _ _ _ _ h.c]; rfl
  · rw [cell_of_row _ _ _ _ _ _ h.c]; rfl
  · rw [cell_of_row _ _ _ _ _ _ h.p]; rfl
  · rw [cell_of_row _ _ _ _ _ _ h.p]; rfl
  · rw [cell_of_row _ _ _ _ _ _ h.q]; rfl
  · rw [cell_of_row _ _ _ _ _ _ h.q]; rfl
  · rw [cell_of_row _ _ _ _ _ _ h.f]; rfl
/-- What is divided by what. -/
def riseZ (K : Cz) (p q : Pz) : Int := if (q.x - p.x) % K.p ≠ 0 then (q.y - p.y) % K.p else ((3 * ((p.x * p.x) % K.p)) % K.p + K.a) % K.p
def runZ (K : Cz) (p q : Pz) : Int := if (q.x - p.x) % K.p ≠ 0 then (q.x - p.x) % K.p else (p.y + q.y) % K.p
set_option maxRecDepth 100000 in
set_option maxHeartbeats 2000000 in
theorem slope_any (c p q : Value) (K : Cz) (P Q : Pz) (L : Nat) (w : World) (hc : Cu w c K L) (hp : Pv w p P L) (hq : Pv w q Q L) (h0 : K.p ≠ 0) (hL : 1 ≤ L ∧ L ≤ 1000) :
    Calls Try.prog 87 #[c, p, q] w fun e w' => ∃ v1 v2, e = .returned (.tuple #[v1, v2]) ∧ Nv w' v1 (riseZ K P Q) L ∧ Nv w' v2 (runZ K P Q) L ∧ Below w.heap.size w w' := by
  obtain ⟨g1, g2, oo, lo, co, vp, va, vb, vx, vy, vn, rfl, c1, c2, c3, c4, c5, c6⟩ := hc
  obtain ⟨px, py, rfl, p1, p2⟩ := hp
  obtain ⟨qx, qy, rfl, q1, q2⟩ := hq
  have HM := fun W (hW : Below w.heap.size w W) => minus_any qx px vp Q.x P.x K.p L L W (q1.old hW) (p1.old hW) (c1.old hW) h0 (by omega)
  obtain ⟨a1, a2, a3, a4, rfl, a5⟩ := c1
  obtain ⟨b1, b2, b3, b4, rfl, b5⟩ := c2
  obtain ⟨d1, d2, d3, d4, rfl, d5⟩ := c3
  obtain ⟨e1, e2, e3, e4, rfl, e5⟩ := c4
  obtain ⟨f1, f2, f3, f4, rfl, f5⟩ := c5
  obtain ⟨j1, j2, j3, j4, rfl, j5⟩ := c6
  obtain ⟨k1, k2, k3, k4, rfl, k5⟩ := p1
  obtain ⟨l1, l2, l3, l4, rfl, l5⟩ := p2
  obtain ⟨m1, m2, m3, m4, rfl, m5⟩ := q1
  obtain ⟨n1, n2, n3, n4, rfl, n5⟩ := q2
  obtain ⟨W, hW⟩ : ∃ W, (((w.alloc (.cells #[.int .i64 g1, .int .i64 g2, .slice oo lo co, .slice a1 a2 a3, .slice b1 b2 b3, .slice d1 d2 d3, .slice e1 e2 e3, .slice f1 f2 f3, .slice j1 j2 j3] 29)).alloc (.cells #[.slice k1 k2 k3, .slice l1 l2 l3, .bool P.inf] 51)).alloc (.cells #[.slice m1 m2 m3, .slice n1 n2 n3, .bool Q.inf] 51)).alloc (.cells #[.slice a1 a2 a3] 123) = W := ⟨_, rfl⟩
  have FZ := frS_new w #[.int .i64 g1, .int .i64 g2, .slice oo lo co, .slice a1 a2 a3, .slice b1 b2 b3, .slice d1 d2 d3, .slice e1 e2 e3, .slice f1 f2 f3, .slice j1 j2 j3] #[.slice k1 k2 k3, .slice l1 l2 l3, .bool P.inf] #[.slice m1 m2 m3, .slice n1 n2 n3, .bool Q.inf] (.slice a1 a2 a3)
  rw [hW] at FZ
  obtain ⟨FZ, hb⟩ := FZ
  have HMW := HM W hb
  have HW : Hid (_ = W) := hW
  clear hW
  obtain ⟨RI, hRI⟩ : ∃ r, riseZ K P Q = r := ⟨_, rfl⟩
  obtain ⟨RU, hRU⟩ : ∃ r, runZ K P Q = r := ⟨_, rfl⟩
  rw [hRI, hRU]
  have HRI : Hid (riseZ K P Q = RI ∧ runZ K P Q = RU) := ⟨hRI, hRU⟩
  clear hRI hRU
  go_enter Try.func87, Try.ntmps87
  go_wp2_with fail
  go_at_call 89
  rw [HW.out]
  refine HMW.mono ?_
  rintro e w1 ⟨v1, rfl, hv1, hb1⟩
  have F1 := FZ.keep hb1
  obtain ⟨x1, x2, x3, x4, x5, x6, x7⟩ := F1.cells
  have HZ := isZero_any v1 _ L w1 hv1
  have B1 := hb.trans (hb1.mono hb.size)
  have HM2 := minus_any (.slice n1 n2 n3) (.slice l1 l2 l3) (.slice a1 a2 a3) Q.y P.y K.p L L w1 (Nv.old ⟨n1, n2, n3, n4, rfl, n5⟩ B1) (Nv.old ⟨l1, l2, l3, l4, rfl, l5⟩ B1) (Nv.old ⟨a1, a2, a3, a4, rfl, a5⟩ B1) h0 (by omega)
  have hv1' := hv1
  obtain ⟨r1, r2, r3, r4, rfl, r5⟩ := hv1
  obtain ⟨A, hA⟩ : ∃ A, (Q.x - P.x) % K.p = A := ⟨_, rfl⟩
  rw [hA] at HZ hv1'
  by_cases hz : A = 0
  · have hd : decide (A = 0) = true := by simp [hz]
    rw [hd] at HZ
    clear HM2 HM HMW
    go_wp2_with (go_at_call 40; refine HZ.mono ?_; rintro e w2 ⟨rfl, rfl⟩)
    have HPr := product_any (.slice k1 k2 k3) (.slice k1 k2 k3) (.slice a1 a2 a3) P.x P.x K.p L L w2 (Nv.old ⟨k1, k2, k3, k4, rfl, k5⟩ B1) (Nv.old ⟨k1, k2, k3, k4, rfl, k5⟩ B1) (Nv.old ⟨a1, a2, a3, a4, rfl, a5⟩ B1) h0 (by omega)
    go_at_call 68
    refine HPr.mono ?_
    rintro e w3 ⟨v3, rfl, hv3, hb3⟩
    have hv3' := hv3
    obtain ⟨s1, s2, s3, s4, rfl, s5⟩ := hv3
    have F3 := F1.keep hb3
    have B3 := B1.trans (hb3.mono B1.size)
    clear HPr HZ x1 x2 x3 x4 x5 x6 x7
    obtain ⟨x1, x2, x3, x4, x5, x6, x7⟩ := F3.cells
    have HK := fun (W : World) (hW : Below w3.heap.size w3 W) => (show W.cell? ⟨w.heap.size + 1 + 1 + 1, 0, none⟩ = some (.slice a1 a2 a3) ∧ W.cell? ⟨w.heap.size, 4, none⟩ = some (.slice b1 b2 b3) ∧ W.cell? ⟨w.heap.size + 1, 1, none⟩ = some (.slice l1 l2 l3) ∧ W.cell? ⟨w.heap.size + 1 + 1, 1, none⟩ = some (.slice n1 n2 n3) from by
      obtain ⟨y1, y2, y3, y4, y5, y6, y7⟩ := (F3.keep hW).cells
      exact ⟨y7, y2, y4, y6⟩)
    have K3 := HK w3 (Below.refl _ _)
    have K4 := HK w3.drew (Below.refl _ _).drew
    have HOf := Of_any 3 w3.drew (by decide) (by decide)
    have HPr := fun W (hW : Below w.heap.size w W) (h3W : Below w3.heap.size w3 W) v (hv : Nv W v 3 1) => product_any v (.slice s1 s2 s3) (.slice a1 a2 a3) 3 ((P.x * P.x) % K.p) K.p L L W (hv.up hL.1) (hv3'.old h3W) (Nv.old ⟨a1, a2, a3, a4, rfl, a5⟩ hW) h0 (by omega)
    have HP1 := fun W (hW : Below w.heap.size w W) v n (hv : Nv W v n L) => plus_any v (.slice b1 b2 b3) (.slice a1 a2 a3) n K.a K.p L L W hv (Nv.old ⟨b1, b2, b3, b4, rfl, b5⟩ hW) (Nv.old ⟨a1, a2, a3, a4, rfl, a5⟩ hW) h0 (by omega)
    have HP2 := fun W (hW : Below w.heap.size w W) => plus_any (.slice l1 l2 l3) (.slice n1 n2 n3) (.slice a1 a2 a3) P.y Q.y K.p L L W (Nv.old ⟨l1, l2, l3, l4, rfl, l5⟩ hW) (Nv.old ⟨n1, n2, n3, n4, rfl, n5⟩ hW) (Nv.old ⟨a1, a2, a3, a4, rfl, a5⟩ hW) h0 (by omega)
    have T1 : True := trivial
    go_wp2_with fail
    go_region_held3 (fun W => W.cell? ⟨w.heap.size + 1 + 1 + 1, 0, none⟩ = some (.slice a1 a2 a3) ∧ W.cell? ⟨w.heap.size, 4, none⟩ = some (.slice b1 b2 b3) ∧ W.cell? ⟨w.heap.size + 1, 1, none⟩ = some (.slice l1 l2 l3) ∧ W.cell? ⟨w.heap.size + 1 + 1, 1, none⟩ = some (.slice n1 n2 n3))
      (first | exact K3 | exact K4 | exact K5 | exact K6 | exact K7 | exact K8) (first
      | (go_at_call 11; refine HOf.mono ?_; rintro e w5 ⟨v5, rfl, hn5⟩; have hv5 := hn5.na.1; have C5 := ((Below.refl w3.heap.size w3).drew).trans (hn5.na.2.mono (Nat.le_refl _)); have K5 := HK w5 C5; have HPr2 := HPr w5 (B3.trans (C5.mono B3.size)) C5 v5 hv5; obtain ⟨o1, o2, o3, o4, rfl, o5⟩ := hv5)
      | (go_at_call 68; refine HPr2.mono ?_; rintro e w6 ⟨v6, rfl, hv6, hb6⟩; have C6 := C5.trans (hb6.mono C5.size); have K6 := HK w6 C6; have HP12 := HP1 w6 (B3.trans (C6.mono B3.size)) v6 _ hv6; obtain ⟨u1, u2, u3, u4, rfl, u5⟩ := hv6)
      | (go_at_call 76; clear T1; refine HP12.mono ?_; rintro e w7 ⟨v7, rfl, hv7, hb7⟩; have C7 := C6.trans (hb7.mono C6.size); have K7 := HK w7 C7; have hv7' := hv7; have HP22 := HP2 w7 (B3.trans (C7.mono B3.size)); obtain ⟨y1, y2, y3, y4, rfl, y5⟩ := hv7)
      | (go_at_call 76; refine HP22.mono ?_; rintro e w8 ⟨v8, rfl, hv8, hb8⟩; have C8 := C7.trans (hb8.mono C7.size); have K8 := HK w8 C8; have hv8' := hv8; obtain ⟨z1, z2, z3, z4, rfl, z5⟩ := hv8))
    go_wp2
    go_ret2
    refine ⟨_, _, rfl, ?_, ?_, B3.trans (C8.mono B3.size)⟩
    · rw [← HRI.out.1]
      unfold riseZ
      rw [hA, if_neg (by simp [hz])]
      exact hv7'.old hb8
    · rw [← HRI.out.2]
      unfold runZ
      rw [hA, if_neg (by simp [hz])]
      exact hv8'
  · have hd : decide (A = 0) = false := by simp [hz]
    rw [hd] at HZ
    clear HM HMW
    go_wp2_with (first
      | (go_at_call 40; refine HZ.mono ?_; rintro e w2 ⟨rfl, rfl⟩)
      | (go_at_call 89; refine HM2.mono ?_; rintro e w3 ⟨v3, rfl, hv3, hb3⟩; have hv3' := hv3; obtain ⟨s1, s2, s3, s4, rfl, s5⟩ := hv3))
    go_ret2
    refine ⟨_, _, rfl, ?_, ?_, B1.trans (hb3.mono B1.size)⟩
    · rw [← HRI.out.1]
      unfold riseZ
      rw [hA, if_pos hz]
      exact hv3'
    · rw [← HRI.out.2]
      unfold runZ
      rw [hA, if_pos hz]
      exact hv1'.old hb3
end Go.Proofs.Ytcobbbamocdbbaa
/-
  A region that draws its order and makes memory: facts, one an operation, told once for all orders. No program in sight.
-/
namespace Go.Proofs.Ytcobbbamocdbbaa
open Go.Shelf Go.RowKit
set_option linter.unusedVariables false
set_option linter.unusedSimpArgs false

/-- Where operation i puts what it yields. -/
def dstOf (ops : Array Oper) (i : Nat) : Nat := ((ops[i]?).bind (·.dst)).getD 0
def depsOf (ops : Array Oper) (i : Nat) : List Nat := ((ops[i]?).map (fun o => o.after.toList.map (·.on))).getD []
def reachL (ops : Array Oper) : Nat → List Nat → List Nat
  | 0, S => S
  | n + 1, S => reachL ops n (S ++ S.flatMap (depsOf ops))
/-- What is asked of the text of such a region: of the operations below m, and of those behind. -/
def opOk (md : Region.Mode) (ops : Array Oper) (i : Nat) : Bool :=
  match ops[i]? with
  | some o => o.dst.isSome && o.guard.isNone && o.after.all (fun e => Region.binds md e && decide (e.on < i))
  | none => false
def lateOk (md : Region.Mode) (ops : Array Oper) (m n i : Nat) : Bool :=
  match ops[i]? with
  | some o => o.after.all (fun e => Region.binds md e) && (o.after.any (fun e => decide (m ≤ e.on)) || (List.range m).all (fun j => (reachL ops n (depsOf ops i)).contains j))
  | none => false
def factsOk (md : Region.Mode) (ops : Array Oper) (m n : Nat) : Bool :=
  decide (m ≤ ops.size) && (List.range m).all (opOk md ops) && (List.range m).all (fun i => (List.range m).all fun j => decide (i = j) || !(dstOf ops i == dstOf ops j)) && (List.range ops.size).all (fun i => decide (i < m) || lateOk md ops m n i)
theorem put_get (a : Act) (d s : Nat) (v : Value) (h : d ≠ s) : (a.put (some d) v).tmps.getD s undef = a.tmps.getD s undef := by
  simp only [Act.put, Array.getD_eq_getD_getElem?]
  rw [Array.getElem?_setIfInBounds_ne h]
theorem put_self (a : Act) (d : Nat) (v : Value) (h : d < a.tmps.size) : (a.put (some d) v).tmps.getD d undef = v := by
  simp only [Act.put, Array.getD_eq_getD_getElem?]
  rw [Array.getElem?_setIfInBounds_self_of_lt h]
  rfl
section
variable {P : Program} {ops : Array Oper} {Q : Exit → Act → World → Prop} {md : Region.Mode}
theorem reach_sound {T : Nat → Prop} (dc : ∀ i, T i → ∀ j ∈ depsOf ops i, T j) : ∀ (n : Nat) (S : List Nat), (∀ i ∈ S, T i) → ∀ i ∈ reachL ops n S, T i
  | 0, S, h, i, hi => h i hi
  | n + 1, S, h, i, hi => by
    refine reach_sound dc n _ ?_ i hi
    intro j hj
    rcases List.mem_append.1 hj with hj | hj
    · exact h j hj
    · obtain ⟨k, hk, hj⟩ := List.mem_flatMap.1 hj
      exact dc k (h k hk) j hj
/-- What holds while operations below m have come, those that are listed. -/
structure FInv (ops : Array Oper) (m : Nat) (F : Nat → Value → World → Prop) (a0 : Act) (w0 : World) (listed : Array Bool) (a : Act) (w : World) : Prop where
  size : listed.size = ops.size
  defers : a.defers = a0.defers
  slots : a.tmps.size = a0.tmps.size
  old : ∀ s, (∀ j, j < m → dstOf ops j ≠ s) → a.tmps.getD s undef = a0.tmps.getD s undef
  below : Below w0.heap.size w0 w
  facts : ∀ i, i < m → listed.getD i false = true → F i (a.tmps.getD (dstOf ops i) undef) w
  none : ∀ i, m ≤ i → listed.getD i false = false
  down : ∀ i, i < m → listed.getD i false = true → ∀ j ∈ depsOf ops i, listed.getD j false = true
theorem lget_set (l : Array Bool) (i j : Nat) (hi : i < l.size) : (l.setIfInBounds i true).getD j false = if i = j then true else l.getD j false := by
  simp only [Array.getD_eq_getD_getElem?]
  by_cases h : i = j
  · subst h
    rw [if_pos rfl, Array.getElem?_setIfInBounds_self_of_lt hi]
    rfl
  · rw [if_neg h, Array.getElem?_setIfInBounds_ne h]
theorem ready_mem {listed : Array Bool} {i : Nat} (h : i ∈ Region.ready md ops listed) : i < ops.size ∧ listed.getD i true = false ∧ ∃ o, ops[i]? = some o ∧ ∀ e ∈ o.after, Region.binds md e = true → listed.getD e.on false = true := by
  unfold Region.ready at h
  rw [List.mem_filter, List.mem_range] at h
  obtain ⟨h1, h2⟩ := h
  rw [Bool.and_eq_true] at h2
  obtain ⟨h2, h3⟩ := h2
  refine ⟨h1, by simpa using h2, ops[i], Array.getElem?_eq_getElem h1, ?_⟩
  rw [Array.getElem?_eq_getElem h1] at h3
  simp only [Option.map_some, Option.getD_some] at h3
  intro e he hb
  rw [Array.all_eq_true'] at h3
  have := h3 e he
  rw [hb] at this
  simpa using this
/-- How many of the first m have not come. -/
def unl (m : Nat) (listed : Array Bool) : Nat := ((List.range m).filter (fun j => !listed.getD j false)).length
theorem filter_drop (l : List Nat) (p q : Nat → Bool) (i : Nat) (hn : l.Nodup) (hi : i ∈ l) (hp : p i = true) (hq : ∀ j, q j = if i = j then false else p j) : (l.filter q).length + 1 = (l.filter p).length := by
  induction l with
  | nil => cases hi
  | cons x l ih =>
    rw [List.nodup_cons] at hn
    by_cases hx : x = i
    · subst hx
      have hqx : q x = false := by rw [hq, if_pos rfl]
      rw [List.filter_cons, List.filter_cons, hqx, hp]
      simp only [if_true, List.length_cons]
      have : l.filter q = l.filter p := by
        apply List.filter_congr
        intro j hj
        rw [hq, if_neg (by rintro rfl; exact hn.1 hj)]
      simp [this]
    · have hi' : i ∈ l := by
        rcases List.mem_cons.1 hi with h | h
        · exact absurd h.symm hx
        · exact h
      have hqx : q x = p x := by rw [hq, if_neg (fun h => hx h.symm)]
      rw [List.filter_cons, List.filter_cons, hqx]
      have := ih hn.2 hi'
      by_cases hpx : p x = true
      · rw [if_pos hpx, if_pos hpx, List.length_cons, List.length_cons]; omega
      · rw [if_neg hpx, if_neg hpx]; exact this
theorem unl_set (m : Nat) (listed : Array Bool) (i : Nat) (hi : i < m) (hs : i < listed.size) (h : listed.getD i false = false) : unl m (listed.setIfInBounds i true) + 1 = unl m listed := by
  unfold unl
  apply filter_drop (i := i)
  · exact List.nodup_range
  · exact List.mem_range.2 hi
  · rw [h]; rfl
  · intro j
    rw [lget_set _ _ _ hs]
    by_cases hj : i = j
    · rw [if_pos hj, if_pos hj]; rfl
    · rw [if_neg hj, if_neg hj]
theorem getD_or (l : Array Bool) (i : Nat) (hi : i < l.size) : l.getD i true = l.getD i false := by
  simp only [Array.getD_eq_getD_getElem?]
  rw [Array.getElem?_eq_getElem hi]
  rfl
/-- The rule. -/
theorem wpAny_facts (m n : Nat) (F : Nat → Value → World → Prop) (a0 : Act) (w0 : World) (hok : factsOk md ops m n = true) (hsl : ∀ i, i < m → dstOf ops i < a0.tmps.size)
    (keep : ∀ i v w w', i < m → F i v w → Below w.heap.size w w' → F i v w')
    (step : ∀ i o, i < m → ops[i]? = some o → ∀ a w, a.defers = a0.defers → a.tmps.size = a0.tmps.size → Below w0.heap.size w0 w → (∀ s, (∀ j, j < m → dstOf ops j ≠ s) → a.tmps.getD s undef = a0.tmps.getD s undef) → (∀ j ∈ depsOf ops i, F j (a.tmps.getD (dstOf ops j) undef) w) →
      ∀ KK : Act → World → Prop, (∀ v w', Below w.heap.size w w' → F i v w' → KK (a.put o.dst v) w') → o.wp P a w KK Q)
    (rest : ∀ listed a w, FInv ops m F a0 w0 listed a w → (∀ i, i < m → listed.getD i false = true) → wpAny P md ops Q (ops.size - m) listed a w) :
    ∀ k listed a w, FInv ops m F a0 w0 listed a w → unl m listed = k → wpAny P md ops Q (k + (ops.size - m)) listed a w
  | 0, listed, a, w, h, hk => by
    rw [Nat.zero_add]
    refine rest listed a w h fun i hi => ?_
    have h1 : (List.range m).filter (fun j => !listed.getD j false) = [] := List.length_eq_zero_iff.1 hk
    rw [List.filter_eq_nil_iff] at h1
    have := h1 i (List.mem_range.2 hi)
    simpa using this
  | k + 1, listed, a, w, h, hk => by
    unfold factsOk at hok
    simp only [Bool.and_eq_true, decide_eq_true_eq, List.all_eq_true, List.mem_range, Bool.or_eq_true] at hok
    obtain ⟨⟨⟨hm, h1⟩, h2⟩, h3⟩ := hok
    have hop : ∀ i, i < m → ∃ o, ops[i]? = some o ∧ o.dst = some (dstOf ops i) ∧ o.guard = none ∧ ∀ e ∈ o.after, Region.binds md e = true ∧ e.on < i := by
      intro i hi
      have h4 := h1 i hi
      unfold opOk at h4
      rw [Array.getElem?_eq_getElem (show i < ops.size by omega)] at h4
      simp only [Bool.and_eq_true, Array.all_eq_true', decide_eq_true_eq] at h4
      refine ⟨_, Array.getElem?_eq_getElem (show i < ops.size by omega), ?_, ?_, h4.2⟩
      · unfold dstOf
        rw [Array.getElem?_eq_getElem (show i < ops.size by omega)]
        have := h4.1.1
        show (ops[i]).dst = some (((ops[i]).dst).getD 0)
        revert this
        cases (ops[i]).dst with
        | none => intro h; cases h
        | some d => intro _; rfl
      · have := h4.1.2
        revert this
        cases (ops[i]).guard with
        | none => intro _; rfl
        | some d => intro h; cases h
    have hdep : ∀ i o, ops[i]? = some o → ∀ j, j ∈ depsOf ops i ↔ ∃ e ∈ o.after, e.on = j := by
      intro i o ho j
      unfold depsOf
      rw [ho]
      simp
    -- one of them has not come
    obtain ⟨u, hu, hun, hul⟩ : ∃ u, u < m ∧ listed.getD u false = false ∧ ∀ v, v < u → listed.getD v false = true := by
      have hex : ∃ u, u < m ∧ listed.getD u false = false := by
        have h4 : 0 < unl m listed := by omega
        obtain ⟨x, hx⟩ := List.exists_mem_of_length_pos h4
        rw [List.mem_filter, List.mem_range] at hx
        exact ⟨x, hx.1, by simpa using hx.2⟩
      obtain ⟨u, hu⟩ := hex
      induction u using Nat.strongRecOn with
      | ind u ih =>
        by_cases hv : ∃ v, v < u ∧ listed.getD v false = false
        · obtain ⟨v, hv1, hv2⟩ := hv
          exact ih v hv1 ⟨by omega, hv2⟩
        · refine ⟨u, hu.1, hu.2, fun v hvu => ?_⟩
          cases hq : listed.getD v false with
          | true => rfl
          | false => exact absurd ⟨v, hvu, hq⟩ hv
    rw [show k + 1 + (ops.size - m) = (k + (ops.size - m)) + 1 by omega]
    refine ⟨fun hr => ?_, fun i hi => ?_⟩
    · -- the least of them is ready
      exfalso
      have hmem : u ∈ Region.ready md ops listed := by
        unfold Region.ready
        rw [List.mem_filter, List.mem_range]
        obtain ⟨o, ho, _, _, hd⟩ := hop u hu
        refine ⟨by omega, ?_⟩
        rw [Bool.and_eq_true]
        refine ⟨by rw [getD_or _ _ (by rw [h.size]; omega), hun]; rfl, ?_⟩
        rw [ho]
        simp only [Option.map_some, Option.getD_some]
        rw [Array.all_eq_true']
        intro e he
        rw [hul _ (hd e he).2]
        simp
      rw [hr] at hmem
      cases hmem
    · obtain ⟨hi1, hi2, o, ho, hd⟩ := ready_mem hi
      rw [getD_or _ _ (by rw [h.size]; omega)] at hi2
      by_cases him : i < m
      · obtain ⟨o', ho', hdst, hg, hb⟩ := hop i him
        rw [ho] at ho'
        cases ho'
        unfold wpOp
        rw [ho]
        simp only
        rw [if_pos (by unfold Region.wanted; rw [hg])]
        refine .inl (Oper.wp_mono ?_ (step i o him ho a w h.defers h.slots h.below h.old ?_ (fun a' w' => ∃ v, a' = a.put o.dst v ∧ Below w.heap.size w w' ∧ F i v w') (fun v w' h1 h2 => ⟨v, rfl, h1, h2⟩)))
        · rintro a' w' ⟨v, rfl, hbw, hv⟩
          refine wpAny_facts m n F a0 w0 (by unfold factsOk; simp only [Bool.and_eq_true, decide_eq_true_eq, List.all_eq_true, List.mem_range, Bool.or_eq_true]; exact ⟨⟨⟨hm, h1⟩, h2⟩, h3⟩) hsl keep step rest k _ _ _ ?_ ?_
          · rw [hdst]
            refine ⟨by simp [h.size], h.defers, by simp [Act.put, h.slots], ?_, h.below.trans (hbw.mono h.below.size), ?_, ?_, ?_⟩
            · intro s hs
              rw [put_get _ _ _ _ (hs i him)]
              exact h.old s hs
            · intro j hj hl
              rw [lget_set _ _ _ (by rw [h.size]; omega)] at hl
              by_cases hij : i = j
              · subst hij
                rw [put_self _ _ _ (by rw [h.slots]; exact hsl i him)]
                exact hv
              · rw [if_neg hij] at hl
                have h5 := h2 i him j hj
                rcases h5 with h5 | h5
                · exact absurd h5 hij
                · rw [put_get _ _ _ _ (by intro e; rw [e] at h5; simp at h5)]
                  exact keep j _ _ _ hj (h.facts j hj hl) hbw
            · intro j hj
              rw [lget_set _ _ _ (by rw [h.size]; omega), if_neg (by omega)]
              exact h.none j hj
            · intro j hj hl x hx
              rw [lget_set _ _ _ (by rw [h.size]; omega)] at hl ⊢
              by_cases hix : i = x
              · rw [if_pos hix]
              · rw [if_neg hix]
                by_cases hij : i = j
                · subst hij
                  obtain ⟨e, he, rfl⟩ := (hdep i o ho x).1 hx
                  exact hd e he (hb e he).1
                · rw [if_neg hij] at hl
                  exact h.down j hj hl x hx
          · have := unl_set m listed i him (by rw [h.size]; omega) hi2
            omega
        · intro j hj
          obtain ⟨e, he, rfl⟩ := (hdep i o ho j).1 hj
          exact h.facts _ (by have := (hb e he).2; omega) (hd e he (hb e he).1)
      · exfalso
        have h4 := h3 i hi1
        rcases h4 with h4 | h4
        · omega
        · unfold lateOk at h4
          rw [ho] at h4
          simp only [Bool.and_eq_true, Array.all_eq_true', Bool.or_eq_true, Array.any_eq_true', decide_eq_true_eq, List.all_eq_true, List.mem_range] at h4
          obtain ⟨hbi, h4⟩ := h4
          rcases h4 with ⟨e, he, hem⟩ | h4
          · have h5 := hd e he (hbi e he)
            rw [h.none _ hem] at h5
            cases h5
          · have h5 := h4 u hu
            have h6 : u ∈ reachL ops n (depsOf ops i) := by simpa using h5
            have h7 := reach_sound (ops := ops) (T := fun j => listed.getD j false = true) (by
              intro x hx j hj
              by_cases hxm : x < m
              · exact h.down x hxm hx j hj
              · rw [h.none x (by omega)] at hx; cases hx) n (depsOf ops i) (by
              intro j hj
              obtain ⟨e, he, rfl⟩ := (hdep i o ho j).1 hj
              exact hd e he (hbi e he)) u h6
            rw [hun] at h7
            cases h7
theorem FInv.list {m : Nat} {F : Nat → Value → World → Prop} {a0 : Act} {w0 : World} {listed : Array Bool} {a : Act} {w : World} (h : FInv ops m F a0 w0 listed a w) (hm : m ≤ ops.size) (hall : ∀ i, i < m → listed.getD i false = true) : listed = (List.replicate m true ++ List.replicate (ops.size - m) false).toArray := by
  apply Array.ext
  · simp [h.size]; omega
  · intro i h1 h2
    have h3 : listed.getD i false = listed[i] := by
      simp only [Array.getD_eq_getD_getElem?]
      rw [Array.getElem?_eq_getElem h1]
      rfl
    rw [← h3]
    by_cases hi : i < m
    · rw [hall i hi]
      simp [List.getElem_append, hi]
    · rw [h.none i (by omega)]
      simp [List.getElem_append, hi]
/-- An array as it stands. -/
theorem arr_of (t : Array Value) (n : Nat) (h : t.size = n) : t = ((List.range n).map fun i => t.getD i undef).toArray := by
  apply Array.ext
  · simp [h]
  · intro i h1 h2
    simp [Array.getD_eq_getD_getElem?, h1]
/-- The rule, from the region's beginning on. -/
theorem wp_region_facts {id : Nat} {a0 : Act} {w0 : World} (m n : Nat) (F : Nat → Value → World → Prop) (hmx : P.follows .mixedOrders = true) (hok : factsOk .any ops m n = true) (hsa : (List.range m).all (fun i => decide (dstOf ops i < a0.tmps.size)) = true)
    (keep : ∀ i v w w', i < m → F i v w → Below w.heap.size w w' → F i v w')
    (step : ∀ i o, i < m → ops[i]? = some o → ∀ a w, a.defers = a0.defers → a.tmps.size = a0.tmps.size → Below w0.heap.size w0 w → (∀ s, (∀ j, j < m → dstOf ops j ≠ s) → a.tmps.getD s undef = a0.tmps.getD s undef) → (∀ j ∈ depsOf ops i, F j (a.tmps.getD (dstOf ops j) undef) w) →
      ∀ KK : Act → World → Prop, (∀ v w', Below w.heap.size w w' → F i v w' → KK (a.put o.dst v) w') → o.wp P a w KK Q)
    (rest : ∀ listed a w, FInv ops m F a0 w0.drew listed a w → (∀ i, i < m → listed.getD i false = true) → wpAny P .any ops Q (ops.size - m) listed a w) : (Code.region id ops true).wp P Q a0 w0 := by
  have hm : m ≤ ops.size := by
    unfold factsOk at hok
    simp only [Bool.and_eq_true, decide_eq_true_eq] at hok
    exact hok.1.1.1
  have hrep : ∀ i, (Array.replicate ops.size false).getD i false = false := fun i => by
    simp only [Array.getD_eq_getD_getElem?]
    by_cases h : i < ops.size
    · rw [Array.getElem?_eq_getElem (by simpa using h)]; simp
    · rw [Array.getElem?_eq_none (by simpa using Nat.le_of_not_lt h)]; rfl
  have hsl : ∀ i, i < m → dstOf ops i < a0.tmps.size := fun i hi => by
    rw [List.all_eq_true] at hsa
    simpa using hsa i (List.mem_range.2 hi)
  refine wp_region_any hmx ?_
  have hu : unl m (Array.replicate ops.size false) = m := by
    unfold unl
    have : (List.range m).filter (fun j => !(Array.replicate ops.size false).getD j false) = List.range m := by
      rw [List.filter_eq_self]
      intro j _
      rw [hrep]
      rfl
    rw [this, List.length_range]
  have h := wpAny_facts (P := P) (Q := Q) (md := .any) m n F a0 w0.drew hok hsl keep (fun i o hi ho a w h1 h2 h3 => step i o hi ho a w h1 h2 ((Below.refl _ _).drew.trans h3)) rest m (Array.replicate ops.size false) a0 w0.drew ⟨by simp, rfl, rfl, fun _ _ => rfl, Below.refl _ _, fun i _ hl => (by rw [hrep] at hl; cases hl), fun i _ => hrep i, fun i _ hl => (by rw [hrep] at hl; cases hl)⟩ hu
  rw [show m + (ops.size - m) = ops.size by omega] at h
  exact h
end
end Go.Proofs.Ytcobbbamocdbbaa
/-
  A region that draws its order, whatever it does: facts on slots and the world, one an operation, told once for all orders. No program in sight.
-/
namespace Go.Proofs.Ytcobbbamocdbbaa
open Go.Shelf Go.RowKit
set_option linter.unusedVariables false
set_option linter.unusedSimpArgs false

/-- What operation i must come behind. -/
def needsOf (md : Region.Mode) (ops : Array Oper) (i : Nat) : List Nat := ((ops[i]?).map (fun o => (o.after.toList.filter (Region.binds md)).map (·.on))).getD []
def reachN (md : Region.Mode) (ops : Array Oper) : Nat → List Nat → List Nat
  | 0, S => S
  | n + 1, S => reachN md ops n ((S ++ S.flatMap (needsOf md ops)).eraseDups)
/-- What operation i stands on. -/
def reachOf (md : Region.Mode) (ops : Array Oper) (n i : Nat) : List Nat := reachN md ops n (needsOf md ops i)
def dstIs (ops : Array Oper) (i s : Nat) : Bool := match ops[i]? with
  | some o => o.dst == some s
  | none => false
/-- What is asked of the text. -/
def framesOk (md : Region.Mode) (ops : Array Oper) (n : Nat) (rd : List (List Nat)) : Bool :=
  (List.range ops.size).all fun i => (needsOf md ops i).all (fun e => decide (e < i) || !decide (e < ops.size) || (needsOf md ops e).all (fun x => decide (x ≠ i))) && (List.range ops.size).all fun j => (rd.getD j []).all fun s => !dstIs ops i s || decide (i = j) || (reachOf md ops n j).contains i
/-- There is a way: the operations in this order. -/
def orderOk (md : Region.Mode) (ops : Array Oper) : List Nat → List Nat → Bool
  | [], seen => (List.range ops.size).all fun i => seen.contains i
  | i :: l, seen => decide (i < ops.size) && (needsOf md ops i).all (fun e => seen.contains e) && orderOk md ops l (i :: seen)
section
variable {P : Program} {ops : Array Oper} {Q : Exit → Act → World → Prop} {md : Region.Mode}
theorem reachN_sound {T : Nat → Prop} (dc : ∀ i, T i → ∀ j ∈ needsOf md ops i, T j) : ∀ (n : Nat) (S : List Nat), (∀ i ∈ S, T i) → ∀ i ∈ reachN md ops n S, T i
  | 0, S, h, i, hi => h i hi
  | n + 1, S, h, i, hi => by
    refine reachN_sound dc n _ ?_ i hi
    intro j hj
    rw [List.mem_eraseDups] at hj
    rcases List.mem_append.1 hj with hj | hj
    · exact h j hj
    · obtain ⟨k, hk, hj⟩ := List.mem_flatMap.1 hj
      exact dc k (h k hk) j hj
/-- What holds while some have come. -/
structure GInv (md : Region.Mode) (ops : Array Oper) (rd : List (List Nat)) (Fs : List (List Value → World → Prop)) (a0 : Act) (w0 : World) (listed : Array Bool) (a : Act) (w : World) : Prop where
  size : listed.size = ops.size
  defers : a.defers = a0.defers
  slots : a.tmps.size = a0.tmps.size
  old : ∀ s, (∀ j, listed.getD j false = true → dstIs ops j s = false) → a.tmps.getD s undef = a0.tmps.getD s undef
  below : Below w0.heap.size w0 w
  facts : ∀ j, listed.getD j false = true → Fs.getD j (fun _ _ => True) ((rd.getD j []).map fun s => a.tmps.getD s undef) w
  down : ∀ j, listed.getD j false = true → ∀ e ∈ needsOf md ops j, listed.getD e false = true
/-- All that stands behind operation i. -/
theorem GInv.deep {rd : List (List Nat)} {Fs : List (List Value → World → Prop)} {a0 : Act} {w0 : World} {listed : Array Bool} {a : Act} {w : World} (h : GInv md ops rd Fs a0 w0 listed a w) {i : Nat} (hr : ∀ e ∈ needsOf md ops i, listed.getD e false = true) (n e : Nat) (he : e ∈ reachOf md ops n i) : Fs.getD e (fun _ _ => True) ((rd.getD e []).map fun s => a.tmps.getD s undef) w :=
  h.facts e (reachN_sound (T := fun j => listed.getD j false = true) (fun x hx j hj => h.down x hx j hj) n _ hr e he)
theorem GInv.stays {rd : List (List Nat)} {Fs : List (List Value → World → Prop)} {a0 : Act} {w0 : World} {listed : Array Bool} {a : Act} {w : World} (h : GInv md ops rd Fs a0 w0 listed a w) {i : Nat} (hi : listed.getD i false = false) (n s : Nat) (hs : (List.range ops.size).all (fun j => !dstIs ops j s || (reachOf md ops n j).contains i || decide (i = j)) = true) : a.tmps.getD s undef = a0.tmps.getD s undef := by
  refine h.old s fun j hj => ?_
  rw [List.all_eq_true] at hs
  by_cases hjs : j < ops.size
  · have := hs j (List.mem_range.2 hjs)
    rw [Bool.or_eq_true, Bool.or_eq_true] at this
    rcases this with (this | this) | this
    · simpa using this
    · have hm : i ∈ reachOf md ops n j := by simpa using this
      have := reachN_sound (md := md) (ops := ops) (T := fun j => listed.getD j false = true) (fun x hx j hj => h.down x hx j hj) n _ (h.down j hj) i hm
      rw [hi] at this
      cases this
    · have : i = j := by simpa using this
      rw [this, hj] at hi
      cases hi
  · unfold dstIs
    rw [Array.getElem?_eq_none (by omega)]
theorem needs_mem (i : Nat) (o : Oper) (ho : ops[i]? = some o) (j : Nat) : j ∈ needsOf md ops i ↔ ∃ e ∈ o.after, Region.binds md e = true ∧ e.on = j := by
  unfold needsOf
  rw [ho]
  simp [and_assoc]
theorem order_all : ∀ (l seen : List Nat) (listed : Array Bool), orderOk md ops l seen = true → (∀ i ∈ seen, listed.getD i false = true) → listed.size = ops.size → (∀ i, i < ops.size → listed.getD i false = true) ∨ ∃ i, i ∈ Region.ready md ops listed
  | [], seen, listed, h, hs, hz => by
    left
    intro i hi
    unfold orderOk at h
    rw [List.all_eq_true] at h
    exact hs i (by simpa using h i (List.mem_range.2 hi))
  | i :: l, seen, listed, h, hs, hz => by
    unfold orderOk at h
    simp only [Bool.and_eq_true, decide_eq_true_eq, List.all_eq_true] at h
    obtain ⟨⟨h1, h2⟩, h3⟩ := h
    cases hl : listed.getD i false with
    | true =>
      refine order_all l (i :: seen) listed h3 ?_ hz
      intro j hj
      rcases List.mem_cons.1 hj with rfl | hj
      · exact hl
      · exact hs j hj
    | false =>
      right
      refine ⟨i, ?_⟩
      unfold Region.ready
      rw [List.mem_filter, List.mem_range]
      refine ⟨h1, ?_⟩
      rw [Bool.and_eq_true]
      refine ⟨by rw [getD_or _ _ (by omega), hl]; rfl, ?_⟩
      rw [Array.getElem?_eq_getElem h1]
      simp only [Option.map_some, Option.getD_some]
      rw [Array.all_eq_true']
      intro e he
      by_cases hb : Region.binds md e = true
      · have := h2 e.on ((needs_mem i _ (Array.getElem?_eq_getElem h1) e.on).2 ⟨e, he, hb, rfl⟩)
        rw [hs e.on (by simpa using this)]
        simp
      · simp [hb]
/-- One step, and what is then asked. -/
def GStep (P : Program) (Q : Exit → Act → World → Prop) (ops : Array Oper) (rd : List (List Nat)) (Fs : List (List Value → World → Prop)) (w0 : World) (i : Nat) (o : Oper) (listed : Array Bool) (a : Act) (w : World) : Prop :=
  ∀ KK : Act → World → Prop,
    (∀ v w', Below w0.heap.size w0 w' → (∀ j vs, listed.getD j false = true → Fs.getD j (fun _ _ => True) vs w → Fs.getD j (fun _ _ => True) vs w') → Fs.getD i (fun _ _ => True) ((rd.getD i []).map fun s => (a.put o.dst v).tmps.getD s undef) w' → KK (a.put o.dst v) w') →
    if Region.wanted o (yielded ops a.tmps) = true then o.wp P a w KK Q else KK (a.put o.dst undef) w
theorem wpAny_frames (n : Nat) (rd : List (List Nat)) (Fs : List (List Value → World → Prop)) (ord : List Nat) (a0 : Act) (w0 : World) (hok : framesOk md ops n rd = true) (hord : orderOk md ops ord [] = true)
    (step : ∀ i o, ops[i]? = some o → ∀ listed a w, GInv md ops rd Fs a0 w0 listed a w → listed.getD i false = false → (∀ e ∈ needsOf md ops i, listed.getD e false = true) → GStep P Q ops rd Fs w0 i o listed a w)
    (done : ∀ listed a w, GInv md ops rd Fs a0 w0 listed a w → (∀ i, i < ops.size → listed.getD i false = true) → Q .normal a w) :
    ∀ k listed a w, GInv md ops rd Fs a0 w0 listed a w → unl ops.size listed = k → wpAny P md ops Q k listed a w
  | 0, listed, a, w, h, hk => by
    have hall : ∀ i, i < ops.size → listed.getD i false = true := fun i hi => by
      have h1 : (List.range ops.size).filter (fun j => !listed.getD j false) = [] := List.length_eq_zero_iff.1 hk
      rw [List.filter_eq_nil_iff] at h1
      have := h1 i (List.mem_range.2 hi)
      simpa using this
    refine ⟨?_, done listed a w h hall⟩
    cases hr : Region.ready md ops listed with
    | nil => rfl
    | cons i l =>
      obtain ⟨h1, h2, _⟩ := ready_mem (md := md) (ops := ops) (listed := listed) (i := i) (by rw [hr]; exact List.mem_cons_self)
      rw [getD_or _ _ (by rw [h.size]; exact h1), hall i h1] at h2
      cases h2
  | k + 1, listed, a, w, h, hk => by
    refine ⟨fun hr => ?_, fun i hi => ?_⟩
    · rcases order_all ord [] listed hord (fun i hi => by cases hi) h.size with h1 | ⟨i, hi⟩
      · exact done listed a w h h1
      · rw [hr] at hi; cases hi
    · obtain ⟨hi1, hi2, o, ho, hd⟩ := ready_mem hi
      rw [getD_or _ _ (by rw [h.size]; omega)] at hi2
      have hneed : ∀ e ∈ needsOf md ops i, listed.getD e false = true := fun e he => by
        obtain ⟨e', h1, h2, rfl⟩ := (needs_mem i o ho e).1 he
        exact hd e' h1 h2
      unfold wpOp
      rw [ho]
      simp only
      have hs := step i o ho listed a w h hi2 hneed (wpAny P md ops Q k (listed.setIfInBounds i true)) (by
        intro v w' hb hkeep hnew
        refine wpAny_frames n rd Fs ord a0 w0 hok hord step done k _ _ _ ?_ ?_
        · have hput : ∀ s, dstIs ops i s = false → (a.put o.dst v).tmps.getD s undef = a.tmps.getD s undef := fun s hs => by
            unfold dstIs at hs
            rw [ho] at hs
            cases hdst : o.dst with
            | none => rfl
            | some d =>
              refine put_get _ _ _ _ ?_
              rintro rfl
              simp [hdst] at hs
          refine ⟨by simp [h.size], ?_, ?_, ?_, hb, ?_, ?_⟩
          · cases hdst : o.dst <;> exact h.defers
          · rw [← h.slots]
            cases hdst : o.dst with
            | none => rfl
            | some d => simp [Act.put]
          · intro s hs
            have h1 := hs i (by rw [lget_set _ _ _ (by rw [h.size]; omega), if_pos rfl])
            rw [hput s h1]
            refine h.old s fun j hj => hs j ?_
            rw [lget_set _ _ _ (by rw [h.size]; omega)]
            split
            · rfl
            · exact hj
          · intro j hj
            rw [lget_set _ _ _ (by rw [h.size]; omega)] at hj
            by_cases hij : i = j
            · subst hij
              exact hnew
            · rw [if_neg hij] at hj
              have h5 := hkeep j _ hj (h.facts j hj)
              have e : ((rd.getD j []).map fun s => (a.put o.dst v).tmps.getD s undef) = ((rd.getD j []).map fun s => a.tmps.getD s undef) := by
                apply List.map_congr_left
                intro s hs
                refine hput s ?_
                unfold framesOk at hok
                rw [List.all_eq_true] at hok
                have h6 := hok i (List.mem_range.2 hi1)
                rw [Bool.and_eq_true, List.all_eq_true, List.all_eq_true] at h6
                by_cases hjs : j < ops.size
                · have h7 := h6.2 j (List.mem_range.2 hjs)
                  rw [List.all_eq_true] at h7
                  have h8 := h7 s hs
                  rw [Bool.or_eq_true, Bool.or_eq_true] at h8
                  rcases h8 with (h8 | h8) | h8
                  · simpa using h8
                  · exact absurd (by simpa using h8) hij
                  · have hm : i ∈ reachOf md ops n j := by simpa using h8
                    have := reachN_sound (md := md) (ops := ops) (T := fun j => listed.getD j false = true) (fun x hx j hj => h.down x hx j hj) n _ (h.down j hj) i hm
                    rw [hi2] at this
                    cases this
                · have : listed.getD j false = false := by
                    simp only [Array.getD_eq_getD_getElem?]
                    rw [Array.getElem?_eq_none (by rw [h.size]; omega)]
                    rfl
                  rw [this] at hj
                  cases hj
              rw [e]
              exact h5
          · intro j hj e he
            rw [lget_set _ _ _ (by rw [h.size]; omega)] at hj ⊢
            by_cases hie : i = e
            · rw [if_pos hie]
            · rw [if_neg hie]
              by_cases hij : i = j
              · subst hij
                exact hneed e he
              · rw [if_neg hij] at hj
                exact h.down j hj e he
        · have := unl_set ops.size listed i hi1 (by rw [h.size]; omega) hi2
          omega)
      by_cases hw : Region.wanted o (yielded ops a.tmps) = true
      · rw [if_pos hw] at hs ⊢
        exact .inl hs
      · rw [if_neg hw] at hs ⊢
        exact hs
/-- The rule. -/
theorem wp_region_frames {id : Nat} {a0 : Act} {w0 : World} (n : Nat) (rd : List (List Nat)) (Fs : List (List Value → World → Prop)) (ord : List Nat) (hmx : P.follows .mixedOrders = true) (hok : framesOk .any ops n rd = true) (hord : orderOk .any ops ord [] = true)
    (step : ∀ i o, ops[i]? = some o → ∀ listed a w, GInv .any ops rd Fs a0 w0.drew listed a w → listed.getD i false = false → (∀ e ∈ needsOf .any ops i, listed.getD e false = true) → GStep P Q ops rd Fs w0.drew i o listed a w)
    (done : ∀ listed a w, GInv .any ops rd Fs a0 w0.drew listed a w → (∀ i, i < ops.size → listed.getD i false = true) → Q .normal a w) : (Code.region id ops true).wp P Q a0 w0 := by
  have hrep : ∀ i, (Array.replicate ops.size false).getD i false = false := fun i => by
    simp only [Array.getD_eq_getD_getElem?]
    by_cases h : i < ops.size
    · rw [Array.getElem?_eq_getElem (by simpa using h)]; simp
    · rw [Array.getElem?_eq_none (by simpa using Nat.le_of_not_lt h)]; rfl
  refine wp_region_any hmx ?_
  have hu : unl ops.size (Array.replicate ops.size false) = ops.size := by
    unfold unl
    have : (List.range ops.size).filter (fun j => !(Array.replicate ops.size false).getD j false) = List.range ops.size := by
      rw [List.filter_eq_self]
      intro j _
      rw [hrep]
      rfl
    rw [this, List.length_range]
  exact wpAny_frames (P := P) (Q := Q) (md := .any) n rd Fs ord a0 w0.drew hok hord step done ops.size (Array.replicate ops.size false) a0 w0.drew ⟨by simp, rfl, rfl, fun _ _ => rfl, Below.refl _ _, fun i hl => (by rw [hrep] at hl; cases hl), fun i hl => (by rw [hrep] at hl; cases hl)⟩ hu
end
end Go.Proofs.Ytcobbbamocdbbaa
/-
  The code's sum of two points.
-/
namespace Go.Proofs.Ytcobbbamocdbbaa
open Go.Shelf Go.RowKit
set_option linter.unusedVariables false
set_option linter.unusedSimpArgs false

def noZ : Pz := ⟨0, 0, true⟩
def ownZ (p : Pz) : Pz := if p.inf then noZ else p
/-- The sum's numbers; s: the slope. -/
def sumX (K : Cz) (p q : Pz) (s : Int) : Int := (((s * s) % K.p - p.x) % K.p - q.x) % K.p
def sumY (K : Cz) (p q : Pz) (s : Int) : Int := ((s * ((p.x - sumX K p q s) % K.p)) % K.p - p.y) % K.p
/-- The sum of two points that have numbers. -/
def AddN (K : Cz) (p q : Pz) (r : Option Pz) : Prop :=
  if runZ K p q = 0 then r = some noZ else if gd K.p (runZ K p q % K.p) ≠ 1 then r = none else ∃ n, 0 ≤ n ∧ n < K.p ∧ Cg K.p (n * runZ K p q) 1 ∧ r = some ⟨sumX K p q ((riseZ K p q * n) % K.p), sumY K p q ((riseZ K p q * n) % K.p), false⟩
/-- The sum. -/
def AddZ (K : Cz) (p q : Pz) (r : Option Pz) : Prop :=
  if K.p = 0 then r = none else if p.inf then r = some (ownZ q) else if q.inf then r = some (ownZ p) else AddN K p q r
/-- A point that was answered, or none. -/
def Pa (w w' : World) (e : Ending) (r : Option Pz) (L : Nat) : Prop := Below w.heap.size w w' ∧ ((∃ v p, r = some p ∧ e = .returned (.tuple #[v, .bool true]) ∧ Pv w' v p L) ∨ (r = none ∧ e = .returned (.tuple #[.agg #[.slice none 0 0, .slice none 0 0, .bool false], .bool false])))
theorem nv_nil (w : World) (L : Nat) : Nv w (.slice none 0 0) 0 L := ⟨none, 0, 0, [], rfl, NumIn.nil, rfl, Nat.zero_le _⟩
theorem pv_no (w : World) (L : Nat) : Pv w (.agg #[.slice none 0 0, .slice none 0 0, .bool true]) noZ L := ⟨_, _, rfl, nv_nil w L, nv_nil w L⟩
/-- But for block g the world w' is as w was. -/
structure Bt (g : Nat) (w w' : World) : Prop where
  os : w'.os = w.os
  tape : w'.tape = w.tape
  output : w'.output = w.output
  size : w.heap.size ≤ w'.heap.size
  block : ∀ k, k < w.heap.size → k ≠ g → w'.heap[k]? = w.heap[k]?
theorem Bt.below {g B : Nat} {w w' : World} (h : Bt g w w') (hB : B ≤ g) (hw : B ≤ w.heap.size) : Below B w w' := ⟨h.os, h.tape, h.output, h.size, fun k hk => h.block k (by omega) (by omega)⟩
theorem Bt.trans {g : Nat} {a b c : World} (h : Bt g a b) (k : Bt g b c) : Bt g a c :=
  ⟨k.os.trans h.os, k.tape.trans h.tape, k.output.trans h.output, Nat.le_trans h.size k.size, fun i hi hg => (k.block i (Nat.lt_of_lt_of_le hi h.size) hg).trans (h.block i hi hg)⟩
theorem Bt.setCell (g : Nat) (w : World) (j : Nat) (v : Value) : Bt g w (w.setCell ⟨g, j, none⟩ v) := ⟨rfl, rfl, rfl, by simp [World.setCell], fun k _ hk => Below.heap_setCell w ⟨g, j, none⟩ v k hk⟩
/-- A point's place. -/
def PSl (w : World) (r : Nat) (c0 c1 c2 : Value) : Prop := w.heap[r]? = some (.cells #[c0, c1, c2] 51 (0, 0))
theorem PSl.lt {w : World} {r : Nat} {c0 c1 c2 : Value} (h : PSl w r c0 c1 c2) : r < w.heap.size := (Array.getElem?_eq_some_iff.1 h).1
theorem PSl.keep {w w' : World} {r : Nat} {c0 c1 c2 : Value} (h : PSl w r c0 c1 c2) (hb : Below w.heap.size w w') : PSl w' r c0 c1 c2 := (hb.block _ h.lt).trans h
theorem PSl.facts {w : World} {r : Nat} {c0 c1 c2 : Value} (h : PSl w r c0 c1 c2) : w.cell? ⟨r, 0, none⟩ = some c0 ∧ w.cell? ⟨r, 1, none⟩ = some c1 ∧ w.cell? ⟨r, 2, none⟩ = some c2 ∧ w.frozen? ⟨r, 0, none⟩ = false ∧ w.frozen? ⟨r, 1, none⟩ = false ∧ w.frozen? ⟨r, 2, none⟩ = false :=
  ⟨by rw [cell_of_row _ _ _ _ _ _ h]; rfl, by rw [cell_of_row _ _ _ _ _ _ h]; rfl, by rw [cell_of_row _ _ _ _ _ _ h]; rfl, frozen_of_row w r 0 _ _ h, frozen_of_row w r 1 _ _ h, frozen_of_row w r 2 _ _ h⟩
theorem heap_set7 (w : World) (g j : Nat) (v : Value) (cs : Array Value) (t : TypeId) (fr : Nat × Nat) (h : w.heap[g]? = some (.cells cs t fr)) : (w.setCell ⟨g, j, none⟩ v).heap[g]? = some (.cells (cs.setIfInBounds j v) t fr) := by
  have hlt := (Array.getElem?_eq_some_iff.1 h).1
  have he : w.heap[g] = .cells cs t fr := (Array.getElem?_eq_some_iff.1 h).2
  simp [World.setCell, hlt]
  rw [Array.getElem_modify]
  simp [he]
theorem PSl.set3 {w : World} {r : Nat} {c0 c1 c2 : Value} (h : PSl w r c0 c1 c2) (d0 d1 d2 : Value) : PSl (((w.setCell ⟨r, 0, none⟩ d0).setCell ⟨r, 1, none⟩ d1).setCell ⟨r, 2, none⟩ d2) r d0 d1 d2 := by
  have h1 := heap_set7 w r 0 d0 _ _ _ h
  have h2 := heap_set7 _ r 1 d1 _ _ _ h1
  exact heap_set7 _ r 2 d2 _ _ _ h2
theorem Bt.set3 (w : World) (r : Nat) (d0 d1 d2 : Value) : Bt r w (((w.setCell ⟨r, 0, none⟩ d0).setCell ⟨r, 1, none⟩ d1).setCell ⟨r, 2, none⟩ d2) := ((Bt.setCell r w 0 d0).trans (Bt.setCell r _ 1 d1)).trans (Bt.setCell r _ 2 d2)
/-- Numbers don't lie where a point does. -/
theorem Nv.apart {w w' : World} {v : Value} {n : Int} {L r : Nat} {a1 a2 : Option Addr} {l1 k1 l2 k2 : Nat} {b : Bool} (h : Nv w v n L) (hs : PSl w r (.slice a1 l1 k1) (.slice a2 l2 k2) (.bool b)) (hb : Bt r w w') : Nv w' v n L := by
  obtain ⟨ao, len, cap, xs, e, h1, h2, h3⟩ := h
  refine ⟨ao, len, cap, xs, e, ⟨⟨h1.len, ?_⟩, h1.lc, h1.cm, h1.nn, h1.dg, h1.sm⟩, h2, h3⟩
  by_cases h0 : len = 0
  · exact .inl h0
  · obtain ⟨b', off, e2, hlt, hc⟩ := h1.lies.at (by omega)
    have hne : b' ≠ r := fun e3 => by
      subst e3
      have h4 := hc 0 (by omega)
      rw [cell_of_row _ _ _ _ _ _ hs] at h4
      obtain ⟨o, ho⟩ : ∃ o, off + 0 = o := ⟨_, rfl⟩
      rw [ho] at h4
      match o, h4 with
      | 0, h4 => cases h4
      | 1, h4 => cases h4
      | 2, h4 => cases h4
      | k + 3, h4 => simp at h4
    exact .inr ⟨b', off, e2, Nat.lt_of_lt_of_le hlt hb.size, fun i hi => (World.cell?_of_block (w := w) (hb.block b' hlt hne)).trans (hc i hi)⟩
theorem sizePt : (Try.prog.info? 51).map (·.size) = some 3 := by kernel_rfl
theorem ret_pt {fn : Func} {p u : Tmp} (h : fn.results = #[.cell p 51, .tmp u]) (tmps : Array Value) (w : World) (g : Nat) (c0 c1 c2 : Value) (hp : tmps.getD p undef = .pointer (some ⟨g, 0, none⟩)) (hg : PSl w g c0 c1 c2) :
    (results fn tmps).run Try.prog w = .ok (.tuple #[.agg #[c0, c1, c2], tmps.getD u undef]) w := by
  rw [results_cell_tmp h, hp]
  have hl := run_loadVar_row (P := Try.prog) w g 51 51 #[c0, c1, c2] (0, 0) _ hg Try.underlying51 rfl sizePt
  simp [asAddr, Result.andThen, hl]
theorem ret_pt1 {fn : Func} {p : Tmp} (h : fn.results = #[.cell p 51]) (tmps : Array Value) (w : World) (g : Nat) (c0 c1 c2 : Value) (hp : tmps.getD p undef = .pointer (some ⟨g, 0, none⟩)) (hg : PSl w g c0 c1 c2) :
    (results fn tmps).run Try.prog w = .ok (.agg #[c0, c1, c2]) w :=
  results_cell_row h tmps w g 51 _ (0, 0) _ hp hg Try.underlying51 rfl sizePt
set_option maxHeartbeats 1000000 in
theorem nothing_any (w : World) : Calls Try.prog 64 #[] w fun e w' => e = .returned (.agg #[.slice none 0 0, .slice none 0 0, .bool true]) ∧ Below w.heap.size w w' := by
  go_enter Try.func64, Try.ntmps64
  go_wp2
  refine bodyPost_ret (ret_pt1 rfl _ _ w.heap.size _ _ _ rfl (heap_alloc_new w _)) rfl ?_
  exact ⟨rfl, (Below.refl _ _).alloc (Nat.le_refl _) _⟩
/-- What addNumbers keeps in memory. -/
structure FrA (W : World) (b : Nat) (pv qv : Array Value) (m : Value) : Prop where
  p : W.heap[b + 1]? = some (.cells pv 51 (0, 0))
  q : W.heap[b + 1 + 1]? = some (.cells qv 51 (0, 0))
  r : PSl W (b + 1 + 1 + 1) (.slice none 0 0) (.slice none 0 0) (.bool false)
  f : W.heap[b + 1 + 1 + 1 + 1]? = some (.cells #[m] 123 (0, 0))
theorem frA_new (w : World) (cv pv qv : Array Value) (m : Value) : FrA (((((w.alloc (.cells cv 29)).alloc (.cells pv 51)).alloc (.cells qv 51)).alloc (.cells #[.slice none 0 0, .slice none 0 0, .bool false] 51)).alloc (.cells #[m] 123)) w.heap.size pv qv m ∧ Below w.heap.size w (((((w.alloc (.cells cv 29)).alloc (.cells pv 51)).alloc (.cells qv 51)).alloc (.cells #[.slice none 0 0, .slice none 0 0, .bool false] 51)).alloc (.cells #[m] 123)) := by
  obtain ⟨w1, e1⟩ : ∃ x, w.alloc (.cells cv 29) = x := ⟨_, rfl⟩
  obtain ⟨w2, e2⟩ : ∃ x, w1.alloc (.cells pv 51) = x := ⟨_, rfl⟩
  obtain ⟨w3, e3⟩ : ∃ x, w2.alloc (.cells qv 51) = x := ⟨_, rfl⟩
  obtain ⟨w4, e4⟩ : ∃ x, w3.alloc (.cells #[.slice none 0 0, .slice none 0 0, .bool false] 51) = x := ⟨_, rfl⟩
  have z1 : w1.heap.size = w.heap.size + 1 := by rw [← e1]; exact alloc_sz7 _ _
  have z2 : w2.heap.size = w.heap.size + 1 + 1 := by rw [← e2, alloc_sz7, z1]
  have z3 : w3.heap.size = w.heap.size + 1 + 1 + 1 := by rw [← e3, alloc_sz7, z2]
  have z4 : w4.heap.size = w.heap.size + 1 + 1 + 1 + 1 := by rw [← e4, alloc_sz7, z3]
  have n2 : w2.heap[w.heap.size + 1]? = some (.cells pv 51 (0, 0)) := by rw [← e2, ← z1]; exact heap_alloc_new w1 _
  have n3 : w3.heap[w.heap.size + 1 + 1]? = some (.cells qv 51 (0, 0)) := by rw [← e3, ← z2]; exact heap_alloc_new w2 _
  have n4 : w4.heap[w.heap.size + 1 + 1 + 1]? = some (.cells #[.slice none 0 0, .slice none 0 0, .bool false] 51 (0, 0)) := by rw [← e4, ← z3]; exact heap_alloc_new w3 _
  have n5 := heap_alloc_new w4 (.cells #[m] 123)
  rw [z4] at n5
  have m2 : w3.heap[w.heap.size + 1]? = some (.cells pv 51 (0, 0)) := by rw [← e3]; exact heap_new n2 (by omega)
  have k2 : w4.heap[w.heap.size + 1]? = some (.cells pv 51 (0, 0)) := by rw [← e4]; exact heap_new m2 (by omega)
  have k3 : w4.heap[w.heap.size + 1 + 1]? = some (.cells qv 51 (0, 0)) := by rw [← e4]; exact heap_new n3 (by omega)
  have bb : Below w.heap.size w (w4.alloc (.cells #[m] 123)) := by
    rw [← e4, ← e3, ← e2, ← e1]
    exact (((((Below.refl w.heap.size w).alloc (Nat.le_refl _) _).alloc (by rw [alloc_sz7]; omega) _).alloc (by rw [alloc_sz7, alloc_sz7]; omega) _).alloc (by rw [alloc_sz7, alloc_sz7, alloc_sz7]; omega) _).alloc (by rw [alloc_sz7, alloc_sz7, alloc_sz7, alloc_sz7]; omega) _
  rw [e1, e2, e3, e4]
  exact ⟨⟨heap_new k2 (by omega), heap_new k3 (by omega), heap_new n4 (by omega), n5⟩, bb⟩
theorem FrA.keep {W W' : World} {b : Nat} {pv qv : Array Value} {m : Value} (h : FrA W b pv qv m) (hb : Below W.heap.size W W') : FrA W' b pv qv m :=
  ⟨(hb.block _ (Array.getElem?_eq_some_iff.1 h.p).1).trans h.p, (hb.block _ (Array.getElem?_eq_some_iff.1 h.q).1).trans h.q, h.r.keep hb, (hb.block _ (Array.getElem?_eq_some_iff.1 h.f).1).trans h.f⟩
theorem FrA.cells {W : World} {b : Nat} {p0 p1 p2 q0 q1 q2 m : Value} (h : FrA W b #[p0, p1, p2] #[q0, q1, q2] m) : W.cell? ⟨b + 1, 0, none⟩ = some p0 ∧ W.cell? ⟨b + 1, 1, none⟩ = some p1 ∧ W.cell? ⟨b + 1 + 1, 0, none⟩ = some q0 ∧ W.cell? ⟨b + 1 + 1 + 1 + 1, 0, none⟩ = some m := by
  refine ⟨?_, ?_, ?_, ?_⟩
  · rw [cell_of_row _ _ _ _ _ _ h.p]; rfl
  · rw [cell_of_row _ _ _ _ _ _ h.p]; rfl
  · rw [cell_of_row _ _ _ _ _ _ h.q]; rfl
  · rw [cell_of_row _ _ _ _ _ _ h.f]; rfl
set_option maxRecDepth 100000 in
set_option maxHeartbeats 2000000 in
theorem addNumbers_any (c p q : Value) (K : Cz) (P Q : Pz) (L : Nat) (w : World) (hc : Cu w c K L) (hp : Pv w p P L) (hq : Pv w q Q L) (h0 : K.p ≠ 0) (hL : 1 ≤ L ∧ L ≤ 1000) :
    Calls Try.prog 66 #[c, p, q] w fun e w' => ∃ r, AddN K P Q r ∧ Pa w w' e r L := by
  have HS := fun W (hW : Below w.heap.size w W) => slope_any c p q K P Q L W (hc.old hW) (hp.old hW) (hq.old hW) h0 hL
  obtain ⟨g1, g2, oo, lo, co, vp, va, vb, vx, vy, vn, rfl, c1, c2, c3, c4, c5, c6⟩ := hc
  obtain ⟨px, py, rfl, p1, p2⟩ := hp
  obtain ⟨qx, qy, rfl, q1, q2⟩ := hq
  obtain ⟨a1, a2, a3, a4, rfl, a5⟩ := c1
  obtain ⟨b1, b2, b3, b4, rfl, b5⟩ := c2
  obtain ⟨d1, d2, d3, d4, rfl, d5⟩ := c3
  obtain ⟨e1, e2, e3, e4, rfl, e5⟩ := c4
  obtain ⟨f1, f2, f3, f4, rfl, f5⟩ := c5
  obtain ⟨j1, j2, j3, j4, rfl, j5⟩ := c6
  obtain ⟨k1, k2, k3, k4, rfl, k5⟩ := p1
  obtain ⟨l1, l2, l3, l4, rfl, l5⟩ := p2
  obtain ⟨m1, m2, m3, m4, rfl, m5⟩ := q1
  obtain ⟨n1, n2, n3, n4, rfl, n5⟩ := q2
  have FZ := frA_new w #[.int .i64 g1, .int .i64 g2, .slice oo lo co, .slice a1 a2 a3, .slice b1 b2 b3, .slice d1 d2 d3, .slice e1 e2 e3, .slice f1 f2 f3, .slice j1 j2 j3] #[.slice k1 k2 k3, .slice l1 l2 l3, .bool P.inf] #[.slice m1 m2 m3, .slice n1 n2 n3, .bool Q.inf] (.slice a1 a2 a3)
  obtain ⟨FZ, hb⟩ := FZ
  have HSW := HS _ hb
  obtain ⟨RI, hRI⟩ : ∃ r, riseZ K P Q = r := ⟨_, rfl⟩
  obtain ⟨RU, hRU⟩ : ∃ r, runZ K P Q = r := ⟨_, rfl⟩
  have HRI : Hid (riseZ K P Q = RI ∧ runZ K P Q = RU) := ⟨hRI, hRU⟩
  rw [hRI, hRU] at HSW
  clear hRI hRU
  have HFS : Hid (FrA _ w.heap.size #[.slice k1 k2 k3, .slice l1 l2 l3, .bool P.inf] #[.slice m1 m2 m3, .slice n1 n2 n3, .bool Q.inf] (.slice a1 a2 a3)) := FZ
  clear FZ HS
  go_enter Try.func66, Try.ntmps66
  go_wp2_with fail
  go_at_call 87
  refine HSW.mono ?_
  rintro e w1 ⟨v1, v2, rfl, hv1, hv2, hb1⟩
  have F1 := HFS.out.keep hb1
  have B1 := hb.trans (hb1.mono hb.size)
  have HZ := isZero_any v2 RU L w1 hv2
  have HN := nothing_any w1
  have s1 := F1.r
  obtain ⟨x1, x2, x3, x4⟩ := F1.cells
  have HQ := fun hg => quot_yes v1 v2 (.slice a1 a2 a3) RI RU K.p L L w1 hv1 hv2 (Nv.old ⟨a1, a2, a3, a4, rfl, a5⟩ B1) h0 hg (by omega)
  have HQn := fun hg => quot_no v1 v2 (.slice a1 a2 a3) RI RU K.p L L w1 hv1 hv2 (Nv.old ⟨a1, a2, a3, a4, rfl, a5⟩ B1) h0 hg (by omega)
  obtain ⟨t1, t2, t3, t4, rfl, t5⟩ := hv1
  obtain ⟨u1, u2, u3, u4, rfl, u5⟩ := hv2
  clear HSW
  by_cases hz : RU = 0
  · have hd : decide (RU = 0) = true := by simp [hz]
    rw [hd] at HZ
    go_wp2_with (first
      | (go_at_call 40; refine HZ.mono ?_; rintro e w2 ⟨rfl, rfl⟩)
      | (go_at_call 64; refine HN.mono ?_; rintro e w3 ⟨rfl, hb3⟩; have s3 := s1.keep hb3; obtain ⟨y0, y1, y2, y3, y4, y5⟩ := s3.facts))
    refine bodyPost_ret (ret_pt rfl _ _ (w.heap.size + 1 + 1 + 1) _ _ _ rfl (s3.set3 (.slice none 0 0) (.slice none 0 0) (.bool true))) rfl ?_
    have bt := Bt.set3 w3 (w.heap.size + 1 + 1 + 1) (.slice none 0 0) (.slice none 0 0) (.bool true)
    have B3 := B1.trans (hb3.mono B1.size)
    refine ⟨some noZ, ?_, B3.trans (bt.below (by omega) B3.size), .inl ⟨_, noZ, rfl, rfl, pv_no _ L⟩⟩
    unfold AddN
    rw [HRI.out.2, if_pos hz]
  · have hd : decide (RU = 0) = false := by simp [hz]
    rw [hd] at HZ
    by_cases hg : gd K.p (RU % K.p) = 1
    · have HQ2 := HQ hg
      clear HQ HQn HN
      go_wp2_with (first
        | (go_at_call 40; refine HZ.mono ?_; rintro e w2 ⟨rfl, rfl⟩)
        | (go_at_call 88; refine HQ2.mono ?_; rintro e w3 ⟨v3, n, rfl, ⟨hv3, hb3⟩, hn⟩; have F3 := F1.keep hb3; have B3 := B1.trans (hb3.mono B1.size); have hv3' := hv3; obtain ⟨z1, z2, z3, z4, rfl, z5⟩ := hv3; clear x1 x2 x3 x4; obtain ⟨y1, y2, y3, y4⟩ := F3.cells))
      have HK := fun (W : World) (hW : Below w3.heap.size w3 W) => (F3.keep hW).cells
      have K3 := HK w3 (Below.refl _ _)
      have K3d := HK w3.drew (Below.refl _ _).drew
      have HP1 := fun W (hW : Below w.heap.size w W) (h3 : Below w3.heap.size w3 W) => product_any (.slice z1 z2 z3) (.slice z1 z2 z3) (.slice a1 a2 a3) _ _ K.p L L W (hv3'.old h3) (hv3'.old h3) (Nv.old ⟨a1, a2, a3, a4, rfl, a5⟩ hW) h0 (by omega)
      have HP2 := fun W (hW : Below w.heap.size w W) (h3 : Below w3.heap.size w3 W) v m (hv : Nv W v m L) => product_any (.slice z1 z2 z3) v (.slice a1 a2 a3) _ m K.p L L W (hv3'.old h3) hv (Nv.old ⟨a1, a2, a3, a4, rfl, a5⟩ hW) h0 (by omega)
      have HM1 := fun W (hW : Below w.heap.size w W) v m (hv : Nv W v m L) => minus_any v (.slice k1 k2 k3) (.slice a1 a2 a3) m P.x K.p L L W hv (Nv.old ⟨k1, k2, k3, k4, rfl, k5⟩ hW) (Nv.old ⟨a1, a2, a3, a4, rfl, a5⟩ hW) h0 (by omega)
      have HM2 := fun W (hW : Below w.heap.size w W) v m (hv : Nv W v m L) => minus_any v (.slice m1 m2 m3) (.slice a1 a2 a3) m Q.x K.p L L W hv (Nv.old ⟨m1, m2, m3, m4, rfl, m5⟩ hW) (Nv.old ⟨a1, a2, a3, a4, rfl, a5⟩ hW) h0 (by omega)
      have HM3 := fun W (hW : Below w.heap.size w W) v m (hv : Nv W v m L) => minus_any (.slice k1 k2 k3) v (.slice a1 a2 a3) P.x m K.p L L W (Nv.old ⟨k1, k2, k3, k4, rfl, k5⟩ hW) hv (Nv.old ⟨a1, a2, a3, a4, rfl, a5⟩ hW) h0 (by omega)
      have HM4 := fun W (hW : Below w.heap.size w W) v m (hv : Nv W v m L) => minus_any v (.slice l1 l2 l3) (.slice a1 a2 a3) m P.y K.p L L W hv (Nv.old ⟨l1, l2, l3, l4, rfl, l5⟩ hW) (Nv.old ⟨a1, a2, a3, a4, rfl, a5⟩ hW) h0 (by omega)
      have HP1d := HP1 w3.drew B3.drew (Below.refl _ _).drew
      have T1 : True := trivial
      go_region_held3 (fun W => W.cell? ⟨w.heap.size + 1, 0, none⟩ = some (.slice k1 k2 k3) ∧ W.cell? ⟨w.heap.size + 1, 1, none⟩ = some (.slice l1 l2 l3) ∧ W.cell? ⟨w.heap.size + 1 + 1, 0, none⟩ = some (.slice m1 m2 m3) ∧ W.cell? ⟨w.heap.size + 1 + 1 + 1 + 1, 0, none⟩ = some (.slice a1 a2 a3))
        (first | exact K3 | exact K3d | exact K4 | exact K5 | exact K6) (first
        | (go_at_call 68; refine HP1d.mono ?_; rintro e w4 ⟨v4, rfl, hv4, hb4⟩; have C4 := ((Below.refl w3.heap.size w3).drew).trans (hb4.mono (Nat.le_refl _)); have K4 := HK w4 C4; have HM1d := HM1 w4 (B3.trans (C4.mono B3.size)) v4 _ hv4; obtain ⟨o1, o2, o3, o4, rfl, o5⟩ := hv4)
        | (go_at_call 89; clear T1; refine HM1d.mono ?_; rintro e w5 ⟨v5, rfl, hv5, hb5⟩; have C5 := C4.trans (hb5.mono C4.size); have K5 := HK w5 C5; have HM2d := HM2 w5 (B3.trans (C5.mono B3.size)) v5 _ hv5; obtain ⟨r1, r2, r3, r4, rfl, r5⟩ := hv5)
        | (go_at_call 89; refine HM2d.mono ?_; rintro e w6 ⟨v6, rfl, hv6, hb6⟩; have C6 := C5.trans (hb6.mono C5.size); have K6 := HK w6 C6; have hv6' := hv6; obtain ⟨s1, s2, s3, s4, rfl, s5⟩ := hv6))
      go_wp2_with fail
      have B6 := B3.trans (C6.mono B3.size)
      have C6d := C6.drew
      have K6d := HK w6.drew C6d
      have HM3d := HM3 w6.drew B6.drew (.slice s1 s2 s3) _ (hv6'.old (Below.refl _ _).drew)
      have T1 : True := trivial
      clear HM1d HM2d HP1d K3 K3d K4 K5 HZ HQ2 y1 y2 y3 y4
      go_region_held3 (fun W => W.cell? ⟨w.heap.size + 1, 0, none⟩ = some (.slice k1 k2 k3) ∧ W.cell? ⟨w.heap.size + 1, 1, none⟩ = some (.slice l1 l2 l3) ∧ W.cell? ⟨w.heap.size + 1 + 1, 0, none⟩ = some (.slice m1 m2 m3) ∧ W.cell? ⟨w.heap.size + 1 + 1 + 1 + 1, 0, none⟩ = some (.slice a1 a2 a3))
        (first | exact K6 | exact K6d | exact K7 | exact K8 | exact K9) (first
        | (go_at_call 89; clear T1; refine HM3d.mono ?_; rintro e w7 ⟨v7, rfl, hv7, hb7⟩; have C7 := C6d.trans (hb7.mono C6d.size); have K7 := HK w7 C7; have HP2d := HP2 w7 (B3.trans (C7.mono B3.size)) C7 v7 _ hv7; obtain ⟨o1', o2', o3', o4', rfl, o5'⟩ := hv7)
        | (go_at_call 68; refine HP2d.mono ?_; rintro e w8 ⟨v8, rfl, hv8, hb8⟩; have C8 := C7.trans (hb8.mono C7.size); have K8 := HK w8 C8; have HM4d := HM4 w8 (B3.trans (C8.mono B3.size)) v8 _ hv8; obtain ⟨r1', r2', r3', r4', rfl, r5'⟩ := hv8)
        | (go_at_call 89; refine HM4d.mono ?_; rintro e w9 ⟨v9, rfl, hv9, hb9⟩; have C9 := C8.trans (hb9.mono C8.size); have K9 := HK w9 C9; have hv9' := hv9; obtain ⟨q1', q2', q3', q4', rfl, q5'⟩ := hv9))
      have s9 := (F3.keep C9).r
      obtain ⟨i0, i1, i2, i3, i4, i5⟩ := s9.facts
      clear HM3d HP2d HM4d
      go_wp2_with fail
      refine bodyPost_ret (ret_pt rfl _ _ (w.heap.size + 1 + 1 + 1) _ _ _ rfl (s9.set3 (.slice s1 s2 s3) (.slice q1' q2' q3') (.bool false))) rfl ?_
      have bt := Bt.set3 w9 (w.heap.size + 1 + 1 + 1) (.slice s1 s2 s3) (.slice q1' q2' q3') (.bool false)
      have B9 := B3.trans (C9.mono B3.size)
      have hx := hv6'.old ((((Below.refl w6.heap.size w6).drew).trans (hb7.mono (Nat.le_refl _))).trans ((hb8.mono hb7.size).trans (hb9.mono (Nat.le_trans hb7.size hb8.size))))
      refine ⟨some ⟨sumX K P Q ((riseZ K P Q * n) % K.p), sumY K P Q ((riseZ K P Q * n) % K.p), false⟩, ?_, B9.trans (bt.below (by omega) B9.size), .inl ⟨_, _, rfl, rfl, _, _, rfl, ?_, ?_⟩⟩
      · unfold AddN
        rw [HRI.out.2, if_neg hz, if_neg (by simp [hg])]
        exact ⟨n, hn.1, hn.2.1, hn.2.2, rfl⟩
      · have h1 := hx.apart s9 bt
        rw [HRI.out.1]
        exact h1
      · have h1 := hv9'.apart s9 bt
        rw [HRI.out.1]
        exact h1
    · have HQ2 := HQn hg
      clear HQ HQn HN
      obtain ⟨r0, r1, r2, r3, r4, r5⟩ := s1.facts
      go_wp2_with (first
        | (go_at_call 40; refine HZ.mono ?_; rintro e w2 ⟨rfl, rfl⟩)
        | (go_at_call 88; refine HQ2.mono ?_; rintro e w3 ⟨rfl, hb3⟩; have s3 := s1.keep hb3; obtain ⟨y0, y1, y2, y3, y4, y5⟩ := s3.facts))
      refine bodyPost_ret (ret_pt rfl _ _ (w.heap.size + 1 + 1 + 1) _ _ _ rfl (s3.set3 (.slice none 0 0) (.slice none 0 0) (.bool false))) rfl ?_
      have bt := Bt.set3 w3 (w.heap.size + 1 + 1 + 1) (.slice none 0 0) (.slice none 0 0) (.bool false)
      have B3 := B1.trans (hb3.mono B1.size)
      refine ⟨none, ?_, B3.trans (bt.below (by omega) B3.size), .inr ⟨rfl, rfl⟩⟩
      unfold AddN
      rw [HRI.out.2, if_neg hz, if_pos hg]
end Go.Proofs.Ytcobbbamocdbbaa
