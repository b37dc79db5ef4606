/-
  Contracts of modular.euclid, Inv.
-/
import Derived.Test.YtdojbknkaoiioaaModA
namespace Go.Proofs.Ytdojbknkaoiioaa
open Go.RowKit
set_option linter.unusedVariables false
set_option linter.unusedSimpArgs false

/-- The value v is that number, of at most L digits. -/
def Nm (k : IntKind) (B : Int) (w : World) (v : Value) (n : Int) (L : Nat) : Prop :=
  ∃ ao len cap xs, v = .slice ao len cap ∧ NumIn k B w ao len cap xs ∧ val B xs = n ∧ len ≤ L
theorem Nm.old {k : IntKind} {B : Int} {w w' : World} {v : Value} {n : Int} {L : Nat} (h : Nm k B w v n L) (hb : Below w.heap.size w w') : Nm k B w' v n L := by
  obtain ⟨ao, len, cap, xs, rfl, h1, h2, h3⟩ := h
  exact ⟨ao, len, cap, xs, rfl, h1.old hb, h2, h3⟩
theorem NumOut.nm {k : IntKind} {B : Int} {w w' : World} {v : Value} {n : Int} {L : Nat} (h : NumOut k B w w' v n L) : Nm k B w' v n L := by
  obtain ⟨ao, len, cap, xs, rfl, h1, h2, h3, h4, h5⟩ := h
  exact ⟨ao, len, cap, xs, rfl, h1, h3, h4⟩
theorem NumOut.bl {k : IntKind} {B : Int} {w w' : World} {v : Value} {n : Int} {L : Nat} (h : NumOut k B w w' v n L) : Below w.heap.size w w' := by
  obtain ⟨ao, len, cap, xs, rfl, h1, h2, h3, h4, h5⟩ := h
  exact h5
/-- The number that a slice says, read off the world. -/
def nval (B : Int) (w : World) (v : Value) : Nat :=
  match v with
  | .slice (some ⟨b, off, _⟩) len _ => (val B ((List.range len).map fun i => intOf ((w.cell? ⟨b, off + i, none⟩).getD undef))).toNat
  | _ => 0
theorem Nm.nval {k : IntKind} {B : Int} {w : World} {v : Value} {n : Int} {L : Nat} (h : Nm k B w v n L) : nval B w v = n.toNat := by
  obtain ⟨ao, len, cap, xs, rfl, h1, rfl, h3⟩ := h
  rcases h1.lies.2 with h0 | ⟨b, off, rfl, _, hc⟩
  · have hx : xs = [] := List.eq_nil_of_length_eq_zero (by rw [h1.len]; exact h0)
    subst hx; subst h0
    cases ao <;> simp [Go.Proofs.Ytdojbknkaoiioaa.nval, val]
  · have e : ((List.range len).map fun i => intOf ((w.cell? ⟨b, off + i, none⟩).getD undef)) = xs := by
      apply List.ext_getElem
      · simp [h1.len]
      · intro i g1 g2
        simp only [List.getElem_map, List.getElem_range]
        rw [hc i (by simpa using g1)]
        simp [intOf, List.getD, g2]
    simp only [Go.Proofs.Ytdojbknkaoiioaa.nval]
    rw [e]
theorem lenOf_zero {xs : List Int} (hd : Dg B64 xs) (h : val B64 xs = 0) : lenOf xs = 0 := by rw [lenOf_eq xs hd, h]; rfl
theorem lenOf_pos {xs : List Int} (hd : Dg B64 xs) (h : 0 < val B64 xs) : 0 < lenOf xs := by rw [lenOf_eq xs hd]; exact blen_pos _ (by omega)
theorem lenOf_le {xs : List Int} (hd : Dg B64 xs) (n : Nat) (hn : xs.length ≤ n) : lenOf xs ≤ 64 * n := by
  rw [lenOf_eq xs hd]
  refine blen_le _ _ ?_
  have h0 := val_nonneg B64_pos hd
  have h1 := val_lt B64_pos hd
  have h2 := pow_mono (B := B64) (by decide) hn
  have e : B64 ^ n = ((2 ^ (64 * n) : Nat) : Int) := by
    rw [Nat.pow_mul, Int.natCast_pow]; rfl
  omega

set_option maxHeartbeats 2000000 in
/-- modular.euclid. -/
theorem euclid_any (ao mo : Option Addr) (la ca lm cm : Nat) (xs ms : List Int) (w : World) (h : NumIn .u64 B64 w ao la ca xs) (h' : NumIn .u64 B64 w mo lm cm ms) (h0 : val B64 ms ≠ 0) (hlt : val B64 xs < val B64 ms) (hla : la ≤ lm) (hsm : lm < 100000000) :
    Calls Try.prog 94 #[.slice ao la ca, .slice mo lm cm] w fun e w' => ∃ vd vt b T, e = .returned (.tuple #[vd, vt, .bool b]) ∧ Nm .u64 B64 w' vd (gd (val B64 ms) (val B64 xs)) lm ∧ Nm .u64 B64 w' vt T lm ∧ Cg (val B64 ms) (gd (val B64 ms) (val B64 xs)) (bif b then -(T * val B64 xs) else T * val B64 xs) ∧ Below w.heap.size w w' := by
  have hM := val_nonneg B64_pos h'.dg
  have hA := val_nonneg B64_pos h.dg
  have HDM : Hid (Dg B64 ms ∧ ms.length = lm) := ⟨h'.dg, h'.len⟩
  have NA : Hid (Nm .u64 B64 w (.slice ao la ca) (val B64 xs) lm) := ⟨ao, la, ca, xs, rfl, h, rfl, hla⟩
  have NM : Hid (Nm .u64 B64 w (.slice mo lm cm) (val B64 ms) lm) := ⟨mo, lm, cm, ms, rfl, h', rfl, Nat.le_refl _⟩
  have HE : Hid (Euc (val B64 ms) (val B64 xs) (val B64 ms) (val B64 xs) 0 1 true) := Euc.start _ _ (by omega) hA hlt
  have HV : Hid (val B64 ms = val B64 ms) := rfl
  obtain ⟨M, hMv⟩ : ∃ M, val B64 ms = M := ⟨_, rfl⟩
  have HMV : Hid (val B64 ms = M ∧ 0 < M) := ⟨hMv, by omega⟩
  rw [hMv] at HE NM ⊢
  obtain ⟨A, hAv⟩ : ∃ A, val B64 xs = A := ⟨_, rfl⟩
  rw [hAv] at HE NA ⊢
  clear h h' hM hA h0 hlt hla HV hMv hAv
  go_enter Try.func94, Try.ntmps94
  go_wp2_with fail
  refine (Of_any 1 w (by decide) (by decide)).mono ?_
  rintro e w1 ⟨v1, rfl, hv1⟩
  have hv2 := hv1.fit B64_one HDM.out.1 (by have := HMV.out; omega)
  rw [HDM.out.2] at hv2
  have N1 : Hid (Nm .u64 B64 w1 v1 1 lm) := hv2.nm
  replace NA : Hid (Nm .u64 B64 w1 (.slice ao la ca) A lm) := NA.out.old hv1.bl
  replace NM : Hid (Nm .u64 B64 w1 (.slice mo lm cm) M lm) := NM.out.old hv1.bl
  have BW : Hid (Below w.heap.size w w1) := hv1.bl
  clear hv1 hv2
  go_wp2
  go_loopw [5, 6, 7, 8, 9] (fun t b l n m wr => ∃ (bb : Bool) (T N Lv Mo : Int), b = .bool bb ∧ Nm .u64 B64 wr t T lm ∧ Nm .u64 B64 wr l Lv lm ∧ Nm .u64 B64 wr n N lm ∧ Nm .u64 B64 wr m Mo lm ∧ Euc M A Lv N T Mo bb ∧ Below w.heap.size w wr) (fun t b l n m wr => nval B64 wr n)
  case atStart =>
    exact ⟨true, 0, A, M, 1, rfl, ⟨none, 0, 0, [], rfl, NumIn.nil, rfl, Nat.zero_le _⟩, NM.out, NA.out, N1.out, HE.out, BW.out⟩
  case round =>
    clear NA NM N1 BW HE
    obtain ⟨bb, T, N, Lv, Mo, rfl, nT, nL, nN, nM, hE, hB⟩ := hrel
    have HMS : Hid (nval B64 wr u8 = N.toNat) := nN.nval
    have n0 := hE.2.2.1
    obtain ⟨a8, l8, c8, x8, rfl, i8, v8, b8⟩ := nN
    have HLEN := Len_any a8 l8 c8 x8 wr i8
    by_cases hz : N = 0
    · subst hz
      rw [lenOf_zero i8.dg v8] at HLEN
      have HD : Hid (Lv = gd M A ∧ Cg M (gd M A) (bif bb then -(T * A) else T * A)) := hE.done
      obtain ⟨a7, l7, c7, x7, rfl, i7, v7, b7⟩ := nL
      have HL : Hid (Nm .u64 B64 wr (.slice a7 l7 c7) Lv lm) := ⟨a7, l7, c7, x7, rfl, i7, v7, b7⟩
      obtain ⟨a5, l5, c5, x5, rfl, i5, v5, b5⟩ := nT
      have HT : Hid (Nm .u64 B64 wr (.slice a5 l5 c5) T lm) := ⟨a5, l5, c5, x5, rfl, i5, v5, b5⟩
      have BW : Hid (Below w.heap.size w wr) := hB
      clear i8 v8 i7 v7 b7 i5 v5 b5 hE nM hB
      go_wp2_with fail
      refine HLEN.mono ?_
      rintro e wr2 ⟨rfl, rfl⟩
      go_wp2
      go_ret3
      exact ⟨_, _, _, T, rfl, by rw [← HD.out.1]; exact HL.out, HT.out, HD.out.2, BW.out⟩
    · have hpos : 0 < N := by omega
      have hlp := lenOf_pos i8.dg (by omega)
      have hle := lenOf_le i8.dg lm (by rw [i8.len]; exact b8)
      obtain ⟨a7, l7, c7, x7, rfl, i7, v7, b7⟩ := nL
      obtain ⟨a9, l9, c9, x9, rfl, i9, v9, b9⟩ := nM
      obtain ⟨a5, l5, c5, x5, rfl, i5, v5, b5⟩ := nT
      have HS : Hid (Euc M A N (Lv % N) Mo (T + Lv / N * Mo) (!bb)) := hE.step hpos
      have HDIV := Div_any a7 a8 l7 c7 l8 c8 x7 x8 wr i7 i8 (by omega) (by omega)
      rw [v7, v8] at HDIV
      have N8 : Hid (NumIn .u64 B64 wr a8 l8 c8 x8 ∧ val B64 x8 = N ∧ l8 ≤ lm) := ⟨i8, v8, b8⟩
      have N9 : Hid (NumIn .u64 B64 wr a9 l9 c9 x9 ∧ val B64 x9 = Mo ∧ l9 ≤ lm) := ⟨i9, v9, b9⟩
      have N5 : Hid (NumIn .u64 B64 wr a5 l5 c5 x5 ∧ val B64 x5 = T ∧ l5 ≤ lm) := ⟨i5, v5, b5⟩
      have L7 : Hid (l7 ≤ lm) := b7
      have BW : Hid (Below w.heap.size w wr) := hB
      have HP : Hid (0 < N) := hpos
      clear i8 v8 b8 i7 v7 b7 i5 v5 b5 i9 v9 b9 hE hB hpos hz n0
      generalize lenOf x8 = len8 at *
      go_wp2_with fail
      refine HLEN.mono ?_
      rintro e wr2 ⟨rfl, rfl⟩
      clear HLEN
      go_wp2_with fail
      refine HDIV.mono ?_
      rintro e w2 ⟨q, r, rfl, hq, hr⟩
      have HR := hr.fit B64_one HDM.out.1 (by have := HS.out.2.2.2.1; have := HMV.out; omega)
      rw [HDM.out.2] at HR
      have HR : Hid (Nm .u64 B64 w2 r (Lv % N) lm) := HR.nm
      have hbl := hr.bl
      obtain ⟨aq, lq, cq, xq, rfl, q1, q2, q3, q4, q5⟩ := hq
      obtain ⟨ar, lr, cr, xr, rfl, _, _, _, _, _⟩ := hr
      replace N8 : Hid (NumIn .u64 B64 w2 a8 l8 c8 x8 ∧ val B64 x8 = N ∧ l8 ≤ lm) := ⟨N8.out.1.old hbl, N8.out.2⟩
      replace N9 : Hid (NumIn .u64 B64 w2 a9 l9 c9 x9 ∧ val B64 x9 = Mo ∧ l9 ≤ lm) := ⟨N9.out.1.old hbl, N9.out.2⟩
      replace N5 : Hid (NumIn .u64 B64 w2 a5 l5 c5 x5 ∧ val B64 x5 = T ∧ l5 ≤ lm) := ⟨N5.out.1.old hbl, N5.out.2⟩
      replace BW : Hid (Below w.heap.size w w2) := BW.out.trans (hbl.mono BW.out.size)
      have HMUL := Mul_any aq a9 lq cq l9 c9 xq x9 w2 q1 N9.out.1 (by have := L7.out; have := N9.out.2.2; omega)
      rw [q3, N9.out.2.1] at HMUL
      have LQ : Hid (lq ≤ lm + 1) := by unfold Hid; have := L7.out; omega
      clear q1 q2 q3 q4 q5 hbl HDIV
      go_wp2_with fail
      refine HMUL.mono ?_
      rintro e w3 ⟨v, rfl, a3, l3, c3, x3, rfl, q1, q2, q3, q4, q5⟩
      replace HR : Hid (Nm .u64 B64 w3 (.slice ar lr cr) (Lv % N) lm) := HR.out.old q5
      replace N8 : Hid (NumIn .u64 B64 w3 a8 l8 c8 x8 ∧ val B64 x8 = N ∧ l8 ≤ lm) := ⟨N8.out.1.old q5, N8.out.2⟩
      replace N9 : Hid (NumIn .u64 B64 w3 a9 l9 c9 x9 ∧ val B64 x9 = Mo ∧ l9 ≤ lm) := ⟨N9.out.1.old q5, N9.out.2⟩
      replace BW : Hid (Below w.heap.size w w3) := BW.out.trans (q5.mono BW.out.size)
      have HADD := Add_any a5 a3 l5 c5 l3 c3 x5 x3 w3 (N5.out.1.old q5) q1 (by have := LQ.out; have := N9.out.2.2; have := N5.out.2.2; omega)
      rw [q3, N5.out.2.1] at HADD
      clear q1 q2 q3 q4 q5 N5 HMUL
      go_wp2_with fail
      refine HADD.mono ?_
      rintro e w4 ⟨v, rfl, hv⟩
      have HM2 := hv.fit B64_one HDM.out.1 (by have := HS.out.2.2.2.2.2.2.2.1; have := HMV.out; omega)
      rw [HDM.out.2] at HM2
      have HM2 : Hid (Nm .u64 B64 w4 v (T + Lv / N * Mo) lm) := HM2.nm
      replace HR : Hid (Nm .u64 B64 w4 (.slice ar lr cr) (Lv % N) lm) := HR.out.old hv.bl
      have N8' : Hid (Nm .u64 B64 w4 (.slice a8 l8 c8) N lm) := ⟨a8, l8, c8, x8, rfl, N8.out.1.old hv.bl, N8.out.2⟩
      have N9' : Hid (Nm .u64 B64 w4 (.slice a9 l9 c9) Mo lm) := ⟨a9, l9, c9, x9, rfl, N9.out.1.old hv.bl, N9.out.2⟩
      replace BW : Hid (Below w.heap.size w w4) := BW.out.trans (hv.bl.mono BW.out.size)
      clear hv HADD N8 N9 LQ L7
      go_wp2
      go_roundw
      case rel => exact ⟨!bb, Mo, Lv % N, N, T + Lv / N * Mo, rfl, N9'.out, N8'.out, HR.out, HM2.out, HS.out, BW.out⟩
      case measure =>
        rw [HMS.out, HR.out.nval]
        have := Int.emod_lt_of_pos Lv HP.out
        have := HP.out
        have := HS.out.2.2.1
        omega

set_option maxHeartbeats 1000000 in
/-- modular.Inv: nothing gives 1. -/
theorem mInv_no (ao mo : Option Addr) (la ca lm cm : Nat) (xs ms : List Int) (w : World) (h : NumIn .u64 B64 w ao la ca xs) (h' : NumIn .u64 B64 w mo lm cm ms) (h0 : val B64 ms ≠ 0) (hg : gd (val B64 ms) (val B64 xs % val B64 ms) ≠ 1) (hsm : la + lm < 100000000) :
    Calls Try.prog 90 #[.slice ao la ca, .slice mo lm cm] w fun e w' => e = .returned (.tuple #[.slice none 0 0, .int .i64 5]) ∧ Below w.heap.size w w' := by
  have HO := mOf_any ao mo la ca lm cm xs ms w h h' h0 (by omega)
  have hM := val_nonneg B64_pos h'.dg
  have hr := mod_range (val B64 xs) (val B64 ms) hM h0
  have HM : Hid (NumIn .u64 B64 w mo lm cm ms) := h'
  have HZ : Hid (val B64 ms ≠ 0) := h0
  have HR : Hid (val B64 xs % val B64 ms < val B64 ms) := hr.2
  have HG : Hid (gd (val B64 ms) (val B64 xs % val B64 ms) ≠ 1) := hg
  clear h h' h0 hM hr hg
  go_enter Try.func90, Try.ntmps90
  go_wp2_with fail
  refine HO.mono ?_
  rintro e w1 ⟨v, rfl, a1, l1, c1, zs, rfl, n1, n2, n3, n4, n5⟩
  have HEU := euclid_any a1 mo l1 c1 lm cm zs ms w1 n1 (HM.out.old n5) HZ.out (by rw [n3]; exact HR.out) n4 (by omega)
  rw [n3] at HEU
  replace HM : Hid (NumIn .u64 B64 w1 mo lm cm ms) := HM.out.old n5
  have BW : Hid (Below w.heap.size w w1) := n5
  clear n1 n2 n3 n4 n5 HO
  go_wp2_with fail
  refine HEU.mono ?_
  rintro e w2 ⟨vd, vt, b, T, rfl, ⟨ad, ld, cd, ds, rfl, d1, d2, d3⟩, ⟨at', lt, ct, ts, rfl, t1, t2, t3⟩, hcg, n5⟩
  replace HM : Hid (NumIn .u64 B64 w2 mo lm cm ms) := HM.out.old n5
  replace BW : Hid (Below w.heap.size w w2) := BW.out.trans (n5.mono BW.out.size)
  have ND : Hid (NumIn .u64 B64 w2 ad ld cd ds ∧ val B64 ds = gd (val B64 ms) (val B64 xs % val B64 ms)) := ⟨d1, d2⟩
  have NT : Hid (NumIn .u64 B64 w2 at' lt ct ts ∧ val B64 ts = T ∧ lt ≤ lm) := ⟨t1, t2, t3⟩
  have CG : Hid (Cg (val B64 ms) (gd (val B64 ms) (val B64 xs % val B64 ms)) (bif b then -(T * (val B64 xs % val B64 ms)) else T * (val B64 xs % val B64 ms))) := hcg
  clear d1 d2 d3 t1 t2 t3 hcg n5 HEU
  go_wp2_with fail
  refine (Of_any 1 w2 (by decide) (by decide)).mono ?_
  rintro e w3 ⟨v, rfl, a1, l1, c1, zs, rfl, n1, n2, n3, n4, n5⟩
  replace HM : Hid (NumIn .u64 B64 w3 mo lm cm ms) := HM.out.old n5
  replace BW : Hid (Below w.heap.size w w3) := BW.out.trans (n5.mono BW.out.size)
  replace NT : Hid (NumIn .u64 B64 w3 at' lt ct ts ∧ val B64 ts = T ∧ lt ≤ lm) := ⟨NT.out.1.old n5, NT.out.2⟩
  have HC := Cmp_any ad a1 ld cd l1 c1 ds zs w3 (ND.out.1.old n5) n1
  rw [n3, ND.out.2] at HC
  have hcc : (cmpI (gd (val B64 ms) (val B64 xs % val B64 ms)) 1 != 0) = true := by
    rcases Int.lt_trichotomy (gd (val B64 ms) (val B64 xs % val B64 ms)) 1 with g | g | g
    · rw [cmpI_lt g]; decide
    · exact absurd g HG.out
    · rw [cmpI_gt g]; decide
  generalize cmpI (gd (val B64 ms) (val B64 xs % val B64 ms)) 1 = cc at HC hcc
  clear n1 n2 n3 n4 n5 ND
  go_wp2_with fail
  refine HC.mono ?_
  rintro e w4 ⟨rfl, hd⟩
  have HF : Hid (Below w.heap.size w w4) := BW.out.trans (hd.below _)
  clear hd HC
  go_wp2
  go_ret2
  exact ⟨rfl, HF.out⟩

set_option maxHeartbeats 1000000 in
/-- modular.Inv: what gives 1. -/
theorem mInv_yes (ao mo : Option Addr) (la ca lm cm : Nat) (xs ms : List Int) (w : World) (h : NumIn .u64 B64 w ao la ca xs) (h' : NumIn .u64 B64 w mo lm cm ms) (h0 : val B64 ms ≠ 0) (hg : gd (val B64 ms) (val B64 xs % val B64 ms) = 1) (hsm : la + lm < 100000000) :
    Calls Try.prog 90 #[.slice ao la ca, .slice mo lm cm] w fun e w' => ∃ v n, e = .returned (.tuple #[v, .int .i64 0]) ∧ NumOut .u64 B64 w w' v n lm ∧ 0 ≤ n ∧ n < val B64 ms ∧ Cg (val B64 ms) (n * val B64 xs) 1 := by
  have HO := mOf_any ao mo la ca lm cm xs ms w h h' h0 (by omega)
  have hM := val_nonneg B64_pos h'.dg
  have hr := mod_range (val B64 xs) (val B64 ms) hM h0
  have HM : Hid (NumIn .u64 B64 w mo lm cm ms) := h'
  have HZ : Hid (val B64 ms ≠ 0) := h0
  have HR : Hid (val B64 xs % val B64 ms < val B64 ms) := hr.2
  have HG : Hid (gd (val B64 ms) (val B64 xs % val B64 ms) = 1) := hg
  clear h h' h0 hM hr hg
  go_enter Try.func90, Try.ntmps90
  go_wp2_with fail
  refine HO.mono ?_
  rintro e w1 ⟨v, rfl, a1, l1, c1, zs, rfl, n1, n2, n3, n4, n5⟩
  have HEU := euclid_any a1 mo l1 c1 lm cm zs ms w1 n1 (HM.out.old n5) HZ.out (by rw [n3]; exact HR.out) n4 (by omega)
  rw [n3] at HEU
  replace HM : Hid (NumIn .u64 B64 w1 mo lm cm ms) := HM.out.old n5
  have BW : Hid (Below w.heap.size w w1) := n5
  clear n1 n2 n3 n4 n5 HO
  go_wp2_with fail
  refine HEU.mono ?_
  rintro e w2 ⟨vd, vt, b, T, rfl, ⟨ad, ld, cd, ds, rfl, d1, d2, d3⟩, ⟨at', lt, ct, ts, rfl, t1, t2, t3⟩, hcg, n5⟩
  replace HM : Hid (NumIn .u64 B64 w2 mo lm cm ms) := HM.out.old n5
  replace BW : Hid (Below w.heap.size w w2) := BW.out.trans (n5.mono BW.out.size)
  have ND : Hid (NumIn .u64 B64 w2 ad ld cd ds ∧ val B64 ds = gd (val B64 ms) (val B64 xs % val B64 ms)) := ⟨d1, d2⟩
  have NT : Hid (NumIn .u64 B64 w2 at' lt ct ts ∧ val B64 ts = T ∧ lt ≤ lm) := ⟨t1, t2, t3⟩
  have CG : Hid (Cg (val B64 ms) (gd (val B64 ms) (val B64 xs % val B64 ms)) (bif b then -(T * (val B64 xs % val B64 ms)) else T * (val B64 xs % val B64 ms))) := hcg
  clear d1 d2 d3 t1 t2 t3 hcg n5 HEU
  go_wp2_with fail
  refine (Of_any 1 w2 (by decide) (by decide)).mono ?_
  rintro e w3 ⟨v, rfl, a1, l1, c1, zs, rfl, n1, n2, n3, n4, n5⟩
  replace HM : Hid (NumIn .u64 B64 w3 mo lm cm ms) := HM.out.old n5
  replace BW : Hid (Below w.heap.size w w3) := BW.out.trans (n5.mono BW.out.size)
  replace NT : Hid (NumIn .u64 B64 w3 at' lt ct ts ∧ val B64 ts = T ∧ lt ≤ lm) := ⟨NT.out.1.old n5, NT.out.2⟩
  have HC := Cmp_any ad a1 ld cd l1 c1 ds zs w3 (ND.out.1.old n5) n1
  rw [n3, ND.out.2] at HC
  rw [HG.out, cmpI_eq rfl] at HC
  rw [HG.out] at CG
  clear n1 n2 n3 n4 n5 ND
  go_wp2_with fail
  refine HC.mono ?_
  rintro e w4 ⟨rfl, hd⟩
  have n5 := hd.below w3.heap.size
  replace HM : Hid (NumIn .u64 B64 w4 mo lm cm ms) := HM.out.old n5
  replace BW : Hid (Below w.heap.size w w4) := BW.out.trans (n5.mono BW.out.size)
  replace NT : Hid (NumIn .u64 B64 w4 at' lt ct ts ∧ val B64 ts = T ∧ lt ≤ lm) := ⟨NT.out.1.old n5, NT.out.2⟩
  have hM := val_nonneg B64_pos HM.out.dg
  clear hd HC n5
  cases b with
  | true =>
    have HS := mSub_any none at' mo 0 0 lt ct lm cm [] ts ms w4 NumIn.nil NT.out.1 HM.out HZ.out (by have := NT.out.2.2; omega)
    rw [NT.out.2.1, val_nil] at HS
    have HRG : Hid (0 ≤ (0 - T) % val B64 ms ∧ (0 - T) % val B64 ms < val B64 ms) := mod_range _ _ hM HZ.out
    have HCG : Hid (Cg (val B64 ms) ((0 - T) % val B64 ms * val B64 xs) 1) := by
      have c1 := ((Cg.mod (val B64 ms) (0 - T)).mul (Cg.mod (val B64 ms) (val B64 xs)).symm)
      exact c1.trans ((Cg.of_eq (by simp only [cond_true]; grind)).trans CG.out.symm)
    clear NT CG hM
    go_wp2_with fail
    refine HS.mono ?_
    rintro e w5 ⟨v, rfl, hv⟩
    have HV : Hid (NumOut .u64 B64 w w5 v ((0 - T) % val B64 ms) lm) := hv.from BW.out
    clear hv HS
    go_wp2
    go_ret2
    exact ⟨_, _, rfl, HV.out, HRG.out.1, HRG.out.2, HCG.out⟩
  | false =>
    have HS := mOf_any at' mo lt ct lm cm ts ms w4 NT.out.1 HM.out HZ.out (by have := NT.out.2.2; omega)
    rw [NT.out.2.1] at HS
    have HRG : Hid (0 ≤ T % val B64 ms ∧ T % val B64 ms < val B64 ms) := mod_range _ _ hM HZ.out
    have HCG : Hid (Cg (val B64 ms) (T % val B64 ms * val B64 xs) 1) := by
      have c1 := ((Cg.mod (val B64 ms) T).mul (Cg.mod (val B64 ms) (val B64 xs)).symm)
      exact c1.trans ((Cg.of_eq (by simp only [cond_false])).trans CG.out.symm)
    clear NT CG hM
    go_wp2_with fail
    refine HS.mono ?_
    rintro e w5 ⟨v, rfl, hv⟩
    have HV : Hid (NumOut .u64 B64 w w5 v (T % val B64 ms) lm) := hv.from BW.out
    clear hv HS
    go_wp2
    go_ret2
    exact ⟨_, _, rfl, HV.out, HRG.out.1, HRG.out.2, HCG.out⟩

set_option maxHeartbeats 400000 in
/-- modular.Inv: of a modulus of 0. -/
theorem mInv_zero (ao mo : Option Addr) (la ca lm cm : Nat) (xs ms : List Int) (w : World) (h : NumIn .u64 B64 w ao la ca xs) (h' : NumIn .u64 B64 w mo lm cm ms) (h0 : val B64 ms = 0) :
    Calls Try.prog 90 #[.slice ao la ca, .slice mo lm cm] w fun e w' => e = .returned (.tuple #[.slice none 0 0, .int .i64 4]) ∧ w' = w := by
  have HO := mOf_zero ao mo la ca lm cm xs ms w h h' h0
  clear h h' h0
  go_enter Try.func90, Try.ntmps90
  go_wp2_with fail
  refine HO.mono ?_
  rintro e w2 ⟨rfl, rfl⟩
  go_wp2
  go_ret2
  exact ⟨rfl, rfl⟩
end Go.Proofs.Ytdojbknkaoiioaa
