import Derived.Test.YtagljkbfgldlgaaK11
/-
  ecdsa's Verify, over a prime.
-/
namespace Go.Proofs.Ytagljkbfgldlgaa
open Go.Shelf Go.RowKit
set_option linter.unusedVariables false
set_option linter.unusedSimpArgs false

/-- What is not on the curve is none. -/
theorem Verify_off (c q : Value) (K : Cz) (G : Pz) (ao : Option Addr) (nh ca : Nat) (r s : Value) (w : World) (hc : Cu w c K 4) (hq : Pv w q G 4) (hi : G.inf = false) (ho : onB K G = false) (hr : ∃ x, Nv w r x 4) (hs : ∃ x, Nv w s x 4) :
    Calls Try.prog 10 #[c, q, .slice ao nh ca, r, s] w fun e w' => e = .returned (.bool false) ∧ Below w.heap.size w w' := by
  obtain ⟨g1, g2, oo, lo, co, a1, a2, a3, b1, b2, b3, d1, d2, d3, e1, e2, e3, f1, f2, f3, j1, j2, j3, rfl, -, -, -, -, -, -⟩ := hc.slices
  have HO := fun W (hW : Below w.heap.size w W) => On_any _ _ K G 4 W (hc.old hW) (hq.old hW) (by decide)
  simp only [ho] at HO
  obtain ⟨_, _, rfl, ⟨q1, q2, q3, _, rfl, _⟩, ⟨q4, q5, q6, _, rfl, _⟩⟩ := hq
  obtain ⟨_, r1, r2, r3, _, rfl, _⟩ := hr
  obtain ⟨_, s1, s2, s3, _, rfl, _⟩ := hs
  rw [hi] at *
  obtain ⟨hF1, hF2, hb⟩ := pair_new w #[Value.int IntKind.i64 g1, Value.int IntKind.i64 g2, Value.slice oo lo co, Value.slice a1 a2 a3, Value.slice b1 b2 b3, Value.slice d1 d2 d3, Value.slice e1 e2 e3, Value.slice f1 f2 f3, Value.slice j1 j2 j3] #[.slice q1 q2 q3, .slice q4 q5 q6, .bool false] 31 42
  obtain ⟨W0, hW0⟩ : ∃ W0, (w.alloc (.cells #[Value.int IntKind.i64 g1, Value.int IntKind.i64 g2, Value.slice oo lo co, Value.slice a1 a2 a3, Value.slice b1 b2 b3, Value.slice d1 d2 d3, Value.slice e1 e2 e3, Value.slice f1 f2 f3, Value.slice j1 j2 j3] 31)).alloc (.cells #[.slice q1 q2 q3, .slice q4 q5 q6, .bool false] 42) = W0 := ⟨_, rfl⟩
  rw [hW0] at hF1 hF2 hb
  have HOW := HO W0 hb
  obtain ⟨cC0, cC1, cC2, cC3, cC4, cC5, cC6, cC7, cC8⟩ := cells9 hF1
  have hp : PSl W0 (w.heap.size + 1) (.slice q1 q2 q3) (.slice q4 q5 q6) (.bool false) := hF2
  obtain ⟨yQ0, yQ1, yQ2, _, _, _⟩ := hp.facts
  clear hc HO
  go_enter Try.func10, Try.ntmps10
  go_wp2_with fail
  go_at_call 25
  refine HOW.mono ?_
  rintro e w3 ⟨rfl, hb3⟩
  clear cC0 cC1 cC2 cC3 cC4 cC5 cC6 cC7 cC8 yQ0 yQ1 yQ2
  go_wp2
  go_ret
  exact ⟨rfl, hb.trans (hb3.mono hb.size)⟩
/-- A number and an error, as they are answered together. -/
def Fk.nt (R : Int → Prop) (L : Nat) : Fk := ⟨fun vs W => ∃ n u z, R n ∧ vs.getD 0 undef = .tuple #[u, .int .i64 z] ∧ Nv W u n L, fun vs w w' hb h => by
  obtain ⟨n, u, z, h1, h2, h3⟩ := h
  exact ⟨n, u, z, h1, h2, h3.old hb⟩, true, fun _ vs w w' r a1 a2 l1 k1 l2 k2 b b1 b2 m1 n1 m2 n2 b' hs _ hb h => by
  obtain ⟨n, u, z, h1, h2, h3⟩ := h
  exact ⟨n, u, z, h1, h2, h3.apart hs hb⟩⟩
/-- What 'x, _ := ..' leaves. -/
theorem nt_end {R : Int → Prop} {L : Nat} {W : World} {vs1 vs2 vs3 vs4 : List Value} (h1 : (Fk.nt R L).sem vs1 W) (h2 : Fk.same.sem vs2 W) (h3 : (Fk.ext 0).sem vs3 W) (h4 : Fk.same.sem vs4 W) (e1 : vs2.getD 1 undef = vs1.getD 0 undef) (e2 : vs3.getD 1 undef = vs2.getD 0 undef) (e3 : vs4.getD 1 undef = vs3.getD 0 undef) : ∃ n, R n ∧ Nv W (vs4.getD 0 undef) n L := by
  obtain ⟨n, u, z, hr, hp, hn⟩ := h1
  have h2' : vs2.getD 0 undef = vs2.getD 1 undef := h2
  have h4' : vs4.getD 0 undef = vs4.getD 1 undef := h4
  obtain ⟨t3, q3, q3'⟩ := h3
  rw [e2, h2', e1, hp] at q3
  injection q3 with q3
  subst q3
  refine ⟨n, hr, ?_⟩
  rw [h4', e3, q3']
  exact hn
theorem mof_nv (a m : Value) (x M : Int) (L Lm : Nat) (w : World) (ha : Nv w a x L) (hm : Nv w m M Lm) (h0 : M ≠ 0) (hs : L + Lm < 100000000) :
    Calls Try.prog 30 #[a, m] w fun e w' => ∃ v, e = .returned (.tuple #[v, .int .i64 0]) ∧ Na w w' v (x % M) Lm := by
  obtain ⟨ao, la, ca, xs, rfl, h1, rfl, h2⟩ := ha
  obtain ⟨mo, lm, cm, ms, rfl, m1, rfl, m2⟩ := hm
  refine (mOf_any ao mo la ca lm cm xs ms w h1 m1 h0 (by omega)).mono ?_
  rintro e w' ⟨v, rfl, h⟩
  exact ⟨v, rfl, h.na.1.up m2, h.na.2⟩
set_option maxRecDepth 100000 in
set_option maxHeartbeats 8000000 in
/-- A right key, r and s from 1 up to below N, s with an inverse. -/
theorem Verify_good {P : Nat} [NeZero P] {K : Cz} (g : GoodK K P) (hbs : Gd K P (baseZ K)) {G : Pz} (hG : Gd K P G) (hi : G.inf = false) (c q : Value) (ao : Option Addr) (nh ca : Nat) (bs : List Int) (r s : Value) (x y : Int) (N : Nat) (w : World) (hc : Cu w c K 4) (hq : Pv w q G 4) (hh : NumIn .u8 256 w ao nh ca bs) (hn : nh ≤ 512) (hr : Nv w r x 4) (hs : Nv w s y 4) (hN : K.n = (N : Int)) (hx : 0 < x ∧ x < N) (hy : 0 < y ∧ y < N) (hg : gd (N : Int) (y % N) = 1) :
    Calls Try.prog 10 #[c, q, .slice ao nh ca, r, s] w fun e w' => ∃ (i : Int) (p1 p2 p3 : Pz), (0 ≤ i ∧ i < N ∧ Cg N (i * y) 1) ∧ Mt K P (baseZ K) ((digZ K.n nh bs * i) % N).toNat p1 ∧ Mt K P G ((x * i) % N).toNat p2 ∧ AddZ K p1 p2 (some p3) ∧ e = .returned (.bool (!p3.inf && decide (p3.x % N = x))) ∧ Below w.heap.size w w' := by
  have hN0 : (N : Int) ≠ 0 := by omega
  have HR : Hid (GoodK K P ∧ Gd K P (baseZ K) ∧ Gd K P G ∧ K.n = (N : Int) ∧ gd (N : Int) (y % N) = 1) := ⟨g, hbs, hG, hN, hg⟩
  obtain ⟨g1, g2, oo, lo, co, a1, a2, a3, b1, b2, b3, d1, d2, d3, e1, e2, e3, f1, f2, f3, j1, j2, j3, rfl, -, -, -, -, -, hnn⟩ := hc.slices
  rw [hN] at hnn
  have hq2 := hq
  have hr2 := hr
  have hs2 := hs
  obtain ⟨_, _, rfl, ⟨q1, q2, q3, _, rfl, _⟩, ⟨q4, q5, q6, _, rfl, _⟩⟩ := hq
  obtain ⟨r1, r2, r3, _, rfl, _⟩ := hr
  obtain ⟨s1, s2, s3, _, rfl, _⟩ := hs
  rw [hi] at hq2 ⊢
  obtain ⟨hF1, hF2, hbw⟩ := pair_new w #[Value.int IntKind.i64 g1, Value.int IntKind.i64 g2, Value.slice oo lo co, Value.slice a1 a2 a3, Value.slice b1 b2 b3, Value.slice d1 d2 d3, Value.slice e1 e2 e3, Value.slice f1 f2 f3, Value.slice j1 j2 j3] #[Value.slice q1 q2 q3, Value.slice q4 q5 q6, Value.bool false] 31 42
  obtain ⟨W0, hW0⟩ : ∃ W0, (w.alloc (.cells #[Value.int IntKind.i64 g1, Value.int IntKind.i64 g2, Value.slice oo lo co, Value.slice a1 a2 a3, Value.slice b1 b2 b3, Value.slice d1 d2 d3, Value.slice e1 e2 e3, Value.slice f1 f2 f3, Value.slice j1 j2 j3] 31)).alloc (.cells #[Value.slice q1 q2 q3, Value.slice q4 q5 q6, Value.bool false] 42) = W0 := ⟨_, rfl⟩
  rw [hW0] at hF1 hF2 hbw
  have HW : Hid (W0.heap[w.heap.size]? = some (.cells #[Value.int IntKind.i64 g1, Value.int IntKind.i64 g2, Value.slice oo lo co, Value.slice a1 a2 a3, Value.slice b1 b2 b3, Value.slice d1 d2 d3, Value.slice e1 e2 e3, Value.slice f1 f2 f3, Value.slice j1 j2 j3] 31 (0, 0))) := hF1
  have HQB : Hid (PSl W0 (w.heap.size + 1) (Value.slice q1 q2 q3) (Value.slice q4 q5 q6) (Value.bool false)) := hF2
  have HCU : Hid (Cu W0 (Value.agg #[Value.int IntKind.i64 g1, Value.int IntKind.i64 g2, Value.slice oo lo co, Value.slice a1 a2 a3, Value.slice b1 b2 b3, Value.slice d1 d2 d3, Value.slice e1 e2 e3, Value.slice f1 f2 f3, Value.slice j1 j2 j3]) K 4) := hc.old hbw
  have HQV : Hid (Pv W0 (Value.agg #[Value.slice q1 q2 q3, Value.slice q4 q5 q6, Value.bool false]) G 4) := hq2.old hbw
  have HBW : Hid (Below w.heap.size w W0) := hbw
  have HRV : Hid (Nv W0 (Value.slice r1 r2 r3) x 4 ∧ Nv W0 (Value.slice s1 s2 s3) y 4) := ⟨hr2.old hbw, hs2.old hbw⟩
  have HNN : Hid (Nv W0 (Value.slice j1 j2 j3) (N : Int) 4) := hnn.old hbw
  have HHS : Hid (NumIn .u8 256 W0 ao nh ca bs) := hh.old hbw
  have HI : Hid (G.inf = false) := hi
  clear hc hq2 hr2 hs2 hnn hF1 hF2 hbw hN hg g hbs hG hh hi
  go_enter Try.func10, Try.ntmps10
  obtain ⟨cC0, cC1, cC2, cC3, cC4, cC5, cC6, cC7, cC8⟩ := cells9 HW.out
  obtain ⟨yQ0, yQ1, yQ2, _, _, _⟩ := HQB.out.facts
  go_wp2_with fail
  go_at_call 25
  refine (On_any _ _ K G 4 W0 HCU.out HQV.out (by decide)).mono ?_
  rintro e w1 ⟨rfl, hbw⟩
  rw [on_good HR.out.1 HR.out.2.2.1]
  clear hW0
  replace HW : Hid (w1.heap[w.heap.size]? = some (.cells #[Value.int IntKind.i64 g1, Value.int IntKind.i64 g2, Value.slice oo lo co, Value.slice a1 a2 a3, Value.slice b1 b2 b3, Value.slice d1 d2 d3, Value.slice e1 e2 e3, Value.slice f1 f2 f3, Value.slice j1 j2 j3] 31 (0, 0))) := blk_old HW.out hbw
  replace HQB : Hid (PSl w1 (w.heap.size + 1) (Value.slice q1 q2 q3) (Value.slice q4 q5 q6) (Value.bool false)) := HQB.out.keep hbw
  replace HCU : Hid (Cu w1 (Value.agg #[Value.int IntKind.i64 g1, Value.int IntKind.i64 g2, Value.slice oo lo co, Value.slice a1 a2 a3, Value.slice b1 b2 b3, Value.slice d1 d2 d3, Value.slice e1 e2 e3, Value.slice f1 f2 f3, Value.slice j1 j2 j3]) K 4) := HCU.out.old hbw
  replace HQV : Hid (Pv w1 (Value.agg #[Value.slice q1 q2 q3, Value.slice q4 q5 q6, Value.bool false]) G 4) := HQV.out.old hbw
  replace HBW : Hid (Below w.heap.size w w1) := HBW.out.trans (hbw.mono HBW.out.size)
  replace HRV : Hid (Nv w1 (Value.slice r1 r2 r3) x 4 ∧ Nv w1 (Value.slice s1 s2 s3) y 4) := ⟨HRV.out.1.old hbw, HRV.out.2.old hbw⟩
  replace HNN : Hid (Nv w1 (Value.slice j1 j2 j3) (N : Int) 4) := HNN.out.old hbw
  replace HHS : Hid (NumIn .u8 256 w1 ao nh ca bs) := HHS.out.old hbw
  clear hbw
  clear cC0 cC1 cC2 cC3 cC4 cC5 cC6 cC7 cC8 yQ0 yQ1 yQ2
  obtain ⟨cC0, cC1, cC2, cC3, cC4, cC5, cC6, cC7, cC8⟩ := cells9 HW.out
  obtain ⟨yQ0, yQ1, yQ2, _, _, _⟩ := HQB.out.facts
  go_wp2_with fail
  go_at_call 26
  refine (factor_any _ _ x (N : Int) 4 w1 HRV.out.1 HNN.out (by decide)).mono ?_
  rintro e w2 ⟨rfl, hbw⟩
  rw [show (decide (0 < x) && decide (x < (N : Int))) = true by simp [hx]]
  replace HW : Hid (w2.heap[w.heap.size]? = some (.cells #[Value.int IntKind.i64 g1, Value.int IntKind.i64 g2, Value.slice oo lo co, Value.slice a1 a2 a3, Value.slice b1 b2 b3, Value.slice d1 d2 d3, Value.slice e1 e2 e3, Value.slice f1 f2 f3, Value.slice j1 j2 j3] 31 (0, 0))) := blk_old HW.out hbw
  replace HQB : Hid (PSl w2 (w.heap.size + 1) (Value.slice q1 q2 q3) (Value.slice q4 q5 q6) (Value.bool false)) := HQB.out.keep hbw
  replace HCU : Hid (Cu w2 (Value.agg #[Value.int IntKind.i64 g1, Value.int IntKind.i64 g2, Value.slice oo lo co, Value.slice a1 a2 a3, Value.slice b1 b2 b3, Value.slice d1 d2 d3, Value.slice e1 e2 e3, Value.slice f1 f2 f3, Value.slice j1 j2 j3]) K 4) := HCU.out.old hbw
  replace HQV : Hid (Pv w2 (Value.agg #[Value.slice q1 q2 q3, Value.slice q4 q5 q6, Value.bool false]) G 4) := HQV.out.old hbw
  replace HBW : Hid (Below w.heap.size w w2) := HBW.out.trans (hbw.mono HBW.out.size)
  replace HRV : Hid (Nv w2 (Value.slice r1 r2 r3) x 4 ∧ Nv w2 (Value.slice s1 s2 s3) y 4) := ⟨HRV.out.1.old hbw, HRV.out.2.old hbw⟩
  replace HNN : Hid (Nv w2 (Value.slice j1 j2 j3) (N : Int) 4) := HNN.out.old hbw
  replace HHS : Hid (NumIn .u8 256 w2 ao nh ca bs) := HHS.out.old hbw
  clear hbw
  clear cC0 cC1 cC2 cC3 cC4 cC5 cC6 cC7 cC8 yQ0 yQ1 yQ2
  obtain ⟨cC0, cC1, cC2, cC3, cC4, cC5, cC6, cC7, cC8⟩ := cells9 HW.out
  obtain ⟨yQ0, yQ1, yQ2, _, _, _⟩ := HQB.out.facts
  go_wp2_with fail
  go_at_call 26
  refine (factor_any _ _ y (N : Int) 4 w2 HRV.out.2 HNN.out (by decide)).mono ?_
  rintro e w3 ⟨rfl, hbw⟩
  rw [show (decide (0 < y) && decide (y < (N : Int))) = true by simp [hy]]
  replace HW : Hid (w3.heap[w.heap.size]? = some (.cells #[Value.int IntKind.i64 g1, Value.int IntKind.i64 g2, Value.slice oo lo co, Value.slice a1 a2 a3, Value.slice b1 b2 b3, Value.slice d1 d2 d3, Value.slice e1 e2 e3, Value.slice f1 f2 f3, Value.slice j1 j2 j3] 31 (0, 0))) := blk_old HW.out hbw
  replace HQB : Hid (PSl w3 (w.heap.size + 1) (Value.slice q1 q2 q3) (Value.slice q4 q5 q6) (Value.bool false)) := HQB.out.keep hbw
  replace HCU : Hid (Cu w3 (Value.agg #[Value.int IntKind.i64 g1, Value.int IntKind.i64 g2, Value.slice oo lo co, Value.slice a1 a2 a3, Value.slice b1 b2 b3, Value.slice d1 d2 d3, Value.slice e1 e2 e3, Value.slice f1 f2 f3, Value.slice j1 j2 j3]) K 4) := HCU.out.old hbw
  replace HQV : Hid (Pv w3 (Value.agg #[Value.slice q1 q2 q3, Value.slice q4 q5 q6, Value.bool false]) G 4) := HQV.out.old hbw
  replace HBW : Hid (Below w.heap.size w w3) := HBW.out.trans (hbw.mono HBW.out.size)
  replace HRV : Hid (Nv w3 (Value.slice r1 r2 r3) x 4 ∧ Nv w3 (Value.slice s1 s2 s3) y 4) := ⟨HRV.out.1.old hbw, HRV.out.2.old hbw⟩
  replace HNN : Hid (Nv w3 (Value.slice j1 j2 j3) (N : Int) 4) := HNN.out.old hbw
  replace HHS : Hid (NumIn .u8 256 w3 ao nh ca bs) := HHS.out.old hbw
  clear hbw
  clear cC0 cC1 cC2 cC3 cC4 cC5 cC6 cC7 cC8 yQ0 yQ1 yQ2
  obtain ⟨cC0, cC1, cC2, cC3, cC4, cC5, cC6, cC7, cC8⟩ := cells9 HW.out
  obtain ⟨yQ0, yQ1, yQ2, _, _, _⟩ := HQB.out.facts
  go_wp2_with fail
  go_at_call 27
  refine (inv_yes _ _ y (N : Int) 4 4 w3 HRV.out.2 HNN.out hN0 HR.out.2.2.2.2 (by decide)).mono ?_
  rintro e w4 ⟨vi, i, rfl, ⟨hvi, hbw⟩, hii⟩
  have HII : Hid (0 ≤ i ∧ i < (N : Int) ∧ Cg (N : Int) (i * y) 1) := hii
  have HVI : Hid (Nv w4 vi i 4) := hvi
  obtain ⟨i1, i2, i3, _, rfl, _⟩ := hvi
  clear hii
  replace HW : Hid (w4.heap[w.heap.size]? = some (.cells #[Value.int IntKind.i64 g1, Value.int IntKind.i64 g2, Value.slice oo lo co, Value.slice a1 a2 a3, Value.slice b1 b2 b3, Value.slice d1 d2 d3, Value.slice e1 e2 e3, Value.slice f1 f2 f3, Value.slice j1 j2 j3] 31 (0, 0))) := blk_old HW.out hbw
  replace HQB : Hid (PSl w4 (w.heap.size + 1) (Value.slice q1 q2 q3) (Value.slice q4 q5 q6) (Value.bool false)) := HQB.out.keep hbw
  replace HCU : Hid (Cu w4 (Value.agg #[Value.int IntKind.i64 g1, Value.int IntKind.i64 g2, Value.slice oo lo co, Value.slice a1 a2 a3, Value.slice b1 b2 b3, Value.slice d1 d2 d3, Value.slice e1 e2 e3, Value.slice f1 f2 f3, Value.slice j1 j2 j3]) K 4) := HCU.out.old hbw
  replace HQV : Hid (Pv w4 (Value.agg #[Value.slice q1 q2 q3, Value.slice q4 q5 q6, Value.bool false]) G 4) := HQV.out.old hbw
  replace HBW : Hid (Below w.heap.size w w4) := HBW.out.trans (hbw.mono HBW.out.size)
  replace HRV : Hid (Nv w4 (Value.slice r1 r2 r3) x 4 ∧ Nv w4 (Value.slice s1 s2 s3) y 4) := ⟨HRV.out.1.old hbw, HRV.out.2.old hbw⟩
  replace HNN : Hid (Nv w4 (Value.slice j1 j2 j3) (N : Int) 4) := HNN.out.old hbw
  replace HHS : Hid (NumIn .u8 256 w4 ao nh ca bs) := HHS.out.old hbw
  clear hbw
  clear cC0 cC1 cC2 cC3 cC4 cC5 cC6 cC7 cC8 yQ0 yQ1 yQ2
  obtain ⟨cC0, cC1, cC2, cC3, cC4, cC5, cC6, cC7, cC8⟩ := cells9 HW.out
  obtain ⟨yQ0, yQ1, yQ2, _, _, _⟩ := HQB.out.facts
  go_wp2_with fail
  clear cC0 cC1 cC2 cC3 cC4 cC5 cC6 cC7 cC8 yQ0 yQ1 yQ2
  refine wp_region_frames 1 [[53], [54], [55], [56], [57], [58], [59], [52, 59], [60, 52], [61, 52], [13, 60], [14, 61]] (([.eq (Value.agg #[Value.int IntKind.i64 g1, Value.int IntKind.i64 g2, Value.slice oo lo co, Value.slice a1 a2 a3, Value.slice b1 b2 b3, Value.slice d1 d2 d3, Value.slice e1 e2 e3, Value.slice f1 f2 f3, Value.slice j1 j2 j3]), .eq (Value.slice ao nh ca), .nv (fun n => n = digZ K.n nh bs) 64, .eq (Value.slice i1 i2 i3), .eq (Value.pointer (some { block := w.heap.size, off := 8 })), .eq (Value.slice j1 j2 j3), .nt (fun n => n = (digZ K.n nh bs * i) % (N : Int)) 4, .same, .ext 0, .ext 1, .same, .same] : List Fk).map Fk.sem) [0, 1, 2, 3, 4, 5, 6, 7, 8, 9, 10, 11] (by kernel_rfl) (by kernel_rfl) (by kernel_rfl) ?step ?done
  case step =>
    intro i o ho listed a wx hI hli hne KK hK
    have hlt : i < 12 := (Array.getElem?_eq_some_iff.1 ho).1
    have hsz : Hid (a.tmps.size = 96) := hI.slots
    have hbw : Below w4.heap.size w4 wx := (Below.refl _ _).drew.trans hI.below
    obtain rfl | rfl | rfl | rfl | rfl | rfl | rfl | rfl | rfl | rfl | rfl | rfl : i = 0 ∨ i = 1 ∨ i = 2 ∨ i = 3 ∨ i = 4 ∨ i = 5 ∨ i = 6 ∨ i = 7 ∨ i = 8 ∨ i = 9 ∨ i = 10 ∨ i = 11 := by omega
    · simp only [List.getElem?_toArray, List.getElem?_cons_succ, List.getElem?_cons_zero, Option.some.injEq] at ho
      subst ho
      rw [if_pos (by rfl)]
      have eH5 : a.tmps.getD 5 undef = Value.pointer (some { block := w.heap.size, off := 0 }) := hI.stays hli 1 5 (by decide +kernel)
      obtain ⟨cC0, cC1, cC2, cC3, cC4, cC5, cC6, cC7, cC8⟩ := cells9 (blk_old HW.out hbw)
      go_simp
      exact hI.grow hK _ _ (Below.refl _ _) (put_self _ _ _ (by rw [hsz.out]; decide))
    · simp only [List.getElem?_toArray, List.getElem?_cons_succ, List.getElem?_cons_zero, Option.some.injEq] at ho
      subst ho
      rw [if_pos (by rfl)]
      have eH2 : a.tmps.getD 2 undef = Value.slice ao nh ca := hI.stays hli 1 2 (by decide +kernel)
      go_simp
      exact hI.grow hK _ _ (Below.refl _ _) (put_self _ _ _ (by rw [hsz.out]; decide))
    · simp only [List.getElem?_toArray, List.getElem?_cons_succ, List.getElem?_cons_zero, Option.some.injEq] at ho
      subst ho
      rw [if_pos (by rfl)]
      have eH53 : a.tmps.getD 53 undef = (Value.agg #[Value.int IntKind.i64 g1, Value.int IntKind.i64 g2, Value.slice oo lo co, Value.slice a1 a2 a3, Value.slice b1 b2 b3, Value.slice d1 d2 d3, Value.slice e1 e2 e3, Value.slice f1 f2 f3, Value.slice j1 j2 j3]) := hI.deep hne 0 0 (by decide +kernel)
      have eH54 : a.tmps.getD 54 undef = (Value.slice ao nh ca) := hI.deep hne 0 1 (by decide +kernel)
      go_simp
      go_at_call 16
      refine (Digest_any _ K 4 ao nh ca bs wx (HCU.out.old hbw) (by decide) (HHS.out.old hbw) hn).mono ?_
      rintro e w5 ⟨v5, rfl, hn5⟩
      exact hI.grow hK _ _ hn5.na.2 ⟨_, rfl, by have hp := put_self a 55 v5 (by rw [hsz.out]; decide); show Nv w5 ((a.put (some 55) v5).tmps.getD 55 undef) _ _; rw [hp]; exact hn5.na.1⟩
    · simp only [List.getElem?_toArray, List.getElem?_cons_succ, List.getElem?_cons_zero, Option.some.injEq] at ho
      subst ho
      rw [if_pos (by rfl)]
      have eH11 : a.tmps.getD 11 undef = Value.slice i1 i2 i3 := hI.stays hli 1 11 (by decide +kernel)
      go_simp
      exact hI.grow hK _ _ (Below.refl _ _) (put_self _ _ _ (by rw [hsz.out]; decide))
    · simp only [List.getElem?_toArray, List.getElem?_cons_succ, List.getElem?_cons_zero, Option.some.injEq] at ho
      subst ho
      rw [if_pos (by rfl)]
      have eH5 : a.tmps.getD 5 undef = Value.pointer (some { block := w.heap.size, off := 0 }) := hI.stays hli 1 5 (by decide +kernel)
      go_simp
      exact hI.grow hK _ _ (Below.refl _ _) (put_self _ _ _ (by rw [hsz.out]; decide))
    · simp only [List.getElem?_toArray, List.getElem?_cons_succ, List.getElem?_cons_zero, Option.some.injEq] at ho
      subst ho
      rw [if_pos (by rfl)]
      have eH57 : a.tmps.getD 57 undef = (Value.pointer (some { block := w.heap.size, off := 8 })) := hI.deep hne 0 4 (by decide +kernel)
      obtain ⟨cC0, cC1, cC2, cC3, cC4, cC5, cC6, cC7, cC8⟩ := cells9 (blk_old HW.out hbw)
      go_simp
      exact hI.grow hK _ _ (Below.refl _ _) (put_self _ _ _ (by rw [hsz.out]; decide))
    · simp only [List.getElem?_toArray, List.getElem?_cons_succ, List.getElem?_cons_zero, Option.some.injEq] at ho
      subst ho
      rw [if_pos (by rfl)]
      have eH56 : a.tmps.getD 56 undef = (Value.slice i1 i2 i3) := hI.deep hne 0 3 (by decide +kernel)
      have eH58 : a.tmps.getD 58 undef = (Value.slice j1 j2 j3) := hI.deep hne 0 5 (by decide +kernel)
      have fA2 : Fk.sem (.nv (fun n => n = digZ K.n nh bs) 64) [a.tmps.getD 55 undef] wx := hI.deep hne 0 2 (by decide +kernel)
      obtain ⟨zX55, eH55⟩ : ∃ x, a.tmps.getD 55 undef = x := ⟨_, rfl⟩
      simp only [eH55] at fA2
      obtain ⟨nz, hnz, hnv0⟩ := fA2
      rw [hnz] at hnv0
      have hnv : Nv wx zX55 (digZ K.n nh bs) 64 := hnv0
      clear hnv0 hnz
      go_simp
      go_at_call 28
      refine (mul_nv _ _ _ (digZ K.n nh bs) i (N : Int) 64 4 wx hnv ((HVI.out.old hbw).up (by decide)) (HNN.out.old hbw) hN0 (by decide)).mono ?_
      rintro e w5 ⟨v5, rfl, hv5, hb5⟩
      exact hI.grow hK _ _ hb5 ⟨_, v5, 0, rfl, put_self _ _ _ (by rw [hsz.out]; decide), hv5⟩
    · simp only [List.getElem?_toArray, List.getElem?_cons_succ, List.getElem?_cons_zero, Option.some.injEq] at ho
      subst ho
      rw [if_pos (by rfl)]
      have fA6 : Fk.sem (.nt (fun n => n = (digZ K.n nh bs * i) % (N : Int)) 4) [a.tmps.getD 59 undef] wx := hI.deep hne 0 6 (by decide +kernel)
      obtain ⟨zX59, eH59⟩ : ∃ x, a.tmps.getD 59 undef = x := ⟨_, rfl⟩
      simp only [eH59] at fA6
      have eK59 := eH59
      rw [Array.getD_eq_getD_getElem?] at eK59
      go_simp
      exact hI.grow hK _ _ (Below.refl _ _) ((put_self _ _ _ (by rw [hsz.out]; decide)).trans ((put_get _ _ _ _ (by decide)).trans eH59).symm)
    · simp only [List.getElem?_toArray, List.getElem?_cons_succ, List.getElem?_cons_zero, Option.some.injEq] at ho
      subst ho
      rw [if_pos (by rfl)]
      have fA6 : Fk.sem (.nt (fun n => n = (digZ K.n nh bs * i) % (N : Int)) 4) [a.tmps.getD 59 undef] wx := hI.deep hne 1 6 (by decide +kernel)
      have fA7 : Fk.sem (.same) [a.tmps.getD 52 undef, a.tmps.getD 59 undef] wx := hI.deep hne 0 7 (by decide +kernel)
      obtain ⟨zX52, eH52⟩ : ∃ x, a.tmps.getD 52 undef = x := ⟨_, rfl⟩
      obtain ⟨zX59, eH59⟩ : ∃ x, a.tmps.getD 59 undef = x := ⟨_, rfl⟩
      simp only [eH52, eH59] at fA6 fA7
      have eG52 : zX52 = zX59 := fA7
      obtain ⟨nN, uU, zZ, hrn, hpp, hnu⟩ := fA6
      obtain ⟨pP1, pP2, pP3, _, hUU, _⟩ := hnu
      rw [hUU] at hpp
      have hT : zX52 = .tuple #[.slice pP1 pP2 pP3, .int .i64 zZ] := eG52.trans (hpp)
      clear hpp hUU eG52
      subst hT
      have eK52 := eH52
      rw [Array.getD_eq_getD_getElem?] at eK52
      go_simp
      exact hI.grow hK (.slice pP1 pP2 pP3) _ (Below.refl _ _) ⟨_, (put_get _ _ _ _ (by decide)).trans eH52, put_self _ _ _ (by rw [hsz.out]; decide)⟩
    · simp only [List.getElem?_toArray, List.getElem?_cons_succ, List.getElem?_cons_zero, Option.some.injEq] at ho
      subst ho
      rw [if_pos (by rfl)]
      have fA6 : Fk.sem (.nt (fun n => n = (digZ K.n nh bs * i) % (N : Int)) 4) [a.tmps.getD 59 undef] wx := hI.deep hne 1 6 (by decide +kernel)
      have fA7 : Fk.sem (.same) [a.tmps.getD 52 undef, a.tmps.getD 59 undef] wx := hI.deep hne 0 7 (by decide +kernel)
      obtain ⟨zX52, eH52⟩ : ∃ x, a.tmps.getD 52 undef = x := ⟨_, rfl⟩
      obtain ⟨zX59, eH59⟩ : ∃ x, a.tmps.getD 59 undef = x := ⟨_, rfl⟩
      simp only [eH52, eH59] at fA6 fA7
      have eG52 : zX52 = zX59 := fA7
      obtain ⟨nN, uU, zZ, hrn, hpp, hnu⟩ := fA6
      obtain ⟨pP1, pP2, pP3, _, hUU, _⟩ := hnu
      rw [hUU] at hpp
      have hT : zX52 = .tuple #[.slice pP1 pP2 pP3, .int .i64 zZ] := eG52.trans (hpp)
      clear hpp hUU eG52
      subst hT
      have eK52 := eH52
      rw [Array.getD_eq_getD_getElem?] at eK52
      go_simp
      exact hI.grow hK (.int .i64 zZ) _ (Below.refl _ _) ⟨_, (put_get _ _ _ _ (by decide)).trans eH52, put_self _ _ _ (by rw [hsz.out]; decide)⟩
    · simp only [List.getElem?_toArray, List.getElem?_cons_succ, List.getElem?_cons_zero, Option.some.injEq] at ho
      subst ho
      rw [if_pos (by rfl)]
      have fA6 : Fk.sem (.nt (fun n => n = (digZ K.n nh bs * i) % (N : Int)) 4) [a.tmps.getD 59 undef] wx := hI.deep hne 0 6 (by decide +kernel)
      have fA7 : Fk.sem (.same) [a.tmps.getD 52 undef, a.tmps.getD 59 undef] wx := hI.deep hne 0 7 (by decide +kernel)
      have fA8 : Fk.sem (.ext 0) [a.tmps.getD 60 undef, a.tmps.getD 52 undef] wx := hI.deep hne 0 8 (by decide +kernel)
      obtain ⟨zX60, eH60⟩ : ∃ x, a.tmps.getD 60 undef = x := ⟨_, rfl⟩
      obtain ⟨zX52, eH52⟩ : ∃ x, a.tmps.getD 52 undef = x := ⟨_, rfl⟩
      obtain ⟨zX59, eH59⟩ : ∃ x, a.tmps.getD 59 undef = x := ⟨_, rfl⟩
      simp only [eH60, eH52, eH59] at fA6 fA7 fA8
      have eK60 := eH60
      have eK52 := eH52
      have eK59 := eH59
      rw [Array.getD_eq_getD_getElem?] at eK60 eK52 eK59
      go_simp
      exact hI.grow hK _ _ (Below.refl _ _) ((put_self _ _ _ (by rw [hsz.out]; decide)).trans ((put_get _ _ _ _ (by decide)).trans eH60).symm)
    · simp only [List.getElem?_toArray, List.getElem?_cons_succ, List.getElem?_cons_zero, Option.some.injEq] at ho
      subst ho
      rw [if_pos (by rfl)]
      have fA6 : Fk.sem (.nt (fun n => n = (digZ K.n nh bs * i) % (N : Int)) 4) [a.tmps.getD 59 undef] wx := hI.deep hne 0 6 (by decide +kernel)
      have fA7 : Fk.sem (.same) [a.tmps.getD 52 undef, a.tmps.getD 59 undef] wx := hI.deep hne 0 7 (by decide +kernel)
      have fA9 : Fk.sem (.ext 1) [a.tmps.getD 61 undef, a.tmps.getD 52 undef] wx := hI.deep hne 0 9 (by decide +kernel)
      obtain ⟨zX61, eH61⟩ : ∃ x, a.tmps.getD 61 undef = x := ⟨_, rfl⟩
      obtain ⟨zX52, eH52⟩ : ∃ x, a.tmps.getD 52 undef = x := ⟨_, rfl⟩
      obtain ⟨zX59, eH59⟩ : ∃ x, a.tmps.getD 59 undef = x := ⟨_, rfl⟩
      simp only [eH61, eH52, eH59] at fA6 fA7 fA9
      have eK61 := eH61
      have eK52 := eH52
      have eK59 := eH59
      rw [Array.getD_eq_getD_getElem?] at eK61 eK52 eK59
      go_simp
      exact hI.grow hK _ _ (Below.refl _ _) ((put_self _ _ _ (by rw [hsz.out]; decide)).trans ((put_get _ _ _ _ (by decide)).trans eH61).symm)
  case done =>
    intro listed a w5 hI hall
    obtain ⟨tm, df⟩ := a
    have hdf : df = [] := hI.defers
    subst hdf
    have hTM : tm = #[tm.getD 0 undef, tm.getD 1 undef, tm.getD 2 undef, tm.getD 3 undef, tm.getD 4 undef, tm.getD 5 undef, tm.getD 6 undef, tm.getD 7 undef, tm.getD 8 undef, tm.getD 9 undef, tm.getD 10 undef, tm.getD 11 undef, tm.getD 12 undef, tm.getD 13 undef, tm.getD 14 undef, tm.getD 15 undef, tm.getD 16 undef, tm.getD 17 undef, tm.getD 18 undef, tm.getD 19 undef, tm.getD 20 undef, tm.getD 21 undef, tm.getD 22 undef, tm.getD 23 undef, tm.getD 24 undef, tm.getD 25 undef, tm.getD 26 undef, tm.getD 27 undef, tm.getD 28 undef, tm.getD 29 undef, tm.getD 30 undef, tm.getD 31 undef, tm.getD 32 undef, tm.getD 33 undef, tm.getD 34 undef, tm.getD 35 undef, tm.getD 36 undef, tm.getD 37 undef, tm.getD 38 undef, tm.getD 39 undef, tm.getD 40 undef, tm.getD 41 undef, tm.getD 42 undef, tm.getD 43 undef, tm.getD 44 undef, tm.getD 45 undef, tm.getD 46 undef, tm.getD 47 undef, tm.getD 48 undef, tm.getD 49 undef, tm.getD 50 undef, tm.getD 51 undef, tm.getD 52 undef, tm.getD 53 undef, tm.getD 54 undef, tm.getD 55 undef, tm.getD 56 undef, tm.getD 57 undef, tm.getD 58 undef, tm.getD 59 undef, tm.getD 60 undef, tm.getD 61 undef, tm.getD 62 undef, tm.getD 63 undef, tm.getD 64 undef, tm.getD 65 undef, tm.getD 66 undef, tm.getD 67 undef, tm.getD 68 undef, tm.getD 69 undef, tm.getD 70 undef, tm.getD 71 undef, tm.getD 72 undef, tm.getD 73 undef, tm.getD 74 undef, tm.getD 75 undef, tm.getD 76 undef, tm.getD 77 undef, tm.getD 78 undef, tm.getD 79 undef, tm.getD 80 undef, tm.getD 81 undef, tm.getD 82 undef, tm.getD 83 undef, tm.getD 84 undef, tm.getD 85 undef, tm.getD 86 undef, tm.getD 87 undef, tm.getD 88 undef, tm.getD 89 undef, tm.getD 90 undef, tm.getD 91 undef, tm.getD 92 undef, tm.getD 93 undef, tm.getD 94 undef, tm.getD 95 undef] := arr_of tm 96 hI.slots
    have oS0 : tm.getD 0 undef = Value.agg #[Value.int IntKind.i64 g1, Value.int IntKind.i64 g2, Value.slice oo lo co, Value.slice a1 a2 a3, Value.slice b1 b2 b3, Value.slice d1 d2 d3, Value.slice e1 e2 e3, Value.slice f1 f2 f3, Value.slice j1 j2 j3] := hI.kept 0 (by decide +kernel)
    have oS1 : tm.getD 1 undef = Value.agg #[Value.slice q1 q2 q3, Value.slice q4 q5 q6, Value.bool false] := hI.kept 1 (by decide +kernel)
    have oS2 : tm.getD 2 undef = Value.slice ao nh ca := hI.kept 2 (by decide +kernel)
    have oS3 : tm.getD 3 undef = Value.slice r1 r2 r3 := hI.kept 3 (by decide +kernel)
    have oS4 : tm.getD 4 undef = Value.slice s1 s2 s3 := hI.kept 4 (by decide +kernel)
    have oS5 : tm.getD 5 undef = Value.pointer (some { block := w.heap.size, off := 0 }) := hI.kept 5 (by decide +kernel)
    have oS6 : tm.getD 6 undef = Value.pointer (some { block := w.heap.size + 1, off := 0 }) := hI.kept 6 (by decide +kernel)
    have oS7 : tm.getD 7 undef = undef := hI.kept 7 (by decide +kernel)
    have oS8 : tm.getD 8 undef = undef := hI.kept 8 (by decide +kernel)
    have oS9 : tm.getD 9 undef = undef := hI.kept 9 (by decide +kernel)
    have oS10 : tm.getD 10 undef = Value.bool false := hI.kept 10 (by decide +kernel)
    have oS11 : tm.getD 11 undef = Value.slice i1 i2 i3 := hI.kept 11 (by decide +kernel)
    have oS12 : tm.getD 12 undef = Value.int IntKind.i64 0 := hI.kept 12 (by decide +kernel)
    have oS15 : tm.getD 15 undef = undef := hI.kept 15 (by decide +kernel)
    have oS16 : tm.getD 16 undef = undef := hI.kept 16 (by decide +kernel)
    have oS17 : tm.getD 17 undef = undef := hI.kept 17 (by decide +kernel)
    have oS18 : tm.getD 18 undef = undef := hI.kept 18 (by decide +kernel)
    have oS19 : tm.getD 19 undef = undef := hI.kept 19 (by decide +kernel)
    have oS20 : tm.getD 20 undef = undef := hI.kept 20 (by decide +kernel)
    have oS21 : tm.getD 21 undef = Value.pointer (some { block := w.heap.size + 1, off := 2 }) := hI.kept 21 (by decide +kernel)
    have oS22 : tm.getD 22 undef = Value.bool false := hI.kept 22 (by decide +kernel)
    have oS23 : tm.getD 23 undef = Value.bool false := hI.kept 23 (by decide +kernel)
    have oS24 : tm.getD 24 undef = Value.agg #[Value.int IntKind.i64 g1, Value.int IntKind.i64 g2, Value.slice oo lo co, Value.slice a1 a2 a3, Value.slice b1 b2 b3, Value.slice d1 d2 d3, Value.slice e1 e2 e3, Value.slice f1 f2 f3, Value.slice j1 j2 j3] := hI.kept 24 (by decide +kernel)
    have oS25 : tm.getD 25 undef = Value.agg #[Value.slice q1 q2 q3, Value.slice q4 q5 q6, Value.bool false] := hI.kept 25 (by decide +kernel)
    have oS26 : tm.getD 26 undef = Value.bool true := hI.kept 26 (by decide +kernel)
    have oS27 : tm.getD 27 undef = Value.bool false := hI.kept 27 (by decide +kernel)
    have oS28 : tm.getD 28 undef = Value.bool false := hI.kept 28 (by decide +kernel)
    have oS29 : tm.getD 29 undef = Value.bool false := hI.kept 29 (by decide +kernel)
    have oS30 : tm.getD 30 undef = Value.slice r1 r2 r3 := hI.kept 30 (by decide +kernel)
    have oS31 : tm.getD 31 undef = Value.pointer (some { block := w.heap.size, off := 8 }) := hI.kept 31 (by decide +kernel)
    have oS32 : tm.getD 32 undef = Value.slice j1 j2 j3 := hI.kept 32 (by decide +kernel)
    have oS33 : tm.getD 33 undef = Value.bool true := hI.kept 33 (by decide +kernel)
    have oS34 : tm.getD 34 undef = Value.bool false := hI.kept 34 (by decide +kernel)
    have oS35 : tm.getD 35 undef = Value.bool false := hI.kept 35 (by decide +kernel)
    have oS36 : tm.getD 36 undef = Value.bool false := hI.kept 36 (by decide +kernel)
    have oS37 : tm.getD 37 undef = Value.slice s1 s2 s3 := hI.kept 37 (by decide +kernel)
    have oS38 : tm.getD 38 undef = Value.pointer (some { block := w.heap.size, off := 8 }) := hI.kept 38 (by decide +kernel)
    have oS39 : tm.getD 39 undef = Value.slice j1 j2 j3 := hI.kept 39 (by decide +kernel)
    have oS40 : tm.getD 40 undef = Value.bool true := hI.kept 40 (by decide +kernel)
    have oS41 : tm.getD 41 undef = Value.bool false := hI.kept 41 (by decide +kernel)
    have oS42 : tm.getD 42 undef = Value.bool false := hI.kept 42 (by decide +kernel)
    have oS43 : tm.getD 43 undef = Value.tuple #[Value.slice i1 i2 i3, Value.int IntKind.i64 0] := hI.kept 43 (by decide +kernel)
    have oS44 : tm.getD 44 undef = Value.slice s1 s2 s3 := hI.kept 44 (by decide +kernel)
    have oS45 : tm.getD 45 undef = Value.pointer (some { block := w.heap.size, off := 8 }) := hI.kept 45 (by decide +kernel)
    have oS46 : tm.getD 46 undef = Value.slice j1 j2 j3 := hI.kept 46 (by decide +kernel)
    have oS47 : tm.getD 47 undef = Value.tuple #[Value.slice i1 i2 i3, Value.int IntKind.i64 0] := hI.kept 47 (by decide +kernel)
    have oS48 : tm.getD 48 undef = Value.slice i1 i2 i3 := hI.kept 48 (by decide +kernel)
    have oS49 : tm.getD 49 undef = Value.int IntKind.i64 0 := hI.kept 49 (by decide +kernel)
    have oS50 : tm.getD 50 undef = Value.int IntKind.i64 0 := hI.kept 50 (by decide +kernel)
    have oS51 : tm.getD 51 undef = Value.bool false := hI.kept 51 (by decide +kernel)
    have oS62 : tm.getD 62 undef = undef := hI.kept 62 (by decide +kernel)
    have oS63 : tm.getD 63 undef = undef := hI.kept 63 (by decide +kernel)
    have oS64 : tm.getD 64 undef = undef := hI.kept 64 (by decide +kernel)
    have oS65 : tm.getD 65 undef = undef := hI.kept 65 (by decide +kernel)
    have oS66 : tm.getD 66 undef = undef := hI.kept 66 (by decide +kernel)
    have oS67 : tm.getD 67 undef = undef := hI.kept 67 (by decide +kernel)
    have oS68 : tm.getD 68 undef = undef := hI.kept 68 (by decide +kernel)
    have oS69 : tm.getD 69 undef = undef := hI.kept 69 (by decide +kernel)
    have oS70 : tm.getD 70 undef = undef := hI.kept 70 (by decide +kernel)
    have oS71 : tm.getD 71 undef = undef := hI.kept 71 (by decide +kernel)
    have oS72 : tm.getD 72 undef = undef := hI.kept 72 (by decide +kernel)
    have oS73 : tm.getD 73 undef = undef := hI.kept 73 (by decide +kernel)
    have oS74 : tm.getD 74 undef = undef := hI.kept 74 (by decide +kernel)
    have oS75 : tm.getD 75 undef = undef := hI.kept 75 (by decide +kernel)
    have oS76 : tm.getD 76 undef = undef := hI.kept 76 (by decide +kernel)
    have oS77 : tm.getD 77 undef = undef := hI.kept 77 (by decide +kernel)
    have oS78 : tm.getD 78 undef = undef := hI.kept 78 (by decide +kernel)
    have oS79 : tm.getD 79 undef = undef := hI.kept 79 (by decide +kernel)
    have oS80 : tm.getD 80 undef = undef := hI.kept 80 (by decide +kernel)
    have oS81 : tm.getD 81 undef = undef := hI.kept 81 (by decide +kernel)
    have oS82 : tm.getD 82 undef = undef := hI.kept 82 (by decide +kernel)
    have oS83 : tm.getD 83 undef = undef := hI.kept 83 (by decide +kernel)
    have oS84 : tm.getD 84 undef = undef := hI.kept 84 (by decide +kernel)
    have oS85 : tm.getD 85 undef = undef := hI.kept 85 (by decide +kernel)
    have oS86 : tm.getD 86 undef = undef := hI.kept 86 (by decide +kernel)
    have oS87 : tm.getD 87 undef = undef := hI.kept 87 (by decide +kernel)
    have oS88 : tm.getD 88 undef = undef := hI.kept 88 (by decide +kernel)
    have oS89 : tm.getD 89 undef = undef := hI.kept 89 (by decide +kernel)
    have oS90 : tm.getD 90 undef = undef := hI.kept 90 (by decide +kernel)
    have oS91 : tm.getD 91 undef = undef := hI.kept 91 (by decide +kernel)
    have oS92 : tm.getD 92 undef = undef := hI.kept 92 (by decide +kernel)
    have oS93 : tm.getD 93 undef = undef := hI.kept 93 (by decide +kernel)
    have oS94 : tm.getD 94 undef = undef := hI.kept 94 (by decide +kernel)
    have oS95 : tm.getD 95 undef = undef := hI.kept 95 (by decide +kernel)
    have fA6 : Fk.sem (.nt (fun n => n = (digZ K.n nh bs * i) % (N : Int)) 4) [tm.getD 59 undef] w5 := hI.facts 6 (hall 6 (by decide))
    have fA7 : Fk.sem (.same) [tm.getD 52 undef, tm.getD 59 undef] w5 := hI.facts 7 (hall 7 (by decide))
    have fA8 : Fk.sem (.ext 0) [tm.getD 60 undef, tm.getD 52 undef] w5 := hI.facts 8 (hall 8 (by decide))
    have fA10 : Fk.sem (.same) [tm.getD 13 undef, tm.getD 60 undef] w5 := hI.facts 10 (hall 10 (by decide))
    have fA0 : tm.getD 53 undef = (Value.agg #[Value.int IntKind.i64 g1, Value.int IntKind.i64 g2, Value.slice oo lo co, Value.slice a1 a2 a3, Value.slice b1 b2 b3, Value.slice d1 d2 d3, Value.slice e1 e2 e3, Value.slice f1 f2 f3, Value.slice j1 j2 j3]) := hI.facts 0 (hall 0 (by decide))
    have fA1 : tm.getD 54 undef = (Value.slice ao nh ca) := hI.facts 1 (hall 1 (by decide))
    have fA3 : tm.getD 56 undef = (Value.slice i1 i2 i3) := hI.facts 3 (hall 3 (by decide))
    have fA4 : tm.getD 57 undef = (Value.pointer (some { block := w.heap.size, off := 8 })) := hI.facts 4 (hall 4 (by decide))
    have fA5 : tm.getD 58 undef = (Value.slice j1 j2 j3) := hI.facts 5 (hall 5 (by decide))
    have hbw : Below w4.heap.size w4 w5 := (Below.refl _ _).drew.trans hI.below
    clear hI hall listed
    simp only [oS0, oS1, oS2, oS3, oS4, oS5, oS6, oS7, oS8, oS9, oS10, oS11, oS12, oS15, oS16, oS17, oS18, oS19, oS20, oS21, oS22, oS23, oS24, oS25, oS26, oS27, oS28, oS29, oS30, oS31, oS32, oS33, oS34, oS35, oS36, oS37, oS38, oS39, oS40, oS41, oS42, oS43, oS44, oS45, oS46, oS47, oS48, oS49, oS50, oS51, oS62, oS63, oS64, oS65, oS66, oS67, oS68, oS69, oS70, oS71, oS72, oS73, oS74, oS75, oS76, oS77, oS78, oS79, oS80, oS81, oS82, oS83, oS84, oS85, oS86, oS87, oS88, oS89, oS90, oS91, oS92, oS93, oS94, oS95, fA0, fA1, fA3, fA4, fA5] at hTM
    clear oS0 oS1 oS2 oS3 oS4 oS5 oS6 oS7 oS8 oS9 oS10 oS11 oS12 oS15 oS16 oS17 oS18 oS19 oS20 oS21 oS22 oS23 oS24 oS25 oS26 oS27 oS28 oS29 oS30 oS31 oS32 oS33 oS34 oS35 oS36 oS37 oS38 oS39 oS40 oS41 oS42 oS43 oS44 oS45 oS46 oS47 oS48 oS49 oS50 oS51 oS62 oS63 oS64 oS65 oS66 oS67 oS68 oS69 oS70 oS71 oS72 oS73 oS74 oS75 oS76 oS77 oS78 oS79 oS80 oS81 oS82 oS83 oS84 oS85 oS86 oS87 oS88 oS89 oS90 oS91 oS92 oS93 oS94 oS95 fA0 fA1 fA3 fA4 fA5
    generalize tm.getD 13 undef = zX13 at hTM fA10
    generalize tm.getD 14 undef = zX14 at hTM 
    generalize tm.getD 52 undef = zX52 at hTM fA7 fA8
    generalize tm.getD 55 undef = zX55 at hTM 
    generalize tm.getD 59 undef = zX59 at hTM fA6 fA7
    generalize tm.getD 60 undef = zX60 at hTM fA8 fA10
    generalize tm.getD 61 undef = zX61 at hTM 
    subst hTM
    replace HW : Hid (w5.heap[w.heap.size]? = some (.cells #[Value.int IntKind.i64 g1, Value.int IntKind.i64 g2, Value.slice oo lo co, Value.slice a1 a2 a3, Value.slice b1 b2 b3, Value.slice d1 d2 d3, Value.slice e1 e2 e3, Value.slice f1 f2 f3, Value.slice j1 j2 j3] 31 (0, 0))) := blk_old HW.out hbw
    replace HQB : Hid (PSl w5 (w.heap.size + 1) (Value.slice q1 q2 q3) (Value.slice q4 q5 q6) (Value.bool false)) := HQB.out.keep hbw
    replace HCU : Hid (Cu w5 (Value.agg #[Value.int IntKind.i64 g1, Value.int IntKind.i64 g2, Value.slice oo lo co, Value.slice a1 a2 a3, Value.slice b1 b2 b3, Value.slice d1 d2 d3, Value.slice e1 e2 e3, Value.slice f1 f2 f3, Value.slice j1 j2 j3]) K 4) := HCU.out.old hbw
    replace HQV : Hid (Pv w5 (Value.agg #[Value.slice q1 q2 q3, Value.slice q4 q5 q6, Value.bool false]) G 4) := HQV.out.old hbw
    replace HBW : Hid (Below w.heap.size w w5) := HBW.out.trans (hbw.mono HBW.out.size)
    replace HRV : Hid (Nv w5 (Value.slice r1 r2 r3) x 4 ∧ Nv w5 (Value.slice s1 s2 s3) y 4) := ⟨HRV.out.1.old hbw, HRV.out.2.old hbw⟩
    replace HNN : Hid (Nv w5 (Value.slice j1 j2 j3) (N : Int) 4) := HNN.out.old hbw
    replace HHS : Hid (NumIn .u8 256 w5 ao nh ca bs) := HHS.out.old hbw
    replace HVI : Hid (Nv w5 (Value.slice i1 i2 i3) i 4) := HVI.out.old hbw
    obtain ⟨uz, huz, hun⟩ := nt_end fA6 fA7 fA8 fA10 rfl rfl rfl
    rw [huz] at hun
    have HUV : Hid (Nv w5 zX13 ((digZ K.n nh bs * i) % (N : Int)) 4) := hun
    have hun' : Nv w5 zX13 ((digZ K.n nh bs * i) % (N : Int)) 4 := hun
    clear hun fA6 fA7 fA8 fA10 hbw huz
    obtain ⟨u1, u2, u3, _, hzu, _⟩ := hun'
    subst hzu
    obtain ⟨cC0, cC1, cC2, cC3, cC4, cC5, cC6, cC7, cC8⟩ := cells9 HW.out
    obtain ⟨yQ0, yQ1, yQ2, _, _, _⟩ := HQB.out.facts
    go_wp2_with fail
    go_at_call 28
    refine (mul_nv _ _ _ x i (N : Int) 4 4 w5 HRV.out.1 HVI.out HNN.out hN0 (by decide)).mono ?_
    rintro e w6 ⟨vv, rfl, hvv, hbw⟩
    have HVV : Hid (Nv w6 vv ((x * i) % (N : Int)) 4) := hvv
    obtain ⟨v1, v2, v3, _, rfl, _⟩ := hvv
    replace HW : Hid (w6.heap[w.heap.size]? = some (.cells #[Value.int IntKind.i64 g1, Value.int IntKind.i64 g2, Value.slice oo lo co, Value.slice a1 a2 a3, Value.slice b1 b2 b3, Value.slice d1 d2 d3, Value.slice e1 e2 e3, Value.slice f1 f2 f3, Value.slice j1 j2 j3] 31 (0, 0))) := blk_old HW.out hbw
    replace HQB : Hid (PSl w6 (w.heap.size + 1) (Value.slice q1 q2 q3) (Value.slice q4 q5 q6) (Value.bool false)) := HQB.out.keep hbw
    replace HCU : Hid (Cu w6 (Value.agg #[Value.int IntKind.i64 g1, Value.int IntKind.i64 g2, Value.slice oo lo co, Value.slice a1 a2 a3, Value.slice b1 b2 b3, Value.slice d1 d2 d3, Value.slice e1 e2 e3, Value.slice f1 f2 f3, Value.slice j1 j2 j3]) K 4) := HCU.out.old hbw
    replace HQV : Hid (Pv w6 (Value.agg #[Value.slice q1 q2 q3, Value.slice q4 q5 q6, Value.bool false]) G 4) := HQV.out.old hbw
    replace HBW : Hid (Below w.heap.size w w6) := HBW.out.trans (hbw.mono HBW.out.size)
    replace HRV : Hid (Nv w6 (Value.slice r1 r2 r3) x 4 ∧ Nv w6 (Value.slice s1 s2 s3) y 4) := ⟨HRV.out.1.old hbw, HRV.out.2.old hbw⟩
    replace HNN : Hid (Nv w6 (Value.slice j1 j2 j3) (N : Int) 4) := HNN.out.old hbw
    replace HHS : Hid (NumIn .u8 256 w6 ao nh ca bs) := HHS.out.old hbw
    replace HVI : Hid (Nv w6 (Value.slice i1 i2 i3) i 4) := HVI.out.old hbw
    replace HUV : Hid (Nv w6 (Value.slice u1 u2 u3) ((digZ K.n nh bs * i) % (N : Int)) 4) := HUV.out.old hbw
    clear hbw
    clear cC0 cC1 cC2 cC3 cC4 cC5 cC6 cC7 cC8 yQ0 yQ1 yQ2
    obtain ⟨mu, hmu⟩ : ∃ mu : Nat, (digZ K.n nh bs * i) % (N : Int) = (mu : Int) := ⟨_, (Int.toNat_of_nonneg (Int.emod_nonneg _ hN0)).symm⟩
    obtain ⟨mv, hmv⟩ : ∃ mv : Nat, (x * i) % (N : Int) = (mv : Int) := ⟨_, (Int.toNat_of_nonneg (Int.emod_nonneg _ hN0)).symm⟩
    have hsm := sumof_any HR.out.1 HR.out.2.1 HR.out.2.2.1 _ _ _ _ mu mv w6 HCU.out (by rw [← hmu]; exact HUV.out) (by rw [← hmv]; exact HVV.out) HQV.out
    have HMU : Hid ((digZ K.n nh bs * i) % (N : Int) = (mu : Int) ∧ (x * i) % (N : Int) = (mv : Int)) := ⟨hmu, hmv⟩
    clear hmu hmv
    obtain ⟨cC0, cC1, cC2, cC3, cC4, cC5, cC6, cC7, cC8⟩ := cells9 HW.out
    obtain ⟨yQ0, yQ1, yQ2, _, _, _⟩ := HQB.out.facts
    go_wp2_with fail
    go_at_call 29
    refine hsm.mono ?_
    rintro e w7 ⟨p1, p2, p3, hm1, hm2, had, hb7, v7, rfl, hpr⟩
    rcases hpr with ⟨v5, p5, h5, rfl, hv5⟩ | ⟨h5, _⟩
    rotate_left
    · cases h5
    injection h5 with h5
    subst h5
    obtain ⟨_, _, rfl, ⟨So1, So2, So3, so4, rfl, so5⟩, ⟨Sr1, Sr2, Sr3, sr4, rfl, sr5⟩⟩ := hv5
    obtain ⟨W8, hW8⟩ : ∃ W8, w7.alloc (.cells #[.slice So1 So2 So3, .slice Sr1 Sr2 Sr3, .bool p3.inf] 42) = W8 := ⟨_, rfl⟩
    have hg8 : PSl W8 w7.heap.size (.slice So1 So2 So3) (.slice Sr1 Sr2 Sr3) (.bool p3.inf) ∧ Below w7.heap.size w7 W8 := by rw [← hW8]; exact ⟨heap_alloc_new w7 _, (Below.refl _ _).alloc (Nat.le_refl _) _⟩
    have hbw : Below w6.heap.size w6 W8 := hb7.trans (hg8.2.mono hb7.size)
    have HSX : Hid (Nv W8 (.slice So1 So2 So3) p3.x 4) := Nv.old ⟨So1, So2, So3, so4, rfl, so5⟩ hg8.2
    have HALL : Hid (Mt K P (baseZ K) mu p1 ∧ Mt K P G mv p2 ∧ AddZ K p1 p2 (some p3)) := ⟨hm1, hm2, had⟩
    clear cC0 cC1 cC2 cC3 cC4 cC5 cC6 cC7 cC8 yQ0 yQ1 yQ2
    replace HW : Hid (W8.heap[w.heap.size]? = some (.cells #[Value.int IntKind.i64 g1, Value.int IntKind.i64 g2, Value.slice oo lo co, Value.slice a1 a2 a3, Value.slice b1 b2 b3, Value.slice d1 d2 d3, Value.slice e1 e2 e3, Value.slice f1 f2 f3, Value.slice j1 j2 j3] 31 (0, 0))) := blk_old HW.out hbw
    replace HQB : Hid (PSl W8 (w.heap.size + 1) (Value.slice q1 q2 q3) (Value.slice q4 q5 q6) (Value.bool false)) := HQB.out.keep hbw
    replace HCU : Hid (Cu W8 (Value.agg #[Value.int IntKind.i64 g1, Value.int IntKind.i64 g2, Value.slice oo lo co, Value.slice a1 a2 a3, Value.slice b1 b2 b3, Value.slice d1 d2 d3, Value.slice e1 e2 e3, Value.slice f1 f2 f3, Value.slice j1 j2 j3]) K 4) := HCU.out.old hbw
    replace HQV : Hid (Pv W8 (Value.agg #[Value.slice q1 q2 q3, Value.slice q4 q5 q6, Value.bool false]) G 4) := HQV.out.old hbw
    replace HBW : Hid (Below w.heap.size w W8) := HBW.out.trans (hbw.mono HBW.out.size)
    replace HRV : Hid (Nv W8 (Value.slice r1 r2 r3) x 4 ∧ Nv W8 (Value.slice s1 s2 s3) y 4) := ⟨HRV.out.1.old hbw, HRV.out.2.old hbw⟩
    replace HNN : Hid (Nv W8 (Value.slice j1 j2 j3) (N : Int) 4) := HNN.out.old hbw
    replace HHS : Hid (NumIn .u8 256 W8 ao nh ca bs) := HHS.out.old hbw
    replace HVI : Hid (Nv W8 (Value.slice i1 i2 i3) i 4) := HVI.out.old hbw
    replace HUV : Hid (Nv W8 (Value.slice u1 u2 u3) ((digZ K.n nh bs * i) % (N : Int)) 4) := HUV.out.old hbw
    replace HVV : Hid (Nv W8 (Value.slice v1 v2 v3) ((x * i) % (N : Int)) 4) := HVV.out.old hbw
    clear hbw
    have hbx := hg8.1
    clear so5 sr5 hb7 hg8 hm1 hm2 had hsm
    have HOUT : Hid (∀ (w' : World) (b : Bool), b = (!p3.inf && decide (p3.x % (N : Int) = x)) → Below w.heap.size w w' → ∃ (i : Int) (p1 p2 p3 : Pz), (0 ≤ i ∧ i < N ∧ Cg N (i * y) 1) ∧ Mt K P (baseZ K) ((digZ K.n nh bs * i) % N).toNat p1 ∧ Mt K P G ((x * i) % N).toNat p2 ∧ AddZ K p1 p2 (some p3) ∧ Ending.returned (Value.bool b) = Ending.returned (Value.bool (!p3.inf && decide (p3.x % (N : Int) = x))) ∧ Below w.heap.size w w') := by
      intro w' b hb' hbl
      refine ⟨i, p1, p2, p3, HII.out, ?_, ?_, HALL.out.2.2, by rw [hb'], hbl⟩
      · rw [HMU.out.1]; exact HALL.out.1
      · rw [HMU.out.2]; exact HALL.out.2.1
    cases hinf : p3.inf with
    | true =>
      rw [hinf] at hbx
      obtain ⟨yS0, yS1, yS2, _, _, _⟩ := hbx.facts
      go_wp2
      go_ret
      rw [hinf] at hW8
      rw [hW8]
      exact HOUT.out _ false (by simp [hinf]) HBW.out
    | false =>
      rw [hinf] at hbx
      obtain ⟨yS0, yS1, yS2, _, _, _⟩ := hbx.facts
      rw [hinf] at hW8
      subst hW8
      have hoo := mof_nv _ _ p3.x (N : Int) 4 4 _ HSX.out HNN.out hN0 (by decide)
      obtain ⟨cC0, cC1, cC2, cC3, cC4, cC5, cC6, cC7, cC8⟩ := cells9 HW.out
      obtain ⟨yQ0, yQ1, yQ2, _, _, _⟩ := HQB.out.facts
      go_wp2_with fail
      go_at_call 30
      refine hoo.mono ?_
      rintro e w9 ⟨v9, rfl, hv9, hb9⟩
      have hcc := cmp_nv _ _ (p3.x % (N : Int)) x 4 w9 hv9 (HRV.out.1.old hb9)
      have HB9 : Hid (Below w.heap.size w w9) := HBW.out.trans (hb9.mono HBW.out.size)
      obtain ⟨z1, z2, z3, _, rfl, _⟩ := hv9
      clear hb9
      clear cC0 cC1 cC2 cC3 cC4 cC5 cC6 cC7 cC8 yQ0 yQ1 yQ2
      go_wp2_with fail
      go_at_call 31
      refine hcc.mono ?_
      rintro e w10 ⟨rfl, hb10⟩
      go_wp2
      go_ret
      refine HOUT.out _ _ ?_ (HB9.out.trans (hb10.mono HB9.out.size))
      rw [hinf]
      unfold cmpI
      by_cases h1 : p3.x % (N : Int) < x
      · have h2 : ¬ p3.x % (N : Int) = x := by omega
        simp [h1, h2]
      · by_cases h3 : x < p3.x % (N : Int)
        · have h2 : ¬ p3.x % (N : Int) = x := by omega
          simp [h1, h3, h2]
        · have h2 : p3.x % (N : Int) = x := by omega
          simp [h1, h3, h2]
end Go.Proofs.Ytagljkbfgldlgaa
