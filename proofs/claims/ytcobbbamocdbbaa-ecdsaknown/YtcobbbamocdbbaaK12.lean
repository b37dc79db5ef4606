import Derived.Test.YtcobbbamocdbbaaK11
/-
  What ecdsa's Verify turns away.
-/
namespace Go.Proofs.Ytcobbbamocdbbaa
open Go.Shelf Go.RowKit
set_option linter.unusedVariables false
set_option linter.unusedSimpArgs false
set_option maxRecDepth 100000 in
set_option maxHeartbeats 4000000 in
/-- The key at infinity. -/
theorem Verify_inf (c q : Value) (K : Cz) (G : Pz) (L : Nat) (ao : Option Addr) (nh ca : Nat) (r s : Value) (x y : Int) (w : World) (hL : 1 ≤ L ∧ L ≤ 1000) (hc : Cu w c K L) (hq : Pv w q G L) (hr : Nv w r x L) (hs : Nv w s y L) (hi : G.inf = true) :
    Calls Try.prog 19 #[c, q, .slice ao nh ca, r, s] w fun e w' => e = .returned (.bool false) ∧ Below w.heap.size w w' := by
  have hn0 := hc.slices
  obtain ⟨g1, g2, oo, lo, co, a1, a2, a3, b1, b2, b3, d1, d2, d3, e1, e2, e3, f1, f2, f3, j1, j2, j3, rfl, -, -, -, -, -, hnn⟩ := hn0
  have hq2 := hq
  have hr2 := hr
  have hs2 := hs
  obtain ⟨_, _, rfl, ⟨q1, q2, q3, _, rfl, _⟩, ⟨q4, q5, q6, _, rfl, _⟩⟩ := hq
  obtain ⟨r1, r2, r3, _, rfl, _⟩ := hr
  obtain ⟨s1, s2, s3, _, rfl, _⟩ := hs
  rw [hi] at hq2 ⊢
  obtain ⟨hF1, hF2, hbw⟩ := pair_new w #[Value.int IntKind.i64 g1, Value.int IntKind.i64 g2, Value.slice oo lo co, Value.slice a1 a2 a3, Value.slice b1 b2 b3, Value.slice d1 d2 d3, Value.slice e1 e2 e3, Value.slice f1 f2 f3, Value.slice j1 j2 j3] #[Value.slice q1 q2 q3, Value.slice q4 q5 q6, Value.bool true] 29 51
  obtain ⟨W0, hW0⟩ : ∃ W0, (w.alloc (.cells #[Value.int IntKind.i64 g1, Value.int IntKind.i64 g2, Value.slice oo lo co, Value.slice a1 a2 a3, Value.slice b1 b2 b3, Value.slice d1 d2 d3, Value.slice e1 e2 e3, Value.slice f1 f2 f3, Value.slice j1 j2 j3] 29)).alloc (.cells #[Value.slice q1 q2 q3, Value.slice q4 q5 q6, Value.bool true] 51) = W0 := ⟨_, rfl⟩
  rw [hW0] at hF1 hF2 hbw
  have HW : Hid (W0.heap[w.heap.size]? = some (.cells #[Value.int IntKind.i64 g1, Value.int IntKind.i64 g2, Value.slice oo lo co, Value.slice a1 a2 a3, Value.slice b1 b2 b3, Value.slice d1 d2 d3, Value.slice e1 e2 e3, Value.slice f1 f2 f3, Value.slice j1 j2 j3] 29 (0, 0))) := hF1
  have HQB : Hid (PSl W0 (w.heap.size + 1) (Value.slice q1 q2 q3) (Value.slice q4 q5 q6) (Value.bool true)) := hF2
  have HCU : Hid (Cu W0 (Value.agg #[Value.int IntKind.i64 g1, Value.int IntKind.i64 g2, Value.slice oo lo co, Value.slice a1 a2 a3, Value.slice b1 b2 b3, Value.slice d1 d2 d3, Value.slice e1 e2 e3, Value.slice f1 f2 f3, Value.slice j1 j2 j3]) K L) := hc.old hbw
  have HQV : Hid (Pv W0 (Value.agg #[Value.slice q1 q2 q3, Value.slice q4 q5 q6, Value.bool true]) G L) := hq2.old hbw
  have HBW : Hid (Below w.heap.size w W0) := hbw
  have HRV : Hid (Nv W0 (Value.slice r1 r2 r3) x L ∧ Nv W0 (Value.slice s1 s2 s3) y L) := ⟨hr2.old hbw, hs2.old hbw⟩
  have HNN : Hid (Nv W0 (Value.slice j1 j2 j3) K.n L) := hnn.old hbw
  clear hc hq2 hr2 hs2 hnn hF1 hF2 hbw
  go_enter Try.func19, Try.ntmps19
  obtain ⟨cC0, cC1, cC2, cC3, cC4, cC5, cC6, cC7, cC8⟩ := cells9 HW.out
  obtain ⟨yQ0, yQ1, yQ2, _, _, _⟩ := HQB.out.facts
  go_wp2
  go_ret
  exact ⟨rfl, HBW.out⟩
set_option maxRecDepth 100000 in
set_option maxHeartbeats 4000000 in
/-- A finite key: off the curve, or r or s out of range, or s with no inverse. -/
theorem Verify_no (c q : Value) (K : Cz) (G : Pz) (L : Nat) (ao : Option Addr) (nh ca : Nat) (r s : Value) (x y : Int) (w : World) (hL : 1 ≤ L ∧ L ≤ 1000) (hc : Cu w c K L) (hq : Pv w q G L) (hr : Nv w r x L) (hs : Nv w s y L) (hi : G.inf = false) (hno : onB K G = false ∨ (decide (0 < x) && decide (x < K.n)) = false ∨ (decide (0 < y) && decide (y < K.n)) = false ∨ gd K.n (y % K.n) ≠ 1) :
    Calls Try.prog 19 #[c, q, .slice ao nh ca, r, s] w fun e w' => e = .returned (.bool false) ∧ Below w.heap.size w w' := by
  have hn0 := hc.slices
  obtain ⟨g1, g2, oo, lo, co, a1, a2, a3, b1, b2, b3, d1, d2, d3, e1, e2, e3, f1, f2, f3, j1, j2, j3, rfl, -, -, -, -, -, hnn⟩ := hn0
  have hq2 := hq
  have hr2 := hr
  have hs2 := hs
  obtain ⟨_, _, rfl, ⟨q1, q2, q3, _, rfl, _⟩, ⟨q4, q5, q6, _, rfl, _⟩⟩ := hq
  obtain ⟨r1, r2, r3, _, rfl, _⟩ := hr
  obtain ⟨s1, s2, s3, _, rfl, _⟩ := hs
  rw [hi] at hq2 ⊢
  obtain ⟨hF1, hF2, hbw⟩ := pair_new w #[Value.int IntKind.i64 g1, Value.int IntKind.i64 g2, Value.slice oo lo co, Value.slice a1 a2 a3, Value.slice b1 b2 b3, Value.slice d1 d2 d3, Value.slice e1 e2 e3, Value.slice f1 f2 f3, Value.slice j1 j2 j3] #[Value.slice q1 q2 q3, Value.slice q4 q5 q6, Value.bool false] 29 51
  obtain ⟨W0, hW0⟩ : ∃ W0, (w.alloc (.cells #[Value.int IntKind.i64 g1, Value.int IntKind.i64 g2, Value.slice oo lo co, Value.slice a1 a2 a3, Value.slice b1 b2 b3, Value.slice d1 d2 d3, Value.slice e1 e2 e3, Value.slice f1 f2 f3, Value.slice j1 j2 j3] 29)).alloc (.cells #[Value.slice q1 q2 q3, Value.slice q4 q5 q6, Value.bool false] 51) = W0 := ⟨_, rfl⟩
  rw [hW0] at hF1 hF2 hbw
  have HW : Hid (W0.heap[w.heap.size]? = some (.cells #[Value.int IntKind.i64 g1, Value.int IntKind.i64 g2, Value.slice oo lo co, Value.slice a1 a2 a3, Value.slice b1 b2 b3, Value.slice d1 d2 d3, Value.slice e1 e2 e3, Value.slice f1 f2 f3, Value.slice j1 j2 j3] 29 (0, 0))) := hF1
  have HQB : Hid (PSl W0 (w.heap.size + 1) (Value.slice q1 q2 q3) (Value.slice q4 q5 q6) (Value.bool false)) := hF2
  have HCU : Hid (Cu W0 (Value.agg #[Value.int IntKind.i64 g1, Value.int IntKind.i64 g2, Value.slice oo lo co, Value.slice a1 a2 a3, Value.slice b1 b2 b3, Value.slice d1 d2 d3, Value.slice e1 e2 e3, Value.slice f1 f2 f3, Value.slice j1 j2 j3]) K L) := hc.old hbw
  have HQV : Hid (Pv W0 (Value.agg #[Value.slice q1 q2 q3, Value.slice q4 q5 q6, Value.bool false]) G L) := hq2.old hbw
  have HBW : Hid (Below w.heap.size w W0) := hbw
  have HRV : Hid (Nv W0 (Value.slice r1 r2 r3) x L ∧ Nv W0 (Value.slice s1 s2 s3) y L) := ⟨hr2.old hbw, hs2.old hbw⟩
  have HNN : Hid (Nv W0 (Value.slice j1 j2 j3) K.n L) := hnn.old hbw
  clear hc hq2 hr2 hs2 hnn hF1 hF2 hbw
  go_enter Try.func19, Try.ntmps19
  obtain ⟨cC0, cC1, cC2, cC3, cC4, cC5, cC6, cC7, cC8⟩ := cells9 HW.out
  obtain ⟨yQ0, yQ1, yQ2, _, _, _⟩ := HQB.out.facts
  go_wp2_with fail
  go_at_call 30
  refine (On_any _ _ K G L W0 HCU.out HQV.out hL).mono ?_
  rintro e w1 ⟨rfl, hbw⟩
  clear hW0 HCU HQV
  replace HW : Hid (w1.heap[w.heap.size]? = some (.cells #[Value.int IntKind.i64 g1, Value.int IntKind.i64 g2, Value.slice oo lo co, Value.slice a1 a2 a3, Value.slice b1 b2 b3, Value.slice d1 d2 d3, Value.slice e1 e2 e3, Value.slice f1 f2 f3, Value.slice j1 j2 j3] 29 (0, 0))) := blk_old HW.out hbw
  replace HQB : Hid (PSl w1 (w.heap.size + 1) (Value.slice q1 q2 q3) (Value.slice q4 q5 q6) (Value.bool false)) := HQB.out.keep hbw
  replace HBW : Hid (Below w.heap.size w w1) := HBW.out.trans (hbw.mono HBW.out.size)
  replace HRV : Hid (Nv w1 (Value.slice r1 r2 r3) x L ∧ Nv w1 (Value.slice s1 s2 s3) y L) := ⟨HRV.out.1.old hbw, HRV.out.2.old hbw⟩
  replace HNN : Hid (Nv w1 (Value.slice j1 j2 j3) K.n L) := HNN.out.old hbw
  clear hbw
  clear cC0 cC1 cC2 cC3 cC4 cC5 cC6 cC7 cC8 yQ0 yQ1 yQ2
  cases h1 : onB K G with
  | false =>
    go_wp2
    go_ret
    exact ⟨rfl, HBW.out⟩
  | true =>
    obtain ⟨cC0, cC1, cC2, cC3, cC4, cC5, cC6, cC7, cC8⟩ := cells9 HW.out
    obtain ⟨yQ0, yQ1, yQ2, _, _, _⟩ := HQB.out.facts
    go_wp2_with fail
    go_at_call 50
    refine (factor_any _ _ x K.n L w1 HRV.out.1 HNN.out hL.2).mono ?_
    rintro e w2 ⟨rfl, hbw⟩
    replace HW : Hid (w2.heap[w.heap.size]? = some (.cells #[Value.int IntKind.i64 g1, Value.int IntKind.i64 g2, Value.slice oo lo co, Value.slice a1 a2 a3, Value.slice b1 b2 b3, Value.slice d1 d2 d3, Value.slice e1 e2 e3, Value.slice f1 f2 f3, Value.slice j1 j2 j3] 29 (0, 0))) := blk_old HW.out hbw
    replace HQB : Hid (PSl w2 (w.heap.size + 1) (Value.slice q1 q2 q3) (Value.slice q4 q5 q6) (Value.bool false)) := HQB.out.keep hbw
    replace HBW : Hid (Below w.heap.size w w2) := HBW.out.trans (hbw.mono HBW.out.size)
    replace HRV : Hid (Nv w2 (Value.slice r1 r2 r3) x L ∧ Nv w2 (Value.slice s1 s2 s3) y L) := ⟨HRV.out.1.old hbw, HRV.out.2.old hbw⟩
    replace HNN : Hid (Nv w2 (Value.slice j1 j2 j3) K.n L) := HNN.out.old hbw
    clear hbw
    clear cC0 cC1 cC2 cC3 cC4 cC5 cC6 cC7 cC8 yQ0 yQ1 yQ2
    cases h2 : (decide (0 < x) && decide (x < K.n)) with
    | false =>
      go_wp2
      go_ret
      exact ⟨rfl, HBW.out⟩
    | true =>
      obtain ⟨cC0, cC1, cC2, cC3, cC4, cC5, cC6, cC7, cC8⟩ := cells9 HW.out
      obtain ⟨yQ0, yQ1, yQ2, _, _, _⟩ := HQB.out.facts
      go_wp2_with fail
      go_at_call 50
      refine (factor_any _ _ y K.n L w2 HRV.out.2 HNN.out hL.2).mono ?_
      rintro e w3 ⟨rfl, hbw⟩
      replace HW : Hid (w3.heap[w.heap.size]? = some (.cells #[Value.int IntKind.i64 g1, Value.int IntKind.i64 g2, Value.slice oo lo co, Value.slice a1 a2 a3, Value.slice b1 b2 b3, Value.slice d1 d2 d3, Value.slice e1 e2 e3, Value.slice f1 f2 f3, Value.slice j1 j2 j3] 29 (0, 0))) := blk_old HW.out hbw
      replace HQB : Hid (PSl w3 (w.heap.size + 1) (Value.slice q1 q2 q3) (Value.slice q4 q5 q6) (Value.bool false)) := HQB.out.keep hbw
      replace HBW : Hid (Below w.heap.size w w3) := HBW.out.trans (hbw.mono HBW.out.size)
      replace HRV : Hid (Nv w3 (Value.slice r1 r2 r3) x L ∧ Nv w3 (Value.slice s1 s2 s3) y L) := ⟨HRV.out.1.old hbw, HRV.out.2.old hbw⟩
      replace HNN : Hid (Nv w3 (Value.slice j1 j2 j3) K.n L) := HNN.out.old hbw
      clear hbw
      clear cC0 cC1 cC2 cC3 cC4 cC5 cC6 cC7 cC8 yQ0 yQ1 yQ2
      cases h3 : (decide (0 < y) && decide (y < K.n)) with
      | false =>
        go_wp2
        go_ret
        exact ⟨rfl, HBW.out⟩
      | true =>
        have h4 : gd K.n (y % K.n) ≠ 1 := by
          rw [h1, h2, h3] at hno
          simpa using hno
        have h0 : K.n ≠ 0 := by
          simp at h3
          omega
        obtain ⟨cC0, cC1, cC2, cC3, cC4, cC5, cC6, cC7, cC8⟩ := cells9 HW.out
        obtain ⟨yQ0, yQ1, yQ2, _, _, _⟩ := HQB.out.facts
        go_wp2_with fail
        go_at_call 51
        refine (inv_no _ _ y K.n L L w3 HRV.out.2 HNN.out h0 h4 (by omega)).mono ?_
        rintro e w4 ⟨rfl, hbw⟩
        replace HW : Hid (w4.heap[w.heap.size]? = some (.cells #[Value.int IntKind.i64 g1, Value.int IntKind.i64 g2, Value.slice oo lo co, Value.slice a1 a2 a3, Value.slice b1 b2 b3, Value.slice d1 d2 d3, Value.slice e1 e2 e3, Value.slice f1 f2 f3, Value.slice j1 j2 j3] 29 (0, 0))) := blk_old HW.out hbw
        replace HQB : Hid (PSl w4 (w.heap.size + 1) (Value.slice q1 q2 q3) (Value.slice q4 q5 q6) (Value.bool false)) := HQB.out.keep hbw
        replace HBW : Hid (Below w.heap.size w w4) := HBW.out.trans (hbw.mono HBW.out.size)
        replace HRV : Hid (Nv w4 (Value.slice r1 r2 r3) x L ∧ Nv w4 (Value.slice s1 s2 s3) y L) := ⟨HRV.out.1.old hbw, HRV.out.2.old hbw⟩
        replace HNN : Hid (Nv w4 (Value.slice j1 j2 j3) K.n L) := HNN.out.old hbw
        clear hbw
        clear cC0 cC1 cC2 cC3 cC4 cC5 cC6 cC7 cC8 yQ0 yQ1 yQ2
        go_wp2
        go_ret
        exact ⟨rfl, HBW.out⟩
end Go.Proofs.Ytcobbbamocdbbaa
