import Derived.Test.YtcgfdbmgnnmcjaaK14
import Derived.Test.YtcgfdbmgnnmcjaaK13
import Derived.Test.YtcgfdbmgnnmcjaaK07
import Derived.Test.YtcgfdbmgnnmcjaaK06
import Derived.Test.YtcgfdbmgnnmcjaaK02
import Derived.WideShapes
import Derived.OpenShut
import Derived.ChangeSame
/-
  Of right curves all sums, and what Verify says, exist. No program in sight.
-/
namespace Go.Proofs.Ytcgfdbmgnnmcjaa
open Go.RowKit Go.Shelf
set_option linter.unusedVariables false
set_option linter.unusedSimpArgs false

theorem inv_ex {m a : Int} (hm : 0 < m) (h : gd m (a % m) = 1) : ∃ i, 0 ≤ i ∧ i < m ∧ Cg m (i * a) 1 := by
  have h0 := Int.emod_nonneg a (b := m) (by omega)
  obtain ⟨x, y, hxy⟩ := bez m.toNat (a % m).toNat
  unfold gd at h
  rw [h, show ((m.toNat : Nat) : Int) = m by omega, show (((a % m).toNat : Nat) : Int) = a % m by omega] at hxy
  refine ⟨y % m, Int.emod_nonneg _ (by omega), Int.emod_lt_of_pos _ hm, ?_⟩
  have h1 : Cg m (y % m * a) (y * (a % m)) := (Cg.mod m y).mul (Cg.mod m a).symm
  refine h1.trans ⟨-x, ?_⟩
  rw [Int.mul_neg, Int.mul_comm y]
  omega
theorem add_some {P : Nat} [NeZero P] {K : Cz} (g : GoodK K P) (p q : Pz) : ∃ s, AddZ K p q (some s) := by
  cases hpi : p.inf with
  | true => exact ⟨ownZ q, by unfold AddZ; rw [if_neg (good_p0 g), hpi, if_pos rfl]⟩
  | false =>
    cases hqi : q.inf with
    | true => exact ⟨ownZ p, by unfold AddZ; rw [if_neg (good_p0 g), hpi, hqi, if_neg (by simp), if_pos rfl]⟩
    | false =>
      by_cases h : runZ K p q = 0
      · exact ⟨noZ, by unfold AddZ; rw [if_neg (good_p0 g), hpi, hqi, if_neg (by simp), if_neg (by simp)]; unfold AddN; rw [if_pos h]⟩
      · have hP : 0 < K.p := by rw [g.p]; exact ppos P
        have e : runZ K p q % K.p = runZ K p q := by
          unfold runZ
          split
          · exact Int.emod_emod _ _
          · exact Int.emod_emod _ _
        have hg := (gdP g (runZ K p q) (by rw [e]; exact h)).1
        obtain ⟨n, h1, h2, h3⟩ := inv_ex hP hg
        exact ⟨_, by unfold AddZ; rw [if_neg (good_p0 g), hpi, hqi, if_neg (by simp), if_neg (by simp)]; unfold AddN; rw [if_neg h, if_neg (by rw [hg]; simp)]; exact ⟨n, h1, h2, h3, rfl⟩⟩
theorem verZ_ex {P : Nat} [NeZero P] {K : Cz} (g : GoodK K P) (hb : Gd K P (baseZ K)) (hN : 0 < K.n) (q : Pz) (hq : 0 ≤ q.x ∧ 0 ≤ q.y) (z x y : Int) : ∃ b, VerZ K P q z x y b := by
  by_cases h : VerNo K q x y
  · exact ⟨false, .inl ⟨h, rfl⟩⟩
  · have hqi : q.inf = false := by
      cases hc : q.inf with
      | false => rfl
      | true => exact absurd (.inl hc) h
    have hon : onB K q = true := by
      cases hc : onB K q with
      | true => rfl
      | false => exact absurd (.inr (.inl hc)) h
    have hg : gd K.n (y % K.n) = 1 := Classical.byContradiction fun h' => h (.inr (.inr (.inr (.inr h'))))
    have hG := good_on g hqi hq.1 hq.2 hon
    obtain ⟨i, h1, h2, h3⟩ := inv_ex hN hg
    obtain ⟨p1, hp1⟩ := mt_ex g hb ((z * i) % K.n).toNat
    obtain ⟨p2, hp2⟩ := mt_ex g hG ((x * i) % K.n).toNat
    obtain ⟨p3, hp3⟩ := add_some g p1 p2
    exact ⟨_, .inr ⟨h, i, p1, p2, p3, ⟨h1, h2, h3⟩, hp1, hp2, hp3, rfl⟩⟩
theorem verZ_of {P : Nat} [NeZero P] {K : Cz} {p : Pz} {z x y : Int} {b : Bool} (ho : ofB p = true) (h : VerZ K P (ofZ p) z x y b) : VerZ K P p z x y b := by
  obtain ⟨px, py, pi⟩ := p
  cases pi with
  | true =>
    have h1 : VerNo K (ofZ ⟨px, py, true⟩) x y := .inl rfl
    rcases h with ⟨_, rfl⟩ | ⟨h2, _⟩
    · exact .inl ⟨.inl rfl, rfl⟩
    · exact absurd h1 h2
  | false =>
    unfold ofB at ho
    simp only [Bool.false_or, Bool.and_eq_true, decide_eq_true_eq] at ho
    have e : ofZ ⟨px, py, false⟩ = ⟨px, py, false⟩ := by
      unfold ofZ n31
      rw [if_neg (by simp), if_pos ho.1, if_pos ho.2]
    rwa [e] at h
theorem verZ_big {P : Nat} [NeZero P] {K : Cz} {p : Pz} {z x y : Int} {b : Bool} (hp : K.p < 2147483648) (ho : ofB p = false) (h : VerZ K P p z x y b) : b = false := by
  rcases h with ⟨_, rfl⟩ | ⟨h2, _⟩
  · rfl
  · exfalso
    apply h2
    right; left
    unfold ofB at ho
    unfold onB
    rw [Bool.or_eq_false_iff] at ho
    rw [ho.1, Bool.false_or]
    by_cases hx : p.x < K.p
    · by_cases hy : p.y < K.p
      · have := ho.2
        simp at this
        omega
      · simp [hy]
    · simp [hx]
end Go.Proofs.Ytcgfdbmgnnmcjaa
/-
  The document's curve of small numbers.
-/
namespace Go.Proofs.Ytcgfdbmgnnmcjaa
open Go.RowKit Go.Shelf
set_option linter.unusedVariables false
set_option linter.unusedSimpArgs false

abbrev zero6 : Array Value := #[.int .i64 0, .int .i64 0, .int .i64 0, .int .i64 0, .int .i64 0, .int .i64 0]
/-- The blocks of the document's Small. -/
structure Sm6 (W : World) (b : Nat) (r0 r1 r2 r3 r4 r5 : Value) (n0 n1 n2 n3 n4 n5 : Int) : Prop where
  r : W.heap[b + 1]? = some (.cells #[.int .i64 0, .int .i64 0, .int .i64 0, .int .i64 0, .int .i64 0, .int .i64 0] 35 (0, 0))
  o : W.heap[b + 1 + 1]? = some (.cells #[.int .i64 0, .int .i64 0, .int .i64 0, .int .i64 0, .int .i64 0, .int .i64 0] 35 (0, 0))
  l : W.heap[b + 1 + 1 + 1]? = some (.cells #[r0, r1, r2, r3, r4, r5] 29 (0, 0))
  a : W.heap[b + 1 + 1 + 1 + 1]? = some (.cells #[.int .i64 n0, .int .i64 n1, .int .i64 n2, .int .i64 n3, .int .i64 n4, .int .i64 n5] 73 (0, 0))
theorem Sm6.keep {W W' : World} {b : Nat} {r0 r1 r2 r3 r4 r5 : Value} {n0 n1 n2 n3 n4 n5 : Int} (h : Sm6 W b r0 r1 r2 r3 r4 r5 n0 n1 n2 n3 n4 n5) (hb : Below W.heap.size W W') : Sm6 W' b r0 r1 r2 r3 r4 r5 n0 n1 n2 n3 n4 n5 := ⟨blk_old h.r hb, blk_old h.o hb, blk_old h.l hb, blk_old h.a hb⟩
theorem row6 {W : World} {b : Nat} {c0 c1 c2 c3 c4 c5 : Value} {t : TypeId} (h : W.heap[b]? = some (.cells #[c0, c1, c2, c3, c4, c5] t (0, 0))) : (W.cell? ⟨b, 0, none⟩ = some c0 ∧ W.cell? ⟨b, 1, none⟩ = some c1 ∧ W.cell? ⟨b, 2, none⟩ = some c2 ∧ W.cell? ⟨b, 3, none⟩ = some c3 ∧ W.cell? ⟨b, 4, none⟩ = some c4 ∧ W.cell? ⟨b, 5, none⟩ = some c5) ∧ W.frozen? ⟨b, 0, none⟩ = false ∧ W.frozen? ⟨b, 1, none⟩ = false ∧ W.frozen? ⟨b, 2, none⟩ = false ∧ W.frozen? ⟨b, 3, none⟩ = false ∧ W.frozen? ⟨b, 4, none⟩ = false ∧ W.frozen? ⟨b, 5, none⟩ = false := by
  refine ⟨⟨?_, ?_, ?_, ?_, ?_, ?_⟩, frozen_of_row W b 0 _ _ h, frozen_of_row W b 1 _ _ h, frozen_of_row W b 2 _ _ h, frozen_of_row W b 3 _ _ h, frozen_of_row W b 4 _ _ h, frozen_of_row W b 5 _ _ h⟩ <;> (rw [cell_of_row _ _ _ _ _ _ h]; rfl)
theorem sm6_new (w : World) (o : Obj) (r0 r1 r2 r3 r4 r5 : Value) : Sm6 (((((w.alloc o).alloc (.cells zero6 35)).alloc (.cells zero6 35)).alloc (.cells #[r0, r1, r2, r3, r4, r5] 29)).alloc (.cells zero6 73)) w.heap.size r0 r1 r2 r3 r4 r5 0 0 0 0 0 0 ∧ Below w.heap.size w (((((w.alloc o).alloc (.cells zero6 35)).alloc (.cells zero6 35)).alloc (.cells #[r0, r1, r2, r3, r4, r5] 29)).alloc (.cells zero6 73)) := by
  obtain ⟨w1, e1⟩ : ∃ x, w.alloc o = x := ⟨_, rfl⟩
  obtain ⟨w2, e2⟩ : ∃ x, w1.alloc (.cells zero6 35) = x := ⟨_, rfl⟩
  obtain ⟨w3, e3⟩ : ∃ x, w2.alloc (.cells zero6 35) = x := ⟨_, rfl⟩
  obtain ⟨w4, e4⟩ : ∃ x, w3.alloc (.cells #[r0, r1, r2, r3, r4, r5] 29) = x := ⟨_, rfl⟩
  have z1 : w1.heap.size = w.heap.size + 1 := by rw [← e1]; exact alloc_sz7 _ _
  have z2 : w2.heap.size = w.heap.size + 1 + 1 := by rw [← e2, alloc_sz7, z1]
  have z3 : w3.heap.size = w.heap.size + 1 + 1 + 1 := by rw [← e3, alloc_sz7, z2]
  have z4 : w4.heap.size = w.heap.size + 1 + 1 + 1 + 1 := by rw [← e4, alloc_sz7, z3]
  have n2 : w2.heap[w.heap.size + 1]? = some (.cells zero6 35 (0, 0)) := by rw [← e2, ← z1]; exact heap_alloc_new w1 _
  have n3 : w3.heap[w.heap.size + 1 + 1]? = some (.cells zero6 35 (0, 0)) := by rw [← e3, ← z2]; exact heap_alloc_new w2 _
  have n4 : w4.heap[w.heap.size + 1 + 1 + 1]? = some (.cells #[r0, r1, r2, r3, r4, r5] 29 (0, 0)) := by rw [← e4, ← z3]; exact heap_alloc_new w3 _
  have n5 := heap_alloc_new w4 (.cells zero6 73)
  rw [z4] at n5
  have m2 : w3.heap[w.heap.size + 1]? = some (.cells zero6 35 (0, 0)) := by rw [← e3]; exact heap_new n2 (by omega)
  have k2 : w4.heap[w.heap.size + 1]? = some (.cells zero6 35 (0, 0)) := by rw [← e4]; exact heap_new m2 (by omega)
  have k3 : w4.heap[w.heap.size + 1 + 1]? = some (.cells zero6 35 (0, 0)) := by rw [← e4]; exact heap_new n3 (by omega)
  have bb : Below w.heap.size w (w4.alloc (.cells zero6 73)) := by
    rw [← e4, ← e3, ← e2, ← e1]
    exact (((((Below.refl w.heap.size w).alloc (Nat.le_refl _) _).alloc (by rw [alloc_sz7]; omega) _).alloc (by rw [alloc_sz7, alloc_sz7]; omega) _).alloc (by rw [alloc_sz7, alloc_sz7, alloc_sz7]; omega) _).alloc (by rw [alloc_sz7, alloc_sz7, alloc_sz7, alloc_sz7]; omega) _
  rw [e1, e2, e3, e4]
  exact ⟨⟨heap_new k2 (by omega), heap_new k3 (by omega), heap_new n4 (by omega), n5⟩, bb⟩
theorem sizeCv : (Try.prog.info? 35).map (·.size) = some 6 := by kernel_rfl
theorem ret_cv {fn : Func} {p u : Tmp} (h : fn.results = #[.cell p 35, .tmp u]) (tmps : Array Value) (w : World) (g : Nat) (c0 c1 c2 c3 c4 c5 : Value) (hp : tmps.getD p undef = .pointer (some ⟨g, 0, none⟩)) (hg : w.heap[g]? = some (.cells #[c0, c1, c2, c3, c4, c5] 35 (0, 0))) :
    (results fn tmps).run Try.prog w = .ok (.tuple #[.agg #[c0, c1, c2, c3, c4, c5], tmps.getD u undef]) w := by
  rw [results_cell_tmp h, hp]
  have hl := run_loadVar_row (P := Try.prog) w g 35 35 #[c0, c1, c2, c3, c4, c5] (0, 0) _ hg Try.underlying35 rfl sizeCv
  simp [asAddr, Result.andThen, hl]
abbrev set6 (W : World) (g : Nat) (d0 d1 d2 d3 d4 d5 : Value) : World := (((((W.setCell ⟨g, 0, none⟩ d0).setCell ⟨g, 1, none⟩ d1).setCell ⟨g, 2, none⟩ d2).setCell ⟨g, 3, none⟩ d3).setCell ⟨g, 4, none⟩ d4).setCell ⟨g, 5, none⟩ d5
theorem bt_set6 (W : World) (g : Nat) (d0 d1 d2 d3 d4 d5 : Value) : Bt g W (set6 W g d0 d1 d2 d3 d4 d5) := (((((Bt.setCell g W 0 d0).trans (Bt.setCell g _ 1 d1)).trans (Bt.setCell g _ 2 d2)).trans (Bt.setCell g _ 3 d3)).trans (Bt.setCell g _ 4 d4)).trans (Bt.setCell g _ 5 d5)
theorem row_set6 {W : World} {g : Nat} {c0 c1 c2 c3 c4 c5 : Value} {t : TypeId} (h : W.heap[g]? = some (.cells #[c0, c1, c2, c3, c4, c5] t (0, 0))) (d0 d1 d2 d3 d4 d5 : Value) : (set6 W g d0 d1 d2 d3 d4 d5).heap[g]? = some (.cells #[d0, d1, d2, d3, d4, d5] t (0, 0)) := by
  have h1 := heap_set7 W g 0 d0 _ _ _ h
  have h2 := heap_set7 _ g 1 d1 _ _ _ h1
  have h3 := heap_set7 _ g 2 d2 _ _ _ h2
  have h4 := heap_set7 _ g 3 d3 _ _ _ h3
  have h5 := heap_set7 _ g 4 d4 _ _ _ h4
  exact heap_set7 _ g 5 d5 _ _ _ h5
/-- A number's place in the array. -/
def arr6 (K : Cz) (i k : Nat) : Int := if k < i then (match k with | 0 => K.p | 1 => K.a | 2 => K.b | 3 => K.gx | 4 => K.gy | _ => K.n) else 0
theorem num_small (v : Value) (x : Int) (L : Nat) (w : World) (h : Nv w v x L) (hs : S31 x) : Calls Try.prog 22 #[v] w fun e w' => e = .returned (.tuple #[.int .i64 x, .bool true]) ∧ Below w.heap.size w w' := by
  have := number_nv v x L w h
  rwa [if_pos hs.2, show decide (x < 2147483648) = true by simp [hs.2]] at this
set_option maxRecDepth 100000 in
set_option maxHeartbeats 4000000 in
theorem rSmallC_any (c : Value) (K : Cz) (L : Nat) (w : World) (hc : Cu w c K L) (h1 : S31 K.p) (h2 : S31 K.a) (h3 : S31 K.b) (h4 : S31 K.gx) (h5 : S31 K.gy) (h6 : S31 K.n) :
    Calls Try.prog 9 #[c] w fun e w' => e = .returned (.tuple #[rcv K, .bool true]) ∧ Below w.heap.size w w' := by
  obtain ⟨g1, g2, oo, lo, co, vp, va, vb, vx, vy, vn, rfl, c1, c2, c3, c4, c5, c6⟩ := hc
  have N0 := fun W (hW : Below w.heap.size w W) => num_small vp K.p L W (c1.old hW) h1
  have N1 := fun W (hW : Below w.heap.size w W) => num_small va K.a L W (c2.old hW) h2
  have N2 := fun W (hW : Below w.heap.size w W) => num_small vb K.b L W (c3.old hW) h3
  have N3 := fun W (hW : Below w.heap.size w W) => num_small vx K.gx L W (c4.old hW) h4
  have N4 := fun W (hW : Below w.heap.size w W) => num_small vy K.gy L W (c5.old hW) h5
  have N5 := fun W (hW : Below w.heap.size w W) => num_small vn K.n L W (c6.old hW) h6
  obtain ⟨a1, a2, a3, a4, rfl, a5⟩ := c1
  obtain ⟨b1, b2, b3, b4, rfl, b5⟩ := c2
  obtain ⟨d1, d2, d3, d4, rfl, d5⟩ := c3
  obtain ⟨e1, e2, e3, e4, rfl, e5⟩ := c4
  obtain ⟨f1, f2, f3, f4, rfl, f5⟩ := c5
  obtain ⟨j1, j2, j3, j4, rfl, j5⟩ := c6
  obtain ⟨kp, ka, kb, kx, ky, kn⟩ := K
  unfold rcv
  simp only at N0 N1 N2 N3 N4 N5 ⊢
  clear a5 b5 d5 e5 f5 j5 h1 h2 h3 h4 h5 h6
  obtain ⟨F0, B0⟩ := sm6_new w (.cells #[.int .i64 g1, .int .i64 g2, .slice oo lo co, .slice a1 a2 a3, .slice b1 b2 b3, .slice d1 d2 d3, .slice e1 e2 e3, .slice f1 f2 f3, .slice j1 j2 j3] 31) (.slice a1 a2 a3) (.slice b1 b2 b3) (.slice d1 d2 d3) (.slice e1 e2 e3) (.slice f1 f2 f3) (.slice j1 j2 j3)
  have HF : Hid (_ ∧ _) := ⟨F0, B0⟩
  clear F0 B0
  go_enter Try.func9, Try.ntmps9
  go_wp2_with fail
  go_loopw [5, 8] (fun vk vi wr => ∃ (i : Nat), i ≤ 6 ∧ vi = .int .i64 (i : Int) ∧ vk = .bool true ∧ Sm6 wr w.heap.size (.slice a1 a2 a3) (.slice b1 b2 b3) (.slice d1 d2 d3) (.slice e1 e2 e3) (.slice f1 f2 f3) (.slice j1 j2 j3) (arr6 ⟨kp, ka, kb, kx, ky, kn⟩ i 0) (arr6 ⟨kp, ka, kb, kx, ky, kn⟩ i 1) (arr6 ⟨kp, ka, kb, kx, ky, kn⟩ i 2) (arr6 ⟨kp, ka, kb, kx, ky, kn⟩ i 3) (arr6 ⟨kp, ka, kb, kx, ky, kn⟩ i 4) (arr6 ⟨kp, ka, kb, kx, ky, kn⟩ i 5) ∧ Below w.heap.size w wr) (fun _ vi _ => 6 - (intOf vi).toNat)
  case atStart => exact ⟨0, by omega, rfl, rfl, HF.out.1, HF.out.2⟩
  case round =>
    obtain ⟨i, hi, rfl, rfl, hs, hb⟩ := hrel
    have HB : Hid (Below w.heap.size w wr) := hb
    have hi7 : i = 0 ∨ i = 1 ∨ i = 2 ∨ i = 3 ∨ i = 4 ∨ i = 5 ∨ i = 6 := by omega
    clear hb hi
    rcases hi7 with rfl | rfl | rfl | rfl | rfl | rfl | rfl
    · have HS : Hid (Sm6 wr w.heap.size (.slice a1 a2 a3) (.slice b1 b2 b3) (.slice d1 d2 d3) (.slice e1 e2 e3) (.slice f1 f2 f3) (.slice j1 j2 j3) 0 0 0 0 0 0) := hs
      obtain ⟨⟨l0, l1, l2, l3, l4, l5⟩, -⟩ := row6 HS.out.l
      have HN := N0 wr HB.out
      clear hs
      go_wp2_with fail
      refine HN.mono ?_
      rintro e w2 ⟨rfl, hb2⟩
      have S2 := HS.out.keep hb2
      have B2 := HB.out.trans (hb2.mono HB.out.size)
      obtain ⟨⟨x0, x1, x2, x3, x4, x5⟩, y0, y1, y2, y3, y4, y5⟩ := row6 S2.a
      have bt := Bt.setCell (w.heap.size + 1 + 1 + 1 + 1) w2 0 (.int .i64 kp)
      have S3 : Sm6 (w2.setCell ⟨w.heap.size + 1 + 1 + 1 + 1, 0, none⟩ (.int .i64 kp)) w.heap.size (.slice a1 a2 a3) (.slice b1 b2 b3) (.slice d1 d2 d3) (.slice e1 e2 e3) (.slice f1 f2 f3) (.slice j1 j2 j3) kp 0 0 0 0 0 := ⟨bt_blk bt S2.r (by omega), bt_blk bt S2.o (by omega), bt_blk bt S2.l (by omega), heap_set7 w2 _ 0 (.int .i64 kp) _ _ _ S2.a⟩
      have HS3 : Hid (_ ∧ _) := ⟨S3, B2.trans (bt.below (by omega) B2.size)⟩
      clear l0 l1 l2 l3 l4 l5 S2 B2 bt S3 hb2 HN N0 N1 N2 N3 N4 N5 HS HB
      go_wp2
      go_roundw
      case rel => exact ⟨1, by omega, by go_num, rfl, HS3.out.1, HS3.out.2⟩
      case measure => simp [intOf]
    · have HS : Hid (Sm6 wr w.heap.size (.slice a1 a2 a3) (.slice b1 b2 b3) (.slice d1 d2 d3) (.slice e1 e2 e3) (.slice f1 f2 f3) (.slice j1 j2 j3) kp 0 0 0 0 0) := hs
      obtain ⟨⟨l0, l1, l2, l3, l4, l5⟩, -⟩ := row6 HS.out.l
      have HN := N1 wr HB.out
      clear hs
      go_wp2_with fail
      refine HN.mono ?_
      rintro e w2 ⟨rfl, hb2⟩
      have S2 := HS.out.keep hb2
      have B2 := HB.out.trans (hb2.mono HB.out.size)
      obtain ⟨⟨x0, x1, x2, x3, x4, x5⟩, y0, y1, y2, y3, y4, y5⟩ := row6 S2.a
      have bt := Bt.setCell (w.heap.size + 1 + 1 + 1 + 1) w2 1 (.int .i64 ka)
      have S3 : Sm6 (w2.setCell ⟨w.heap.size + 1 + 1 + 1 + 1, 1, none⟩ (.int .i64 ka)) w.heap.size (.slice a1 a2 a3) (.slice b1 b2 b3) (.slice d1 d2 d3) (.slice e1 e2 e3) (.slice f1 f2 f3) (.slice j1 j2 j3) kp ka 0 0 0 0 := ⟨bt_blk bt S2.r (by omega), bt_blk bt S2.o (by omega), bt_blk bt S2.l (by omega), heap_set7 w2 _ 1 (.int .i64 ka) _ _ _ S2.a⟩
      have HS3 : Hid (_ ∧ _) := ⟨S3, B2.trans (bt.below (by omega) B2.size)⟩
      clear l0 l1 l2 l3 l4 l5 S2 B2 bt S3 hb2 HN N0 N1 N2 N3 N4 N5 HS HB
      go_wp2
      go_roundw
      case rel => exact ⟨2, by omega, by go_num, rfl, HS3.out.1, HS3.out.2⟩
      case measure => simp [intOf]
    · have HS : Hid (Sm6 wr w.heap.size (.slice a1 a2 a3) (.slice b1 b2 b3) (.slice d1 d2 d3) (.slice e1 e2 e3) (.slice f1 f2 f3) (.slice j1 j2 j3) kp ka 0 0 0 0) := hs
      obtain ⟨⟨l0, l1, l2, l3, l4, l5⟩, -⟩ := row6 HS.out.l
      have HN := N2 wr HB.out
      clear hs
      go_wp2_with fail
      refine HN.mono ?_
      rintro e w2 ⟨rfl, hb2⟩
      have S2 := HS.out.keep hb2
      have B2 := HB.out.trans (hb2.mono HB.out.size)
      obtain ⟨⟨x0, x1, x2, x3, x4, x5⟩, y0, y1, y2, y3, y4, y5⟩ := row6 S2.a
      have bt := Bt.setCell (w.heap.size + 1 + 1 + 1 + 1) w2 2 (.int .i64 kb)
      have S3 : Sm6 (w2.setCell ⟨w.heap.size + 1 + 1 + 1 + 1, 2, none⟩ (.int .i64 kb)) w.heap.size (.slice a1 a2 a3) (.slice b1 b2 b3) (.slice d1 d2 d3) (.slice e1 e2 e3) (.slice f1 f2 f3) (.slice j1 j2 j3) kp ka kb 0 0 0 := ⟨bt_blk bt S2.r (by omega), bt_blk bt S2.o (by omega), bt_blk bt S2.l (by omega), heap_set7 w2 _ 2 (.int .i64 kb) _ _ _ S2.a⟩
      have HS3 : Hid (_ ∧ _) := ⟨S3, B2.trans (bt.below (by omega) B2.size)⟩
      clear l0 l1 l2 l3 l4 l5 S2 B2 bt S3 hb2 HN N0 N1 N2 N3 N4 N5 HS HB
      go_wp2
      go_roundw
      case rel => exact ⟨3, by omega, by go_num, rfl, HS3.out.1, HS3.out.2⟩
      case measure => simp [intOf]
    · have HS : Hid (Sm6 wr w.heap.size (.slice a1 a2 a3) (.slice b1 b2 b3) (.slice d1 d2 d3) (.slice e1 e2 e3) (.slice f1 f2 f3) (.slice j1 j2 j3) kp ka kb 0 0 0) := hs
      obtain ⟨⟨l0, l1, l2, l3, l4, l5⟩, -⟩ := row6 HS.out.l
      have HN := N3 wr HB.out
      clear hs
      go_wp2_with fail
      refine HN.mono ?_
      rintro e w2 ⟨rfl, hb2⟩
      have S2 := HS.out.keep hb2
      have B2 := HB.out.trans (hb2.mono HB.out.size)
      obtain ⟨⟨x0, x1, x2, x3, x4, x5⟩, y0, y1, y2, y3, y4, y5⟩ := row6 S2.a
      have bt := Bt.setCell (w.heap.size + 1 + 1 + 1 + 1) w2 3 (.int .i64 kx)
      have S3 : Sm6 (w2.setCell ⟨w.heap.size + 1 + 1 + 1 + 1, 3, none⟩ (.int .i64 kx)) w.heap.size (.slice a1 a2 a3) (.slice b1 b2 b3) (.slice d1 d2 d3) (.slice e1 e2 e3) (.slice f1 f2 f3) (.slice j1 j2 j3) kp ka kb kx 0 0 := ⟨bt_blk bt S2.r (by omega), bt_blk bt S2.o (by omega), bt_blk bt S2.l (by omega), heap_set7 w2 _ 3 (.int .i64 kx) _ _ _ S2.a⟩
      have HS3 : Hid (_ ∧ _) := ⟨S3, B2.trans (bt.below (by omega) B2.size)⟩
      clear l0 l1 l2 l3 l4 l5 S2 B2 bt S3 hb2 HN N0 N1 N2 N3 N4 N5 HS HB
      go_wp2
      go_roundw
      case rel => exact ⟨4, by omega, by go_num, rfl, HS3.out.1, HS3.out.2⟩
      case measure => simp [intOf]
    · have HS : Hid (Sm6 wr w.heap.size (.slice a1 a2 a3) (.slice b1 b2 b3) (.slice d1 d2 d3) (.slice e1 e2 e3) (.slice f1 f2 f3) (.slice j1 j2 j3) kp ka kb kx 0 0) := hs
      obtain ⟨⟨l0, l1, l2, l3, l4, l5⟩, -⟩ := row6 HS.out.l
      have HN := N4 wr HB.out
      clear hs
      go_wp2_with fail
      refine HN.mono ?_
      rintro e w2 ⟨rfl, hb2⟩
      have S2 := HS.out.keep hb2
      have B2 := HB.out.trans (hb2.mono HB.out.size)
      obtain ⟨⟨x0, x1, x2, x3, x4, x5⟩, y0, y1, y2, y3, y4, y5⟩ := row6 S2.a
      have bt := Bt.setCell (w.heap.size + 1 + 1 + 1 + 1) w2 4 (.int .i64 ky)
      have S3 : Sm6 (w2.setCell ⟨w.heap.size + 1 + 1 + 1 + 1, 4, none⟩ (.int .i64 ky)) w.heap.size (.slice a1 a2 a3) (.slice b1 b2 b3) (.slice d1 d2 d3) (.slice e1 e2 e3) (.slice f1 f2 f3) (.slice j1 j2 j3) kp ka kb kx ky 0 := ⟨bt_blk bt S2.r (by omega), bt_blk bt S2.o (by omega), bt_blk bt S2.l (by omega), heap_set7 w2 _ 4 (.int .i64 ky) _ _ _ S2.a⟩
      have HS3 : Hid (_ ∧ _) := ⟨S3, B2.trans (bt.below (by omega) B2.size)⟩
      clear l0 l1 l2 l3 l4 l5 S2 B2 bt S3 hb2 HN N0 N1 N2 N3 N4 N5 HS HB
      go_wp2
      go_roundw
      case rel => exact ⟨5, by omega, by go_num, rfl, HS3.out.1, HS3.out.2⟩
      case measure => simp [intOf]
    · have HS : Hid (Sm6 wr w.heap.size (.slice a1 a2 a3) (.slice b1 b2 b3) (.slice d1 d2 d3) (.slice e1 e2 e3) (.slice f1 f2 f3) (.slice j1 j2 j3) kp ka kb kx ky 0) := hs
      obtain ⟨⟨l0, l1, l2, l3, l4, l5⟩, -⟩ := row6 HS.out.l
      have HN := N5 wr HB.out
      clear hs
      go_wp2_with fail
      refine HN.mono ?_
      rintro e w2 ⟨rfl, hb2⟩
      have S2 := HS.out.keep hb2
      have B2 := HB.out.trans (hb2.mono HB.out.size)
      obtain ⟨⟨x0, x1, x2, x3, x4, x5⟩, y0, y1, y2, y3, y4, y5⟩ := row6 S2.a
      have bt := Bt.setCell (w.heap.size + 1 + 1 + 1 + 1) w2 5 (.int .i64 kn)
      have S3 : Sm6 (w2.setCell ⟨w.heap.size + 1 + 1 + 1 + 1, 5, none⟩ (.int .i64 kn)) w.heap.size (.slice a1 a2 a3) (.slice b1 b2 b3) (.slice d1 d2 d3) (.slice e1 e2 e3) (.slice f1 f2 f3) (.slice j1 j2 j3) kp ka kb kx ky kn := ⟨bt_blk bt S2.r (by omega), bt_blk bt S2.o (by omega), bt_blk bt S2.l (by omega), heap_set7 w2 _ 5 (.int .i64 kn) _ _ _ S2.a⟩
      have HS3 : Hid (_ ∧ _) := ⟨S3, B2.trans (bt.below (by omega) B2.size)⟩
      clear l0 l1 l2 l3 l4 l5 S2 B2 bt S3 hb2 HN N0 N1 N2 N3 N4 N5 HS HB
      go_wp2
      go_roundw
      case rel => exact ⟨6, by omega, by go_num, rfl, HS3.out.1, HS3.out.2⟩
      case measure => simp [intOf]
    · have HS : Hid (Sm6 wr w.heap.size (.slice a1 a2 a3) (.slice b1 b2 b3) (.slice d1 d2 d3) (.slice e1 e2 e3) (.slice f1 f2 f3) (.slice j1 j2 j3) kp ka kb kx ky kn) := hs
      obtain ⟨⟨x0, x1, x2, x3, x4, x5⟩, y0, y1, y2, y3, y4, y5⟩ := row6 HS.out.a
      obtain ⟨⟨o0, o1, o2, o3, o4, o5⟩, p0, p1, p2, p3, p4, p5⟩ := row6 HS.out.o
      obtain ⟨⟨r0, r1, r2, r3, r4, r5⟩, q0, q1, q2, q3, q4, q5⟩ := row6 HS.out.r
      clear hs N0 N1 N2 N3 N4 N5
      have R2 := row_set6 (bt_blk (bt_set6 wr (w.heap.size + 1 + 1) (.int .i64 kp) (.int .i64 ka) (.int .i64 kb) (.int .i64 kx) (.int .i64 ky) (.int .i64 kn)) HS.out.r (by omega)) (.int .i64 kp) (.int .i64 ka) (.int .i64 kb) (.int .i64 kx) (.int .i64 ky) (.int .i64 kn)
      have b1 := HB.out.trans ((bt_set6 wr (w.heap.size + 1 + 1) (.int .i64 kp) (.int .i64 ka) (.int .i64 kb) (.int .i64 kx) (.int .i64 ky) (.int .i64 kn)).below (by omega) HB.out.size)
      have b2 := b1.trans ((bt_set6 _ (w.heap.size + 1) (.int .i64 kp) (.int .i64 ka) (.int .i64 kb) (.int .i64 kx) (.int .i64 ky) (.int .i64 kn)).below (by omega) b1.size)
      have HR : Hid (_ ∧ _) := ⟨R2, b2⟩
      clear R2 b1 b2
      go_wp2
      refine bodyPost_ret (ret_cv rfl _ _ _ _ _ _ _ _ _ rfl HR.out.1) rfl ?_
      exact ⟨rfl, HR.out.2⟩
end Go.Proofs.Ytcgfdbmgnnmcjaa
/-
  The contract of the document's Div.
-/
namespace Go.Proofs.Ytcgfdbmgnnmcjaa
open Go.RowKit
set_option linter.unusedVariables false
set_option linter.unusedSimpArgs false

end Go.Proofs.Ytcgfdbmgnnmcjaa
/-
  Contracts of the document's answer: so often multiplied (Twice) or divided (Half) by 2.
-/
namespace Go.Proofs.Ytcgfdbmgnnmcjaa
open Go.RowKit
set_option linter.unusedVariables false
set_option linter.unusedSimpArgs false

theorem rhalf_val (xs : List Int) (hd : Dg D16 xs) (q r : Nat) : val D16 (xs.drop q) / 2 ^ r = val D16 xs / 2 ^ (16 * q + r) := by
  have hp : (0 : Int) < D16 ^ q := Int.pow_pos D16_pos
  rw [val_drop D16_pos xs hd, Int.pow_add, Int.pow_mul]
  have e : D16 = 2 ^ 16 := rfl
  rw [e] at hp ⊢
  rw [Int.ediv_ediv_of_nonneg (by omega)]
theorem NumIn.drop {k : IntKind} {B : Int} {w : World} {b off len cap : Nat} {xs : List Int} (h : NumIn k B w (some ⟨b, off, none⟩) len cap xs) (q : Nat) (hq : q ≤ len) : NumIn k B w (some ⟨b, off + q, none⟩) (len - q) (cap - q) (xs.drop q) := by
  have hl := h.len
  refine ⟨⟨by simp [hl], ?_⟩, by have := h.lc; omega, by have := h.cm; omega, (fun h => by cases h), h.dg.drop q, by have := h.sm; omega⟩
  by_cases h0 : len - q = 0
  · exact .inl h0
  · right
    obtain ⟨b', off', e, hlt, hc⟩ := h.lies.at (by omega)
    injection e with e
    injection e with e1 e2
    subst e1 e2
    refine ⟨b, off + q, rfl, hlt, fun i hi => ?_⟩
    rw [getD_drop, Nat.add_assoc]
    exact hc (q + i) (by omega)
theorem pow2_16 (r : Nat) (hr : r < 16) : (1 : Int) ≤ 2 ^ r ∧ (2 : Int) ^ r ≤ 32768 := by
  have h : ∀ r : Fin 16, (1 : Int) ≤ 2 ^ r.val ∧ (2 : Int) ^ r.val ≤ 32768 := by decide
  exact h ⟨r, hr⟩


end Go.Proofs.Ytcgfdbmgnnmcjaa
/-
  The law EcdsaDigests.
-/
namespace Go.Proofs.Ytcgfdbmgnnmcjaa
open Go.Shelf Go.RowKit
set_option linter.unusedVariables false
set_option linter.unusedSimpArgs false
theorem num_new (k : IntKind) (B : Int) (w : World) (xs : List Int) (t : TypeId) (hd : Dg B xs) (hs : xs.length ≤ 1000) : NumIn k B (w.alloc (.cells (xs.map (Value.int k)).toArray t)) (some ⟨w.heap.size, 0, none⟩) xs.length xs.length xs := by
  refine ⟨⟨rfl, .inr ⟨w.heap.size, 0, rfl, by rw [alloc_sz7]; omega, fun i hi => ?_⟩⟩, Nat.le_refl _, by unfold maxLen; omega, fun h => (by cases h), hd, by omega⟩
  rw [cell_of_row _ _ _ _ _ _ (heap_alloc_new w _)]
  simp [hi, List.getD_eq_getElem?_getD]
set_option maxRecDepth 100000 in
set_option maxHeartbeats 2000000 in
theorem EAwake_any (w : World) : Calls Try.prog 6 #[] w fun e w' => e = .returned (.bool true) ∧ Below w.heap.size w w' := by
  go_enter Try.func6, Try.ntmps6
  go_wp2_with fail
  refine (Curves_any w).mono ?_
  rintro e w2 ⟨v, xs, rfl, ho, hl, hb2⟩
  obtain ⟨g, cap, rfl, hcap, hcm, hall⟩ := cur_at ho hl
  obtain ⟨g1, g2, oo, lo, co, b0, b1, b2, b3, b4, b5, hA, hcu⟩ := hall 0 (by decide)
  have HA : Hid (CuAt w2 g 0 g1 g2 oo lo co b0 b1 b2 b3 b4 b5) := hA
  have HCU : Hid (Cu w2 (curV g1 g2 oo lo co b0 b1 b2 b3 b4 b5) (curZ 0) 1) := hcu
  have x0 : w2.cell? ⟨g, 0, none⟩ = _ := hA.c0
  have x1 : w2.cell? ⟨g, 1, none⟩ = _ := hA.c1
  have x2 : w2.cell? ⟨g, 2, none⟩ = _ := hA.c2
  have x3 : w2.cell? ⟨g, 3, none⟩ = _ := hA.c3
  have x4 : w2.cell? ⟨g, 4, none⟩ = _ := hA.c4
  have x5 : w2.cell? ⟨g, 5, none⟩ = _ := hA.c5
  have x6 : w2.cell? ⟨g, 6, none⟩ = _ := hA.c6
  have x7 : w2.cell? ⟨g, 7, none⟩ = _ := hA.c7
  have x8 : w2.cell? ⟨g, 8, none⟩ = _ := hA.c8
  clear hA hcu hall ho hl
  unfold maxLen at hcm
  have hn1 : NumIn .u8 256 (w2.alloc (.cells #[.int .u8 255, .int .u8 255] 5)) (some ⟨w2.heap.size, 0, none⟩) 2 2 [255, 255] := num_new .u8 256 w2 [255, 255] 5 (by intro x hx; simp at hx; omega) (by decide)
  have ba := (Below.refl w2.heap.size w2).alloc (Nat.le_refl _) (.cells #[.int .u8 255, .int .u8 255] 5)
  have HD := Digest_any _ _ 1 _ 2 2 [255, 255] _ (HCU.out.old ba) (by decide) hn1 (by decide)
  have hz : digZ (curZ 0).n 2 [255, 255] = 511 := by decide +kernel
  rw [hz] at HD
  clear HA HCU hz
  go_wp2_with fail
  clear x0 x1 x2 x3 x4 x5 x6 x7 x8
  go_at_call 21
  refine HD.mono ?_
  rintro e w3 ⟨v, rfl, p1, p2, p3, p4, rfl, hp, hcan, hv, _, hb3⟩
  have e1 := canon_inj B64_one hp.dg (show Dg B64 [511] by intro x hx; simp at hx; unfold B64; omega) hcan (show Canon [511] from rfl) (by rw [hv]; decide)
  subst e1
  have hpl := hp.len
  obtain rfl : 1 = p2 := hpl
  have hn2 : NumIn .u64 B64 (w3.alloc (.cells #[.int .u64 511] 50)) (some ⟨w3.heap.size, 0, none⟩) 1 1 [511] := num_new .u64 B64 w3 [511] 50 (by intro x hx; simp at hx; unfold B64; omega) (by decide)
  have bb := (Below.refl w3.heap.size w3).alloc (Nat.le_refl _) (.cells #[.int .u64 511] 50)
  have HS := Same_yes p1 _ 1 p3 1 [511] _ (hp.old bb).lies hn2.lies (by decide)
  clear HD
  go_wp2_with fail
  go_at_call 20
  refine HS.mono ?_
  rintro e w4 ⟨rfl, hdr⟩
  go_wp2
  go_ret
  have b3 := ((hb2.trans (ba.mono hb2.size)).trans (hb3.mono (Nat.le_trans hb2.size ba.size)))
  exact ⟨rfl, b3.trans ((bb.trans ((hdr.below _).mono bb.size)).mono b3.size)⟩
theorem big_len {ds : List Int} {V : Int} {n : Nat} (hd : Dg D16 ds) (hc : Canon ds) (hv : val D16 ds = V) (hV : V < 256 ^ n) (hn : n ≤ 512) : ds.length ≤ 256 := by
  have h := len_fit (B := D16) (by decide) hd hc (ys := List.replicate 256 65535) (fun x hx => by rw [(List.mem_replicate.1 hx).2]; decide) (by
    have h1 : val D16 (List.replicate 256 65535) = 256 ^ 512 - 1 := by decide +kernel
    have h2 := pow_mono (B := 256) (by decide) hn
    rw [h1, hv]
    omega)
  rw [List.length_replicate] at h
  exact h
end Go.Proofs.Ytcgfdbmgnnmcjaa
/-
  Arguments that came in, opened: a point, a signer.
-/
namespace Go.Proofs.Ytcgfdbmgnnmcjaa
open Go.RowKit Go.ChangeShapes Go.WideShapes Go.ChangeShapes
set_option linter.unusedVariables false

theorem trod_struct3 {H : Type} {enc : TypeId × Value → H} {P : Program} {w : World} {base : Nat} {spare : Nat → Bool} {held : Bool} {t : TypeId} {f0 f1 f2 : Field} {fuel : Nat} {cs : List Value} {x : DataW H × List MemPlace} (ht : P.underlying t = some (.struct #[f0, f1, f2])) (h : DataW.trod enc P w base spare held fuel t cs = some x) :
    ∃ y0 y1 y2 n, cs.length = P.cellsOf t ∧ DataW.trod enc P w base spare held n f0.type ((cs.drop f0.offset).take (P.cellsOf f0.type)) = some y0 ∧
      DataW.trod enc P w base spare held n f1.type ((cs.drop f1.offset).take (P.cellsOf f1.type)) = some y1 ∧ DataW.trod enc P w base spare held n f2.type ((cs.drop f2.offset).take (P.cellsOf f2.type)) = some y2 := by
  obtain ⟨xs, n, _, rfl, hl, hlen, hf⟩ := DataW.trod_struct ht h
  match xs, hlen with
  | [y0, y1, y2], _ => exact ⟨y0, y1, y2, n, hl, by simpa using hf 0 f0 rfl, by simpa using hf 1 f1 rfl, by simpa using hf 2 f2 rfl⟩
theorem open_nat {H : Type} {enc : TypeId × Value → H} {w : World} {held : Bool} {n : Nat} (v : Value) (y : DataW H × List MemPlace) (g : DataW.trod enc Try.prog w 0 (fun _ => true) held n 29 [v] = some y) : ∃ a l c z, v = .slice a l c ∧ Came .u64 w a l c z := by
  rcases open_ints Try.underlying29 Try.underlying50 (by kernel_rfl) g with ⟨hcs, _⟩ | ⟨x, l, c, zs, hcs, _, hl, hm, hz, _, hcell, hwz⟩
  · cases hcs
    exact ⟨none, 0, 0, [], rfl, .inl ⟨rfl, rfl, rfl, rfl⟩⟩
  · cases hcs
    exact ⟨_, _, _, zs, rfl, .inr ⟨_, rfl, hl, hm, by simpa using hz, hcell, hwz⟩⟩
theorem ptFields : ∃ f0 f1 f2 : Field, Try.prog.underlying 42 = some (.struct #[f0, f1, f2]) ∧ f0.offset = 0 ∧ f1.offset = 1 ∧ f2.offset = 2 ∧ f0.type = 29 ∧ f1.type = 29 ∧ f2.type = 4 := ⟨_, _, _, Try.underlying42, rfl, rfl, rfl, rfl, rfl, rfl⟩
theorem open_pt {H : Type} {enc : TypeId × Value → H} {w : World} {held : Bool} {fuel : Nat} {cs : Array Value} {x : DataW H × List MemPlace} (h : DataW.trod enc Try.prog w 0 (fun _ => true) held fuel 42 cs.toList = some x) :
    ∃ (a1 : Option Addr) (l1 c1 : Nat) (z1 : List Int) (a2 : Option Addr) (l2 c2 : Nat) (z2 : List Int) (b : Bool), cs = #[.slice a1 l1 c1, .slice a2 l2 c2, .bool b] ∧ Came .u64 w a1 l1 c1 z1 ∧ Came .u64 w a2 l2 c2 z2 := by
  obtain ⟨f0, f1, f2, hu, o0, o1, o2, t0, t1, t2⟩ := ptFields
  have hc : Try.prog.cellsOf 29 = 1 := by kernel_rfl
  have hcb : Try.prog.cellsOf 4 = 1 := by kernel_rfl
  have hc3 : Try.prog.cellsOf 42 = 3 := by kernel_rfl
  obtain ⟨y0, y1, y2, n, hl, g0, g1, g2⟩ := trod_struct3 hu h
  rw [hc3] at hl
  rw [o0, t0, hc] at g0
  rw [o1, t1, hc] at g1
  rw [o2, t2, hcb] at g2
  obtain ⟨v0, v1, v2, hcs⟩ : ∃ v0 v1 v2, cs.toList = [v0, v1, v2] := by
    match hh : cs.toList, hl with
    | [v0, v1, v2], _ => exact ⟨v0, v1, v2, rfl⟩
  rw [hcs] at g0 g1 g2
  simp only [List.drop_zero, List.drop_succ_cons, List.take_succ_cons, List.take_zero] at g0 g1 g2
  obtain ⟨a1, l1, c1, z1, rfl, w1⟩ := open_nat _ _ g0
  obtain ⟨a2, l2, c2, z2, rfl, w2⟩ := open_nat _ _ g1
  obtain ⟨b, rfl⟩ : ∃ b, v2 = .bool b := by
    obtain ⟨b, e0, _⟩ := DataW.trod_bool Try.underlying4 g2
    cases e0
    exact ⟨b, rfl⟩
  exact ⟨a1, l1, c1, z1, a2, l2, c2, z2, b, Array.ext' hcs, w1, w2⟩
theorem sgFields : ∃ f0 f1 : Field, Try.prog.underlying 23 = some (.struct #[f0, f1]) ∧ f0.offset = 0 ∧ f1.offset = 1 ∧ f0.type = 5 ∧ f1.type = 5 := ⟨_, _, Try.underlying23, rfl, rfl, rfl, rfl⟩
theorem open_sg {H : Type} {enc : TypeId × Value → H} {w : World} {held : Bool} {fuel : Nat} {cs : Array Value} {x : DataW H × List MemPlace} (h : DataW.trod enc Try.prog w 0 (fun _ => true) held fuel 23 cs.toList = some x) :
    ∃ (k s : Int), cs = #[.int .u8 k, .int .u8 s] ∧ (0 ≤ k ∧ k < 256) ∧ (0 ≤ s ∧ s < 256) := by
  obtain ⟨f0, f1, hu, o0, o1, t0, t1⟩ := sgFields
  have hc : Try.prog.cellsOf 5 = 1 := by kernel_rfl
  have hc2 : Try.prog.cellsOf 23 = 2 := by kernel_rfl
  obtain ⟨y0, y1, n, _, hl, g0, g1⟩ := trod_struct2 hu h
  rw [hc2] at hl
  rw [o0, t0, hc] at g0
  rw [o1, t1, hc] at g1
  obtain ⟨v0, v1, hcs⟩ : ∃ v0 v1, cs.toList = [v0, v1] := by
    match hh : cs.toList, hl with
    | [v0, v1], _ => exact ⟨v0, v1, rfl⟩
  rw [hcs] at g0 g1
  simp only [List.drop_zero, List.drop_succ_cons, List.take_succ_cons, List.take_zero] at g0 g1
  have one : ∀ (v : Value) (y : DataW H × List MemPlace), DataW.trod enc Try.prog w 0 (fun _ => true) held n 5 [v] = some y → ∃ t, v = .int .u8 t ∧ (0 ≤ t ∧ t < 256) := fun v y g => by
    obtain ⟨z, e0, _, hz⟩ := DataW.trod_int (k := .u8) Try.underlying5 g
    cases e0
    exact ⟨z, rfl, word_u8 hz⟩
  obtain ⟨k, rfl, hk⟩ := one _ _ g0
  obtain ⟨s, rfl, hs⟩ := one _ _ g1
  exact ⟨k, s, Array.ext' hcs, hk, hs⟩
end Go.Proofs.Ytcgfdbmgnnmcjaa
