import Derived.Test.YtagljkbfgldlgaaK15
import Derived.Test.YtagljkbfgldlgaaK07
import Derived.Test.YtagljkbfgldlgaaK06
import Derived.Test.YtagljkbfgldlgaaK02
import Derived.WideShapes
import Derived.OpenShut
import Derived.ChangeSame
import Derived.Test.YtagljkbfgldlgaaK13
import Derived.Test.YtagljkbfgldlgaaK11
/-
  The document's curve of small numbers.
-/
namespace Go.Proofs.Ytagljkbfgldlgaa
open Go.RowKit Go.Shelf
set_option linter.unusedVariables false
set_option linter.unusedSimpArgs false

abbrev zero6 : Array Value := #[.int .i64 0, .int .i64 0, .int .i64 0, .int .i64 0, .int .i64 0, .int .i64 0]
/-- The blocks of the document's Small. -/
structure Sm6 (W : World) (b : Nat) (r0 r1 r2 r3 r4 r5 : Value) (n0 n1 n2 n3 n4 n5 : Int) : Prop where
  r : W.heap[b + 1]? = some (.cells #[.int .i64 0, .int .i64 0, .int .i64 0, .int .i64 0, .int .i64 0, .int .i64 0] 35 (0, 0))
  o : W.heap[b + 1 + 1]? = some (.cells #[.int .i64 0, .int .i64 0, .int .i64 0, .int .i64 0, .int .i64 0, .int .i64 0] 35 (0, 0))
  l : W.heap[b + 1 + 1 + 1]? = some (.cells #[r0, r1, r2, r3, r4, r5] 29 (0, 0))
  a : W.heap[b + 1 + 1 + 1 + 1]? = some (.cells #[.int .i64 n0, .int .i64 n1, .int .i64 n2, .int .i64 n3, .int .i64 n4, .int .i64 n5] 66 (0, 0))
theorem Sm6.keep {W W' : World} {b : Nat} {r0 r1 r2 r3 r4 r5 : Value} {n0 n1 n2 n3 n4 n5 : Int} (h : Sm6 W b r0 r1 r2 r3 r4 r5 n0 n1 n2 n3 n4 n5) (hb : Below W.heap.size W W') : Sm6 W' b r0 r1 r2 r3 r4 r5 n0 n1 n2 n3 n4 n5 := ⟨blk_old h.r hb, blk_old h.o hb, blk_old h.l hb, blk_old h.a hb⟩
theorem row6 {W : World} {b : Nat} {c0 c1 c2 c3 c4 c5 : Value} {t : TypeId} (h : W.heap[b]? = some (.cells #[c0, c1, c2, c3, c4, c5] t (0, 0))) : (W.cell? ⟨b, 0, none⟩ = some c0 ∧ W.cell? ⟨b, 1, none⟩ = some c1 ∧ W.cell? ⟨b, 2, none⟩ = some c2 ∧ W.cell? ⟨b, 3, none⟩ = some c3 ∧ W.cell? ⟨b, 4, none⟩ = some c4 ∧ W.cell? ⟨b, 5, none⟩ = some c5) ∧ W.frozen? ⟨b, 0, none⟩ = false ∧ W.frozen? ⟨b, 1, none⟩ = false ∧ W.frozen? ⟨b, 2, none⟩ = false ∧ W.frozen? ⟨b, 3, none⟩ = false ∧ W.frozen? ⟨b, 4, none⟩ = false ∧ W.frozen? ⟨b, 5, none⟩ = false := by
  refine ⟨⟨?_, ?_, ?_, ?_, ?_, ?_⟩, frozen_of_row W b 0 _ _ h, frozen_of_row W b 1 _ _ h, frozen_of_row W b 2 _ _ h, frozen_of_row W b 3 _ _ h, frozen_of_row W b 4 _ _ h, frozen_of_row W b 5 _ _ h⟩ <;> (rw [cell_of_row _ _ _ _ _ _ h]; rfl)
theorem sm6_new (w : World) (o : Obj) (r0 r1 r2 r3 r4 r5 : Value) : Sm6 (((((w.alloc o).alloc (.cells zero6 35)).alloc (.cells zero6 35)).alloc (.cells #[r0, r1, r2, r3, r4, r5] 29)).alloc (.cells zero6 66)) w.heap.size r0 r1 r2 r3 r4 r5 0 0 0 0 0 0 ∧ Below w.heap.size w (((((w.alloc o).alloc (.cells zero6 35)).alloc (.cells zero6 35)).alloc (.cells #[r0, r1, r2, r3, r4, r5] 29)).alloc (.cells zero6 66)) := by
  obtain ⟨w1, e1⟩ : ∃ x, w.alloc o = x := ⟨_, rfl⟩
  obtain ⟨w2, e2⟩ : ∃ x, w1.alloc (.cells zero6 35) = x := ⟨_, rfl⟩
  obtain ⟨w3, e3⟩ : ∃ x, w2.alloc (.cells zero6 35) = x := ⟨_, rfl⟩
  obtain ⟨w4, e4⟩ : ∃ x, w3.alloc (.cells #[r0, r1, r2, r3, r4, r5] 29) = x := ⟨_, rfl⟩
  have z1 : w1.heap.size = w.heap.size + 1 := by rw [← e1]; exact alloc_sz7 _ _
  have z2 : w2.heap.size = w.heap.size + 1 + 1 := by rw [← e2, alloc_sz7, z1]
  have z3 : w3.heap.size = w.heap.size + 1 + 1 + 1 := by rw [← e3, alloc_sz7, z2]
  have z4 : w4.heap.size = w.heap.size + 1 + 1 + 1 + 1 := by rw [← e4, alloc_sz7, z3]
  have n2 : w2.heap[w.heap.size + 1]? = some (.cells zero6 35 (0, 0)) := by rw [← e2, ← z1]; exact heap_alloc_new w1 _
  have n3 : w3.heap[w.heap.size + 1 + 1]? = some (.cells zero6 35 (0, 0)) := by rw [← e3, ← z2]; exact heap_alloc_new w2 _
  have n4 : w4.heap[w.heap.size + 1 + 1 + 1]? = some (.cells #[r0, r1, r2, r3, r4, r5] 29 (0, 0)) := by rw [← e4, ← z3]; exact heap_alloc_new w3 _
  have n5 := heap_alloc_new w4 (.cells zero6 66)
  rw [z4] at n5
  have m2 : w3.heap[w.heap.size + 1]? = some (.cells zero6 35 (0, 0)) := by rw [← e3]; exact heap_new n2 (by omega)
  have k2 : w4.heap[w.heap.size + 1]? = some (.cells zero6 35 (0, 0)) := by rw [← e4]; exact heap_new m2 (by omega)
  have k3 : w4.heap[w.heap.size + 1 + 1]? = some (.cells zero6 35 (0, 0)) := by rw [← e4]; exact heap_new n3 (by omega)
  have bb : Below w.heap.size w (w4.alloc (.cells zero6 66)) := by
    rw [← e4, ← e3, ← e2, ← e1]
    exact (((((Below.refl w.heap.size w).alloc (Nat.le_refl _) _).alloc (by rw [alloc_sz7]; omega) _).alloc (by rw [alloc_sz7, alloc_sz7]; omega) _).alloc (by rw [alloc_sz7, alloc_sz7, alloc_sz7]; omega) _).alloc (by rw [alloc_sz7, alloc_sz7, alloc_sz7, alloc_sz7]; omega) _
  rw [e1, e2, e3, e4]
  exact ⟨⟨heap_new k2 (by omega), heap_new k3 (by omega), heap_new n4 (by omega), n5⟩, bb⟩
theorem sizeCv : (Try.prog.info? 35).map (·.size) = some 6 := by kernel_rfl
theorem ret_cv {fn : Func} {p u : Tmp} (h : fn.results = #[.cell p 35, .tmp u]) (tmps : Array Value) (w : World) (g : Nat) (c0 c1 c2 c3 c4 c5 : Value) (hp : tmps.getD p undef = .pointer (some ⟨g, 0, none⟩)) (hg : w.heap[g]? = some (.cells #[c0, c1, c2, c3, c4, c5] 35 (0, 0))) :
    (results fn tmps).run Try.prog w = .ok (.tuple #[.agg #[c0, c1, c2, c3, c4, c5], tmps.getD u undef]) w := by
  rw [results_cell_tmp h, hp]
  have hl := run_loadVar_row (P := Try.prog) w g 35 35 #[c0, c1, c2, c3, c4, c5] (0, 0) _ hg Try.underlying35 rfl sizeCv
  simp [asAddr, Result.andThen, hl]
abbrev set6 (W : World) (g : Nat) (d0 d1 d2 d3 d4 d5 : Value) : World := (((((W.setCell ⟨g, 0, none⟩ d0).setCell ⟨g, 1, none⟩ d1).setCell ⟨g, 2, none⟩ d2).setCell ⟨g, 3, none⟩ d3).setCell ⟨g, 4, none⟩ d4).setCell ⟨g, 5, none⟩ d5
theorem bt_set6 (W : World) (g : Nat) (d0 d1 d2 d3 d4 d5 : Value) : Bt g W (set6 W g d0 d1 d2 d3 d4 d5) := (((((Bt.setCell g W 0 d0).trans (Bt.setCell g _ 1 d1)).trans (Bt.setCell g _ 2 d2)).trans (Bt.setCell g _ 3 d3)).trans (Bt.setCell g _ 4 d4)).trans (Bt.setCell g _ 5 d5)
theorem row_set6 {W : World} {g : Nat} {c0 c1 c2 c3 c4 c5 : Value} {t : TypeId} (h : W.heap[g]? = some (.cells #[c0, c1, c2, c3, c4, c5] t (0, 0))) (d0 d1 d2 d3 d4 d5 : Value) : (set6 W g d0 d1 d2 d3 d4 d5).heap[g]? = some (.cells #[d0, d1, d2, d3, d4, d5] t (0, 0)) := by
  have h1 := heap_set7 W g 0 d0 _ _ _ h
  have h2 := heap_set7 _ g 1 d1 _ _ _ h1
  have h3 := heap_set7 _ g 2 d2 _ _ _ h2
  have h4 := heap_set7 _ g 3 d3 _ _ _ h3
  have h5 := heap_set7 _ g 4 d4 _ _ _ h4
  exact heap_set7 _ g 5 d5 _ _ _ h5
/-- A number's place in the array. -/
def arr6 (K : Cz) (i k : Nat) : Int := if k < i then (match k with | 0 => K.p | 1 => K.a | 2 => K.b | 3 => K.gx | 4 => K.gy | _ => K.n) else 0
theorem num_small (v : Value) (x : Int) (L : Nat) (w : World) (h : Nv w v x L) (hs : S31 x) : Calls Try.prog 17 #[v] w fun e w' => e = .returned (.tuple #[.int .i64 x, .bool true]) ∧ Below w.heap.size w w' := by
  have := number_nv v x L w h
  rwa [if_pos hs.2, show decide (x < 2147483648) = true by simp [hs.2]] at this
set_option maxRecDepth 100000 in
set_option maxHeartbeats 4000000 in
theorem rSmallC_any (c : Value) (K : Cz) (L : Nat) (w : World) (hc : Cu w c K L) (h1 : S31 K.p) (h2 : S31 K.a) (h3 : S31 K.b) (h4 : S31 K.gx) (h5 : S31 K.gy) (h6 : S31 K.n) :
    Calls Try.prog 7 #[c] w fun e w' => e = .returned (.tuple #[rcv K, .bool true]) ∧ Below w.heap.size w w' := by
  obtain ⟨g1, g2, oo, lo, co, vp, va, vb, vx, vy, vn, rfl, c1, c2, c3, c4, c5, c6⟩ := hc
  have N0 := fun W (hW : Below w.heap.size w W) => num_small vp K.p L W (c1.old hW) h1
  have N1 := fun W (hW : Below w.heap.size w W) => num_small va K.a L W (c2.old hW) h2
  have N2 := fun W (hW : Below w.heap.size w W) => num_small vb K.b L W (c3.old hW) h3
  have N3 := fun W (hW : Below w.heap.size w W) => num_small vx K.gx L W (c4.old hW) h4
  have N4 := fun W (hW : Below w.heap.size w W) => num_small vy K.gy L W (c5.old hW) h5
  have N5 := fun W (hW : Below w.heap.size w W) => num_small vn K.n L W (c6.old hW) h6
  obtain ⟨a1, a2, a3, a4, rfl, a5⟩ := c1
  obtain ⟨b1, b2, b3, b4, rfl, b5⟩ := c2
  obtain ⟨d1, d2, d3, d4, rfl, d5⟩ := c3
  obtain ⟨e1, e2, e3, e4, rfl, e5⟩ := c4
  obtain ⟨f1, f2, f3, f4, rfl, f5⟩ := c5
  obtain ⟨j1, j2, j3, j4, rfl, j5⟩ := c6
  obtain ⟨kp, ka, kb, kx, ky, kn⟩ := K
  unfold rcv
  simp only at N0 N1 N2 N3 N4 N5 ⊢
  clear a5 b5 d5 e5 f5 j5 h1 h2 h3 h4 h5 h6
  obtain ⟨F0, B0⟩ := sm6_new w (.cells #[.int .i64 g1, .int .i64 g2, .slice oo lo co, .slice a1 a2 a3, .slice b1 b2 b3, .slice d1 d2 d3, .slice e1 e2 e3, .slice f1 f2 f3, .slice j1 j2 j3] 31) (.slice a1 a2 a3) (.slice b1 b2 b3) (.slice d1 d2 d3) (.slice e1 e2 e3) (.slice f1 f2 f3) (.slice j1 j2 j3)
  have HF : Hid (_ ∧ _) := ⟨F0, B0⟩
  clear F0 B0
  go_enter Try.func7, Try.ntmps7
  go_wp2_with fail
  go_loopw [5, 8] (fun vk vi wr => ∃ (i : Nat), i ≤ 6 ∧ vi = .int .i64 (i : Int) ∧ vk = .bool true ∧ Sm6 wr w.heap.size (.slice a1 a2 a3) (.slice b1 b2 b3) (.slice d1 d2 d3) (.slice e1 e2 e3) (.slice f1 f2 f3) (.slice j1 j2 j3) (arr6 ⟨kp, ka, kb, kx, ky, kn⟩ i 0) (arr6 ⟨kp, ka, kb, kx, ky, kn⟩ i 1) (arr6 ⟨kp, ka, kb, kx, ky, kn⟩ i 2) (arr6 ⟨kp, ka, kb, kx, ky, kn⟩ i 3) (arr6 ⟨kp, ka, kb, kx, ky, kn⟩ i 4) (arr6 ⟨kp, ka, kb, kx, ky, kn⟩ i 5) ∧ Below w.heap.size w wr) (fun _ vi _ => 6 - (intOf vi).toNat)
  case atStart => exact ⟨0, by omega, rfl, rfl, HF.out.1, HF.out.2⟩
  case round =>
    obtain ⟨i, hi, rfl, rfl, hs, hb⟩ := hrel
    have HB : Hid (Below w.heap.size w wr) := hb
    have hi7 : i = 0 ∨ i = 1 ∨ i = 2 ∨ i = 3 ∨ i = 4 ∨ i = 5 ∨ i = 6 := by omega
    clear hb hi
    rcases hi7 with rfl | rfl | rfl | rfl | rfl | rfl | rfl
    · have HS : Hid (Sm6 wr w.heap.size (.slice a1 a2 a3) (.slice b1 b2 b3) (.slice d1 d2 d3) (.slice e1 e2 e3) (.slice f1 f2 f3) (.slice j1 j2 j3) 0 0 0 0 0 0) := hs
      obtain ⟨⟨l0, l1, l2, l3, l4, l5⟩, -⟩ := row6 HS.out.l
      have HN := N0 wr HB.out
      clear hs
      go_wp2_with fail
      refine HN.mono ?_
      rintro e w2 ⟨rfl, hb2⟩
      have S2 := HS.out.keep hb2
      have B2 := HB.out.trans (hb2.mono HB.out.size)
      obtain ⟨⟨x0, x1, x2, x3, x4, x5⟩, y0, y1, y2, y3, y4, y5⟩ := row6 S2.a
      have bt := Bt.setCell (w.heap.size + 1 + 1 + 1 + 1) w2 0 (.int .i64 kp)
      have S3 : Sm6 (w2.setCell ⟨w.heap.size + 1 + 1 + 1 + 1, 0, none⟩ (.int .i64 kp)) w.heap.size (.slice a1 a2 a3) (.slice b1 b2 b3) (.slice d1 d2 d3) (.slice e1 e2 e3) (.slice f1 f2 f3) (.slice j1 j2 j3) kp 0 0 0 0 0 := ⟨bt_blk bt S2.r (by omega), bt_blk bt S2.o (by omega), bt_blk bt S2.l (by omega), heap_set7 w2 _ 0 (.int .i64 kp) _ _ _ S2.a⟩
      have HS3 : Hid (_ ∧ _) := ⟨S3, B2.trans (bt.below (by omega) B2.size)⟩
      clear l0 l1 l2 l3 l4 l5 S2 B2 bt S3 hb2 HN N0 N1 N2 N3 N4 N5 HS HB
      go_wp2
      go_roundw
      case rel => exact ⟨1, by omega, by go_num, rfl, HS3.out.1, HS3.out.2⟩
      case measure => simp [intOf]
    · have HS : Hid (Sm6 wr w.heap.size (.slice a1 a2 a3) (.slice b1 b2 b3) (.slice d1 d2 d3) (.slice e1 e2 e3) (.slice f1 f2 f3) (.slice j1 j2 j3) kp 0 0 0 0 0) := hs
      obtain ⟨⟨l0, l1, l2, l3, l4, l5⟩, -⟩ := row6 HS.out.l
      have HN := N1 wr HB.out
      clear hs
      go_wp2_with fail
      refine HN.mono ?_
      rintro e w2 ⟨rfl, hb2⟩
      have S2 := HS.out.keep hb2
      have B2 := HB.out.trans (hb2.mono HB.out.size)
      obtain ⟨⟨x0, x1, x2, x3, x4, x5⟩, y0, y1, y2, y3, y4, y5⟩ := row6 S2.a
      have bt := Bt.setCell (w.heap.size + 1 + 1 + 1 + 1) w2 1 (.int .i64 ka)
      have S3 : Sm6 (w2.setCell ⟨w.heap.size + 1 + 1 + 1 + 1, 1, none⟩ (.int .i64 ka)) w.heap.size (.slice a1 a2 a3) (.slice b1 b2 b3) (.slice d1 d2 d3) (.slice e1 e2 e3) (.slice f1 f2 f3) (.slice j1 j2 j3) kp ka 0 0 0 0 := ⟨bt_blk bt S2.r (by omega), bt_blk bt S2.o (by omega), bt_blk bt S2.l (by omega), heap_set7 w2 _ 1 (.int .i64 ka) _ _ _ S2.a⟩
      have HS3 : Hid (_ ∧ _) := ⟨S3, B2.trans (bt.below (by omega) B2.size)⟩
      clear l0 l1 l2 l3 l4 l5 S2 B2 bt S3 hb2 HN N0 N1 N2 N3 N4 N5 HS HB
      go_wp2
      go_roundw
      case rel => exact ⟨2, by omega, by go_num, rfl, HS3.out.1, HS3.out.2⟩
      case measure => simp [intOf]
    · have HS : Hid (Sm6 wr w.heap.size (.slice a1 a2 a3) (.slice b1 b2 b3) (.slice d1 d2 d3) (.slice e1 e2 e3) (.slice f1 f2 f3) (.slice j1 j2 j3) kp ka 0 0 0 0) := hs
      obtain ⟨⟨l0, l1, l2, l3, l4, l5⟩, -⟩ := row6 HS.out.l
      have HN := N2 wr HB.out
      clear hs
      go_wp2_with fail
      refine HN.mono ?_
      rintro e w2 ⟨rfl, hb2⟩
      have S2 := HS.out.keep hb2
      have B2 := HB.out.trans (hb2.mono HB.out.size)
      obtain ⟨⟨x0, x1, x2, x3, x4, x5⟩, y0, y1, y2, y3, y4, y5⟩ := row6 S2.a
      have bt := Bt.setCell (w.heap.size + 1 + 1 + 1 + 1) w2 2 (.int .i64 kb)
      have S3 : Sm6 (w2.setCell ⟨w.heap.size + 1 + 1 + 1 + 1, 2, none⟩ (.int .i64 kb)) w.heap.size (.slice a1 a2 a3) (.slice b1 b2 b3) (.slice d1 d2 d3) (.slice e1 e2 e3) (.slice f1 f2 f3) (.slice j1 j2 j3) kp ka kb 0 0 0 := ⟨bt_blk bt S2.r (by omega), bt_blk bt S2.o (by omega), bt_blk bt S2.l (by omega), heap_set7 w2 _ 2 (.int .i64 kb) _ _ _ S2.a⟩
      have HS3 : Hid (_ ∧ _) := ⟨S3, B2.trans (bt.below (by omega) B2.size)⟩
      clear l0 l1 l2 l3 l4 l5 S2 B2 bt S3 hb2 HN N0 N1 N2 N3 N4 N5 HS HB
      go_wp2
      go_roundw
      case rel => exact ⟨3, by omega, by go_num, rfl, HS3.out.1, HS3.out.2⟩
      case measure => simp [intOf]
    · have HS : Hid (Sm6 wr w.heap.size (.slice a1 a2 a3) (.slice b1 b2 b3) (.slice d1 d2 d3) (.slice e1 e2 e3) (.slice f1 f2 f3) (.slice j1 j2 j3) kp ka kb 0 0 0) := hs
      obtain ⟨⟨l0, l1, l2, l3, l4, l5⟩, -⟩ := row6 HS.out.l
      have HN := N3 wr HB.out
      clear hs
      go_wp2_with fail
      refine HN.mono ?_
      rintro e w2 ⟨rfl, hb2⟩
      have S2 := HS.out.keep hb2
      have B2 := HB.out.trans (hb2.mono HB.out.size)
      obtain ⟨⟨x0, x1, x2, x3, x4, x5⟩, y0, y1, y2, y3, y4, y5⟩ := row6 S2.a
      have bt := Bt.setCell (w.heap.size + 1 + 1 + 1 + 1) w2 3 (.int .i64 kx)
      have S3 : Sm6 (w2.setCell ⟨w.heap.size + 1 + 1 + 1 + 1, 3, none⟩ (.int .i64 kx)) w.heap.size (.slice a1 a2 a3) (.slice b1 b2 b3) (.slice d1 d2 d3) (.slice e1 e2 e3) (.slice f1 f2 f3) (.slice j1 j2 j3) kp ka kb kx 0 0 := ⟨bt_blk bt S2.r (by omega), bt_blk bt S2.o (by omega), bt_blk bt S2.l (by omega), heap_set7 w2 _ 3 (.int .i64 kx) _ _ _ S2.a⟩
      have HS3 : Hid (_ ∧ _) := ⟨S3, B2.trans (bt.below (by omega) B2.size)⟩
      clear l0 l1 l2 l3 l4 l5 S2 B2 bt S3 hb2 HN N0 N1 N2 N3 N4 N5 HS HB
      go_wp2
      go_roundw
      case rel => exact ⟨4, by omega, by go_num, rfl, HS3.out.1, HS3.out.2⟩
      case measure => simp [intOf]
    · have HS : Hid (Sm6 wr w.heap.size (.slice a1 a2 a3) (.slice b1 b2 b3) (.slice d1 d2 d3) (.slice e1 e2 e3) (.slice f1 f2 f3) (.slice j1 j2 j3) kp ka kb kx 0 0) := hs
      obtain ⟨⟨l0, l1, l2, l3, l4, l5⟩, -⟩ := row6 HS.out.l
      have HN := N4 wr HB.out
      clear hs
      go_wp2_with fail
      refine HN.mono ?_
      rintro e w2 ⟨rfl, hb2⟩
      have S2 := HS.out.keep hb2
      have B2 := HB.out.trans (hb2.mono HB.out.size)
      obtain ⟨⟨x0, x1, x2, x3, x4, x5⟩, y0, y1, y2, y3, y4, y5⟩ := row6 S2.a
      have bt := Bt.setCell (w.heap.size + 1 + 1 + 1 + 1) w2 4 (.int .i64 ky)
      have S3 : Sm6 (w2.setCell ⟨w.heap.size + 1 + 1 + 1 + 1, 4, none⟩ (.int .i64 ky)) w.heap.size (.slice a1 a2 a3) (.slice b1 b2 b3) (.slice d1 d2 d3) (.slice e1 e2 e3) (.slice f1 f2 f3) (.slice j1 j2 j3) kp ka kb kx ky 0 := ⟨bt_blk bt S2.r (by omega), bt_blk bt S2.o (by omega), bt_blk bt S2.l (by omega), heap_set7 w2 _ 4 (.int .i64 ky) _ _ _ S2.a⟩
      have HS3 : Hid (_ ∧ _) := ⟨S3, B2.trans (bt.below (by omega) B2.size)⟩
      clear l0 l1 l2 l3 l4 l5 S2 B2 bt S3 hb2 HN N0 N1 N2 N3 N4 N5 HS HB
      go_wp2
      go_roundw
      case rel => exact ⟨5, by omega, by go_num, rfl, HS3.out.1, HS3.out.2⟩
      case measure => simp [intOf]
    · have HS : Hid (Sm6 wr w.heap.size (.slice a1 a2 a3) (.slice b1 b2 b3) (.slice d1 d2 d3) (.slice e1 e2 e3) (.slice f1 f2 f3) (.slice j1 j2 j3) kp ka kb kx ky 0) := hs
      obtain ⟨⟨l0, l1, l2, l3, l4, l5⟩, -⟩ := row6 HS.out.l
      have HN := N5 wr HB.out
      clear hs
      go_wp2_with fail
      refine HN.mono ?_
      rintro e w2 ⟨rfl, hb2⟩
      have S2 := HS.out.keep hb2
      have B2 := HB.out.trans (hb2.mono HB.out.size)
      obtain ⟨⟨x0, x1, x2, x3, x4, x5⟩, y0, y1, y2, y3, y4, y5⟩ := row6 S2.a
      have bt := Bt.setCell (w.heap.size + 1 + 1 + 1 + 1) w2 5 (.int .i64 kn)
      have S3 : Sm6 (w2.setCell ⟨w.heap.size + 1 + 1 + 1 + 1, 5, none⟩ (.int .i64 kn)) w.heap.size (.slice a1 a2 a3) (.slice b1 b2 b3) (.slice d1 d2 d3) (.slice e1 e2 e3) (.slice f1 f2 f3) (.slice j1 j2 j3) kp ka kb kx ky kn := ⟨bt_blk bt S2.r (by omega), bt_blk bt S2.o (by omega), bt_blk bt S2.l (by omega), heap_set7 w2 _ 5 (.int .i64 kn) _ _ _ S2.a⟩
      have HS3 : Hid (_ ∧ _) := ⟨S3, B2.trans (bt.below (by omega) B2.size)⟩
      clear l0 l1 l2 l3 l4 l5 S2 B2 bt S3 hb2 HN N0 N1 N2 N3 N4 N5 HS HB
      go_wp2
      go_roundw
      case rel => exact ⟨6, by omega, by go_num, rfl, HS3.out.1, HS3.out.2⟩
      case measure => simp [intOf]
    · have HS : Hid (Sm6 wr w.heap.size (.slice a1 a2 a3) (.slice b1 b2 b3) (.slice d1 d2 d3) (.slice e1 e2 e3) (.slice f1 f2 f3) (.slice j1 j2 j3) kp ka kb kx ky kn) := hs
      obtain ⟨⟨x0, x1, x2, x3, x4, x5⟩, y0, y1, y2, y3, y4, y5⟩ := row6 HS.out.a
      obtain ⟨⟨o0, o1, o2, o3, o4, o5⟩, p0, p1, p2, p3, p4, p5⟩ := row6 HS.out.o
      obtain ⟨⟨r0, r1, r2, r3, r4, r5⟩, q0, q1, q2, q3, q4, q5⟩ := row6 HS.out.r
      clear hs N0 N1 N2 N3 N4 N5
      have R2 := row_set6 (bt_blk (bt_set6 wr (w.heap.size + 1 + 1) (.int .i64 kp) (.int .i64 ka) (.int .i64 kb) (.int .i64 kx) (.int .i64 ky) (.int .i64 kn)) HS.out.r (by omega)) (.int .i64 kp) (.int .i64 ka) (.int .i64 kb) (.int .i64 kx) (.int .i64 ky) (.int .i64 kn)
      have b1 := HB.out.trans ((bt_set6 wr (w.heap.size + 1 + 1) (.int .i64 kp) (.int .i64 ka) (.int .i64 kb) (.int .i64 kx) (.int .i64 ky) (.int .i64 kn)).below (by omega) HB.out.size)
      have b2 := b1.trans ((bt_set6 _ (w.heap.size + 1) (.int .i64 kp) (.int .i64 ka) (.int .i64 kb) (.int .i64 kx) (.int .i64 ky) (.int .i64 kn)).below (by omega) b1.size)
      have HR : Hid (_ ∧ _) := ⟨R2, b2⟩
      clear R2 b1 b2
      go_wp2
      refine bodyPost_ret (ret_cv rfl _ _ _ _ _ _ _ _ _ rfl HR.out.1) rfl ?_
      exact ⟨rfl, HR.out.2⟩
end Go.Proofs.Ytagljkbfgldlgaa
/-
  The signers: which curve, which secret.
-/
namespace Go.Proofs.Ytagljkbfgldlgaa
open Go.RowKit Go.Shelf
set_option linter.unusedVariables false
set_option linter.unusedSimpArgs false

/-- A signer's curve. -/
def sgC (k : Int) : Int := if k % 16 = 15 then -1 else k % 3
set_option maxHeartbeats 1000000 in
theorem sgCurve_any (k s : Int) (hk : 0 ≤ k ∧ k < 256) (w : World) : Calls Try.prog 5 #[.agg #[.int .u8 k, .int .u8 s]] w fun e w' => e = .returned (.int .i64 (sgC k)) ∧ Below w.heap.size w w' := by
  have b0 := balloc w (.cells #[.int .u8 k, .int .u8 s] 23)
  have t1 : k.tmod 16 = k % 16 := Int.tmod_eq_emod_of_nonneg hk.1
  have t2 : k.tmod 3 = k % 3 := Int.tmod_eq_emod_of_nonneg hk.1
  obtain ⟨a, ha⟩ : ∃ a, k % 16 = a := ⟨_, rfl⟩
  obtain ⟨b, hb⟩ : ∃ b, k % 3 = b := ⟨_, rfl⟩
  have ra : 0 ≤ a ∧ a < 16 := by omega
  have rb : 0 ≤ b ∧ b < 3 := by omega
  unfold sgC
  rw [ha] at t1 ⊢
  rw [hb] at t2 ⊢
  have wa : IntKind.u8.wrap a = a := by simp [IntKind.wrap, IntKind.bits, IntKind.signed]; omega
  have wb : IntKind.u8.wrap b = b := by simp [IntKind.wrap, IntKind.bits, IntKind.signed]; omega
  have wb2 : IntKind.i64.wrap b = b := IntWalk.i64_in _ (by omega)
  have HB : Hid (Below w.heap.size w _) := b0
  by_cases h : a = 15
  · rw [if_pos h]
    subst h
    clear ha hb ra rb b0
    go_enter Try.func5, Try.ntmps5
    go_wp2
    go_ret
    exact ⟨rfl, HB.out⟩
  · rw [if_neg h]
    have h1 : (a == 15) = false := by simp [h]
    clear ha hb ra rb b0
    go_enter Try.func5, Try.ntmps5
    go_wp2
    go_ret
    exact ⟨rfl, HB.out⟩
set_option maxHeartbeats 1000000 in
theorem sgSecret_any (k s : Int) (hs : 0 ≤ s ∧ s < 256) (w : World) : Calls Try.prog 24 #[.agg #[.int .u8 k, .int .u8 s]] w fun e w' => e = .returned (.int .i64 (1 + s)) ∧ Below w.heap.size w w' := by
  have b0 := balloc w (.cells #[.int .u8 k, .int .u8 s] 23)
  have w1 : IntKind.i64.wrap s = s := IntWalk.i64_in _ (by omega)
  have w2 : IntKind.i64.wrap (1 + s) = 1 + s := IntWalk.i64_in _ (by omega)
  have HB : Hid (Below w.heap.size w _) := b0
  clear b0
  go_enter Try.func24, Try.ntmps24
  go_wp2
  go_ret
  exact ⟨rfl, HB.out⟩
/-- A fact that stands while memory is made; and, if it says so, while a store S is done. -/
structure Fg (S : World → World → Prop) where
  sem : List Value → World → Prop
  keep : ∀ vs w w', Below w.heap.size w w' → sem vs w → sem vs w'
  store : ∀ vs w w', S w w' → sem vs w → sem vs w'
def Fg.eq {S : World → World → Prop} (e : Value) : Fg S := ⟨fun vs _ => vs.getD 0 undef = e, fun _ _ _ _ h => h, fun _ _ _ _ h => h⟩
theorem fg_keep {S : World → World → Prop} (fs : List (Fg S)) (j : Nat) (vs : List Value) {w w' : World} (hb : Below w.heap.size w w') (h : (fs.map Fg.sem).getD j (fun _ _ => True) vs w) : (fs.map Fg.sem).getD j (fun _ _ => True) vs w' := by
  rw [List.getD_eq_getElem?_getD, List.getElem?_map] at h ⊢
  cases hf : fs[j]? with
  | none => trivial
  | some f => rw [hf] at h; exact f.keep vs w w' hb h
theorem fg_store {S : World → World → Prop} (fs : List (Fg S)) (j : Nat) (vs : List Value) {w w' : World} (hs : S w w') (h : (fs.map Fg.sem).getD j (fun _ _ => True) vs w) : (fs.map Fg.sem).getD j (fun _ _ => True) vs w' := by
  rw [List.getD_eq_getElem?_getD, List.getElem?_map] at h ⊢
  cases hf : fs[j]? with
  | none => trivial
  | some f => rw [hf] at h; exact f.store vs w w' hs h
section
variable {ops : Array Oper} {S : World → World → Prop}
theorem GInv.growG {rd : List (List Nat)} {fs : List (Fg S)} {a0 : Act} {w0 : World} {listed : Array Bool} {a : Act} {w : World} (h : GInv .any ops rd (fs.map Fg.sem) a0 w0 listed a w) {i : Nat} {dst : Option Tmp} {KK : Act → World → Prop}
    (hK : ∀ v w', Below w0.heap.size w0 w' → (∀ j vs, listed.getD j false = true → (fs.map Fg.sem).getD j (fun _ _ => True) vs w → (fs.map Fg.sem).getD j (fun _ _ => True) vs w') → (fs.map Fg.sem).getD i (fun _ _ => True) ((rd.getD i []).map fun s => (a.put dst v).tmps.getD s undef) w' → KK (a.put dst v) w') (v : Value) (w' : World) (hb : Below w.heap.size w w') (hf : (fs.map Fg.sem).getD i (fun _ _ => True) ((rd.getD i []).map fun s => (a.put dst v).tmps.getD s undef) w') : KK (a.put dst v) w' :=
  hK v w' (h.below.trans (hb.mono h.below.size)) (fun j vs _ hj => fg_keep fs j vs hb hj) hf
end
/-- The cells of a key that is not yet one. -/
def KyB (w : World) (r : Nat) (x3 x4 x5 x6 : Value) (k c : Int) (b : Bool) : Prop := w.heap[r]? = some (.cells #[.int .u8 k, .int .i64 c, x3, x4, .bool b, x5, x6] 46 (0, 0))
theorem Nv.apartK {w w' : World} {v : Value} {n : Int} {L r : Nat} {a1 a2 a3 a4 : Option Addr} {l1 k1 l2 k2 l3 k3 l4 k4 : Nat} {k c : Int} {b : Bool} (h : Nv w v n L) (hs : KyB w r (.slice a1 l1 k1) (.slice a2 l2 k2) (.slice a3 l3 k3) (.slice a4 l4 k4) k c b) (hb : Bt r w w') : Nv w' v n L := by
  obtain ⟨ao, len, cap, xs, e, h1, h2, h3⟩ := h
  refine ⟨ao, len, cap, xs, e, ⟨⟨h1.len, ?_⟩, h1.lc, h1.cm, h1.nn, h1.dg, h1.sm⟩, h2, h3⟩
  by_cases h0 : len = 0
  · exact .inl h0
  · obtain ⟨b', off, e2, hlt, hc⟩ := h1.lies.at (by omega)
    have hne : b' ≠ r := fun e3 => by
      subst e3
      have h4 := hc 0 (by omega)
      rw [cell_of_row _ _ _ _ _ _ hs] at h4
      obtain ⟨o, ho⟩ : ∃ o, off + 0 = o := ⟨_, rfl⟩
      rw [ho] at h4
      match o, h4 with
      | 0, h4 => cases h4
      | 1, h4 => cases h4
      | 2, h4 => cases h4
      | 3, h4 => cases h4
      | 4, h4 => cases h4
      | 5, h4 => cases h4
      | 6, h4 => cases h4
      | k + 7, h4 => simp at h4
    exact .inr ⟨b', off, e2, Nat.lt_of_lt_of_le hlt hb.size, fun i hi => (World.cell?_of_block (w := w) (hb.block b' hlt hne)).trans (hc i hi)⟩
theorem row7 {W : World} {b : Nat} {c0 c1 c2 c3 c4 c5 c6 : Value} {t : TypeId} (h : W.heap[b]? = some (.cells #[c0, c1, c2, c3, c4, c5, c6] t (0, 0))) : (W.cell? ⟨b, 0, none⟩ = some c0 ∧ W.cell? ⟨b, 1, none⟩ = some c1 ∧ W.cell? ⟨b, 2, none⟩ = some c2 ∧ W.cell? ⟨b, 3, none⟩ = some c3 ∧ W.cell? ⟨b, 4, none⟩ = some c4 ∧ W.cell? ⟨b, 5, none⟩ = some c5 ∧ W.cell? ⟨b, 6, none⟩ = some c6) ∧ W.frozen? ⟨b, 0, none⟩ = false ∧ W.frozen? ⟨b, 1, none⟩ = false ∧ W.frozen? ⟨b, 2, none⟩ = false ∧ W.frozen? ⟨b, 3, none⟩ = false ∧ W.frozen? ⟨b, 4, none⟩ = false ∧ W.frozen? ⟨b, 5, none⟩ = false ∧ W.frozen? ⟨b, 6, none⟩ = false := by
  refine ⟨⟨?_, ?_, ?_, ?_, ?_, ?_, ?_⟩, frozen_of_row W b 0 _ _ h, frozen_of_row W b 1 _ _ h, frozen_of_row W b 2 _ _ h, frozen_of_row W b 3 _ _ h, frozen_of_row W b 4 _ _ h, frozen_of_row W b 5 _ _ h, frozen_of_row W b 6 _ _ h⟩ <;> (rw [cell_of_row _ _ _ _ _ _ h]; rfl)
abbrev set7 (W : World) (g : Nat) (d0 d1 d2 d3 d4 d5 d6 : Value) : World := ((((((W.setCell ⟨g, 0, none⟩ d0).setCell ⟨g, 1, none⟩ d1).setCell ⟨g, 2, none⟩ d2).setCell ⟨g, 3, none⟩ d3).setCell ⟨g, 4, none⟩ d4).setCell ⟨g, 5, none⟩ d5).setCell ⟨g, 6, none⟩ d6
theorem bt_set7 (W : World) (g : Nat) (d0 d1 d2 d3 d4 d5 d6 : Value) : Bt g W (set7 W g d0 d1 d2 d3 d4 d5 d6) := ((((((Bt.setCell g W 0 d0).trans (Bt.setCell g _ 1 d1)).trans (Bt.setCell g _ 2 d2)).trans (Bt.setCell g _ 3 d3)).trans (Bt.setCell g _ 4 d4)).trans (Bt.setCell g _ 5 d5)).trans (Bt.setCell g _ 6 d6)
theorem row_set7 {W : World} {g : Nat} {c0 c1 c2 c3 c4 c5 c6 : Value} {t : TypeId} (h : W.heap[g]? = some (.cells #[c0, c1, c2, c3, c4, c5, c6] t (0, 0))) (d0 d1 d2 d3 d4 d5 d6 : Value) : (set7 W g d0 d1 d2 d3 d4 d5 d6).heap[g]? = some (.cells #[d0, d1, d2, d3, d4, d5, d6] t (0, 0)) := by
  show ((((((((W.setCell ⟨g, 0, none⟩ d0).setCell ⟨g, 1, none⟩ d1).setCell ⟨g, 2, none⟩ d2).setCell ⟨g, 3, none⟩ d3).setCell ⟨g, 4, none⟩ d4).setCell ⟨g, 5, none⟩ d5).setCell ⟨g, 6, none⟩ d6)).heap[g]? = _
  have h1 : (W.setCell ⟨g, 0, none⟩ d0).heap[g]? = some (.cells #[d0, c1, c2, c3, c4, c5, c6] t (0, 0)) := heap_set7 W g 0 d0 _ _ _ h
  obtain ⟨W1, e1⟩ : ∃ WW : World, W.setCell ⟨g, 0, none⟩ d0 = WW := ⟨_, rfl⟩
  rw [e1] at h1 ⊢
  have h2 : (W1.setCell ⟨g, 1, none⟩ d1).heap[g]? = some (.cells #[d0, d1, c2, c3, c4, c5, c6] t (0, 0)) := heap_set7 W1 g 1 d1 _ _ _ h1
  obtain ⟨W2, e2⟩ : ∃ WW : World, W1.setCell ⟨g, 1, none⟩ d1 = WW := ⟨_, rfl⟩
  rw [e2] at h2 ⊢
  have h3 : (W2.setCell ⟨g, 2, none⟩ d2).heap[g]? = some (.cells #[d0, d1, d2, c3, c4, c5, c6] t (0, 0)) := heap_set7 W2 g 2 d2 _ _ _ h2
  obtain ⟨W3, e3⟩ : ∃ WW : World, W2.setCell ⟨g, 2, none⟩ d2 = WW := ⟨_, rfl⟩
  rw [e3] at h3 ⊢
  have h4 : (W3.setCell ⟨g, 3, none⟩ d3).heap[g]? = some (.cells #[d0, d1, d2, d3, c4, c5, c6] t (0, 0)) := heap_set7 W3 g 3 d3 _ _ _ h3
  obtain ⟨W4, e4⟩ : ∃ WW : World, W3.setCell ⟨g, 3, none⟩ d3 = WW := ⟨_, rfl⟩
  rw [e4] at h4 ⊢
  have h5 : (W4.setCell ⟨g, 4, none⟩ d4).heap[g]? = some (.cells #[d0, d1, d2, d3, d4, c5, c6] t (0, 0)) := heap_set7 W4 g 4 d4 _ _ _ h4
  obtain ⟨W5, e5⟩ : ∃ WW : World, W4.setCell ⟨g, 4, none⟩ d4 = WW := ⟨_, rfl⟩
  rw [e5] at h5 ⊢
  have h6 : (W5.setCell ⟨g, 5, none⟩ d5).heap[g]? = some (.cells #[d0, d1, d2, d3, d4, d5, c6] t (0, 0)) := heap_set7 W5 g 5 d5 _ _ _ h5
  obtain ⟨W6, e6⟩ : ∃ WW : World, W5.setCell ⟨g, 5, none⟩ d5 = WW := ⟨_, rfl⟩
  rw [e6] at h6 ⊢
  have h7 : (W6.setCell ⟨g, 6, none⟩ d6).heap[g]? = some (.cells #[d0, d1, d2, d3, d4, d5, d6] t (0, 0)) := heap_set7 W6 g 6 d6 _ _ _ h6
  exact h7
theorem sizeKy : (Try.prog.info? 46).map (·.size) = some 7 := by kernel_rfl
theorem ret_ky {fn : Func} {p : Tmp} (h : fn.results = #[.cell p 46]) (tmps : Array Value) (w : World) (g : Nat) (c0 c1 c2 c3 c4 c5 c6 : Value) (hp : tmps.getD p undef = .pointer (some ⟨g, 0, none⟩)) (hg : w.heap[g]? = some (.cells #[c0, c1, c2, c3, c4, c5, c6] 46 (0, 0))) :
    (results fn tmps).run Try.prog w = .ok (.agg #[c0, c1, c2, c3, c4, c5, c6]) w :=
  results_cell_row h tmps w g 46 _ (0, 0) _ hp hg Try.underlying46 rfl sizeKy
end Go.Proofs.Ytagljkbfgldlgaa
/-
  Regions that draw their order and only make memory: facts that growth keeps. No program in sight.
-/
namespace Go.Proofs.Ytagljkbfgldlgaa
open Go.Shelf Go.RowKit
set_option linter.unusedVariables false
set_option linter.unusedSimpArgs false

/-- A fact that stands while memory is made. -/
structure Fq where
  sem : List Value → World → Prop
  keep : ∀ vs w w', Below w.heap.size w w' → sem vs w → sem vs w'
def Fq.eq (e : Value) : Fq := ⟨fun vs _ => vs.getD 0 undef = e, fun _ _ _ _ h => h⟩
theorem fq_keep (fs : List Fq) (j : Nat) (vs : List Value) {w w' : World} (hb : Below w.heap.size w w') (h : (fs.map Fq.sem).getD j (fun _ _ => True) vs w) : (fs.map Fq.sem).getD j (fun _ _ => True) vs w' := by
  rw [List.getD_eq_getElem?_getD, List.getElem?_map] at h ⊢
  cases hf : fs[j]? with
  | none => trivial
  | some f => rw [hf] at h; exact f.keep vs w w' hb h
section
variable {P : Program} {ops : Array Oper} {Q : Exit → Act → World → Prop}
/-- An operation that only makes memory: what is asked of it. -/
theorem GInv.growQ {rd : List (List Nat)} {fs : List Fq} {a0 : Act} {w0 : World} {listed : Array Bool} {a : Act} {w : World} (h : GInv .any ops rd (fs.map Fq.sem) a0 w0 listed a w) {i : Nat} {dst : Option Tmp} {KK : Act → World → Prop}
    (hK : ∀ v w', Below w0.heap.size w0 w' → (∀ j vs, listed.getD j false = true → (fs.map Fq.sem).getD j (fun _ _ => True) vs w → (fs.map Fq.sem).getD j (fun _ _ => True) vs w') → (fs.map Fq.sem).getD i (fun _ _ => True) ((rd.getD i []).map fun s => (a.put dst v).tmps.getD s undef) w' → KK (a.put dst v) w') (v : Value) (w' : World) (hb : Below w.heap.size w w') (hf : (fs.map Fq.sem).getD i (fun _ _ => True) ((rd.getD i []).map fun s => (a.put dst v).tmps.getD s undef) w') : KK (a.put dst v) w' :=
  hK v w' (h.below.trans (hb.mono h.below.size)) (fun j vs _ hj => fq_keep fs j vs hb hj) hf
theorem GInv.keptQ {md : Region.Mode} {rd : List (List Nat)} {Fs : List (List Value → World → Prop)} {a0 : Act} {w0 : World} {listed : Array Bool} {a : Act} {w : World} (h : GInv md ops rd Fs a0 w0 listed a w) (s : Nat) (hs : (List.range ops.size).all (fun j => !dstIs ops j s) = true) : a.tmps.getD s undef = a0.tmps.getD s undef := by
  refine h.old s fun j _ => ?_
  rw [List.all_eq_true] at hs
  by_cases hjs : j < ops.size
  · simpa using hs j (List.mem_range.2 hjs)
  · unfold dstIs
    rw [Array.getElem?_eq_none (by omega)]
theorem wanted_q {ops : Array Oper} {a : Act} {j d : Nat} {b : Bool} {oj : Oper} (h1 : ops[j]? = some oj) (h2 : oj.dst = some d) (h : a.tmps.getD d undef = .bool b) : (yielded ops a.tmps j == some b) = true := by
  unfold yielded
  rw [h1]
  simp only [Option.bind_some, h2]
  rw [Array.getD_eq_getD_getElem?] at h
  cases he : a.tmps[d]? with
  | none => rw [he] at h; cases h
  | some v => rw [he] at h; simp only [Option.getD_some] at h; rw [h]; simp
end
end Go.Proofs.Ytagljkbfgldlgaa
/-
  A region that draws its order, whatever it does to memory: an invariant beside the facts. No program in sight.
-/
namespace Go.Proofs.Ytagljkbfgldlgaa
open Go.Shelf Go.RowKit
set_option linter.unusedVariables false
set_option linter.unusedSimpArgs false

section
variable {P : Program} {ops : Array Oper} {Q : Exit → Act → World → Prop} {md : Region.Mode}
/-- What holds while some have come. -/
structure GV (md : Region.Mode) (ops : Array Oper) (rd : List (List Nat)) (Fs : List (List Value → World → Prop)) (a0 : Act) (V : Array Bool → World → Prop) (listed : Array Bool) (a : Act) (w : World) : Prop where
  size : listed.size = ops.size
  defers : a.defers = a0.defers
  slots : a.tmps.size = a0.tmps.size
  old : ∀ s, (∀ j, listed.getD j false = true → dstIs ops j s = false) → a.tmps.getD s undef = a0.tmps.getD s undef
  inv : V listed w
  facts : ∀ j, listed.getD j false = true → Fs.getD j (fun _ _ => True) ((rd.getD j []).map fun s => a.tmps.getD s undef) w
  down : ∀ j, listed.getD j false = true → ∀ e ∈ needsOf md ops j, listed.getD e false = true
/-- All that stands behind operation i. -/
theorem GV.deep {rd : List (List Nat)} {Fs : List (List Value → World → Prop)} {a0 : Act} {V : Array Bool → World → Prop} {listed : Array Bool} {a : Act} {w : World} (h : GV md ops rd Fs a0 V listed a w) {i : Nat} (hr : ∀ e ∈ needsOf md ops i, listed.getD e false = true) (n e : Nat) (he : e ∈ reachOf md ops n i) : Fs.getD e (fun _ _ => True) ((rd.getD e []).map fun s => a.tmps.getD s undef) w :=
  h.facts e (reachN_sound (T := fun j => listed.getD j false = true) (fun x hx j hj => h.down x hx j hj) n _ hr e he)
theorem GV.stays {rd : List (List Nat)} {Fs : List (List Value → World → Prop)} {a0 : Act} {V : Array Bool → World → Prop} {listed : Array Bool} {a : Act} {w : World} (h : GV md ops rd Fs a0 V listed a w) {i : Nat} (hi : listed.getD i false = false) (n s : Nat) (hs : (List.range ops.size).all (fun j => !dstIs ops j s || (reachOf md ops n j).contains i || decide (i = j)) = true) : a.tmps.getD s undef = a0.tmps.getD s undef := by
  refine h.old s fun j hj => ?_
  rw [List.all_eq_true] at hs
  by_cases hjs : j < ops.size
  · have := hs j (List.mem_range.2 hjs)
    rw [Bool.or_eq_true, Bool.or_eq_true] at this
    rcases this with (this | this) | this
    · simpa using this
    · have hm : i ∈ reachOf md ops n j := by simpa using this
      have := reachN_sound (md := md) (ops := ops) (T := fun j => listed.getD j false = true) (fun x hx j hj => h.down x hx j hj) n _ (h.down j hj) i hm
      rw [hi] at this
      cases this
    · have : i = j := by simpa using this
      rw [this, hj] at hi
      cases hi
  · unfold dstIs
    rw [Array.getElem?_eq_none (by omega)]
/-- One step, and what is then asked. -/
def GVStep (P : Program) (Q : Exit → Act → World → Prop) (ops : Array Oper) (rd : List (List Nat)) (Fs : List (List Value → World → Prop)) (V : Array Bool → World → Prop) (i : Nat) (o : Oper) (listed : Array Bool) (a : Act) (w : World) : Prop :=
  ∀ KK : Act → World → Prop,
    (∀ v w', V (listed.setIfInBounds i true) w' → (∀ j vs, listed.getD j false = true → Fs.getD j (fun _ _ => True) vs w → Fs.getD j (fun _ _ => True) vs w') → Fs.getD i (fun _ _ => True) ((rd.getD i []).map fun s => (a.put o.dst v).tmps.getD s undef) w' → KK (a.put o.dst v) w') →
    if Region.wanted o (yielded ops a.tmps) = true then o.wp P a w KK Q else KK (a.put o.dst undef) w
theorem wpAny_inv (n : Nat) (rd : List (List Nat)) (Fs : List (List Value → World → Prop)) (ord : List Nat) (a0 : Act) (V : Array Bool → World → Prop) (hok : framesOk md ops n rd = true) (hord : orderOk md ops ord [] = true)
    (step : ∀ i o, ops[i]? = some o → ∀ listed a w, GV md ops rd Fs a0 V listed a w → listed.getD i false = false → (∀ e ∈ needsOf md ops i, listed.getD e false = true) → GVStep P Q ops rd Fs V i o listed a w)
    (done : ∀ listed a w, GV md ops rd Fs a0 V listed a w → (∀ i, i < ops.size → listed.getD i false = true) → Q .normal a w) :
    ∀ k listed a w, GV md ops rd Fs a0 V listed a w → unl ops.size listed = k → wpAny P md ops Q k listed a w
  | 0, listed, a, w, h, hk => by
    have hall : ∀ i, i < ops.size → listed.getD i false = true := fun i hi => by
      have h1 : (List.range ops.size).filter (fun j => !listed.getD j false) = [] := List.length_eq_zero_iff.1 hk
      rw [List.filter_eq_nil_iff] at h1
      have := h1 i (List.mem_range.2 hi)
      simpa using this
    refine ⟨?_, done listed a w h hall⟩
    cases hr : Region.ready md ops listed with
    | nil => rfl
    | cons i l =>
      obtain ⟨h1, h2, _⟩ := ready_mem (md := md) (ops := ops) (listed := listed) (i := i) (by rw [hr]; exact List.mem_cons_self)
      rw [getD_or _ _ (by rw [h.size]; exact h1), hall i h1] at h2
      cases h2
  | k + 1, listed, a, w, h, hk => by
    refine ⟨fun hr => ?_, fun i hi => ?_⟩
    · rcases order_all ord [] listed hord (fun i hi => by cases hi) h.size with h1 | ⟨i, hi⟩
      · exact done listed a w h h1
      · rw [hr] at hi; cases hi
    · obtain ⟨hi1, hi2, o, ho, hd⟩ := ready_mem hi
      rw [getD_or _ _ (by rw [h.size]; omega)] at hi2
      have hneed : ∀ e ∈ needsOf md ops i, listed.getD e false = true := fun e he => by
        obtain ⟨e', h1, h2, rfl⟩ := (needs_mem i o ho e).1 he
        exact hd e' h1 h2
      unfold wpOp
      rw [ho]
      simp only
      have hs := step i o ho listed a w h hi2 hneed (wpAny P md ops Q k (listed.setIfInBounds i true)) (by
        intro v w' hb hkeep hnew
        refine wpAny_inv n rd Fs ord a0 V hok hord step done k _ _ _ ?_ ?_
        · have hput : ∀ s, dstIs ops i s = false → (a.put o.dst v).tmps.getD s undef = a.tmps.getD s undef := fun s hs => by
            unfold dstIs at hs
            rw [ho] at hs
            cases hdst : o.dst with
            | none => rfl
            | some d =>
              refine put_get _ _ _ _ ?_
              rintro rfl
              simp [hdst] at hs
          refine ⟨by simp [h.size], ?_, ?_, ?_, hb, ?_, ?_⟩
          · cases hdst : o.dst <;> exact h.defers
          · rw [← h.slots]
            cases hdst : o.dst with
            | none => rfl
            | some d => simp [Act.put]
          · intro s hs
            have h1 := hs i (by rw [lget_set _ _ _ (by rw [h.size]; omega), if_pos rfl])
            rw [hput s h1]
            refine h.old s fun j hj => hs j ?_
            rw [lget_set _ _ _ (by rw [h.size]; omega)]
            split
            · rfl
            · exact hj
          · intro j hj
            rw [lget_set _ _ _ (by rw [h.size]; omega)] at hj
            by_cases hij : i = j
            · subst hij
              exact hnew
            · rw [if_neg hij] at hj
              have h5 := hkeep j _ hj (h.facts j hj)
              have e : ((rd.getD j []).map fun s => (a.put o.dst v).tmps.getD s undef) = ((rd.getD j []).map fun s => a.tmps.getD s undef) := by
                apply List.map_congr_left
                intro s hs
                refine hput s ?_
                unfold framesOk at hok
                rw [List.all_eq_true] at hok
                have h6 := hok i (List.mem_range.2 hi1)
                rw [Bool.and_eq_true, List.all_eq_true, List.all_eq_true] at h6
                by_cases hjs : j < ops.size
                · have h7 := h6.2 j (List.mem_range.2 hjs)
                  rw [List.all_eq_true] at h7
                  have h8 := h7 s hs
                  rw [Bool.or_eq_true, Bool.or_eq_true] at h8
                  rcases h8 with (h8 | h8) | h8
                  · simpa using h8
                  · exact absurd (by simpa using h8) hij
                  · have hm : i ∈ reachOf md ops n j := by simpa using h8
                    have := reachN_sound (md := md) (ops := ops) (T := fun j => listed.getD j false = true) (fun x hx j hj => h.down x hx j hj) n _ (h.down j hj) i hm
                    rw [hi2] at this
                    cases this
                · have : listed.getD j false = false := by
                    simp only [Array.getD_eq_getD_getElem?]
                    rw [Array.getElem?_eq_none (by rw [h.size]; omega)]
                    rfl
                  rw [this] at hj
                  cases hj
              rw [e]
              exact h5
          · intro j hj e he
            rw [lget_set _ _ _ (by rw [h.size]; omega)] at hj ⊢
            by_cases hie : i = e
            · rw [if_pos hie]
            · rw [if_neg hie]
              by_cases hij : i = j
              · subst hij
                exact hneed e he
              · rw [if_neg hij] at hj
                exact h.down j hj e he
        · have := unl_set ops.size listed i hi1 (by rw [h.size]; omega) hi2
          omega)
      by_cases hw : Region.wanted o (yielded ops a.tmps) = true
      · rw [if_pos hw] at hs ⊢
        exact .inl hs
      · rw [if_neg hw] at hs ⊢
        exact hs
/-- The rule. -/
theorem wp_region_inv {id : Nat} {a0 : Act} {w0 : World} (V : Array Bool → World → Prop) (hV0 : V (Array.replicate ops.size false) w0.drew) (n : Nat) (rd : List (List Nat)) (Fs : List (List Value → World → Prop)) (ord : List Nat) (hmx : P.follows .mixedOrders = true) (hok : framesOk .any ops n rd = true) (hord : orderOk .any ops ord [] = true)
    (step : ∀ i o, ops[i]? = some o → ∀ listed a w, GV .any ops rd Fs a0 V listed a w → listed.getD i false = false → (∀ e ∈ needsOf .any ops i, listed.getD e false = true) → GVStep P Q ops rd Fs V i o listed a w)
    (done : ∀ listed a w, GV .any ops rd Fs a0 V listed a w → (∀ i, i < ops.size → listed.getD i false = true) → Q .normal a w) : (Code.region id ops true).wp P Q a0 w0 := by
  have hrep : ∀ i, (Array.replicate ops.size false).getD i false = false := fun i => by
    simp only [Array.getD_eq_getD_getElem?]
    by_cases h : i < ops.size
    · rw [Array.getElem?_eq_getElem (by simpa using h)]; simp
    · rw [Array.getElem?_eq_none (by simpa using Nat.le_of_not_lt h)]; rfl
  refine wp_region_any hmx ?_
  have hu : unl ops.size (Array.replicate ops.size false) = ops.size := by
    unfold unl
    have : (List.range ops.size).filter (fun j => !(Array.replicate ops.size false).getD j false) = List.range ops.size := by
      rw [List.filter_eq_self]
      intro j _
      rw [hrep]
      rfl
    rw [this, List.length_range]
  exact wpAny_inv (P := P) (Q := Q) (md := .any) n rd Fs ord a0 V hok hord step done ops.size (Array.replicate ops.size false) a0 w0.drew ⟨by simp, rfl, rfl, fun _ _ => rfl, hV0, fun i hl => (by rw [hrep] at hl; cases hl), fun i hl => (by rw [hrep] at hl; cases hl)⟩ hu
theorem GV.keptQ {md : Region.Mode} {rd : List (List Nat)} {Fs : List (List Value → World → Prop)} {a0 : Act} {V : Array Bool → World → Prop} {listed : Array Bool} {a : Act} {w : World} (h : GV md ops rd Fs a0 V listed a w) (s : Nat) (hs : (List.range ops.size).all (fun j => !dstIs ops j s) = true) : a.tmps.getD s undef = a0.tmps.getD s undef := by
  refine h.old s fun j _ => ?_
  rw [List.all_eq_true] at hs
  by_cases hjs : j < ops.size
  · simpa using hs j (List.mem_range.2 hjs)
  · unfold dstIs
    rw [Array.getElem?_eq_none (by omega)]
end
end Go.Proofs.Ytagljkbfgldlgaa
/-
  Facts for the region that makes a signer's key.
-/
namespace Go.Proofs.Ytagljkbfgldlgaa
open Go.RowKit Go.Shelf
set_option linter.unusedVariables false
set_option linter.unusedSimpArgs false

theorem own_storeK {w w' : World} {B : Nat} {v : Value} {xs : List Int} {r : Nat} {x3 x4 x5 x6 : Value} {k c : Int} {b : Bool} (h : Own 3 .i64 w B v xs) (hs : KyB w r x3 x4 x5 x6 k c b) (hb : Bt r w w') : Own 3 .i64 w' B v xs := by
  refine ⟨h.1, ?_⟩
  rcases h.2 with h0 | ⟨g, cap, cur, rfl, hg, hrow, q⟩
  · exact .inl h0
  · refine .inr ⟨g, cap, cur, rfl, hg, ?_, q⟩
    rw [hb.block g (Array.getElem?_eq_some_iff.1 hrow).1 (fun e => by
      subst e
      unfold KyB at hs
      rw [hrow] at hs
      injection hs with hs
      injection hs with _ ht _
      exact absurd ht (by decide))]
    exact hrow
/-- What the store of the key does. -/
def KyS (r : Nat) (w w' : World) : Prop := KyB w r (.slice none 0 0) (.slice none 0 0) (.slice none 0 0) (.slice none 0 0) 0 0 false ∧ Bt r w w'
def Fg.num (r : Nat) (n : Int) : Fg (KyS r) := ⟨fun vs W => RvO W (vs.getD 0 undef) n, fun vs w w' hb h => by
  obtain ⟨B, xs, h1, h2⟩ := h
  exact ⟨B, xs, h1.below hb, h2⟩, fun vs w w' hs h => by
  obtain ⟨B, xs, h1, h2⟩ := h
  exact ⟨B, xs, own_storeK h1 hs.1 hs.2, h2⟩⟩
def Fg.nv (r : Nat) (n : Int) (L : Nat) : Fg (KyS r) := ⟨fun vs W => Nv W (vs.getD 0 undef) n L, fun vs w w' hb h => h.old hb, fun vs w w' hs h => h.apartK hs.1 hs.2⟩
def Fg.pa (r : Nat) (x y : Int) (L : Nat) : Fg (KyS r) := ⟨fun vs W => ∃ vx vy, vs.getD 0 undef = .agg #[vx, vy, .bool false] ∧ Nv W vx x L ∧ Nv W vy y L, fun vs w w' hb h => by
  obtain ⟨vx, vy, h1, h2, h3⟩ := h
  exact ⟨vx, vy, h1, h2.old hb, h3.old hb⟩, fun vs w w' hs h => by
  obtain ⟨vx, vy, h1, h2, h3⟩ := h
  exact ⟨vx, vy, h1, h2.apartK hs.1 hs.2, h3.apartK hs.1 hs.2⟩⟩
def Fg.ka (r : Nat) (j x y : Int) (L : Nat) : Fg (KyS r) := ⟨fun vs W => ∃ vx vy, vs.getD 0 undef = .agg #[.int .u8 1, .int .i64 j, vx, vy, .bool false, .slice none 0 0, .slice none 0 0] ∧ Nv W vx x L ∧ Nv W vy y L, fun vs w w' hb h => by
  obtain ⟨vx, vy, h1, h2, h3⟩ := h
  exact ⟨vx, vy, h1, h2.old hb, h3.old hb⟩, fun vs w w' hs h => by
  obtain ⟨vx, vy, h1, h2, h3⟩ := h
  exact ⟨vx, vy, h1, h2.apartK hs.1 hs.2, h3.apartK hs.1 hs.2⟩⟩
def Fg.st (r : Nat) (j x y : Int) (L : Nat) : Fg (KyS r) := ⟨fun vs W => ∃ vx vy, KyB W r vx vy (.slice none 0 0) (.slice none 0 0) 1 j false ∧ Nv W vx x L ∧ Nv W vy y L, fun vs w w' hb h => by
  obtain ⟨vx, vy, h1, h2, h3⟩ := h
  exact ⟨vx, vy, blk_old h1 hb, h2.old hb, h3.old hb⟩, fun vs w w' hs h => by
  obtain ⟨vx, vy, h1, h2, h3⟩ := h
  have h4 := hs.1
  unfold KyB at h1 h4
  rw [h1] at h4
  injection h4 with h4
  injection h4 with h4
  exact absurd (congrArg (fun a => a[0]?) h4) (by simp)⟩
/-- While the store of operation m is to come, only memory is made. -/
def VK (w W1 : World) (m : Nat) (listed : Array Bool) (W : World) : Prop := Below w.heap.size w W ∧ (listed.getD m false = false → Below W1.heap.size W1 W)
section
variable {ops : Array Oper} {rd : List (List Nat)} {a0 : Act} {w0 W1 : World} {m : Nat} {listed : Array Bool} {a : Act} {w : World}
theorem GV.yet {Fs : List (List Value → World → Prop)} (h : GV .any ops rd Fs a0 (VK w0 W1 m) listed a w) {i : Nat} (hi : listed.getD i false = false) (hm : i ∈ needsOf .any ops m) : listed.getD m false = false := by
  cases hc : listed.getD m false with
  | false => rfl
  | true => have := h.down m hc i hm; rw [hi] at this; cases this
theorem GV.growK {r : Nat} {fs : List (Fg (KyS r))} (h : GV .any ops rd (fs.map Fg.sem) a0 (VK w0 W1 m) listed a w) {i : Nat} (him : i ≠ m) {dst : Option Tmp} {KK : Act → World → Prop}
    (hK : ∀ v w', VK w0 W1 m (listed.setIfInBounds i true) w' → (∀ j vs, listed.getD j false = true → (fs.map Fg.sem).getD j (fun _ _ => True) vs w → (fs.map Fg.sem).getD j (fun _ _ => True) vs w') → (fs.map Fg.sem).getD i (fun _ _ => True) ((rd.getD i []).map fun s => (a.put dst v).tmps.getD s undef) w' → KK (a.put dst v) w') (v : Value) (w' : World) (hb : Below w.heap.size w w') (hf : (fs.map Fg.sem).getD i (fun _ _ => True) ((rd.getD i []).map fun s => (a.put dst v).tmps.getD s undef) w') : KK (a.put dst v) w' :=
  hK v w' ⟨bstep h.inv.1 hb, fun hl => by
    have e : (listed.setIfInBounds i true).getD m false = listed.getD m false := by
      simp only [Array.getD_eq_getD_getElem?]
      rw [Array.getElem?_setIfInBounds_ne him]
    rw [e] at hl
    exact bstep (h.inv.2 hl) hb⟩ (fun j vs _ hj => fg_keep fs j vs hb hj) hf
theorem GV.fillK {r : Nat} {fs : List (Fg (KyS r))} (h : GV .any ops rd (fs.map Fg.sem) a0 (VK w0 W1 m) listed a w) (hms : m < listed.size) {dst : Option Tmp} {KK : Act → World → Prop}
    (hK : ∀ v w', VK w0 W1 m (listed.setIfInBounds m true) w' → (∀ j vs, listed.getD j false = true → (fs.map Fg.sem).getD j (fun _ _ => True) vs w → (fs.map Fg.sem).getD j (fun _ _ => True) vs w') → (fs.map Fg.sem).getD m (fun _ _ => True) ((rd.getD m []).map fun s => (a.put dst v).tmps.getD s undef) w' → KK (a.put dst v) w') (v : Value) (w' : World) (hr : w0.heap.size ≤ r) (hs : KyS r w w') (hf : (fs.map Fg.sem).getD m (fun _ _ => True) ((rd.getD m []).map fun s => (a.put dst v).tmps.getD s undef) w') : KK (a.put dst v) w' :=
  hK v w' ⟨h.inv.1.trans (hs.2.below hr h.inv.1.size), fun hl => by
    have e : (listed.setIfInBounds m true).getD m false = true := by
      simp only [Array.getD_eq_getD_getElem?]
      rw [Array.getElem?_setIfInBounds_self_of_lt hms]
      rfl
    rw [e] at hl
    cases hl⟩ (fun j vs _ hj => fg_store fs j vs hs hj) hf
end
end Go.Proofs.Ytagljkbfgldlgaa
/-
  The contract of the document's Div.
-/
namespace Go.Proofs.Ytagljkbfgldlgaa
open Go.RowKit
set_option linter.unusedVariables false
set_option linter.unusedSimpArgs false

end Go.Proofs.Ytagljkbfgldlgaa
/-
  Contracts of the document's answer: so often multiplied (Twice) or divided (Half) by 2.
-/
namespace Go.Proofs.Ytagljkbfgldlgaa
open Go.RowKit
set_option linter.unusedVariables false
set_option linter.unusedSimpArgs false

theorem rhalf_val (xs : List Int) (hd : Dg D16 xs) (q r : Nat) : val D16 (xs.drop q) / 2 ^ r = val D16 xs / 2 ^ (16 * q + r) := by
  have hp : (0 : Int) < D16 ^ q := Int.pow_pos D16_pos
  rw [val_drop D16_pos xs hd, Int.pow_add, Int.pow_mul]
  have e : D16 = 2 ^ 16 := rfl
  rw [e] at hp ⊢
  rw [Int.ediv_ediv_of_nonneg (by omega)]
theorem NumIn.drop {k : IntKind} {B : Int} {w : World} {b off len cap : Nat} {xs : List Int} (h : NumIn k B w (some ⟨b, off, none⟩) len cap xs) (q : Nat) (hq : q ≤ len) : NumIn k B w (some ⟨b, off + q, none⟩) (len - q) (cap - q) (xs.drop q) := by
  have hl := h.len
  refine ⟨⟨by simp [hl], ?_⟩, by have := h.lc; omega, by have := h.cm; omega, (fun h => by cases h), h.dg.drop q, by have := h.sm; omega⟩
  by_cases h0 : len - q = 0
  · exact .inl h0
  · right
    obtain ⟨b', off', e, hlt, hc⟩ := h.lies.at (by omega)
    injection e with e
    injection e with e1 e2
    subst e1 e2
    refine ⟨b, off + q, rfl, hlt, fun i hi => ?_⟩
    rw [getD_drop, Nat.add_assoc]
    exact hc (q + i) (by omega)
theorem pow2_16 (r : Nat) (hr : r < 16) : (1 : Int) ≤ 2 ^ r ∧ (2 : Int) ^ r ≤ 32768 := by
  have h : ∀ r : Fin 16, (1 : Int) ≤ 2 ^ r.val ∧ (2 : Int) ^ r.val ≤ 32768 := by decide
  exact h ⟨r, hr⟩


end Go.Proofs.Ytagljkbfgldlgaa
/-
  The law EcdsaDigests.
-/
namespace Go.Proofs.Ytagljkbfgldlgaa
open Go.Shelf Go.RowKit
set_option linter.unusedVariables false
set_option linter.unusedSimpArgs false
theorem num_new (k : IntKind) (B : Int) (w : World) (xs : List Int) (t : TypeId) (hd : Dg B xs) (hs : xs.length ≤ 1000) : NumIn k B (w.alloc (.cells (xs.map (Value.int k)).toArray t)) (some ⟨w.heap.size, 0, none⟩) xs.length xs.length xs := by
  refine ⟨⟨rfl, .inr ⟨w.heap.size, 0, rfl, by rw [alloc_sz7]; omega, fun i hi => ?_⟩⟩, Nat.le_refl _, by unfold maxLen; omega, fun h => (by cases h), hd, by omega⟩
  rw [cell_of_row _ _ _ _ _ _ (heap_alloc_new w _)]
  simp [hi, List.getD_eq_getElem?_getD]
set_option maxRecDepth 100000 in
set_option maxHeartbeats 2000000 in
theorem EAwake_any (w : World) : Calls Try.prog 4 #[] w fun e w' => e = .returned (.bool true) ∧ Below w.heap.size w w' := by
  go_enter Try.func4, Try.ntmps4
  go_wp2_with fail
  refine (Curves_any w).mono ?_
  rintro e w2 ⟨v, xs, rfl, ho, hl, hb2⟩
  obtain ⟨g, cap, rfl, hcap, hcm, hall⟩ := cur_at ho hl
  obtain ⟨g1, g2, oo, lo, co, b0, b1, b2, b3, b4, b5, hA, hcu⟩ := hall 0 (by decide)
  have HA : Hid (CuAt w2 g 0 g1 g2 oo lo co b0 b1 b2 b3 b4 b5) := hA
  have HCU : Hid (Cu w2 (curV g1 g2 oo lo co b0 b1 b2 b3 b4 b5) (curZ 0) 1) := hcu
  have x0 : w2.cell? ⟨g, 0, none⟩ = _ := hA.c0
  have x1 : w2.cell? ⟨g, 1, none⟩ = _ := hA.c1
  have x2 : w2.cell? ⟨g, 2, none⟩ = _ := hA.c2
  have x3 : w2.cell? ⟨g, 3, none⟩ = _ := hA.c3
  have x4 : w2.cell? ⟨g, 4, none⟩ = _ := hA.c4
  have x5 : w2.cell? ⟨g, 5, none⟩ = _ := hA.c5
  have x6 : w2.cell? ⟨g, 6, none⟩ = _ := hA.c6
  have x7 : w2.cell? ⟨g, 7, none⟩ = _ := hA.c7
  have x8 : w2.cell? ⟨g, 8, none⟩ = _ := hA.c8
  clear hA hcu hall ho hl
  unfold maxLen at hcm
  have hn1 : NumIn .u8 256 (w2.alloc (.cells #[.int .u8 255, .int .u8 255] 5)) (some ⟨w2.heap.size, 0, none⟩) 2 2 [255, 255] := num_new .u8 256 w2 [255, 255] 5 (by intro x hx; simp at hx; omega) (by decide)
  have ba := (Below.refl w2.heap.size w2).alloc (Nat.le_refl _) (.cells #[.int .u8 255, .int .u8 255] 5)
  have HD := Digest_any _ _ 1 _ 2 2 [255, 255] _ (HCU.out.old ba) (by decide) hn1 (by decide)
  have hz : digZ (curZ 0).n 2 [255, 255] = 511 := by decide +kernel
  rw [hz] at HD
  clear HA HCU hz
  go_wp2_with fail
  clear x0 x1 x2 x3 x4 x5 x6 x7 x8
  go_at_call 16
  refine HD.mono ?_
  rintro e w3 ⟨v, rfl, p1, p2, p3, p4, rfl, hp, hcan, hv, _, hb3⟩
  have e1 := canon_inj B64_one hp.dg (show Dg B64 [511] by intro x hx; simp at hx; unfold B64; omega) hcan (show Canon [511] from rfl) (by rw [hv]; decide)
  subst e1
  have hpl := hp.len
  obtain rfl : 1 = p2 := hpl
  have hn2 : NumIn .u64 B64 (w3.alloc (.cells #[.int .u64 511] 50)) (some ⟨w3.heap.size, 0, none⟩) 1 1 [511] := num_new .u64 B64 w3 [511] 50 (by intro x hx; simp at hx; unfold B64; omega) (by decide)
  have bb := (Below.refl w3.heap.size w3).alloc (Nat.le_refl _) (.cells #[.int .u64 511] 50)
  have HS := Same_yes p1 _ 1 p3 1 [511] _ (hp.old bb).lies hn2.lies (by decide)
  clear HD
  go_wp2_with fail
  go_at_call 15
  refine HS.mono ?_
  rintro e w4 ⟨rfl, hdr⟩
  go_wp2
  go_ret
  have b3 := ((hb2.trans (ba.mono hb2.size)).trans (hb3.mono (Nat.le_trans hb2.size ba.size)))
  exact ⟨rfl, b3.trans ((bb.trans ((hdr.below _).mono bb.size)).mono b3.size)⟩
theorem big_len {ds : List Int} {V : Int} {n : Nat} (hd : Dg D16 ds) (hc : Canon ds) (hv : val D16 ds = V) (hV : V < 256 ^ n) (hn : n ≤ 512) : ds.length ≤ 256 := by
  have h := len_fit (B := D16) (by decide) hd hc (ys := List.replicate 256 65535) (fun x hx => by rw [(List.mem_replicate.1 hx).2]; decide) (by
    have h1 : val D16 (List.replicate 256 65535) = 256 ^ 512 - 1 := by decide +kernel
    have h2 := pow_mono (B := 256) (by decide) hn
    rw [h1, hv]
    omega)
  rw [List.length_replicate] at h
  exact h
end Go.Proofs.Ytagljkbfgldlgaa
/-
  Arguments that came in, opened: a point, a signer.
-/
namespace Go.Proofs.Ytagljkbfgldlgaa
open Go.RowKit Go.ChangeShapes Go.WideShapes Go.ChangeShapes
set_option linter.unusedVariables false

theorem trod_struct3 {H : Type} {enc : TypeId × Value → H} {P : Program} {w : World} {base : Nat} {spare : Nat → Bool} {held : Bool} {t : TypeId} {f0 f1 f2 : Field} {fuel : Nat} {cs : List Value} {x : DataW H × List MemPlace} (ht : P.underlying t = some (.struct #[f0, f1, f2])) (h : DataW.trod enc P w base spare held fuel t cs = some x) :
    ∃ y0 y1 y2 n, cs.length = P.cellsOf t ∧ DataW.trod enc P w base spare held n f0.type ((cs.drop f0.offset).take (P.cellsOf f0.type)) = some y0 ∧
      DataW.trod enc P w base spare held n f1.type ((cs.drop f1.offset).take (P.cellsOf f1.type)) = some y1 ∧ DataW.trod enc P w base spare held n f2.type ((cs.drop f2.offset).take (P.cellsOf f2.type)) = some y2 := by
  obtain ⟨xs, n, _, rfl, hl, hlen, hf⟩ := DataW.trod_struct ht h
  match xs, hlen with
  | [y0, y1, y2], _ => exact ⟨y0, y1, y2, n, hl, by simpa using hf 0 f0 rfl, by simpa using hf 1 f1 rfl, by simpa using hf 2 f2 rfl⟩
theorem open_nat {H : Type} {enc : TypeId × Value → H} {w : World} {held : Bool} {n : Nat} (v : Value) (y : DataW H × List MemPlace) (g : DataW.trod enc Try.prog w 0 (fun _ => true) held n 29 [v] = some y) : ∃ a l c z, v = .slice a l c ∧ Came .u64 w a l c z := by
  rcases open_ints Try.underlying29 Try.underlying50 (by kernel_rfl) g with ⟨hcs, _⟩ | ⟨x, l, c, zs, hcs, _, hl, hm, hz, _, hcell, hwz⟩
  · cases hcs
    exact ⟨none, 0, 0, [], rfl, .inl ⟨rfl, rfl, rfl, rfl⟩⟩
  · cases hcs
    exact ⟨_, _, _, zs, rfl, .inr ⟨_, rfl, hl, hm, by simpa using hz, hcell, hwz⟩⟩
theorem ptFields : ∃ f0 f1 f2 : Field, Try.prog.underlying 42 = some (.struct #[f0, f1, f2]) ∧ f0.offset = 0 ∧ f1.offset = 1 ∧ f2.offset = 2 ∧ f0.type = 29 ∧ f1.type = 29 ∧ f2.type = 4 := ⟨_, _, _, Try.underlying42, rfl, rfl, rfl, rfl, rfl, rfl⟩
theorem open_pt {H : Type} {enc : TypeId × Value → H} {w : World} {held : Bool} {fuel : Nat} {cs : Array Value} {x : DataW H × List MemPlace} (h : DataW.trod enc Try.prog w 0 (fun _ => true) held fuel 42 cs.toList = some x) :
    ∃ (a1 : Option Addr) (l1 c1 : Nat) (z1 : List Int) (a2 : Option Addr) (l2 c2 : Nat) (z2 : List Int) (b : Bool), cs = #[.slice a1 l1 c1, .slice a2 l2 c2, .bool b] ∧ Came .u64 w a1 l1 c1 z1 ∧ Came .u64 w a2 l2 c2 z2 := by
  obtain ⟨f0, f1, f2, hu, o0, o1, o2, t0, t1, t2⟩ := ptFields
  have hc : Try.prog.cellsOf 29 = 1 := by kernel_rfl
  have hcb : Try.prog.cellsOf 4 = 1 := by kernel_rfl
  have hc3 : Try.prog.cellsOf 42 = 3 := by kernel_rfl
  obtain ⟨y0, y1, y2, n, hl, g0, g1, g2⟩ := trod_struct3 hu h
  rw [hc3] at hl
  rw [o0, t0, hc] at g0
  rw [o1, t1, hc] at g1
  rw [o2, t2, hcb] at g2
  obtain ⟨v0, v1, v2, hcs⟩ : ∃ v0 v1 v2, cs.toList = [v0, v1, v2] := by
    match hh : cs.toList, hl with
    | [v0, v1, v2], _ => exact ⟨v0, v1, v2, rfl⟩
  rw [hcs] at g0 g1 g2
  simp only [List.drop_zero, List.drop_succ_cons, List.take_succ_cons, List.take_zero] at g0 g1 g2
  obtain ⟨a1, l1, c1, z1, rfl, w1⟩ := open_nat _ _ g0
  obtain ⟨a2, l2, c2, z2, rfl, w2⟩ := open_nat _ _ g1
  obtain ⟨b, rfl⟩ : ∃ b, v2 = .bool b := by
    obtain ⟨b, e0, _⟩ := DataW.trod_bool Try.underlying4 g2
    cases e0
    exact ⟨b, rfl⟩
  exact ⟨a1, l1, c1, z1, a2, l2, c2, z2, b, Array.ext' hcs, w1, w2⟩
theorem sgFields : ∃ f0 f1 : Field, Try.prog.underlying 23 = some (.struct #[f0, f1]) ∧ f0.offset = 0 ∧ f1.offset = 1 ∧ f0.type = 5 ∧ f1.type = 5 := ⟨_, _, Try.underlying23, rfl, rfl, rfl, rfl⟩
theorem open_sg {H : Type} {enc : TypeId × Value → H} {w : World} {held : Bool} {fuel : Nat} {cs : Array Value} {x : DataW H × List MemPlace} (h : DataW.trod enc Try.prog w 0 (fun _ => true) held fuel 23 cs.toList = some x) :
    ∃ (k s : Int), cs = #[.int .u8 k, .int .u8 s] ∧ (0 ≤ k ∧ k < 256) ∧ (0 ≤ s ∧ s < 256) := by
  obtain ⟨f0, f1, hu, o0, o1, t0, t1⟩ := sgFields
  have hc : Try.prog.cellsOf 5 = 1 := by kernel_rfl
  have hc2 : Try.prog.cellsOf 23 = 2 := by kernel_rfl
  obtain ⟨y0, y1, n, _, hl, g0, g1⟩ := trod_struct2 hu h
  rw [hc2] at hl
  rw [o0, t0, hc] at g0
  rw [o1, t1, hc] at g1
  obtain ⟨v0, v1, hcs⟩ : ∃ v0 v1, cs.toList = [v0, v1] := by
    match hh : cs.toList, hl with
    | [v0, v1], _ => exact ⟨v0, v1, rfl⟩
  rw [hcs] at g0 g1
  simp only [List.drop_zero, List.drop_succ_cons, List.take_succ_cons, List.take_zero] at g0 g1
  have one : ∀ (v : Value) (y : DataW H × List MemPlace), DataW.trod enc Try.prog w 0 (fun _ => true) held n 5 [v] = some y → ∃ t, v = .int .u8 t ∧ (0 ≤ t ∧ t < 256) := fun v y g => by
    obtain ⟨z, e0, _, hz⟩ := DataW.trod_int (k := .u8) Try.underlying5 g
    cases e0
    exact ⟨z, rfl, word_u8 hz⟩
  obtain ⟨k, rfl, hk⟩ := one _ _ g0
  obtain ⟨s, rfl, hs⟩ := one _ _ g1
  exact ⟨k, s, Array.ext' hcs, hk, hs⟩
end Go.Proofs.Ytagljkbfgldlgaa
/-
  Of right curves all sums, and what Verify says, exist. No program in sight.
-/
namespace Go.Proofs.Ytagljkbfgldlgaa
open Go.RowKit Go.Shelf
set_option linter.unusedVariables false
set_option linter.unusedSimpArgs false

theorem inv_ex {m a : Int} (hm : 0 < m) (h : gd m (a % m) = 1) : ∃ i, 0 ≤ i ∧ i < m ∧ Cg m (i * a) 1 := by
  have h0 := Int.emod_nonneg a (b := m) (by omega)
  obtain ⟨x, y, hxy⟩ := bez m.toNat (a % m).toNat
  unfold gd at h
  rw [h, show ((m.toNat : Nat) : Int) = m by omega, show (((a % m).toNat : Nat) : Int) = a % m by omega] at hxy
  refine ⟨y % m, Int.emod_nonneg _ (by omega), Int.emod_lt_of_pos _ hm, ?_⟩
  have h1 : Cg m (y % m * a) (y * (a % m)) := (Cg.mod m y).mul (Cg.mod m a).symm
  refine h1.trans ⟨-x, ?_⟩
  rw [Int.mul_neg, Int.mul_comm y]
  omega
theorem add_some {P : Nat} [NeZero P] {K : Cz} (g : GoodK K P) (p q : Pz) : ∃ s, AddZ K p q (some s) := by
  cases hpi : p.inf with
  | true => exact ⟨ownZ q, by unfold AddZ; rw [if_neg (good_p0 g), hpi, if_pos rfl]⟩
  | false =>
    cases hqi : q.inf with
    | true => exact ⟨ownZ p, by unfold AddZ; rw [if_neg (good_p0 g), hpi, hqi, if_neg (by simp), if_pos rfl]⟩
    | false =>
      by_cases h : runZ K p q = 0
      · exact ⟨noZ, by unfold AddZ; rw [if_neg (good_p0 g), hpi, hqi, if_neg (by simp), if_neg (by simp)]; unfold AddN; rw [if_pos h]⟩
      · have hP : 0 < K.p := by rw [g.p]; exact ppos P
        have e : runZ K p q % K.p = runZ K p q := by
          unfold runZ
          split
          · exact Int.emod_emod _ _
          · exact Int.emod_emod _ _
        have hg := (gdP g (runZ K p q) (by rw [e]; exact h)).1
        obtain ⟨n, h1, h2, h3⟩ := inv_ex hP hg
        exact ⟨_, by unfold AddZ; rw [if_neg (good_p0 g), hpi, hqi, if_neg (by simp), if_neg (by simp)]; unfold AddN; rw [if_neg h, if_neg (by rw [hg]; simp)]; exact ⟨n, h1, h2, h3, rfl⟩⟩
theorem verZ_ex {P : Nat} [NeZero P] {K : Cz} (g : GoodK K P) (hb : Gd K P (baseZ K)) (hN : 0 < K.n) (q : Pz) (hq : 0 ≤ q.x ∧ 0 ≤ q.y) (z x y : Int) : ∃ b, VerZ K P q z x y b := by
  by_cases h : VerNo K q x y
  · exact ⟨false, .inl ⟨h, rfl⟩⟩
  · have hqi : q.inf = false := by
      cases hc : q.inf with
      | false => rfl
      | true => exact absurd (.inl hc) h
    have hon : onB K q = true := by
      cases hc : onB K q with
      | true => rfl
      | false => exact absurd (.inr (.inl hc)) h
    have hg : gd K.n (y % K.n) = 1 := Classical.byContradiction fun h' => h (.inr (.inr (.inr (.inr h'))))
    have hG := good_on g hqi hq.1 hq.2 hon
    obtain ⟨i, h1, h2, h3⟩ := inv_ex hN hg
    obtain ⟨p1, hp1⟩ := mt_ex g hb ((z * i) % K.n).toNat
    obtain ⟨p2, hp2⟩ := mt_ex g hG ((x * i) % K.n).toNat
    obtain ⟨p3, hp3⟩ := add_some g p1 p2
    exact ⟨_, .inr ⟨h, i, p1, p2, p3, ⟨h1, h2, h3⟩, hp1, hp2, hp3, rfl⟩⟩
theorem verZ_of {P : Nat} [NeZero P] {K : Cz} {p : Pz} {z x y : Int} {b : Bool} (ho : ofB p = true) (h : VerZ K P (ofZ p) z x y b) : VerZ K P p z x y b := by
  obtain ⟨px, py, pi⟩ := p
  cases pi with
  | true =>
    have h1 : VerNo K (ofZ ⟨px, py, true⟩) x y := .inl rfl
    rcases h with ⟨_, rfl⟩ | ⟨h2, _⟩
    · exact .inl ⟨.inl rfl, rfl⟩
    · exact absurd h1 h2
  | false =>
    unfold ofB at ho
    simp only [Bool.false_or, Bool.and_eq_true, decide_eq_true_eq] at ho
    have e : ofZ ⟨px, py, false⟩ = ⟨px, py, false⟩ := by
      unfold ofZ n31
      rw [if_neg (by simp), if_pos ho.1, if_pos ho.2]
    rwa [e] at h
theorem verZ_big {P : Nat} [NeZero P] {K : Cz} {p : Pz} {z x y : Int} {b : Bool} (hp : K.p < 2147483648) (ho : ofB p = false) (h : VerZ K P p z x y b) : b = false := by
  rcases h with ⟨_, rfl⟩ | ⟨h2, _⟩
  · rfl
  · exfalso
    apply h2
    right; left
    unfold ofB at ho
    unfold onB
    rw [Bool.or_eq_false_iff] at ho
    rw [ho.1, Bool.false_or]
    by_cases hx : p.x < K.p
    · by_cases hy : p.y < K.p
      · have := ho.2
        simp at this
        omega
      · simp [hy]
    · simp [hx]
end Go.Proofs.Ytagljkbfgldlgaa
/-
  What a right signer signs is right: the equation of the sums. No program in sight.
-/
namespace Go.Proofs.Ytagljkbfgldlgaa
open Go.RowKit Go.Shelf
set_option linter.unusedVariables false
set_option linter.unusedSimpArgs false

section
variable {P N : Nat} [NeZero P] {K : Cz}
theorem mt_rounds (g : GoodK K P) {G : Pz} (hG : Gd K P G) (hN : Mt K P G N noZ) {a : Nat} {p : Pz} (h : Mt K P G a p) (k : Nat) : Mt K P G (a + k * N) p := by
  induction k with
  | zero => rwa [Nat.zero_mul, Nat.add_zero]
  | succ k ih => rw [Nat.succ_mul, ← Nat.add_assoc]; exact Mt.round g hG hN ih
theorem mt_same (g : GoodK K P) {G : Pz} (hG : Gd K P G) (hN : Mt K P G N noZ) {a b : Nat} (hab : a % N = b % N) {p : Pz} (h : Mt K P G a p) : Mt K P G b p := by
  obtain ⟨q, hq⟩ := mt_ex g hG (a % N)
  have h1 := mt_rounds g hG hN hq (a / N)
  have h2 := mt_rounds g hG hN hq (b / N)
  rw [Nat.mul_comm, Nat.mod_add_div] at h1
  rw [hab, Nat.mul_comm, Nat.mod_add_div] at h2
  have h2' : Mt K P G b q := by
    have := mt_rounds g hG hN hq (b / N)
    rw [hab, Nat.mul_comm, Nat.mod_add_div] at this
    exact this
  rwa [Mt.uniq g h h1]
theorem mt_comp (g : GoodK K P) {G : Pz} (hG : Gd K P G) {a : Nat} {q : Pz} (hq : Mt K P G a q) (k : Nat) : ∀ p, Mt K P q k p → Mt K P G (k * a) p := by
  have hgq := hq.gd hG
  induction k with
  | zero =>
    intro p hp
    rw [Nat.zero_mul, Mt.uniq g hp Mt.zero]
    exact Mt.zero
  | succ k ih =>
    intro p hp
    obtain ⟨p0, h0⟩ := mt_ex g hgq k
    obtain ⟨s, hs⟩ := add_some g p0 q
    obtain ⟨s1, e1, h1⟩ := Mt.add g hgq h0 (Mt.one g hgq) hs
    injection e1 with e1
    subst e1
    rw [Mt.uniq g hp h1, Nat.succ_mul]
    obtain ⟨s2, e2, h2⟩ := Mt.add g hG (ih p0 h0) hq hs
    injection e2 with e2
    subst e2
    exact h2
/-- Below a prime order no multiple is the point at infinity. -/
theorem mt_fin (R : RightK K P N) (hp : PrimeN N) (hb : (baseZ K).inf = false) {m : Nat} (h0 : 0 < m) (hm : m < N) {q : Pz} (h : Mt K P (baseZ K) m q) : q.inf = false := by
  cases hi : q.inf with
  | false => rfl
  | true =>
    exfalso
    have hN0 : 0 < N := by omega
    have e : q = noZ := by
      have h1 := h.1
      unfold RdP at h1
      rw [hi, if_pos rfl] at h1
      first
        | exact h1
        | (obtain ⟨qx, qy, qi⟩ := q
           simp only at h1 hi
           unfold noZ
           obtain ⟨ha, hb⟩ := h1
           subst ha hb hi
           rfl)
    rw [e] at h
    have hg := gd_prime hp (m : Int) (by omega) (by omega)
    obtain ⟨i, hi0, hi1, hi2⟩ := inv_ex (m := (N : Int)) (a := (m : Int)) (by omega) hg
    have h2 := Mt.times R.good R.base h i.toNat
    have e2 : (i.toNat * m) % N = 1 % N := by
      have := hi2.emod
      have e3 : ((i.toNat * m : Nat) : Int) = i * m := by rw [Int.natCast_mul]; congr 1; omega
      rw [← e3] at this
      exact_mod_cast this
    have h3 := mt_same R.good R.base R.ord e2 h2
    have h4 := Mt.uniq R.good h3 (Mt.one R.good R.base)
    rw [← h4] at hb
    cases hb
theorem sgn_ver (R : RightK K P N) (hp : PrimeN N) {z secret draw r s : Int} {q : Pz} (h1 : 0 < secret) (h2 : secret < N) (hd : 0 < draw ∧ draw < N) (hq : Mt K P (baseZ K) secret.toNat q) (h : SgnZ K P z secret draw r s) : VerZ K P q z r s true := by
  obtain ⟨p, i, hpp, hpi, rfl, hr0, ⟨hi0, hi1, hi2⟩, hs, hs0⟩ := h
  have hN0 : (0 : Int) < N := by omega
  have hqi := mt_fin R hp rfl (by omega) (by omega) hq
  have hon := on_good R.good (hq.gd R.base)
  have hn := R.n
  rw [hn] at hi1 hi2 hs hr0 ⊢
  obtain ⟨r, hr⟩ : ∃ r, p.x % (N : Int) = r := ⟨_, rfl⟩
  rw [hr] at hs hr0 ⊢
  have rr : 0 ≤ r ∧ r < N := by rw [← hr]; exact ⟨Int.emod_nonneg _ (by omega), Int.emod_lt_of_pos _ hN0⟩
  have rs : 0 ≤ s ∧ s < N := by rw [hs]; exact ⟨Int.emod_nonneg _ (by omega), Int.emod_lt_of_pos _ hN0⟩
  have hg := gd_prime hp s (by omega) rs.2
  obtain ⟨y, hy0, hy1, hy2⟩ := inv_ex (m := (N : Int)) (a := s) hN0 hg
  obtain ⟨p1, hp1⟩ := mt_ex R.good R.base ((z * y) % (N : Int)).toNat
  obtain ⟨p2, hp2⟩ := mt_ex R.good (hq.gd R.base) ((r * y) % (N : Int)).toNat
  obtain ⟨p3, hp3⟩ := add_some R.good p1 p2
  have hc := mt_comp R.good R.base hq _ _ hp2
  obtain ⟨p4, e4, h4⟩ := Mt.add R.good R.base hp1 hc hp3
  injection e4 with e4
  subst e4
  have g1 := Int.emod_nonneg (z * y) (b := (N : Int)) (by omega)
  have g2 := Int.emod_nonneg (r * y) (b := (N : Int)) (by omega)
  have key : Cg (N : Int) ((z * y) % N + (r * y) % N * secret) draw := by
    have c1 : Cg (N : Int) ((z * y) % N + (r * y) % N * secret) (z * y + r * y * secret) := (Cg.mod _ _).add ((Cg.mod _ _).mul (Cg.refl _ _))
    have c2 : Cg (N : Int) s ((z + r * secret) * i) := by
      rw [hs]
      exact (Cg.mod _ _).trans (((Cg.mod _ _).trans ((Cg.refl _ _).add (Cg.mod _ _))).mul (Cg.refl _ _))
    have c3 : Cg (N : Int) (y * ((z + r * secret) * i) * draw) draw := by
      have := ((Cg.refl (N : Int) y).mul c2).symm.trans hy2
      have := this.mul (Cg.refl _ draw)
      rwa [Int.one_mul] at this
    have c4 : Cg (N : Int) (y * ((z + r * secret) * i) * draw) (z * y + r * y * secret) := by
      have := (Cg.refl (N : Int) (z * y + r * y * secret)).mul hi2
      rw [Int.mul_one] at this
      refine Cg.trans (Cg.of_eq ?_) this
      grind
    exact c1.trans (c4.symm.trans c3)
  have e5 : (((z * y) % (N : Int)).toNat + ((r * y) % (N : Int)).toNat * secret.toNat) % N = draw.toNat % N := by
    have := key.emod
    have e6 : (((((z * y) % (N : Int)).toNat + ((r * y) % (N : Int)).toNat * secret.toNat : Nat)) : Int) = (z * y) % N + (r * y) % N * secret := by
      rw [Int.natCast_add, Int.natCast_mul, Int.toNat_of_nonneg g1, Int.toNat_of_nonneg g2, Int.toNat_of_nonneg (by omega)]
    have e7 : ((draw.toNat : Nat) : Int) = draw := by omega
    rw [← e6, ← e7] at this
    exact_mod_cast this
  have h5 := mt_same R.good R.base R.ord e5 h4
  have e8 := Mt.uniq R.good h5 hpp
  subst e8
  refine .inr ⟨?_, y, p1, p2, p3, ?_, ?_, ?_, hp3, ?_⟩
  · unfold VerNo
    rw [hn, hqi, hon, hg]
    intro hno
    rcases hno with h | h | h | h | h
    · cases h
    · cases h
    · exact h ⟨by omega, rr.2⟩
    · exact h ⟨by omega, rs.2⟩
    · exact h rfl
  · rw [hn]; exact ⟨hy0, hy1, hy2⟩
  · rw [hn]; exact hp1
  · rw [hn]; exact hp2
  · rw [hpi, hn, hr]; simp
end
theorem curS31 (j : Nat) : S31 (curZ j).p ∧ S31 (curZ j).a ∧ S31 (curZ j).b ∧ S31 (curZ j).gx ∧ S31 (curZ j).gy ∧ S31 (curZ j).n := by
  unfold curZ S31
  split <;> decide
theorem curN (j : Nat) (hj : j < 3) : 0 < (curZ j).n := by
  match j, hj with
  | 0, _ => decide
  | 1, _ => decide
  | 2, _ => decide
theorem primeN0 : PrimeN 271 := prime_below (by decide) (by decide +kernel)
theorem primeN1 : PrimeN 9851 := prime_below (by decide) (by decide +kernel)
theorem primeN2 : PrimeN 65761 := by
  refine prime_root fun d h2 hd => ?_
  have hl : d < 300 := by
    rcases Nat.lt_or_ge d 300 with h3 | h3
    · exact h3
    · have := Nat.mul_le_mul h3 h3
      omega
  have h : ∀ d, d < 300 → 2 ≤ d → 65761 % d ≠ 0 ∨ 65761 < d * d := by decide +kernel
  rcases h d hl h2 with h4 | h4
  · exact h4
  · omega
theorem curRightN (j : Nat) (hj : j < 3) : ∃ P N, ∃ _ : NeZero P, RightK (curZ j) P N ∧ PrimeN N ∧ 270 < N ∧ N < 65762 ∧ 2 < P := by
  match j, hj with
  | 0, _ => exact ⟨251, 271, inferInstance, right0, primeN0, by decide, by decide, by decide⟩
  | 1, _ => exact ⟨10007, 9851, inferInstance, right1, primeN1, by decide, by decide, by decide⟩
  | 2, _ => exact ⟨65521, 65761, inferInstance, right2, primeN2, by decide, by decide, by decide⟩
end Go.Proofs.Ytagljkbfgldlgaa
