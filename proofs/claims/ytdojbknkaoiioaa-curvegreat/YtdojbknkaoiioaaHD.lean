/-
  The code's sum of two points.
-/
import Derived.Test.YtdojbknkaoiioaaHC
import Derived.Laws.ResultCell
namespace Go.Proofs.Ytdojbknkaoiioaa
open Go.Shelf Go.RowKit
set_option linter.unusedVariables false
set_option linter.unusedSimpArgs false

def noZ : Pz := ⟨0, 0, true⟩
def ownZ (p : Pz) : Pz := if p.inf then noZ else p
/-- The sum's numbers; s: the slope. -/
def sumX (K : Cz) (p q : Pz) (s : Int) : Int := (((s * s) % K.p - p.x) % K.p - q.x) % K.p
def sumY (K : Cz) (p q : Pz) (s : Int) : Int := ((s * ((p.x - sumX K p q s) % K.p)) % K.p - p.y) % K.p
/-- The sum of two points that have numbers. -/
def AddN (K : Cz) (p q : Pz) (r : Option Pz) : Prop :=
  if runZ K p q = 0 then r = some noZ else if gd K.p (runZ K p q % K.p) ≠ 1 then r = none else ∃ n, 0 ≤ n ∧ n < K.p ∧ Cg K.p (n * runZ K p q) 1 ∧ r = some ⟨sumX K p q ((riseZ K p q * n) % K.p), sumY K p q ((riseZ K p q * n) % K.p), false⟩
/-- The sum. -/
def AddZ (K : Cz) (p q : Pz) (r : Option Pz) : Prop :=
  if K.p = 0 then r = none else if p.inf then r = some (ownZ q) else if q.inf then r = some (ownZ p) else AddN K p q r
/-- A point that was answered, or none. -/
def Pa (w w' : World) (e : Ending) (r : Option Pz) (L : Nat) : Prop := Below w.heap.size w w' ∧ ((∃ v p, r = some p ∧ e = .returned (.tuple #[v, .bool true]) ∧ Pv w' v p L) ∨ (r = none ∧ e = .returned (.tuple #[.agg #[.slice none 0 0, .slice none 0 0, .bool false], .bool false])))
theorem nv_nil (w : World) (L : Nat) : Nv w (.slice none 0 0) 0 L := ⟨none, 0, 0, [], rfl, NumIn.nil, rfl, Nat.zero_le _⟩
theorem pv_no (w : World) (L : Nat) : Pv w (.agg #[.slice none 0 0, .slice none 0 0, .bool true]) noZ L := ⟨_, _, rfl, nv_nil w L, nv_nil w L⟩
/-- But for block g the world w' is as w was. -/
structure Bt (g : Nat) (w w' : World) : Prop where
  os : w'.os = w.os
  tape : w'.tape = w.tape
  output : w'.output = w.output
  size : w.heap.size ≤ w'.heap.size
  block : ∀ k, k < w.heap.size → k ≠ g → w'.heap[k]? = w.heap[k]?
theorem Bt.below {g B : Nat} {w w' : World} (h : Bt g w w') (hB : B ≤ g) (hw : B ≤ w.heap.size) : Below B w w' := ⟨h.os, h.tape, h.output, h.size, fun k hk => h.block k (by omega) (by omega)⟩
theorem Bt.trans {g : Nat} {a b c : World} (h : Bt g a b) (k : Bt g b c) : Bt g a c :=
  ⟨k.os.trans h.os, k.tape.trans h.tape, k.output.trans h.output, Nat.le_trans h.size k.size, fun i hi hg => (k.block i (Nat.lt_of_lt_of_le hi h.size) hg).trans (h.block i hi hg)⟩
theorem Bt.setCell (g : Nat) (w : World) (j : Nat) (v : Value) : Bt g w (w.setCell ⟨g, j, none⟩ v) := ⟨rfl, rfl, rfl, by simp [World.setCell], fun k _ hk => Below.heap_setCell w ⟨g, j, none⟩ v k hk⟩
/-- A point's place. -/
def PSl (w : World) (r : Nat) (c0 c1 c2 : Value) : Prop := w.heap[r]? = some (.cells #[c0, c1, c2] 43 (0, 0))
theorem PSl.lt {w : World} {r : Nat} {c0 c1 c2 : Value} (h : PSl w r c0 c1 c2) : r < w.heap.size := (Array.getElem?_eq_some_iff.1 h).1
theorem PSl.keep {w w' : World} {r : Nat} {c0 c1 c2 : Value} (h : PSl w r c0 c1 c2) (hb : Below w.heap.size w w') : PSl w' r c0 c1 c2 := (hb.block _ h.lt).trans h
theorem PSl.facts {w : World} {r : Nat} {c0 c1 c2 : Value} (h : PSl w r c0 c1 c2) : w.cell? ⟨r, 0, none⟩ = some c0 ∧ w.cell? ⟨r, 1, none⟩ = some c1 ∧ w.cell? ⟨r, 2, none⟩ = some c2 ∧ w.frozen? ⟨r, 0, none⟩ = false ∧ w.frozen? ⟨r, 1, none⟩ = false ∧ w.frozen? ⟨r, 2, none⟩ = false :=
  ⟨by rw [cell_of_row _ _ _ _ _ _ h]; rfl, by rw [cell_of_row _ _ _ _ _ _ h]; rfl, by rw [cell_of_row _ _ _ _ _ _ h]; rfl, frozen_of_row w r 0 _ _ h, frozen_of_row w r 1 _ _ h, frozen_of_row w r 2 _ _ h⟩
theorem heap_set7 (w : World) (g j : Nat) (v : Value) (cs : Array Value) (t : TypeId) (fr : Nat × Nat) (h : w.heap[g]? = some (.cells cs t fr)) : (w.setCell ⟨g, j, none⟩ v).heap[g]? = some (.cells (cs.setIfInBounds j v) t fr) := by
  have hlt := (Array.getElem?_eq_some_iff.1 h).1
  have he : w.heap[g] = .cells cs t fr := (Array.getElem?_eq_some_iff.1 h).2
  simp [World.setCell, hlt]
  rw [Array.getElem_modify]
  simp [he]
theorem PSl.set3 {w : World} {r : Nat} {c0 c1 c2 : Value} (h : PSl w r c0 c1 c2) (d0 d1 d2 : Value) : PSl (((w.setCell ⟨r, 0, none⟩ d0).setCell ⟨r, 1, none⟩ d1).setCell ⟨r, 2, none⟩ d2) r d0 d1 d2 := by
  have h1 := heap_set7 w r 0 d0 _ _ _ h
  have h2 := heap_set7 _ r 1 d1 _ _ _ h1
  exact heap_set7 _ r 2 d2 _ _ _ h2
theorem Bt.set3 (w : World) (r : Nat) (d0 d1 d2 : Value) : Bt r w (((w.setCell ⟨r, 0, none⟩ d0).setCell ⟨r, 1, none⟩ d1).setCell ⟨r, 2, none⟩ d2) := ((Bt.setCell r w 0 d0).trans (Bt.setCell r _ 1 d1)).trans (Bt.setCell r _ 2 d2)
/-- Numbers don't lie where a point does. -/
theorem Nv.apart {w w' : World} {v : Value} {n : Int} {L r : Nat} {a1 a2 : Option Addr} {l1 k1 l2 k2 : Nat} {b : Bool} (h : Nv w v n L) (hs : PSl w r (.slice a1 l1 k1) (.slice a2 l2 k2) (.bool b)) (hb : Bt r w w') : Nv w' v n L := by
  obtain ⟨ao, len, cap, xs, e, h1, h2, h3⟩ := h
  refine ⟨ao, len, cap, xs, e, ⟨⟨h1.len, ?_⟩, h1.lc, h1.cm, h1.nn, h1.dg, h1.sm⟩, h2, h3⟩
  by_cases h0 : len = 0
  · exact .inl h0
  · obtain ⟨b', off, e2, hlt, hc⟩ := h1.lies.at (by omega)
    have hne : b' ≠ r := fun e3 => by
      subst e3
      have h4 := hc 0 (by omega)
      rw [cell_of_row _ _ _ _ _ _ hs] at h4
      obtain ⟨o, ho⟩ : ∃ o, off + 0 = o := ⟨_, rfl⟩
      rw [ho] at h4
      match o, h4 with
      | 0, h4 => cases h4
      | 1, h4 => cases h4
      | 2, h4 => cases h4
      | k + 3, h4 => simp at h4
    exact .inr ⟨b', off, e2, Nat.lt_of_lt_of_le hlt hb.size, fun i hi => (World.cell?_of_block (w := w) (hb.block b' hlt hne)).trans (hc i hi)⟩
theorem sizePt : (Try.prog.info? 43).map (·.size) = some 3 := by kernel_rfl
theorem ret_pt {fn : Func} {p u : Tmp} (h : fn.results = #[.cell p 43, .tmp u]) (tmps : Array Value) (w : World) (g : Nat) (c0 c1 c2 : Value) (hp : tmps.getD p undef = .pointer (some ⟨g, 0, none⟩)) (hg : PSl w g c0 c1 c2) :
    (results fn tmps).run Try.prog w = .ok (.tuple #[.agg #[c0, c1, c2], tmps.getD u undef]) w := by
  rw [results_cell_tmp h, hp]
  have hl := run_loadVar_row (P := Try.prog) w g 43 43 #[c0, c1, c2] (0, 0) _ hg Try.underlying43 rfl sizePt
  simp [asAddr, Result.andThen, hl]
theorem ret_pt1 {fn : Func} {p : Tmp} (h : fn.results = #[.cell p 43]) (tmps : Array Value) (w : World) (g : Nat) (c0 c1 c2 : Value) (hp : tmps.getD p undef = .pointer (some ⟨g, 0, none⟩)) (hg : PSl w g c0 c1 c2) :
    (results fn tmps).run Try.prog w = .ok (.agg #[c0, c1, c2]) w :=
  results_cell_row h tmps w g 43 _ (0, 0) _ hp hg Try.underlying43 rfl sizePt
set_option maxHeartbeats 1000000 in
theorem nothing_any (w : World) : Calls Try.prog 50 #[] w fun e w' => e = .returned (.agg #[.slice none 0 0, .slice none 0 0, .bool true]) ∧ Below w.heap.size w w' := by
  go_enter Try.func50, Try.ntmps50
  go_wp2
  refine bodyPost_ret (ret_pt1 rfl _ _ w.heap.size _ _ _ rfl (heap_alloc_new w _)) rfl ?_
  exact ⟨rfl, (Below.refl _ _).alloc (Nat.le_refl _) _⟩
/-- What addNumbers keeps in memory. -/
structure FrA (W : World) (b : Nat) (pv qv : Array Value) (m : Value) : Prop where
  p : W.heap[b + 1]? = some (.cells pv 43 (0, 0))
  q : W.heap[b + 1 + 1]? = some (.cells qv 43 (0, 0))
  r : PSl W (b + 1 + 1 + 1) (.slice none 0 0) (.slice none 0 0) (.bool false)
  f : W.heap[b + 1 + 1 + 1 + 1]? = some (.cells #[m] 101 (0, 0))
theorem frA_new (w : World) (cv pv qv : Array Value) (m : Value) : FrA (((((w.alloc (.cells cv 29)).alloc (.cells pv 43)).alloc (.cells qv 43)).alloc (.cells #[.slice none 0 0, .slice none 0 0, .bool false] 43)).alloc (.cells #[m] 101)) w.heap.size pv qv m ∧ Below w.heap.size w (((((w.alloc (.cells cv 29)).alloc (.cells pv 43)).alloc (.cells qv 43)).alloc (.cells #[.slice none 0 0, .slice none 0 0, .bool false] 43)).alloc (.cells #[m] 101)) := by
  obtain ⟨w1, e1⟩ : ∃ x, w.alloc (.cells cv 29) = x := ⟨_, rfl⟩
  obtain ⟨w2, e2⟩ : ∃ x, w1.alloc (.cells pv 43) = x := ⟨_, rfl⟩
  obtain ⟨w3, e3⟩ : ∃ x, w2.alloc (.cells qv 43) = x := ⟨_, rfl⟩
  obtain ⟨w4, e4⟩ : ∃ x, w3.alloc (.cells #[.slice none 0 0, .slice none 0 0, .bool false] 43) = x := ⟨_, rfl⟩
  have z1 : w1.heap.size = w.heap.size + 1 := by rw [← e1]; exact alloc_sz7 _ _
  have z2 : w2.heap.size = w.heap.size + 1 + 1 := by rw [← e2, alloc_sz7, z1]
  have z3 : w3.heap.size = w.heap.size + 1 + 1 + 1 := by rw [← e3, alloc_sz7, z2]
  have z4 : w4.heap.size = w.heap.size + 1 + 1 + 1 + 1 := by rw [← e4, alloc_sz7, z3]
  have n2 : w2.heap[w.heap.size + 1]? = some (.cells pv 43 (0, 0)) := by rw [← e2, ← z1]; exact heap_alloc_new w1 _
  have n3 : w3.heap[w.heap.size + 1 + 1]? = some (.cells qv 43 (0, 0)) := by rw [← e3, ← z2]; exact heap_alloc_new w2 _
  have n4 : w4.heap[w.heap.size + 1 + 1 + 1]? = some (.cells #[.slice none 0 0, .slice none 0 0, .bool false] 43 (0, 0)) := by rw [← e4, ← z3]; exact heap_alloc_new w3 _
  have n5 := heap_alloc_new w4 (.cells #[m] 101)
  rw [z4] at n5
  have m2 : w3.heap[w.heap.size + 1]? = some (.cells pv 43 (0, 0)) := by rw [← e3]; exact heap_new n2 (by omega)
  have k2 : w4.heap[w.heap.size + 1]? = some (.cells pv 43 (0, 0)) := by rw [← e4]; exact heap_new m2 (by omega)
  have k3 : w4.heap[w.heap.size + 1 + 1]? = some (.cells qv 43 (0, 0)) := by rw [← e4]; exact heap_new n3 (by omega)
  have bb : Below w.heap.size w (w4.alloc (.cells #[m] 101)) := by
    rw [← e4, ← e3, ← e2, ← e1]
    exact (((((Below.refl w.heap.size w).alloc (Nat.le_refl _) _).alloc (by rw [alloc_sz7]; omega) _).alloc (by rw [alloc_sz7, alloc_sz7]; omega) _).alloc (by rw [alloc_sz7, alloc_sz7, alloc_sz7]; omega) _).alloc (by rw [alloc_sz7, alloc_sz7, alloc_sz7, alloc_sz7]; omega) _
  rw [e1, e2, e3, e4]
  exact ⟨⟨heap_new k2 (by omega), heap_new k3 (by omega), heap_new n4 (by omega), n5⟩, bb⟩
theorem FrA.keep {W W' : World} {b : Nat} {pv qv : Array Value} {m : Value} (h : FrA W b pv qv m) (hb : Below W.heap.size W W') : FrA W' b pv qv m :=
  ⟨(hb.block _ (Array.getElem?_eq_some_iff.1 h.p).1).trans h.p, (hb.block _ (Array.getElem?_eq_some_iff.1 h.q).1).trans h.q, h.r.keep hb, (hb.block _ (Array.getElem?_eq_some_iff.1 h.f).1).trans h.f⟩
theorem FrA.cells {W : World} {b : Nat} {p0 p1 p2 q0 q1 q2 m : Value} (h : FrA W b #[p0, p1, p2] #[q0, q1, q2] m) : W.cell? ⟨b + 1, 0, none⟩ = some p0 ∧ W.cell? ⟨b + 1, 1, none⟩ = some p1 ∧ W.cell? ⟨b + 1 + 1, 0, none⟩ = some q0 ∧ W.cell? ⟨b + 1 + 1 + 1 + 1, 0, none⟩ = some m := by
  refine ⟨?_, ?_, ?_, ?_⟩
  · rw [cell_of_row _ _ _ _ _ _ h.p]; rfl
  · rw [cell_of_row _ _ _ _ _ _ h.p]; rfl
  · rw [cell_of_row _ _ _ _ _ _ h.q]; rfl
  · rw [cell_of_row _ _ _ _ _ _ h.f]; rfl
set_option maxRecDepth 100000 in
set_option maxHeartbeats 2000000 in
theorem addNumbers_any (c p q : Value) (K : Cz) (P Q : Pz) (L : Nat) (w : World) (hc : Cu w c K L) (hp : Pv w p P L) (hq : Pv w q Q L) (h0 : K.p ≠ 0) (hL : 1 ≤ L ∧ L ≤ 1000) :
    Calls Try.prog 53 #[c, p, q] w fun e w' => ∃ r, AddN K P Q r ∧ Pa w w' e r L := by
  have HS := fun W (hW : Below w.heap.size w W) => slope_any c p q K P Q L W (hc.old hW) (hp.old hW) (hq.old hW) h0 hL
  obtain ⟨g1, g2, oo, lo, co, vp, va, vb, vx, vy, vn, rfl, c1, c2, c3, c4, c5, c6⟩ := hc
  obtain ⟨px, py, rfl, p1, p2⟩ := hp
  obtain ⟨qx, qy, rfl, q1, q2⟩ := hq
  obtain ⟨a1, a2, a3, a4, rfl, a5⟩ := c1
  obtain ⟨b1, b2, b3, b4, rfl, b5⟩ := c2
  obtain ⟨d1, d2, d3, d4, rfl, d5⟩ := c3
  obtain ⟨e1, e2, e3, e4, rfl, e5⟩ := c4
  obtain ⟨f1, f2, f3, f4, rfl, f5⟩ := c5
  obtain ⟨j1, j2, j3, j4, rfl, j5⟩ := c6
  obtain ⟨k1, k2, k3, k4, rfl, k5⟩ := p1
  obtain ⟨l1, l2, l3, l4, rfl, l5⟩ := p2
  obtain ⟨m1, m2, m3, m4, rfl, m5⟩ := q1
  obtain ⟨n1, n2, n3, n4, rfl, n5⟩ := q2
  have FZ := frA_new w #[.int .i64 g1, .int .i64 g2, .slice oo lo co, .slice a1 a2 a3, .slice b1 b2 b3, .slice d1 d2 d3, .slice e1 e2 e3, .slice f1 f2 f3, .slice j1 j2 j3] #[.slice k1 k2 k3, .slice l1 l2 l3, .bool P.inf] #[.slice m1 m2 m3, .slice n1 n2 n3, .bool Q.inf] (.slice a1 a2 a3)
  obtain ⟨FZ, hb⟩ := FZ
  have HSW := HS _ hb
  obtain ⟨RI, hRI⟩ : ∃ r, riseZ K P Q = r := ⟨_, rfl⟩
  obtain ⟨RU, hRU⟩ : ∃ r, runZ K P Q = r := ⟨_, rfl⟩
  have HRI : Hid (riseZ K P Q = RI ∧ runZ K P Q = RU) := ⟨hRI, hRU⟩
  rw [hRI, hRU] at HSW
  clear hRI hRU
  have HFS : Hid (FrA _ w.heap.size #[.slice k1 k2 k3, .slice l1 l2 l3, .bool P.inf] #[.slice m1 m2 m3, .slice n1 n2 n3, .bool Q.inf] (.slice a1 a2 a3)) := FZ
  clear FZ HS
  go_enter Try.func53, Try.ntmps53
  go_wp2_with fail
  go_at_call 76
  refine HSW.mono ?_
  rintro e w1 ⟨v1, v2, rfl, hv1, hv2, hb1⟩
  have F1 := HFS.out.keep hb1
  have B1 := hb.trans (hb1.mono hb.size)
  have HZ := isZero_any v2 RU L w1 hv2
  have HN := nothing_any w1
  have s1 := F1.r
  obtain ⟨x1, x2, x3, x4⟩ := F1.cells
  have HQ := fun hg => quot_yes v1 v2 (.slice a1 a2 a3) RI RU K.p L L w1 hv1 hv2 (Nv.old ⟨a1, a2, a3, a4, rfl, a5⟩ B1) h0 hg (by omega)
  have HQn := fun hg => quot_no v1 v2 (.slice a1 a2 a3) RI RU K.p L L w1 hv1 hv2 (Nv.old ⟨a1, a2, a3, a4, rfl, a5⟩ B1) h0 hg (by omega)
  obtain ⟨t1, t2, t3, t4, rfl, t5⟩ := hv1
  obtain ⟨u1, u2, u3, u4, rfl, u5⟩ := hv2
  clear HSW
  by_cases hz : RU = 0
  · have hd : decide (RU = 0) = true := by simp [hz]
    rw [hd] at HZ
    go_wp2_with (first
      | (go_at_call 47; refine HZ.mono ?_; rintro e w2 ⟨rfl, rfl⟩)
      | (go_at_call 50; refine HN.mono ?_; rintro e w3 ⟨rfl, hb3⟩; have s3 := s1.keep hb3; obtain ⟨y0, y1, y2, y3, y4, y5⟩ := s3.facts))
    refine bodyPost_ret (ret_pt rfl _ _ (w.heap.size + 1 + 1 + 1) _ _ _ rfl (s3.set3 (.slice none 0 0) (.slice none 0 0) (.bool true))) rfl ?_
    have bt := Bt.set3 w3 (w.heap.size + 1 + 1 + 1) (.slice none 0 0) (.slice none 0 0) (.bool true)
    have B3 := B1.trans (hb3.mono B1.size)
    refine ⟨some noZ, ?_, B3.trans (bt.below (by omega) B3.size), .inl ⟨_, noZ, rfl, rfl, pv_no _ L⟩⟩
    unfold AddN
    rw [HRI.out.2, if_pos hz]
  · have hd : decide (RU = 0) = false := by simp [hz]
    rw [hd] at HZ
    by_cases hg : gd K.p (RU % K.p) = 1
    · have HQ2 := HQ hg
      clear HQ HQn HN
      go_wp2_with (first
        | (go_at_call 47; refine HZ.mono ?_; rintro e w2 ⟨rfl, rfl⟩)
        | (go_at_call 77; refine HQ2.mono ?_; rintro e w3 ⟨v3, n, rfl, ⟨hv3, hb3⟩, hn⟩; have F3 := F1.keep hb3; have B3 := B1.trans (hb3.mono B1.size); have hv3' := hv3; obtain ⟨z1, z2, z3, z4, rfl, z5⟩ := hv3; clear x1 x2 x3 x4; obtain ⟨y1, y2, y3, y4⟩ := F3.cells))
      have HK := fun (W : World) (hW : Below w3.heap.size w3 W) => (F3.keep hW).cells
      have K3 := HK w3 (Below.refl _ _)
      have K3d := HK w3.drew (Below.refl _ _).drew
      have HP1 := fun W (hW : Below w.heap.size w W) (h3 : Below w3.heap.size w3 W) => product_any (.slice z1 z2 z3) (.slice z1 z2 z3) (.slice a1 a2 a3) _ _ K.p L L W (hv3'.old h3) (hv3'.old h3) (Nv.old ⟨a1, a2, a3, a4, rfl, a5⟩ hW) h0 (by omega)
      have HP2 := fun W (hW : Below w.heap.size w W) (h3 : Below w3.heap.size w3 W) v m (hv : Nv W v m L) => product_any (.slice z1 z2 z3) v (.slice a1 a2 a3) _ m K.p L L W (hv3'.old h3) hv (Nv.old ⟨a1, a2, a3, a4, rfl, a5⟩ hW) h0 (by omega)
      have HM1 := fun W (hW : Below w.heap.size w W) v m (hv : Nv W v m L) => minus_any v (.slice k1 k2 k3) (.slice a1 a2 a3) m P.x K.p L L W hv (Nv.old ⟨k1, k2, k3, k4, rfl, k5⟩ hW) (Nv.old ⟨a1, a2, a3, a4, rfl, a5⟩ hW) h0 (by omega)
      have HM2 := fun W (hW : Below w.heap.size w W) v m (hv : Nv W v m L) => minus_any v (.slice m1 m2 m3) (.slice a1 a2 a3) m Q.x K.p L L W hv (Nv.old ⟨m1, m2, m3, m4, rfl, m5⟩ hW) (Nv.old ⟨a1, a2, a3, a4, rfl, a5⟩ hW) h0 (by omega)
      have HM3 := fun W (hW : Below w.heap.size w W) v m (hv : Nv W v m L) => minus_any (.slice k1 k2 k3) v (.slice a1 a2 a3) P.x m K.p L L W (Nv.old ⟨k1, k2, k3, k4, rfl, k5⟩ hW) hv (Nv.old ⟨a1, a2, a3, a4, rfl, a5⟩ hW) h0 (by omega)
      have HM4 := fun W (hW : Below w.heap.size w W) v m (hv : Nv W v m L) => minus_any v (.slice l1 l2 l3) (.slice a1 a2 a3) m P.y K.p L L W hv (Nv.old ⟨l1, l2, l3, l4, rfl, l5⟩ hW) (Nv.old ⟨a1, a2, a3, a4, rfl, a5⟩ hW) h0 (by omega)
      have HP1d := HP1 w3.drew B3.drew (Below.refl _ _).drew
      have T1 : True := trivial
      go_region_held3 (fun W => W.cell? ⟨w.heap.size + 1, 0, none⟩ = some (.slice k1 k2 k3) ∧ W.cell? ⟨w.heap.size + 1, 1, none⟩ = some (.slice l1 l2 l3) ∧ W.cell? ⟨w.heap.size + 1 + 1, 0, none⟩ = some (.slice m1 m2 m3) ∧ W.cell? ⟨w.heap.size + 1 + 1 + 1 + 1, 0, none⟩ = some (.slice a1 a2 a3))
        (first | exact K3 | exact K3d | exact K4 | exact K5 | exact K6) (first
        | (go_at_call 58; refine HP1d.mono ?_; rintro e w4 ⟨v4, rfl, hv4, hb4⟩; have C4 := ((Below.refl w3.heap.size w3).drew).trans (hb4.mono (Nat.le_refl _)); have K4 := HK w4 C4; have HM1d := HM1 w4 (B3.trans (C4.mono B3.size)) v4 _ hv4; obtain ⟨o1, o2, o3, o4, rfl, o5⟩ := hv4)
        | (go_at_call 78; clear T1; refine HM1d.mono ?_; rintro e w5 ⟨v5, rfl, hv5, hb5⟩; have C5 := C4.trans (hb5.mono C4.size); have K5 := HK w5 C5; have HM2d := HM2 w5 (B3.trans (C5.mono B3.size)) v5 _ hv5; obtain ⟨r1, r2, r3, r4, rfl, r5⟩ := hv5)
        | (go_at_call 78; refine HM2d.mono ?_; rintro e w6 ⟨v6, rfl, hv6, hb6⟩; have C6 := C5.trans (hb6.mono C5.size); have K6 := HK w6 C6; have hv6' := hv6; obtain ⟨s1, s2, s3, s4, rfl, s5⟩ := hv6))
      go_wp2_with fail
      have B6 := B3.trans (C6.mono B3.size)
      have C6d := C6.drew
      have K6d := HK w6.drew C6d
      have HM3d := HM3 w6.drew B6.drew (.slice s1 s2 s3) _ (hv6'.old (Below.refl _ _).drew)
      have T1 : True := trivial
      clear HM1d HM2d HP1d K3 K3d K4 K5 HZ HQ2 y1 y2 y3 y4
      go_region_held3 (fun W => W.cell? ⟨w.heap.size + 1, 0, none⟩ = some (.slice k1 k2 k3) ∧ W.cell? ⟨w.heap.size + 1, 1, none⟩ = some (.slice l1 l2 l3) ∧ W.cell? ⟨w.heap.size + 1 + 1, 0, none⟩ = some (.slice m1 m2 m3) ∧ W.cell? ⟨w.heap.size + 1 + 1 + 1 + 1, 0, none⟩ = some (.slice a1 a2 a3))
        (first | exact K6 | exact K6d | exact K7 | exact K8 | exact K9) (first
        | (go_at_call 78; clear T1; refine HM3d.mono ?_; rintro e w7 ⟨v7, rfl, hv7, hb7⟩; have C7 := C6d.trans (hb7.mono C6d.size); have K7 := HK w7 C7; have HP2d := HP2 w7 (B3.trans (C7.mono B3.size)) C7 v7 _ hv7; obtain ⟨o1', o2', o3', o4', rfl, o5'⟩ := hv7)
        | (go_at_call 58; refine HP2d.mono ?_; rintro e w8 ⟨v8, rfl, hv8, hb8⟩; have C8 := C7.trans (hb8.mono C7.size); have K8 := HK w8 C8; have HM4d := HM4 w8 (B3.trans (C8.mono B3.size)) v8 _ hv8; obtain ⟨r1', r2', r3', r4', rfl, r5'⟩ := hv8)
        | (go_at_call 78; refine HM4d.mono ?_; rintro e w9 ⟨v9, rfl, hv9, hb9⟩; have C9 := C8.trans (hb9.mono C8.size); have K9 := HK w9 C9; have hv9' := hv9; obtain ⟨q1', q2', q3', q4', rfl, q5'⟩ := hv9))
      have s9 := (F3.keep C9).r
      obtain ⟨i0, i1, i2, i3, i4, i5⟩ := s9.facts
      clear HM3d HP2d HM4d
      go_wp2_with fail
      refine bodyPost_ret (ret_pt rfl _ _ (w.heap.size + 1 + 1 + 1) _ _ _ rfl (s9.set3 (.slice s1 s2 s3) (.slice q1' q2' q3') (.bool false))) rfl ?_
      have bt := Bt.set3 w9 (w.heap.size + 1 + 1 + 1) (.slice s1 s2 s3) (.slice q1' q2' q3') (.bool false)
      have B9 := B3.trans (C9.mono B3.size)
      have hx := hv6'.old ((((Below.refl w6.heap.size w6).drew).trans (hb7.mono (Nat.le_refl _))).trans ((hb8.mono hb7.size).trans (hb9.mono (Nat.le_trans hb7.size hb8.size))))
      refine ⟨some ⟨sumX K P Q ((riseZ K P Q * n) % K.p), sumY K P Q ((riseZ K P Q * n) % K.p), false⟩, ?_, B9.trans (bt.below (by omega) B9.size), .inl ⟨_, _, rfl, rfl, _, _, rfl, ?_, ?_⟩⟩
      · unfold AddN
        rw [HRI.out.2, if_neg hz, if_neg (by simp [hg])]
        exact ⟨n, hn.1, hn.2.1, hn.2.2, rfl⟩
      · have h1 := hx.apart s9 bt
        rw [HRI.out.1]
        exact h1
      · have h1 := hv9'.apart s9 bt
        rw [HRI.out.1]
        exact h1
    · have HQ2 := HQn hg
      clear HQ HQn HN
      obtain ⟨r0, r1, r2, r3, r4, r5⟩ := s1.facts
      go_wp2_with (first
        | (go_at_call 47; refine HZ.mono ?_; rintro e w2 ⟨rfl, rfl⟩)
        | (go_at_call 77; refine HQ2.mono ?_; rintro e w3 ⟨rfl, hb3⟩; have s3 := s1.keep hb3; obtain ⟨y0, y1, y2, y3, y4, y5⟩ := s3.facts))
      refine bodyPost_ret (ret_pt rfl _ _ (w.heap.size + 1 + 1 + 1) _ _ _ rfl (s3.set3 (.slice none 0 0) (.slice none 0 0) (.bool false))) rfl ?_
      have bt := Bt.set3 w3 (w.heap.size + 1 + 1 + 1) (.slice none 0 0) (.slice none 0 0) (.bool false)
      have B3 := B1.trans (hb3.mono B1.size)
      refine ⟨none, ?_, B3.trans (bt.below (by omega) B3.size), .inr ⟨rfl, rfl⟩⟩
      unfold AddN
      rw [HRI.out.2, if_neg hz, if_pos hg]
end Go.Proofs.Ytdojbknkaoiioaa
