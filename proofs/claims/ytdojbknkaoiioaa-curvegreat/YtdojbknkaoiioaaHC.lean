/-
  The code's field: sums, differences, products, quotients of numbers in memory.
-/
import Derived.Test.YtdojbknkaoiioaaModP
namespace Go.Proofs.Ytdojbknkaoiioaa
open Go.Shelf Go.RowKit
set_option linter.unusedVariables false
set_option linter.unusedSimpArgs false

/-- A value that is a number in memory. -/
def Nv (w : World) (v : Value) (n : Int) (L : Nat) : Prop := ∃ ao len cap xs, v = .slice ao len cap ∧ NumIn .u64 B64 w ao len cap xs ∧ val B64 xs = n ∧ len ≤ L
theorem Nv.old {w w' : World} {v : Value} {n : Int} {L : Nat} (h : Nv w v n L) (hb : Below w.heap.size w w') : Nv w' v n L := by
  obtain ⟨ao, len, cap, xs, e, h1, h2, h3⟩ := h
  exact ⟨ao, len, cap, xs, e, h1.old hb, h2, h3⟩
theorem Nv.up {w : World} {v : Value} {n : Int} {L L' : Nat} (h : Nv w v n L) (hl : L ≤ L') : Nv w v n L' := by
  obtain ⟨ao, len, cap, xs, e, h1, h2, h3⟩ := h
  exact ⟨ao, len, cap, xs, e, h1, h2, by omega⟩
theorem Nv.nonneg {w : World} {v : Value} {n : Int} {L : Nat} (h : Nv w v n L) : 0 ≤ n := by
  obtain ⟨ao, len, cap, xs, e, h1, h2, h3⟩ := h
  rw [← h2]
  exact val_nonneg B64_pos h1.dg
/-- A number that was answered. -/
def Na (w w' : World) (v : Value) (n : Int) (L : Nat) : Prop := Nv w' v n L ∧ Below w.heap.size w w'
theorem NumOut.na {w w' : World} {v : Value} {n : Int} {L : Nat} (h : NumOut .u64 B64 w w' v n L) : Na w w' v n L := by
  obtain ⟨ao, len, cap, xs, e, h1, _, h2, h3, h4⟩ := h
  exact ⟨⟨ao, len, cap, xs, e, h1, h2, h3⟩, h4⟩
theorem alloc_sz7 (w : World) (o : Obj) : (w.alloc o).heap.size = w.heap.size + 1 := by
  show (w.heap.push o).size = _
  simp
theorem box_cell (w : World) (v : Value) (t : TypeId) : (w.alloc (.cells #[v] t)).cell? ⟨w.heap.size, 0, none⟩ = some v := by
  rw [cell_of_row _ _ _ _ _ _ (heap_alloc_new w _)]
  rfl
theorem box_keep {w W : World} {v : Value} {t : TypeId} (hb : Below (w.alloc (.cells #[v] t)).heap.size (w.alloc (.cells #[v] t)) W) : W.cell? ⟨w.heap.size, 0, none⟩ = some v := (hb.cell (p := ⟨w.heap.size, 0, none⟩) (by rw [alloc_sz7]; show w.heap.size < _; omega)).trans (box_cell w v t)
theorem add_nv (a b m : Value) (x y M : Int) (L Lm : Nat) (w : World) (ha : Nv w a x L) (hb : Nv w b y L) (hm : Nv w m M Lm) (h0 : M ≠ 0) (hs : L + L + Lm < 100000000) :
    Calls Try.prog 89 #[a, b, m] w fun e w' => ∃ v, e = .returned (.tuple #[v, .int .i64 0]) ∧ Na w w' v ((x + y) % M) Lm := by
  obtain ⟨ao, la, ca, xs, rfl, h1, rfl, h2⟩ := ha
  obtain ⟨bo, lb, cb, ys, rfl, k1, rfl, k2⟩ := hb
  obtain ⟨mo, lm, cm, ms, rfl, m1, rfl, m2⟩ := hm
  refine (mAdd_any ao bo mo la ca lb cb lm cm xs ys ms w h1 k1 m1 h0 (by omega)).mono ?_
  rintro e w' ⟨v, rfl, h⟩
  exact ⟨v, rfl, h.na.1.up m2, h.na.2⟩
theorem mul_nv (a b m : Value) (x y M : Int) (L Lm : Nat) (w : World) (ha : Nv w a x L) (hb : Nv w b y L) (hm : Nv w m M Lm) (h0 : M ≠ 0) (hs : L + L + Lm < 100000000) :
    Calls Try.prog 81 #[a, b, m] w fun e w' => ∃ v, e = .returned (.tuple #[v, .int .i64 0]) ∧ Na w w' v ((x * y) % M) Lm := by
  obtain ⟨ao, la, ca, xs, rfl, h1, rfl, h2⟩ := ha
  obtain ⟨bo, lb, cb, ys, rfl, k1, rfl, k2⟩ := hb
  obtain ⟨mo, lm, cm, ms, rfl, m1, rfl, m2⟩ := hm
  refine (mMul_any ao bo mo la ca lb cb lm cm xs ys ms w h1 k1 m1 h0 (by omega)).mono ?_
  rintro e w' ⟨v, rfl, h⟩
  exact ⟨v, rfl, h.na.1.up m2, h.na.2⟩
theorem sub_nv (a b m : Value) (x y M : Int) (L Lm : Nat) (w : World) (ha : Nv w a x L) (hb : Nv w b y L) (hm : Nv w m M Lm) (h0 : M ≠ 0) (hs : L + L + Lm < 100000000) :
    Calls Try.prog 91 #[a, b, m] w fun e w' => ∃ v, e = .returned (.tuple #[v, .int .i64 0]) ∧ Na w w' v ((x - y) % M) Lm := by
  obtain ⟨ao, la, ca, xs, rfl, h1, rfl, h2⟩ := ha
  obtain ⟨bo, lb, cb, ys, rfl, k1, rfl, k2⟩ := hb
  obtain ⟨mo, lm, cm, ms, rfl, m1, rfl, m2⟩ := hm
  refine (mSub_any ao bo mo la ca lb cb lm cm xs ys ms w h1 k1 m1 h0 (by omega)).mono ?_
  rintro e w' ⟨v, rfl, h⟩
  exact ⟨v, rfl, h.na.1.up m2, h.na.2⟩
set_option maxHeartbeats 1000000 in
theorem plus_any (a b m : Value) (x y M : Int) (L Lm : Nat) (w : World) (ha : Nv w a x L) (hb : Nv w b y L) (hm : Nv w m M Lm) (h0 : M ≠ 0) (hs : L + L + Lm < 100000000) :
    Calls Try.prog 72 #[.agg #[m], a, b] w fun e w' => ∃ v, e = .returned v ∧ Na w w' v ((x + y) % M) Lm := by
  have HA := fun W (hW : Below w.heap.size w W) => add_nv a b m x y M L Lm W (ha.old hW) (hb.old hW) (hm.old hW) h0 hs
  obtain ⟨ao, la, ca, xs, rfl, _⟩ := ha
  obtain ⟨bo, lb, cb, ys, rfl, _⟩ := hb
  obtain ⟨mo, lm, cm, ms, rfl, _⟩ := hm
  have b0 := (Below.refl w.heap.size w).alloc (Nat.le_refl _) (.cells #[.slice mo lm cm] 101)
  have HB := HA _ b0
  go_enter Try.func72, Try.ntmps72
  go_wp2_with (go_at_call 89; refine HB.mono ?_; rintro e w1 ⟨v, rfl, h1, h2⟩; obtain ⟨p1, p2, p3, p4, rfl, h3⟩ := h1)
  go_ret
  exact ⟨_, rfl, ⟨p1, p2, p3, p4, rfl, h3⟩, b0.trans (h2.mono b0.size)⟩
set_option maxHeartbeats 1000000 in
theorem minus_any (a b m : Value) (x y M : Int) (L Lm : Nat) (w : World) (ha : Nv w a x L) (hb : Nv w b y L) (hm : Nv w m M Lm) (h0 : M ≠ 0) (hs : L + L + Lm < 100000000) :
    Calls Try.prog 78 #[.agg #[m], a, b] w fun e w' => ∃ v, e = .returned v ∧ Na w w' v ((x - y) % M) Lm := by
  have HA := fun W (hW : Below w.heap.size w W) => sub_nv a b m x y M L Lm W (ha.old hW) (hb.old hW) (hm.old hW) h0 hs
  obtain ⟨ao, la, ca, xs, rfl, _⟩ := ha
  obtain ⟨bo, lb, cb, ys, rfl, _⟩ := hb
  obtain ⟨mo, lm, cm, ms, rfl, _⟩ := hm
  have b0 := (Below.refl w.heap.size w).alloc (Nat.le_refl _) (.cells #[.slice mo lm cm] 101)
  have HB := HA _ b0
  go_enter Try.func78, Try.ntmps78
  go_wp2_with (go_at_call 91; refine HB.mono ?_; rintro e w1 ⟨v, rfl, h1, h2⟩; obtain ⟨p1, p2, p3, p4, rfl, h3⟩ := h1)
  go_ret
  exact ⟨_, rfl, ⟨p1, p2, p3, p4, rfl, h3⟩, b0.trans (h2.mono b0.size)⟩
set_option maxHeartbeats 1000000 in
theorem product_any (a b m : Value) (x y M : Int) (L Lm : Nat) (w : World) (ha : Nv w a x L) (hb : Nv w b y L) (hm : Nv w m M Lm) (h0 : M ≠ 0) (hs : L + L + Lm < 100000000) :
    Calls Try.prog 58 #[.agg #[m], a, b] w fun e w' => ∃ v, e = .returned v ∧ Na w w' v ((x * y) % M) Lm := by
  have HA := fun W (hW : Below w.heap.size w W) => mul_nv a b m x y M L Lm W (ha.old hW) (hb.old hW) (hm.old hW) h0 hs
  obtain ⟨ao, la, ca, xs, rfl, _⟩ := ha
  obtain ⟨bo, lb, cb, ys, rfl, _⟩ := hb
  obtain ⟨mo, lm, cm, ms, rfl, _⟩ := hm
  have b0 := (Below.refl w.heap.size w).alloc (Nat.le_refl _) (.cells #[.slice mo lm cm] 101)
  have HB := HA _ b0
  go_enter Try.func58, Try.ntmps58
  go_wp2_with (go_at_call 81; refine HB.mono ?_; rintro e w1 ⟨v, rfl, h1, h2⟩; obtain ⟨p1, p2, p3, p4, rfl, h3⟩ := h1)
  go_ret
  exact ⟨_, rfl, ⟨p1, p2, p3, p4, rfl, h3⟩, b0.trans (h2.mono b0.size)⟩
theorem inv_no (b m : Value) (y M : Int) (L Lm : Nat) (w : World) (hb : Nv w b y L) (hm : Nv w m M Lm) (h0 : M ≠ 0) (hg : gd M (y % M) ≠ 1) (hs : L + Lm < 100000000) :
    Calls Try.prog 90 #[b, m] w fun e w' => e = .returned (.tuple #[.slice none 0 0, .int .i64 5]) ∧ Below w.heap.size w w' := by
  obtain ⟨bo, lb, cb, ys, rfl, k1, rfl, k2⟩ := hb
  obtain ⟨mo, lm, cm, ms, rfl, m1, rfl, m2⟩ := hm
  exact mInv_no bo mo lb cb lm cm ys ms w k1 m1 h0 hg (by omega)
theorem inv_yes (b m : Value) (y M : Int) (L Lm : Nat) (w : World) (hb : Nv w b y L) (hm : Nv w m M Lm) (h0 : M ≠ 0) (hg : gd M (y % M) = 1) (hs : L + Lm < 100000000) :
    Calls Try.prog 90 #[b, m] w fun e w' => ∃ v n, e = .returned (.tuple #[v, .int .i64 0]) ∧ Na w w' v n Lm ∧ 0 ≤ n ∧ n < M ∧ Cg M (n * y) 1 := by
  obtain ⟨bo, lb, cb, ys, rfl, k1, rfl, k2⟩ := hb
  obtain ⟨mo, lm, cm, ms, rfl, m1, rfl, m2⟩ := hm
  refine (mInv_yes bo mo lb cb lm cm ys ms w k1 m1 h0 hg (by omega)).mono ?_
  rintro e w' ⟨v, n, rfl, h, h2, h3, h4⟩
  exact ⟨v, n, rfl, ⟨h.na.1.up m2, h.na.2⟩, h2, h3, h4⟩
set_option maxHeartbeats 1000000 in
theorem quot_no (a b m : Value) (x y M : Int) (L Lm : Nat) (w : World) (ha : Nv w a x L) (hb : Nv w b y L) (hm : Nv w m M Lm) (h0 : M ≠ 0) (hg : gd M (y % M) ≠ 1) (hs : L + L + Lm < 100000000) :
    Calls Try.prog 77 #[.agg #[m], a, b] w fun e w' => e = .returned (.tuple #[.slice none 0 0, .bool false]) ∧ Below w.heap.size w w' := by
  have HA := fun W (hW : Below w.heap.size w W) => inv_no b m y M L Lm W (hb.old hW) (hm.old hW) h0 hg (by omega)
  obtain ⟨ao, la, ca, xs, rfl, _⟩ := ha
  obtain ⟨bo, lb, cb, ys, rfl, _⟩ := hb
  obtain ⟨mo, lm, cm, ms, rfl, _⟩ := hm
  have b0 := (Below.refl w.heap.size w).alloc (Nat.le_refl _) (.cells #[.slice mo lm cm] 101)
  have HB := HA _ b0
  go_enter Try.func77, Try.ntmps77
  go_wp2_with (go_at_call 90; refine HB.mono ?_; rintro e w1 ⟨rfl, h2⟩)
  go_ret2
  exact ⟨rfl, b0.trans (h2.mono b0.size)⟩
set_option maxHeartbeats 1000000 in
theorem quot_yes (a b m : Value) (x y M : Int) (L Lm : Nat) (w : World) (ha : Nv w a x L) (hb : Nv w b y L) (hm : Nv w m M Lm) (h0 : M ≠ 0) (hg : gd M (y % M) = 1) (hs : L + L + Lm + Lm + Lm < 100000000) :
    Calls Try.prog 77 #[.agg #[m], a, b] w fun e w' => ∃ v n, e = .returned (.tuple #[v, .bool true]) ∧ Na w w' v ((x * n) % M) Lm ∧ 0 ≤ n ∧ n < M ∧ Cg M (n * y) 1 := by
  have HA := fun W (hW : Below w.heap.size w W) => inv_yes b m y M L Lm W (hb.old hW) (hm.old hW) h0 hg (by omega)
  have HP := fun W (hW : Below w.heap.size w W) v n (hv : Nv W v n Lm) => product_any a v m x n M (L + Lm) Lm W ((ha.old hW).up (by omega)) (hv.up (by omega)) (hm.old hW) h0
  obtain ⟨ao, la, ca, xs, rfl, _⟩ := ha
  obtain ⟨bo, lb, cb, ys, rfl, _⟩ := hb
  obtain ⟨mo, lm, cm, ms, rfl, _⟩ := hm
  have b0 := (Below.refl w.heap.size w).alloc (Nat.le_refl _) (.cells #[.slice mo lm cm] 101)
  have HB := HA _ b0
  go_enter Try.func77, Try.ntmps77
  go_wp2_with (go_at_call 90; refine HB.mono ?_; rintro e w1 ⟨v, n, rfl, ⟨h1, h2⟩, h3⟩; obtain ⟨p1, p2, p3, p4, rfl, h4⟩ := h1; have c1 := box_keep h2)
  have b1 := b0.trans (h2.mono b0.size)
  have HQ := HP w1 b1 (.slice p1 p2 p3) n ⟨p1, p2, p3, p4, rfl, h4⟩ (by omega)
  go_at_call 58
  refine HQ.mono ?_
  rintro e w2 ⟨v2, rfl, h5, h6⟩
  obtain ⟨q1, q2, q3, q4, rfl, h7⟩ := h5
  go_wp2
  go_ret2
  exact ⟨_, n, rfl, ⟨⟨q1, q2, q3, q4, rfl, h7⟩, b1.trans (h6.mono b1.size)⟩, h3⟩
theorem drew7 (w : World) : ∀ k, Below w.heap.size w (w.drewN k)
  | 0 => Below.refl _ _
  | k + 1 => (drew7 w k).drew
set_option maxHeartbeats 1000000 in
theorem isZero_any (a : Value) (x : Int) (L : Nat) (w : World) (ha : Nv w a x L) :
    Calls Try.prog 47 #[a] w fun e w' => e = .returned (.bool (decide (x = 0))) ∧ w' = w := by
  obtain ⟨ao, la, ca, xs, rfl, h1, h2, h3⟩ := ha
  have HL := Len_any ao la ca xs w h1
  have hn := val_nonneg B64_pos h1.dg
  obtain ⟨ln, hln⟩ : ∃ ln, lenOf xs = ln := ⟨_, rfl⟩
  have hz : decide ((ln : Int) = 0) = decide (x = 0) := by
    by_cases h0 : x = 0
    · rw [← hln, lenOf_zero h1.dg (by omega)]; simp [h0]
    · have := lenOf_pos h1.dg (by omega)
      simp [h0]; omega
  rw [hln] at HL
  rw [← hz]
  go_enter Try.func47, Try.ntmps47
  go_wp2_with (go_at_call 30; refine HL.mono ?_; rintro e w1 ⟨rfl, rfl⟩)
  go_ret
  exact ⟨by first | rfl | simp, rfl⟩
set_option maxHeartbeats 1000000 in
theorem isBelow_any (a b : Value) (x y : Int) (L : Nat) (w : World) (ha : Nv w a x L) (hb : Nv w b y L) :
    Calls Try.prog 57 #[a, b] w fun e w' => e = .returned (.bool (decide (x < y))) ∧ Below w.heap.size w w' := by
  obtain ⟨ao, la, ca, xs, rfl, h1, h2, h3⟩ := ha
  obtain ⟨bo, lb, cb, ys, rfl, k1, k2, k3⟩ := hb
  have HC := Cmp_any ao bo la ca lb cb xs ys w h1 k1
  rw [h2, k2] at HC
  obtain ⟨z, hz⟩ : ∃ z, cmpI x y = z := ⟨_, rfl⟩
  rw [hz] at HC
  have hd : decide (z < 0) = decide (x < y) := by
    rw [← hz]
    unfold cmpI
    by_cases q : x < y
    · simp [q]
    · rw [if_neg q]
      split <;> simp [q]
  clear hz
  go_enter Try.func57, Try.ntmps57
  go_wp2_with (go_at_call 22; refine HC.mono ?_; rintro e w1 ⟨rfl, k, rfl⟩)
  go_ret
  exact ⟨rfl, (drew7 _ _)⟩
/-- A curve's numbers; a point's. -/
structure Cz where
  p : Int
  a : Int
  b : Int
  gx : Int
  gy : Int
  n : Int
structure Pz where
  x : Int
  y : Int
  inf : Bool
/-- A curve in memory. -/
def Cu (w : World) (c : Value) (K : Cz) (L : Nat) : Prop := ∃ (g1 g2 : Int) (oo : Option Addr) (lo co : Nat) (vp va vb vx vy vn : Value), c = .agg #[.int .i64 g1, .int .i64 g2, .slice oo lo co, vp, va, vb, vx, vy, vn] ∧ Nv w vp K.p L ∧ Nv w va K.a L ∧ Nv w vb K.b L ∧ Nv w vx K.gx L ∧ Nv w vy K.gy L ∧ Nv w vn K.n L
/-- A point in memory. -/
def Pv (w : World) (c : Value) (p : Pz) (L : Nat) : Prop := ∃ vx vy, c = .agg #[vx, vy, .bool p.inf] ∧ Nv w vx p.x L ∧ Nv w vy p.y L
theorem Cu.old {w w' : World} {c : Value} {K : Cz} {L : Nat} (h : Cu w c K L) (hb : Below w.heap.size w w') : Cu w' c K L := by
  obtain ⟨g1, g2, oo, lo, co, vp, va, vb, vx, vy, vn, e, h1, h2, h3, h4, h5, h6⟩ := h
  exact ⟨g1, g2, oo, lo, co, vp, va, vb, vx, vy, vn, e, h1.old hb, h2.old hb, h3.old hb, h4.old hb, h5.old hb, h6.old hb⟩
theorem Pv.old {w w' : World} {c : Value} {p : Pz} {L : Nat} (h : Pv w c p L) (hb : Below w.heap.size w w') : Pv w' c p L := by
  obtain ⟨vx, vy, e, h1, h2⟩ := h
  exact ⟨vx, vy, e, h1.old hb, h2.old hb⟩
theorem Pv.up {w : World} {c : Value} {p : Pz} {L L' : Nat} (h : Pv w c p L) (hl : L ≤ L') : Pv w c p L' := by
  obtain ⟨vx, vy, e, h1, h2⟩ := h
  exact ⟨vx, vy, e, h1.up hl, h2.up hl⟩
/-- What slope keeps in memory. -/
structure FrS (W : World) (b : Nat) (cv pv qv : Array Value) (m : Value) : Prop where
  c : W.heap[b]? = some (.cells cv 29 (0, 0))
  p : W.heap[b + 1]? = some (.cells pv 43 (0, 0))
  q : W.heap[b + 1 + 1]? = some (.cells qv 43 (0, 0))
  f : W.heap[b + 1 + 1 + 1]? = some (.cells #[m] 101 (0, 0))
theorem heap_new {w : World} {o : Obj} {k : Nat} {x : Option Obj} (h : w.heap[k]? = x) (hx : k < w.heap.size) : (w.alloc o).heap[k]? = x := by
  rw [← h]
  exact heap_alloc_old _ _ hx
theorem frS_new (w : World) (cv pv qv : Array Value) (m : Value) : FrS ((((w.alloc (.cells cv 29)).alloc (.cells pv 43)).alloc (.cells qv 43)).alloc (.cells #[m] 101)) w.heap.size cv pv qv m ∧ Below w.heap.size w ((((w.alloc (.cells cv 29)).alloc (.cells pv 43)).alloc (.cells qv 43)).alloc (.cells #[m] 101)) := by
  have z1 := alloc_sz7 w (.cells cv 29)
  have z2 := alloc_sz7 (w.alloc (.cells cv 29)) (.cells pv 43)
  have z3 := alloc_sz7 ((w.alloc (.cells cv 29)).alloc (.cells pv 43)) (.cells qv 43)
  have n1 := heap_alloc_new w (.cells cv 29)
  have n2 := heap_alloc_new (w.alloc (.cells cv 29)) (.cells pv 43)
  have n3 := heap_alloc_new ((w.alloc (.cells cv 29)).alloc (.cells pv 43)) (.cells qv 43)
  have n4 := heap_alloc_new (((w.alloc (.cells cv 29)).alloc (.cells pv 43)).alloc (.cells qv 43)) (.cells #[m] 101)
  rw [z1] at n2
  rw [z2, z1] at n3
  rw [z3, z2, z1] at n4
  refine ⟨⟨heap_new (heap_new (heap_new n1 (by omega)) (by omega)) (by omega), heap_new (heap_new n2 (by omega)) (by omega), heap_new n3 (by omega), n4⟩, ?_⟩
  exact ((((Below.refl w.heap.size w).alloc (Nat.le_refl _) _).alloc (by omega) _).alloc (by omega) _).alloc (by omega) _
theorem FrS.keep {W W' : World} {b : Nat} {cv pv qv : Array Value} {m : Value} (h : FrS W b cv pv qv m) (hb : Below W.heap.size W W') : FrS W' b cv pv qv m :=
  ⟨(hb.block _ (Array.getElem?_eq_some_iff.1 h.c).1).trans h.c, (hb.block _ (Array.getElem?_eq_some_iff.1 h.p).1).trans h.p, (hb.block _ (Array.getElem?_eq_some_iff.1 h.q).1).trans h.q, (hb.block _ (Array.getElem?_eq_some_iff.1 h.f).1).trans h.f⟩
theorem FrS.cells {W : World} {b : Nat} {y0 y1 y2 y3 y4 y5 y6 y7 y8 p0 p1 p2 q0 q1 q2 m : Value} (h : FrS W b #[y0, y1, y2, y3, y4, y5, y6, y7, y8] #[p0, p1, p2] #[q0, q1, q2] m) : W.cell? ⟨b, 3, none⟩ = some y3 ∧ W.cell? ⟨b, 4, none⟩ = some y4 ∧ W.cell? ⟨b + 1, 0, none⟩ = some p0 ∧ W.cell? ⟨b + 1, 1, none⟩ = some p1 ∧ W.cell? ⟨b + 1 + 1, 0, none⟩ = some q0 ∧ W.cell? ⟨b + 1 + 1, 1, none⟩ = some q1 ∧ W.cell? ⟨b + 1 + 1 + 1, 0, none⟩ = some m := by
  refine ⟨?_, ?_, ?_, ?_, ?_, ?_, ?_⟩
  · rw [cell_of_row _ _ _ _ _ _ h.c]; rfl
  · rw [cell_of_row _ _ _ _ _ _ h.c]; rfl
  · rw [cell_of_row _ _ _ _ _ _ h.p]; rfl
  · rw [cell_of_row _ _ _ _ _ _ h.p]; rfl
  · rw [cell_of_row _ _ _ _ _ _ h.q]; rfl
  · rw [cell_of_row _ _ _ _ _ _ h.q]; rfl
  · rw [cell_of_row _ _ _ _ _ _ h.f]; rfl
/-- What is divided by what. -/
def riseZ (K : Cz) (p q : Pz) : Int := if (q.x - p.x) % K.p ≠ 0 then (q.y - p.y) % K.p else ((3 * ((p.x * p.x) % K.p)) % K.p + K.a) % K.p
def runZ (K : Cz) (p q : Pz) : Int := if (q.x - p.x) % K.p ≠ 0 then (q.x - p.x) % K.p else (p.y + q.y) % K.p
set_option maxRecDepth 100000 in
set_option maxHeartbeats 2000000 in
theorem slope_any (c p q : Value) (K : Cz) (P Q : Pz) (L : Nat) (w : World) (hc : Cu w c K L) (hp : Pv w p P L) (hq : Pv w q Q L) (h0 : K.p ≠ 0) (hL : 1 ≤ L ∧ L ≤ 1000) :
    Calls Try.prog 76 #[c, p, q] w fun e w' => ∃ v1 v2, e = .returned (.tuple #[v1, v2]) ∧ Nv w' v1 (riseZ K P Q) L ∧ Nv w' v2 (runZ K P Q) L ∧ Below w.heap.size w w' := by
  obtain ⟨g1, g2, oo, lo, co, vp, va, vb, vx, vy, vn, rfl, c1, c2, c3, c4, c5, c6⟩ := hc
  obtain ⟨px, py, rfl, p1, p2⟩ := hp
  obtain ⟨qx, qy, rfl, q1, q2⟩ := hq
  have HM := fun W (hW : Below w.heap.size w W) => minus_any qx px vp Q.x P.x K.p L L W (q1.old hW) (p1.old hW) (c1.old hW) h0 (by omega)
  obtain ⟨a1, a2, a3, a4, rfl, a5⟩ := c1
  obtain ⟨b1, b2, b3, b4, rfl, b5⟩ := c2
  obtain ⟨d1, d2, d3, d4, rfl, d5⟩ := c3
  obtain ⟨e1, e2, e3, e4, rfl, e5⟩ := c4
  obtain ⟨f1, f2, f3, f4, rfl, f5⟩ := c5
  obtain ⟨j1, j2, j3, j4, rfl, j5⟩ := c6
  obtain ⟨k1, k2, k3, k4, rfl, k5⟩ := p1
  obtain ⟨l1, l2, l3, l4, rfl, l5⟩ := p2
  obtain ⟨m1, m2, m3, m4, rfl, m5⟩ := q1
  obtain ⟨n1, n2, n3, n4, rfl, n5⟩ := q2
  obtain ⟨W, hW⟩ : ∃ W, (((w.alloc (.cells #[.int .i64 g1, .int .i64 g2, .slice oo lo co, .slice a1 a2 a3, .slice b1 b2 b3, .slice d1 d2 d3, .slice e1 e2 e3, .slice f1 f2 f3, .slice j1 j2 j3] 29)).alloc (.cells #[.slice k1 k2 k3, .slice l1 l2 l3, .bool P.inf] 43)).alloc (.cells #[.slice m1 m2 m3, .slice n1 n2 n3, .bool Q.inf] 43)).alloc (.cells #[.slice a1 a2 a3] 101) = W := ⟨_, rfl⟩
  have FZ := frS_new w #[.int .i64 g1, .int .i64 g2, .slice oo lo co, .slice a1 a2 a3, .slice b1 b2 b3, .slice d1 d2 d3, .slice e1 e2 e3, .slice f1 f2 f3, .slice j1 j2 j3] #[.slice k1 k2 k3, .slice l1 l2 l3, .bool P.inf] #[.slice m1 m2 m3, .slice n1 n2 n3, .bool Q.inf] (.slice a1 a2 a3)
  rw [hW] at FZ
  obtain ⟨FZ, hb⟩ := FZ
  have HMW := HM W hb
  have HW : Hid (_ = W) := hW
  clear hW
  obtain ⟨RI, hRI⟩ : ∃ r, riseZ K P Q = r := ⟨_, rfl⟩
  obtain ⟨RU, hRU⟩ : ∃ r, runZ K P Q = r := ⟨_, rfl⟩
  rw [hRI, hRU]
  have HRI : Hid (riseZ K P Q = RI ∧ runZ K P Q = RU) := ⟨hRI, hRU⟩
  clear hRI hRU
  go_enter Try.func76, Try.ntmps76
  go_wp2_with fail
  go_at_call 78
  rw [HW.out]
  refine HMW.mono ?_
  rintro e w1 ⟨v1, rfl, hv1, hb1⟩
  have F1 := FZ.keep hb1
  obtain ⟨x1, x2, x3, x4, x5, x6, x7⟩ := F1.cells
  have HZ := isZero_any v1 _ L w1 hv1
  have B1 := hb.trans (hb1.mono hb.size)
  have HM2 := minus_any (.slice n1 n2 n3) (.slice l1 l2 l3) (.slice a1 a2 a3) Q.y P.y K.p L L w1 (Nv.old ⟨n1, n2, n3, n4, rfl, n5⟩ B1) (Nv.old ⟨l1, l2, l3, l4, rfl, l5⟩ B1) (Nv.old ⟨a1, a2, a3, a4, rfl, a5⟩ B1) h0 (by omega)
  have hv1' := hv1
  obtain ⟨r1, r2, r3, r4, rfl, r5⟩ := hv1
  obtain ⟨A, hA⟩ : ∃ A, (Q.x - P.x) % K.p = A := ⟨_, rfl⟩
  rw [hA] at HZ hv1'
  by_cases hz : A = 0
  · have hd : decide (A = 0) = true := by simp [hz]
    rw [hd] at HZ
    clear HM2 HM HMW
    go_wp2_with (go_at_call 47; refine HZ.mono ?_; rintro e w2 ⟨rfl, rfl⟩)
    have HPr := product_any (.slice k1 k2 k3) (.slice k1 k2 k3) (.slice a1 a2 a3) P.x P.x K.p L L w2 (Nv.old ⟨k1, k2, k3, k4, rfl, k5⟩ B1) (Nv.old ⟨k1, k2, k3, k4, rfl, k5⟩ B1) (Nv.old ⟨a1, a2, a3, a4, rfl, a5⟩ B1) h0 (by omega)
    go_at_call 58
    refine HPr.mono ?_
    rintro e w3 ⟨v3, rfl, hv3, hb3⟩
    have hv3' := hv3
    obtain ⟨s1, s2, s3, s4, rfl, s5⟩ := hv3
    have F3 := F1.keep hb3
    have B3 := B1.trans (hb3.mono B1.size)
    clear HPr HZ x1 x2 x3 x4 x5 x6 x7
    obtain ⟨x1, x2, x3, x4, x5, x6, x7⟩ := F3.cells
    have HK := fun (W : World) (hW : Below w3.heap.size w3 W) => (show W.cell? ⟨w.heap.size + 1 + 1 + 1, 0, none⟩ = some (.slice a1 a2 a3) ∧ W.cell? ⟨w.heap.size, 4, none⟩ = some (.slice b1 b2 b3) ∧ W.cell? ⟨w.heap.size + 1, 1, none⟩ = some (.slice l1 l2 l3) ∧ W.cell? ⟨w.heap.size + 1 + 1, 1, none⟩ = some (.slice n1 n2 n3) from by
      obtain ⟨y1, y2, y3, y4, y5, y6, y7⟩ := (F3.keep hW).cells
      exact ⟨y7, y2, y4, y6⟩)
    have K3 := HK w3 (Below.refl _ _)
    have K4 := HK w3.drew (Below.refl _ _).drew
    have HOf := Of_any 3 w3.drew (by decide) (by decide)
    have HPr := fun W (hW : Below w.heap.size w W) (h3W : Below w3.heap.size w3 W) v (hv : Nv W v 3 1) => product_any v (.slice s1 s2 s3) (.slice a1 a2 a3) 3 ((P.x * P.x) % K.p) K.p L L W (hv.up hL.1) (hv3'.old h3W) (Nv.old ⟨a1, a2, a3, a4, rfl, a5⟩ hW) h0 (by omega)
    have HP1 := fun W (hW : Below w.heap.size w W) v n (hv : Nv W v n L) => plus_any v (.slice b1 b2 b3) (.slice a1 a2 a3) n K.a K.p L L W hv (Nv.old ⟨b1, b2, b3, b4, rfl, b5⟩ hW) (Nv.old ⟨a1, a2, a3, a4, rfl, a5⟩ hW) h0 (by omega)
    have HP2 := fun W (hW : Below w.heap.size w W) => plus_any (.slice l1 l2 l3) (.slice n1 n2 n3) (.slice a1 a2 a3) P.y Q.y K.p L L W (Nv.old ⟨l1, l2, l3, l4, rfl, l5⟩ hW) (Nv.old ⟨n1, n2, n3, n4, rfl, n5⟩ hW) (Nv.old ⟨a1, a2, a3, a4, rfl, a5⟩ hW) h0 (by omega)
    have T1 : True := trivial
    go_wp2_with fail
    go_region_held3 (fun W => W.cell? ⟨w.heap.size + 1 + 1 + 1, 0, none⟩ = some (.slice a1 a2 a3) ∧ W.cell? ⟨w.heap.size, 4, none⟩ = some (.slice b1 b2 b3) ∧ W.cell? ⟨w.heap.size + 1, 1, none⟩ = some (.slice l1 l2 l3) ∧ W.cell? ⟨w.heap.size + 1 + 1, 1, none⟩ = some (.slice n1 n2 n3))
      (first | exact K3 | exact K4 | exact K5 | exact K6 | exact K7 | exact K8) (first
      | (go_at_call 12; refine HOf.mono ?_; rintro e w5 ⟨v5, rfl, hn5⟩; have hv5 := hn5.na.1; have C5 := ((Below.refl w3.heap.size w3).drew).trans (hn5.na.2.mono (Nat.le_refl _)); have K5 := HK w5 C5; have HPr2 := HPr w5 (B3.trans (C5.mono B3.size)) C5 v5 hv5; obtain ⟨o1, o2, o3, o4, rfl, o5⟩ := hv5)
      | (go_at_call 58; refine HPr2.mono ?_; rintro e w6 ⟨v6, rfl, hv6, hb6⟩; have C6 := C5.trans (hb6.mono C5.size); have K6 := HK w6 C6; have HP12 := HP1 w6 (B3.trans (C6.mono B3.size)) v6 _ hv6; obtain ⟨u1, u2, u3, u4, rfl, u5⟩ := hv6)
      | (go_at_call 72; clear T1; refine HP12.mono ?_; rintro e w7 ⟨v7, rfl, hv7, hb7⟩; have C7 := C6.trans (hb7.mono C6.size); have K7 := HK w7 C7; have hv7' := hv7; have HP22 := HP2 w7 (B3.trans (C7.mono B3.size)); obtain ⟨y1, y2, y3, y4, rfl, y5⟩ := hv7)
      | (go_at_call 72; refine HP22.mono ?_; rintro e w8 ⟨v8, rfl, hv8, hb8⟩; have C8 := C7.trans (hb8.mono C7.size); have K8 := HK w8 C8; have hv8' := hv8; obtain ⟨z1, z2, z3, z4, rfl, z5⟩ := hv8))
    go_wp2
    go_ret2
    refine ⟨_, _, rfl, ?_, ?_, B3.trans (C8.mono B3.size)⟩
    · rw [← HRI.out.1]
      unfold riseZ
      rw [hA, if_neg (by simp [hz])]
      exact hv7'.old hb8
    · rw [← HRI.out.2]
      unfold runZ
      rw [hA, if_neg (by simp [hz])]
      exact hv8'
  · have hd : decide (A = 0) = false := by simp [hz]
    rw [hd] at HZ
    clear HM HMW
    go_wp2_with (first
      | (go_at_call 47; refine HZ.mono ?_; rintro e w2 ⟨rfl, rfl⟩)
      | (go_at_call 78; refine HM2.mono ?_; rintro e w3 ⟨v3, rfl, hv3, hb3⟩; have hv3' := hv3; obtain ⟨s1, s2, s3, s4, rfl, s5⟩ := hv3))
    go_ret2
    refine ⟨_, _, rfl, ?_, ?_, B1.trans (hb3.mono B1.size)⟩
    · rw [← HRI.out.1]
      unfold riseZ
      rw [hA, if_pos hz]
      exact hv3'
    · rw [← HRI.out.2]
      unfold runZ
      rw [hA, if_pos hz]
      exact hv1'.old hb3
end Go.Proofs.Ytdojbknkaoiioaa
