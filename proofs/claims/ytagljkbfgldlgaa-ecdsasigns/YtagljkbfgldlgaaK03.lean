import Derived.Test.YtagljkbfgldlgaaK02
import Derived.Stop.RegionWithIn
import Derived.Deep.RegionHeld3
import Derived.Laws.ResultCell
/-
  Contract of modular.Pow.
-/
namespace Go.Proofs.Ytagljkbfgldlgaa
open Go.RowKit Go.Shelf
set_option linter.unusedVariables false
set_option linter.unusedSimpArgs false
attribute [local go_sem] Oper.semAt_some

/-- Between two rounds: the modulus, the base and the power in their cells. -/
def PGo (w : World) (g5 g8 g : Nat) (mo : Option Addr) (lm cm : Nat) (ms : List Int) (a1 : Option Addr) (l1 c1 : Nat) (zs : List Int) (M X : Int) (pre : List (Int × Bool)) (W : World) : Prop :=
  (Kc W g5 (.slice mo lm cm) ∧ Kc W g8 (.slice a1 l1 c1) ∧ NumIn .u64 B64 W a1 l1 c1 zs ∧ ∃ a l c xs, Kc W g (.slice a l c) ∧ NumIn .u64 B64 W a l c xs ∧ Canon xs ∧ val B64 xs = pfold M X pre ∧ l ≤ lm) ∧ Below w.heap.size w W
theorem PGo.kept {w : World} {g5 g8 g : Nat} {mo : Option Addr} {lm cm : Nat} {ms : List Int} {a1 : Option Addr} {l1 c1 : Nat} {zs : List Int} {M X : Int} {B : Nat} (hB : w.heap.size ≤ B) : OwnFrom B (PGo w g5 g8 g mo lm cm ms a1 l1 c1 zs M X) := by
  rintro pre A A' row ⟨⟨h1, h2, h3, a, l, c, xs, h4, h5, h6⟩, h7⟩ hg hr
  have hr2 := fun r e => (hr r e).2
  exact ⟨⟨h1.kept hg hr2, h2.kept hg hr2, h3.keptc hg hr2, a, l, c, xs, h4.kept hg hr2, h5.keptc hg hr2, h6⟩, ownFrom_below (β := Unit) (Nat.le_refl _) hB () A A' row h7 hg hr⟩

theorem wpIn_noPanic {F : Fence} {n : Nat} {P : Program} {c : Code} {Q : Exit → Act → World → Prop} {a : Act} {w : World} (h : c.wpIn F n P (NoPanic Q) a w) : c.wpIn F n P Q a w :=
  Code.wpIn_mono NoPanic.imp h

end Go.Proofs.Ytagljkbfgldlgaa
/-
  The code's field: sums, differences, products, quotients of numbers in memory.
-/
namespace Go.Proofs.Ytagljkbfgldlgaa
open Go.Shelf Go.RowKit
set_option linter.unusedVariables false
set_option linter.unusedSimpArgs false

/-- A value that is a number in memory. -/
def Nv (w : World) (v : Value) (n : Int) (L : Nat) : Prop := ∃ ao len cap xs, v = .slice ao len cap ∧ NumIn .u64 B64 w ao len cap xs ∧ val B64 xs = n ∧ len ≤ L
theorem Nv.old {w w' : World} {v : Value} {n : Int} {L : Nat} (h : Nv w v n L) (hb : Below w.heap.size w w') : Nv w' v n L := by
  obtain ⟨ao, len, cap, xs, e, h1, h2, h3⟩ := h
  exact ⟨ao, len, cap, xs, e, h1.old hb, h2, h3⟩
theorem Nv.up {w : World} {v : Value} {n : Int} {L L' : Nat} (h : Nv w v n L) (hl : L ≤ L') : Nv w v n L' := by
  obtain ⟨ao, len, cap, xs, e, h1, h2, h3⟩ := h
  exact ⟨ao, len, cap, xs, e, h1, h2, by omega⟩
theorem Nv.nonneg {w : World} {v : Value} {n : Int} {L : Nat} (h : Nv w v n L) : 0 ≤ n := by
  obtain ⟨ao, len, cap, xs, e, h1, h2, h3⟩ := h
  rw [← h2]
  exact val_nonneg B64_pos h1.dg
/-- A number that was answered. -/
def Na (w w' : World) (v : Value) (n : Int) (L : Nat) : Prop := Nv w' v n L ∧ Below w.heap.size w w'
theorem NumOut.na {w w' : World} {v : Value} {n : Int} {L : Nat} (h : NumOut .u64 B64 w w' v n L) : Na w w' v n L := by
  obtain ⟨ao, len, cap, xs, e, h1, _, h2, h3, h4⟩ := h
  exact ⟨⟨ao, len, cap, xs, e, h1, h2, h3⟩, h4⟩
theorem alloc_sz7 (w : World) (o : Obj) : (w.alloc o).heap.size = w.heap.size + 1 := by
  show (w.heap.push o).size = _
  simp
theorem box_cell (w : World) (v : Value) (t : TypeId) : (w.alloc (.cells #[v] t)).cell? ⟨w.heap.size, 0, none⟩ = some v := by
  rw [cell_of_row _ _ _ _ _ _ (heap_alloc_new w _)]
  rfl
theorem box_keep {w W : World} {v : Value} {t : TypeId} (hb : Below (w.alloc (.cells #[v] t)).heap.size (w.alloc (.cells #[v] t)) W) : W.cell? ⟨w.heap.size, 0, none⟩ = some v := (hb.cell (p := ⟨w.heap.size, 0, none⟩) (by rw [alloc_sz7]; show w.heap.size < _; omega)).trans (box_cell w v t)
theorem add_nv (a b m : Value) (x y M : Int) (L Lm : Nat) (w : World) (ha : Nv w a x L) (hb : Nv w b y L) (hm : Nv w m M Lm) (h0 : M ≠ 0) (hs : L + L + Lm < 100000000) :
    Calls Try.prog 76 #[a, b, m] w fun e w' => ∃ v, e = .returned (.tuple #[v, .int .i64 0]) ∧ Na w w' v ((x + y) % M) Lm := by
  obtain ⟨ao, la, ca, xs, rfl, h1, rfl, h2⟩ := ha
  obtain ⟨bo, lb, cb, ys, rfl, k1, rfl, k2⟩ := hb
  obtain ⟨mo, lm, cm, ms, rfl, m1, rfl, m2⟩ := hm
  refine (mAdd_any ao bo mo la ca lb cb lm cm xs ys ms w h1 k1 m1 h0 (by omega)).mono ?_
  rintro e w' ⟨v, rfl, h⟩
  exact ⟨v, rfl, h.na.1.up m2, h.na.2⟩
theorem mul_nv (a b m : Value) (x y M : Int) (L Lm : Nat) (w : World) (ha : Nv w a x L) (hb : Nv w b y L) (hm : Nv w m M Lm) (h0 : M ≠ 0) (hs : L + L + Lm < 100000000) :
    Calls Try.prog 28 #[a, b, m] w fun e w' => ∃ v, e = .returned (.tuple #[v, .int .i64 0]) ∧ Na w w' v ((x * y) % M) Lm := by
  obtain ⟨ao, la, ca, xs, rfl, h1, rfl, h2⟩ := ha
  obtain ⟨bo, lb, cb, ys, rfl, k1, rfl, k2⟩ := hb
  obtain ⟨mo, lm, cm, ms, rfl, m1, rfl, m2⟩ := hm
  refine (mMul_any ao bo mo la ca lb cb lm cm xs ys ms w h1 k1 m1 h0 (by omega)).mono ?_
  rintro e w' ⟨v, rfl, h⟩
  exact ⟨v, rfl, h.na.1.up m2, h.na.2⟩
theorem sub_nv (a b m : Value) (x y M : Int) (L Lm : Nat) (w : World) (ha : Nv w a x L) (hb : Nv w b y L) (hm : Nv w m M Lm) (h0 : M ≠ 0) (hs : L + L + Lm < 100000000) :
    Calls Try.prog 48 #[a, b, m] w fun e w' => ∃ v, e = .returned (.tuple #[v, .int .i64 0]) ∧ Na w w' v ((x - y) % M) Lm := by
  obtain ⟨ao, la, ca, xs, rfl, h1, rfl, h2⟩ := ha
  obtain ⟨bo, lb, cb, ys, rfl, k1, rfl, k2⟩ := hb
  obtain ⟨mo, lm, cm, ms, rfl, m1, rfl, m2⟩ := hm
  refine (mSub_any ao bo mo la ca lb cb lm cm xs ys ms w h1 k1 m1 h0 (by omega)).mono ?_
  rintro e w' ⟨v, rfl, h⟩
  exact ⟨v, rfl, h.na.1.up m2, h.na.2⟩
set_option maxHeartbeats 1000000 in
theorem plus_any (a b m : Value) (x y M : Int) (L Lm : Nat) (w : World) (ha : Nv w a x L) (hb : Nv w b y L) (hm : Nv w m M Lm) (h0 : M ≠ 0) (hs : L + L + Lm < 100000000) :
    Calls Try.prog 61 #[.agg #[m], a, b] w fun e w' => ∃ v, e = .returned v ∧ Na w w' v ((x + y) % M) Lm := by
  have HA := fun W (hW : Below w.heap.size w W) => add_nv a b m x y M L Lm W (ha.old hW) (hb.old hW) (hm.old hW) h0 hs
  obtain ⟨ao, la, ca, xs, rfl, _⟩ := ha
  obtain ⟨bo, lb, cb, ys, rfl, _⟩ := hb
  obtain ⟨mo, lm, cm, ms, rfl, _⟩ := hm
  have b0 := (Below.refl w.heap.size w).alloc (Nat.le_refl _) (.cells #[.slice mo lm cm] 97)
  have HB := HA _ b0
  go_enter Try.func61, Try.ntmps61
  go_wp2_with (go_at_call 76; refine HB.mono ?_; rintro e w1 ⟨v, rfl, h1, h2⟩; obtain ⟨p1, p2, p3, p4, rfl, h3⟩ := h1)
  go_ret
  exact ⟨_, rfl, ⟨p1, p2, p3, p4, rfl, h3⟩, b0.trans (h2.mono b0.size)⟩
set_option maxHeartbeats 1000000 in
theorem minus_any (a b m : Value) (x y M : Int) (L Lm : Nat) (w : World) (ha : Nv w a x L) (hb : Nv w b y L) (hm : Nv w m M Lm) (h0 : M ≠ 0) (hs : L + L + Lm < 100000000) :
    Calls Try.prog 84 #[.agg #[m], a, b] w fun e w' => ∃ v, e = .returned v ∧ Na w w' v ((x - y) % M) Lm := by
  have HA := fun W (hW : Below w.heap.size w W) => sub_nv a b m x y M L Lm W (ha.old hW) (hb.old hW) (hm.old hW) h0 hs
  obtain ⟨ao, la, ca, xs, rfl, _⟩ := ha
  obtain ⟨bo, lb, cb, ys, rfl, _⟩ := hb
  obtain ⟨mo, lm, cm, ms, rfl, _⟩ := hm
  have b0 := (Below.refl w.heap.size w).alloc (Nat.le_refl _) (.cells #[.slice mo lm cm] 97)
  have HB := HA _ b0
  go_enter Try.func84, Try.ntmps84
  go_wp2_with (go_at_call 48; refine HB.mono ?_; rintro e w1 ⟨v, rfl, h1, h2⟩; obtain ⟨p1, p2, p3, p4, rfl, h3⟩ := h1)
  go_ret
  exact ⟨_, rfl, ⟨p1, p2, p3, p4, rfl, h3⟩, b0.trans (h2.mono b0.size)⟩
set_option maxHeartbeats 1000000 in
theorem product_any (a b m : Value) (x y M : Int) (L Lm : Nat) (w : World) (ha : Nv w a x L) (hb : Nv w b y L) (hm : Nv w m M Lm) (h0 : M ≠ 0) (hs : L + L + Lm < 100000000) :
    Calls Try.prog 45 #[.agg #[m], a, b] w fun e w' => ∃ v, e = .returned v ∧ Na w w' v ((x * y) % M) Lm := by
  have HA := fun W (hW : Below w.heap.size w W) => mul_nv a b m x y M L Lm W (ha.old hW) (hb.old hW) (hm.old hW) h0 hs
  obtain ⟨ao, la, ca, xs, rfl, _⟩ := ha
  obtain ⟨bo, lb, cb, ys, rfl, _⟩ := hb
  obtain ⟨mo, lm, cm, ms, rfl, _⟩ := hm
  have b0 := (Below.refl w.heap.size w).alloc (Nat.le_refl _) (.cells #[.slice mo lm cm] 97)
  have HB := HA _ b0
  go_enter Try.func45, Try.ntmps45
  go_wp2_with (go_at_call 28; refine HB.mono ?_; rintro e w1 ⟨v, rfl, h1, h2⟩; obtain ⟨p1, p2, p3, p4, rfl, h3⟩ := h1)
  go_ret
  exact ⟨_, rfl, ⟨p1, p2, p3, p4, rfl, h3⟩, b0.trans (h2.mono b0.size)⟩
theorem inv_no (b m : Value) (y M : Int) (L Lm : Nat) (w : World) (hb : Nv w b y L) (hm : Nv w m M Lm) (h0 : M ≠ 0) (hg : gd M (y % M) ≠ 1) (hs : L + Lm < 100000000) :
    Calls Try.prog 27 #[b, m] w fun e w' => e = .returned (.tuple #[.slice none 0 0, .int .i64 5]) ∧ Below w.heap.size w w' := by
  obtain ⟨bo, lb, cb, ys, rfl, k1, rfl, k2⟩ := hb
  obtain ⟨mo, lm, cm, ms, rfl, m1, rfl, m2⟩ := hm
  exact mInv_no bo mo lb cb lm cm ys ms w k1 m1 h0 hg (by omega)
theorem inv_yes (b m : Value) (y M : Int) (L Lm : Nat) (w : World) (hb : Nv w b y L) (hm : Nv w m M Lm) (h0 : M ≠ 0) (hg : gd M (y % M) = 1) (hs : L + Lm < 100000000) :
    Calls Try.prog 27 #[b, m] w fun e w' => ∃ v n, e = .returned (.tuple #[v, .int .i64 0]) ∧ Na w w' v n Lm ∧ 0 ≤ n ∧ n < M ∧ Cg M (n * y) 1 := by
  obtain ⟨bo, lb, cb, ys, rfl, k1, rfl, k2⟩ := hb
  obtain ⟨mo, lm, cm, ms, rfl, m1, rfl, m2⟩ := hm
  refine (mInv_yes bo mo lb cb lm cm ys ms w k1 m1 h0 hg (by omega)).mono ?_
  rintro e w' ⟨v, n, rfl, h, h2, h3, h4⟩
  exact ⟨v, n, rfl, ⟨h.na.1.up m2, h.na.2⟩, h2, h3, h4⟩
set_option maxHeartbeats 1000000 in
theorem quot_no (a b m : Value) (x y M : Int) (L Lm : Nat) (w : World) (ha : Nv w a x L) (hb : Nv w b y L) (hm : Nv w m M Lm) (h0 : M ≠ 0) (hg : gd M (y % M) ≠ 1) (hs : L + L + Lm < 100000000) :
    Calls Try.prog 83 #[.agg #[m], a, b] w fun e w' => e = .returned (.tuple #[.slice none 0 0, .bool false]) ∧ Below w.heap.size w w' := by
  have HA := fun W (hW : Below w.heap.size w W) => inv_no b m y M L Lm W (hb.old hW) (hm.old hW) h0 hg (by omega)
  obtain ⟨ao, la, ca, xs, rfl, _⟩ := ha
  obtain ⟨bo, lb, cb, ys, rfl, _⟩ := hb
  obtain ⟨mo, lm, cm, ms, rfl, _⟩ := hm
  have b0 := (Below.refl w.heap.size w).alloc (Nat.le_refl _) (.cells #[.slice mo lm cm] 97)
  have HB := HA _ b0
  go_enter Try.func83, Try.ntmps83
  go_wp2_with (go_at_call 27; refine HB.mono ?_; rintro e w1 ⟨rfl, h2⟩)
  go_ret2
  exact ⟨rfl, b0.trans (h2.mono b0.size)⟩
set_option maxHeartbeats 1000000 in
theorem quot_yes (a b m : Value) (x y M : Int) (L Lm : Nat) (w : World) (ha : Nv w a x L) (hb : Nv w b y L) (hm : Nv w m M Lm) (h0 : M ≠ 0) (hg : gd M (y % M) = 1) (hs : L + L + Lm + Lm + Lm < 100000000) :
    Calls Try.prog 83 #[.agg #[m], a, b] w fun e w' => ∃ v n, e = .returned (.tuple #[v, .bool true]) ∧ Na w w' v ((x * n) % M) Lm ∧ 0 ≤ n ∧ n < M ∧ Cg M (n * y) 1 := by
  have HA := fun W (hW : Below w.heap.size w W) => inv_yes b m y M L Lm W (hb.old hW) (hm.old hW) h0 hg (by omega)
  have HP := fun W (hW : Below w.heap.size w W) v n (hv : Nv W v n Lm) => product_any a v m x n M (L + Lm) Lm W ((ha.old hW).up (by omega)) (hv.up (by omega)) (hm.old hW) h0
  obtain ⟨ao, la, ca, xs, rfl, _⟩ := ha
  obtain ⟨bo, lb, cb, ys, rfl, _⟩ := hb
  obtain ⟨mo, lm, cm, ms, rfl, _⟩ := hm
  have b0 := (Below.refl w.heap.size w).alloc (Nat.le_refl _) (.cells #[.slice mo lm cm] 97)
  have HB := HA _ b0
  go_enter Try.func83, Try.ntmps83
  go_wp2_with (go_at_call 27; refine HB.mono ?_; rintro e w1 ⟨v, n, rfl, ⟨h1, h2⟩, h3⟩; obtain ⟨p1, p2, p3, p4, rfl, h4⟩ := h1; have c1 := box_keep h2)
  have b1 := b0.trans (h2.mono b0.size)
  have HQ := HP w1 b1 (.slice p1 p2 p3) n ⟨p1, p2, p3, p4, rfl, h4⟩ (by omega)
  go_at_call 45
  refine HQ.mono ?_
  rintro e w2 ⟨v2, rfl, h5, h6⟩
  obtain ⟨q1, q2, q3, q4, rfl, h7⟩ := h5
  go_wp2
  go_ret2
  exact ⟨_, n, rfl, ⟨⟨q1, q2, q3, q4, rfl, h7⟩, b1.trans (h6.mono b1.size)⟩, h3⟩
theorem drew7 (w : World) : ∀ k, Below w.heap.size w (w.drewN k)
  | 0 => Below.refl _ _
  | k + 1 => (drew7 w k).drew
set_option maxHeartbeats 1000000 in
theorem isZero_any (a : Value) (x : Int) (L : Nat) (w : World) (ha : Nv w a x L) :
    Calls Try.prog 43 #[a] w fun e w' => e = .returned (.bool (decide (x = 0))) ∧ w' = w := by
  obtain ⟨ao, la, ca, xs, rfl, h1, h2, h3⟩ := ha
  have HL := Len_any ao la ca xs w h1
  have hn := val_nonneg B64_pos h1.dg
  obtain ⟨ln, hln⟩ : ∃ ln, lenOf xs = ln := ⟨_, rfl⟩
  have hz : decide ((ln : Int) = 0) = decide (x = 0) := by
    by_cases h0 : x = 0
    · rw [← hln, lenOf_zero h1.dg (by omega)]; simp [h0]
    · have := lenOf_pos h1.dg (by omega)
      simp [h0]; omega
  rw [hln] at HL
  rw [← hz]
  go_enter Try.func43, Try.ntmps43
  go_wp2_with (go_at_call 37; refine HL.mono ?_; rintro e w1 ⟨rfl, rfl⟩)
  go_ret
  exact ⟨by first | rfl | simp, rfl⟩
set_option maxHeartbeats 1000000 in
theorem isBelow_any (a b : Value) (x y : Int) (L : Nat) (w : World) (ha : Nv w a x L) (hb : Nv w b y L) :
    Calls Try.prog 44 #[a, b] w fun e w' => e = .returned (.bool (decide (x < y))) ∧ Below w.heap.size w w' := by
  obtain ⟨ao, la, ca, xs, rfl, h1, h2, h3⟩ := ha
  obtain ⟨bo, lb, cb, ys, rfl, k1, k2, k3⟩ := hb
  have HC := Cmp_any ao bo la ca lb cb xs ys w h1 k1
  rw [h2, k2] at HC
  obtain ⟨z, hz⟩ : ∃ z, cmpI x y = z := ⟨_, rfl⟩
  rw [hz] at HC
  have hd : decide (z < 0) = decide (x < y) := by
    rw [← hz]
    unfold cmpI
    by_cases q : x < y
    · simp [q]
    · rw [if_neg q]
      split <;> simp [q]
  clear hz
  go_enter Try.func44, Try.ntmps44
  go_wp2_with (go_at_call 31; refine HC.mono ?_; rintro e w1 ⟨rfl, k, rfl⟩)
  go_ret
  exact ⟨rfl, (drew7 _ _)⟩
/-- A curve's numbers; a point's. -/
structure Cz where
  p : Int
  a : Int
  b : Int
  gx : Int
  gy : Int
  n : Int
structure Pz where
  x : Int
  y : Int
  inf : Bool
/-- A curve in memory. -/
def Cu (w : World) (c : Value) (K : Cz) (L : Nat) : Prop := ∃ (g1 g2 : Int) (oo : Option Addr) (lo co : Nat) (vp va vb vx vy vn : Value), c = .agg #[.int .i64 g1, .int .i64 g2, .slice oo lo co, vp, va, vb, vx, vy, vn] ∧ Nv w vp K.p L ∧ Nv w va K.a L ∧ Nv w vb K.b L ∧ Nv w vx K.gx L ∧ Nv w vy K.gy L ∧ Nv w vn K.n L
/-- A point in memory. -/
def Pv (w : World) (c : Value) (p : Pz) (L : Nat) : Prop := ∃ vx vy, c = .agg #[vx, vy, .bool p.inf] ∧ Nv w vx p.x L ∧ Nv w vy p.y L
theorem Cu.old {w w' : World} {c : Value} {K : Cz} {L : Nat} (h : Cu w c K L) (hb : Below w.heap.size w w') : Cu w' c K L := by
  obtain ⟨g1, g2, oo, lo, co, vp, va, vb, vx, vy, vn, e, h1, h2, h3, h4, h5, h6⟩ := h
  exact ⟨g1, g2, oo, lo, co, vp, va, vb, vx, vy, vn, e, h1.old hb, h2.old hb, h3.old hb, h4.old hb, h5.old hb, h6.old hb⟩
theorem Pv.old {w w' : World} {c : Value} {p : Pz} {L : Nat} (h : Pv w c p L) (hb : Below w.heap.size w w') : Pv w' c p L := by
  obtain ⟨vx, vy, e, h1, h2⟩ := h
  exact ⟨vx, vy, e, h1.old hb, h2.old hb⟩
theorem Pv.up {w : World} {c : Value} {p : Pz} {L L' : Nat} (h : Pv w c p L) (hl : L ≤ L') : Pv w c p L' := by
  obtain ⟨vx, vy, e, h1, h2⟩ := h
  exact ⟨vx, vy, e, h1.up hl, h2.up hl⟩
/-- What slope keeps in memory. -/
structure FrS (W : World) (b : Nat) (cv pv qv : Array Value) (m : Value) : Prop where
  c : W.heap[b]? = some (.cells cv 31 (0, 0))
  p : W.heap[b + 1]? = some (.cells pv 42 (0, 0))
  q : W.heap[b + 1 + 1]? = some (.cells qv 42 (0, 0))
  f : W.heap[b + 1 + 1 + 1]? = some (.cells #[m] 97 (0, 0))
theorem heap_new {w : World} {o : Obj} {k : Nat} {x : Option Obj} (h : w.heap[k]? = x) (hx : k < w.heap.size) : (w.alloc o).heap[k]? = x := by
  rw [← h]
  exact heap_alloc_old _ _ hx
theorem frS_new (w : World) (cv pv qv : Array Value) (m : Value) : FrS ((((w.alloc (.cells cv 31)).alloc (.cells pv 42)).alloc (.cells qv 42)).alloc (.cells #[m] 97)) w.heap.size cv pv qv m ∧ Below w.heap.size w ((((w.alloc (.cells cv 31)).alloc (.cells pv 42)).alloc (.cells qv 42)).alloc (.cells #[m] 97)) := by
  have z1 := alloc_sz7 w (.cells cv 31)
  have z2 := alloc_sz7 (w.alloc (.cells cv 31)) (.cells pv 42)
  have z3 := alloc_sz7 ((w.alloc (.cells cv 31)).alloc (.cells pv 42)) (.cells qv 42)
  have n1 := heap_alloc_new w (.cells cv 31)
  have n2 := heap_alloc_new (w.alloc (.cells cv 31)) (.cells pv 42)
  have n3 := heap_alloc_new ((w.alloc (.cells cv 31)).alloc (.cells pv 42)) (.cells qv 42)
  have n4 := heap_alloc_new (((w.alloc (.cells cv 31)).alloc (.cells pv 42)).alloc (.cells qv 42)) (.cells #[m] 97)
  rw [z1] at n2
  rw [z2, z1] at n3
  rw [z3, z2, z1] at n4
  refine ⟨⟨heap_new (heap_new (heap_new n1 (by omega)) (by omega)) (by omega), heap_new (heap_new n2 (by omega)) (by omega), heap_new n3 (by omega), n4⟩, ?_⟩
  exact ((((Below.refl w.heap.size w).alloc (Nat.le_refl _) _).alloc (by omega) _).alloc (by omega) _).alloc (by omega) _
theorem FrS.keep {W W' : World} {b : Nat} {cv pv qv : Array Value} {m : Value} (h : FrS W b cv pv qv m) (hb : Below W.heap.size W W') : FrS W' b cv pv qv m :=
  ⟨(hb.block _ (Array.getElem?_eq_some_iff.1 h.c).1).trans h.c, (hb.block _ (Array.getElem?_eq_some_iff.1 h.p).1).trans h.p, (hb.block _ (Array.getElem?_eq_some_iff.1 h.q).1).trans h.q, (hb.block _ (Array.getElem?_eq_some_iff.1 h.f).1).trans h.f⟩
theorem FrS.cells {W : World} {b : Nat} {y0 y1 y2 y3 y4 y5 y6 y7 y8 p0 p1 p2 q0 q1 q2 m : Value} (h : FrS W b #[y0, y1, y2, y3, y4, y5, y6, y7, y8] #[p0, p1, p2] #[q0, q1, q2] m) : W.cell? ⟨b, 3, none⟩ = some y3 ∧ W.cell? ⟨b, 4, none⟩ = some y4 ∧ W.cell? ⟨b + 1, 0, none⟩ = some p0 ∧ W.cell? ⟨b + 1, 1, none⟩ = some p1 ∧ W.cell? ⟨b + 1 + 1, 0, none⟩ = some q0 ∧ W.cell? ⟨b + 1 + 1, 1, none⟩ = some q1 ∧ W.cell? ⟨b + 1 + 1 + 1, 0, none⟩ = some m := by
  refine ⟨?_, ?_, ?_, ?_, ?_, ?_, ?_⟩
  · rw [cell_of_row _ _ _ _ _ _ h.c]; rfl
  · rw [cell_of_row _ _ _ _ _ _ h.c]; rfl
  · rw [cell_of_row _ _ _ _ _ _ h.p]; rfl
  · rw [cell_of_row _ _ _ _ _ _ h.p]; rfl
  · rw [cell_of_row _ _ _ _ _ _ h.q]; rfl
  · rw [cell_of_row _ _ _ _ _ _ h.q]; rfl
  · rw [cell_of_row _ _ _ _ _ _ h.f]; rfl
/-- What is divided by what. -/
def riseZ (K : Cz) (p q : Pz) : Int := if (q.x - p.x) % K.p ≠ 0 then (q.y - p.y) % K.p else ((3 * ((p.x * p.x) % K.p)) % K.p + K.a) % K.p
def runZ (K : Cz) (p q : Pz) : Int := if (q.x - p.x) % K.p ≠ 0 then (q.x - p.x) % K.p else (p.y + q.y) % K.p
set_option maxRecDepth 100000 in
set_option maxHeartbeats 2000000 in
theorem slope_any (c p q : Value) (K : Cz) (P Q : Pz) (L : Nat) (w : World) (hc : Cu w c K L) (hp : Pv w p P L) (hq : Pv w q Q L) (h0 : K.p ≠ 0) (hL : 1 ≤ L ∧ L ≤ 1000) :
    Calls Try.prog 82 #[c, p, q] w fun e w' => ∃ v1 v2, e = .returned (.tuple #[v1, v2]) ∧ Nv w' v1 (riseZ K P Q) L ∧ Nv w' v2 (runZ K P Q) L ∧ Below w.heap.size w w' := by
  obtain ⟨g1, g2, oo, lo, co, vp, va, vb, vx, vy, vn, rfl, c1, c2, c3, c4, c5, c6⟩ := hc
  obtain ⟨px, py, rfl, p1, p2⟩ := hp
  obtain ⟨qx, qy, rfl, q1, q2⟩ := hq
  have HM := fun W (hW : Below w.heap.size w W) => minus_any qx px vp Q.x P.x K.p L L W (q1.old hW) (p1.old hW) (c1.old hW) h0 (by omega)
  obtain ⟨a1, a2, a3, a4, rfl, a5⟩ := c1
  obtain ⟨b1, b2, b3, b4, rfl, b5⟩ := c2
  obtain ⟨d1, d2, d3, d4, rfl, d5⟩ := c3
  obtain ⟨e1, e2, e3, e4, rfl, e5⟩ := c4
  obtain ⟨f1, f2, f3, f4, rfl, f5⟩ := c5
  obtain ⟨j1, j2, j3, j4, rfl, j5⟩ := c6
  obtain ⟨k1, k2, k3, k4, rfl, k5⟩ := p1
  obtain ⟨l1, l2, l3, l4, rfl, l5⟩ := p2
  obtain ⟨m1, m2, m3, m4, rfl, m5⟩ := q1
  obtain ⟨n1, n2, n3, n4, rfl, n5⟩ := q2
  obtain ⟨W, hW⟩ : ∃ W, (((w.alloc (.cells #[.int .i64 g1, .int .i64 g2, .slice oo lo co, .slice a1 a2 a3, .slice b1 b2 b3, .slice d1 d2 d3, .slice e1 e2 e3, .slice f1 f2 f3, .slice j1 j2 j3] 31)).alloc (.cells #[.slice k1 k2 k3, .slice l1 l2 l3, .bool P.inf] 42)).alloc (.cells #[.slice m1 m2 m3, .slice n1 n2 n3, .bool Q.inf] 42)).alloc (.cells #[.slice a1 a2 a3] 97) = W := ⟨_, rfl⟩
  have FZ := frS_new w #[.int .i64 g1, .int .i64 g2, .slice oo lo co, .slice a1 a2 a3, .slice b1 b2 b3, .slice d1 d2 d3, .slice e1 e2 e3, .slice f1 f2 f3, .slice j1 j2 j3] #[.slice k1 k2 k3, .slice l1 l2 l3, .bool P.inf] #[.slice m1 m2 m3, .slice n1 n2 n3, .bool Q.inf] (.slice a1 a2 a3)
  rw [hW] at FZ
  obtain ⟨FZ, hb⟩ := FZ
  have HMW := HM W hb
  have HW : Hid (_ = W) := hW
  clear hW
  obtain ⟨RI, hRI⟩ : ∃ r, riseZ K P Q = r := ⟨_, rfl⟩
  obtain ⟨RU, hRU⟩ : ∃ r, runZ K P Q = r := ⟨_, rfl⟩
  rw [hRI, hRU]
  have HRI : Hid (riseZ K P Q = RI ∧ runZ K P Q = RU) := ⟨hRI, hRU⟩
  clear hRI hRU
  go_enter Try.func82, Try.ntmps82
  go_wp2_with fail
  go_at_call 84
  rw [HW.out]
  refine HMW.mono ?_
  rintro e w1 ⟨v1, rfl, hv1, hb1⟩
  have F1 := FZ.keep hb1
  obtain ⟨x1, x2, x3, x4, x5, x6, x7⟩ := F1.cells
  have HZ := isZero_any v1 _ L w1 hv1
  have B1 := hb.trans (hb1.mono hb.size)
  have HM2 := minus_any (.slice n1 n2 n3) (.slice l1 l2 l3) (.slice a1 a2 a3) Q.y P.y K.p L L w1 (Nv.old ⟨n1, n2, n3, n4, rfl, n5⟩ B1) (Nv.old ⟨l1, l2, l3, l4, rfl, l5⟩ B1) (Nv.old ⟨a1, a2, a3, a4, rfl, a5⟩ B1) h0 (by omega)
  have hv1' := hv1
  obtain ⟨r1, r2, r3, r4, rfl, r5⟩ := hv1
  obtain ⟨A, hA⟩ : ∃ A, (Q.x - P.x) % K.p = A := ⟨_, rfl⟩
  rw [hA] at HZ hv1'
  by_cases hz : A = 0
  · have hd : decide (A = 0) = true := by simp [hz]
    rw [hd] at HZ
    clear HM2 HM HMW
    go_wp2_with (go_at_call 43; refine HZ.mono ?_; rintro e w2 ⟨rfl, rfl⟩)
    have HPr := product_any (.slice k1 k2 k3) (.slice k1 k2 k3) (.slice a1 a2 a3) P.x P.x K.p L L w2 (Nv.old ⟨k1, k2, k3, k4, rfl, k5⟩ B1) (Nv.old ⟨k1, k2, k3, k4, rfl, k5⟩ B1) (Nv.old ⟨a1, a2, a3, a4, rfl, a5⟩ B1) h0 (by omega)
    go_at_call 45
    refine HPr.mono ?_
    rintro e w3 ⟨v3, rfl, hv3, hb3⟩
    have hv3' := hv3
    obtain ⟨s1, s2, s3, s4, rfl, s5⟩ := hv3
    have F3 := F1.keep hb3
    have B3 := B1.trans (hb3.mono B1.size)
    clear HPr HZ x1 x2 x3 x4 x5 x6 x7
    obtain ⟨x1, x2, x3, x4, x5, x6, x7⟩ := F3.cells
    have HK := fun (W : World) (hW : Below w3.heap.size w3 W) => (show W.cell? ⟨w.heap.size + 1 + 1 + 1, 0, none⟩ = some (.slice a1 a2 a3) ∧ W.cell? ⟨w.heap.size, 4, none⟩ = some (.slice b1 b2 b3) ∧ W.cell? ⟨w.heap.size + 1, 1, none⟩ = some (.slice l1 l2 l3) ∧ W.cell? ⟨w.heap.size + 1 + 1, 1, none⟩ = some (.slice n1 n2 n3) from by
      obtain ⟨y1, y2, y3, y4, y5, y6, y7⟩ := (F3.keep hW).cells
      exact ⟨y7, y2, y4, y6⟩)
    have K3 := HK w3 (Below.refl _ _)
    have K4 := HK w3.drew (Below.refl _ _).drew
    have HOf := Of_any 3 w3.drew (by decide) (by decide)
    have HPr := fun W (hW : Below w.heap.size w W) (h3W : Below w3.heap.size w3 W) v (hv : Nv W v 3 1) => product_any v (.slice s1 s2 s3) (.slice a1 a2 a3) 3 ((P.x * P.x) % K.p) K.p L L W (hv.up hL.1) (hv3'.old h3W) (Nv.old ⟨a1, a2, a3, a4, rfl, a5⟩ hW) h0 (by omega)
    have HP1 := fun W (hW : Below w.heap.size w W) v n (hv : Nv W v n L) => plus_any v (.slice b1 b2 b3) (.slice a1 a2 a3) n K.a K.p L L W hv (Nv.old ⟨b1, b2, b3, b4, rfl, b5⟩ hW) (Nv.old ⟨a1, a2, a3, a4, rfl, a5⟩ hW) h0 (by omega)
    have HP2 := fun W (hW : Below w.heap.size w W) => plus_any (.slice l1 l2 l3) (.slice n1 n2 n3) (.slice a1 a2 a3) P.y Q.y K.p L L W (Nv.old ⟨l1, l2, l3, l4, rfl, l5⟩ hW) (Nv.old ⟨n1, n2, n3, n4, rfl, n5⟩ hW) (Nv.old ⟨a1, a2, a3, a4, rfl, a5⟩ hW) h0 (by omega)
    have T1 : True := trivial
    go_wp2_with fail
    go_region_held3 (fun W => W.cell? ⟨w.heap.size + 1 + 1 + 1, 0, none⟩ = some (.slice a1 a2 a3) ∧ W.cell? ⟨w.heap.size, 4, none⟩ = some (.slice b1 b2 b3) ∧ W.cell? ⟨w.heap.size + 1, 1, none⟩ = some (.slice l1 l2 l3) ∧ W.cell? ⟨w.heap.size + 1 + 1, 1, none⟩ = some (.slice n1 n2 n3))
      (first | exact K3 | exact K4 | exact K5 | exact K6 | exact K7 | exact K8) (first
      | (go_at_call 11; refine HOf.mono ?_; rintro e w5 ⟨v5, rfl, hn5⟩; have hv5 := hn5.na.1; have C5 := ((Below.refl w3.heap.size w3).drew).trans (hn5.na.2.mono (Nat.le_refl _)); have K5 := HK w5 C5; have HPr2 := HPr w5 (B3.trans (C5.mono B3.size)) C5 v5 hv5; obtain ⟨o1, o2, o3, o4, rfl, o5⟩ := hv5)
      | (go_at_call 45; refine HPr2.mono ?_; rintro e w6 ⟨v6, rfl, hv6, hb6⟩; have C6 := C5.trans (hb6.mono C5.size); have K6 := HK w6 C6; have HP12 := HP1 w6 (B3.trans (C6.mono B3.size)) v6 _ hv6; obtain ⟨u1, u2, u3, u4, rfl, u5⟩ := hv6)
      | (go_at_call 61; clear T1; refine HP12.mono ?_; rintro e w7 ⟨v7, rfl, hv7, hb7⟩; have C7 := C6.trans (hb7.mono C6.size); have K7 := HK w7 C7; have hv7' := hv7; have HP22 := HP2 w7 (B3.trans (C7.mono B3.size)); obtain ⟨y1, y2, y3, y4, rfl, y5⟩ := hv7)
      | (go_at_call 61; refine HP22.mono ?_; rintro e w8 ⟨v8, rfl, hv8, hb8⟩; have C8 := C7.trans (hb8.mono C7.size); have K8 := HK w8 C8; have hv8' := hv8; obtain ⟨z1, z2, z3, z4, rfl, z5⟩ := hv8))
    go_wp2
    go_ret2
    refine ⟨_, _, rfl, ?_, ?_, B3.trans (C8.mono B3.size)⟩
    · rw [← HRI.out.1]
      unfold riseZ
      rw [hA, if_neg (by simp [hz])]
      exact hv7'.old hb8
    · rw [← HRI.out.2]
      unfold runZ
      rw [hA, if_neg (by simp [hz])]
      exact hv8'
  · have hd : decide (A = 0) = false := by simp [hz]
    rw [hd] at HZ
    clear HM HMW
    go_wp2_with (first
      | (go_at_call 43; refine HZ.mono ?_; rintro e w2 ⟨rfl, rfl⟩)
      | (go_at_call 84; refine HM2.mono ?_; rintro e w3 ⟨v3, rfl, hv3, hb3⟩; have hv3' := hv3; obtain ⟨s1, s2, s3, s4, rfl, s5⟩ := hv3))
    go_ret2
    refine ⟨_, _, rfl, ?_, ?_, B1.trans (hb3.mono B1.size)⟩
    · rw [← HRI.out.1]
      unfold riseZ
      rw [hA, if_pos hz]
      exact hv3'
    · rw [← HRI.out.2]
      unfold runZ
      rw [hA, if_pos hz]
      exact hv1'.old hb3
end Go.Proofs.Ytagljkbfgldlgaa
/-
  The code's sum of two points.
-/
namespace Go.Proofs.Ytagljkbfgldlgaa
open Go.Shelf Go.RowKit
set_option linter.unusedVariables false
set_option linter.unusedSimpArgs false

def noZ : Pz := ⟨0, 0, true⟩
def ownZ (p : Pz) : Pz := if p.inf then noZ else p
/-- The sum's numbers; s: the slope. -/
def sumX (K : Cz) (p q : Pz) (s : Int) : Int := (((s * s) % K.p - p.x) % K.p - q.x) % K.p
def sumY (K : Cz) (p q : Pz) (s : Int) : Int := ((s * ((p.x - sumX K p q s) % K.p)) % K.p - p.y) % K.p
/-- The sum of two points that have numbers. -/
def AddN (K : Cz) (p q : Pz) (r : Option Pz) : Prop :=
  if runZ K p q = 0 then r = some noZ else if gd K.p (runZ K p q % K.p) ≠ 1 then r = none else ∃ n, 0 ≤ n ∧ n < K.p ∧ Cg K.p (n * runZ K p q) 1 ∧ r = some ⟨sumX K p q ((riseZ K p q * n) % K.p), sumY K p q ((riseZ K p q * n) % K.p), false⟩
/-- The sum. -/
def AddZ (K : Cz) (p q : Pz) (r : Option Pz) : Prop :=
  if K.p = 0 then r = none else if p.inf then r = some (ownZ q) else if q.inf then r = some (ownZ p) else AddN K p q r
/-- A point that was answered, or none. -/
def Pa (w w' : World) (e : Ending) (r : Option Pz) (L : Nat) : Prop := Below w.heap.size w w' ∧ ((∃ v p, r = some p ∧ e = .returned (.tuple #[v, .bool true]) ∧ Pv w' v p L) ∨ (r = none ∧ e = .returned (.tuple #[.agg #[.slice none 0 0, .slice none 0 0, .bool false], .bool false])))
theorem nv_nil (w : World) (L : Nat) : Nv w (.slice none 0 0) 0 L := ⟨none, 0, 0, [], rfl, NumIn.nil, rfl, Nat.zero_le _⟩
theorem pv_no (w : World) (L : Nat) : Pv w (.agg #[.slice none 0 0, .slice none 0 0, .bool true]) noZ L := ⟨_, _, rfl, nv_nil w L, nv_nil w L⟩
/-- But for block g the world w' is as w was. -/
structure Bt (g : Nat) (w w' : World) : Prop where
  os : w'.os = w.os
  tape : w'.tape = w.tape
  output : w'.output = w.output
  size : w.heap.size ≤ w'.heap.size
  block : ∀ k, k < w.heap.size → k ≠ g → w'.heap[k]? = w.heap[k]?
theorem Bt.below {g B : Nat} {w w' : World} (h : Bt g w w') (hB : B ≤ g) (hw : B ≤ w.heap.size) : Below B w w' := ⟨h.os, h.tape, h.output, h.size, fun k hk => h.block k (by omega) (by omega)⟩
theorem Bt.trans {g : Nat} {a b c : World} (h : Bt g a b) (k : Bt g b c) : Bt g a c :=
  ⟨k.os.trans h.os, k.tape.trans h.tape, k.output.trans h.output, Nat.le_trans h.size k.size, fun i hi hg => (k.block i (Nat.lt_of_lt_of_le hi h.size) hg).trans (h.block i hi hg)⟩
theorem Bt.setCell (g : Nat) (w : World) (j : Nat) (v : Value) : Bt g w (w.setCell ⟨g, j, none⟩ v) := ⟨rfl, rfl, rfl, by simp [World.setCell], fun k _ hk => Below.heap_setCell w ⟨g, j, none⟩ v k hk⟩
/-- A point's place. -/
def PSl (w : World) (r : Nat) (c0 c1 c2 : Value) : Prop := w.heap[r]? = some (.cells #[c0, c1, c2] 42 (0, 0))
theorem PSl.lt {w : World} {r : Nat} {c0 c1 c2 : Value} (h : PSl w r c0 c1 c2) : r < w.heap.size := (Array.getElem?_eq_some_iff.1 h).1
theorem PSl.keep {w w' : World} {r : Nat} {c0 c1 c2 : Value} (h : PSl w r c0 c1 c2) (hb : Below w.heap.size w w') : PSl w' r c0 c1 c2 := (hb.block _ h.lt).trans h
theorem PSl.facts {w : World} {r : Nat} {c0 c1 c2 : Value} (h : PSl w r c0 c1 c2) : w.cell? ⟨r, 0, none⟩ = some c0 ∧ w.cell? ⟨r, 1, none⟩ = some c1 ∧ w.cell? ⟨r, 2, none⟩ = some c2 ∧ w.frozen? ⟨r, 0, none⟩ = false ∧ w.frozen? ⟨r, 1, none⟩ = false ∧ w.frozen? ⟨r, 2, none⟩ = false :=
  ⟨by rw [cell_of_row _ _ _ _ _ _ h]; rfl, by rw [cell_of_row _ _ _ _ _ _ h]; rfl, by rw [cell_of_row _ _ _ _ _ _ h]; rfl, frozen_of_row w r 0 _ _ h, frozen_of_row w r 1 _ _ h, frozen_of_row w r 2 _ _ h⟩
theorem heap_set7 (w : World) (g j : Nat) (v : Value) (cs : Array Value) (t : TypeId) (fr : Nat × Nat) (h : w.heap[g]? = some (.cells cs t fr)) : (w.setCell ⟨g, j, none⟩ v).heap[g]? = some (.cells (cs.setIfInBounds j v) t fr) := by
  have hlt := (Array.getElem?_eq_some_iff.1 h).1
  have he : w.heap[g] = .cells cs t fr := (Array.getElem?_eq_some_iff.1 h).2
  simp [World.setCell, hlt]
  rw [Array.getElem_modify]
  simp [he]
theorem PSl.set3 {w : World} {r : Nat} {c0 c1 c2 : Value} (h : PSl w r c0 c1 c2) (d0 d1 d2 : Value) : PSl (((w.setCell ⟨r, 0, none⟩ d0).setCell ⟨r, 1, none⟩ d1).setCell ⟨r, 2, none⟩ d2) r d0 d1 d2 := by
  have h1 := heap_set7 w r 0 d0 _ _ _ h
  have h2 := heap_set7 _ r 1 d1 _ _ _ h1
  exact heap_set7 _ r 2 d2 _ _ _ h2
theorem Bt.set3 (w : World) (r : Nat) (d0 d1 d2 : Value) : Bt r w (((w.setCell ⟨r, 0, none⟩ d0).setCell ⟨r, 1, none⟩ d1).setCell ⟨r, 2, none⟩ d2) := ((Bt.setCell r w 0 d0).trans (Bt.setCell r _ 1 d1)).trans (Bt.setCell r _ 2 d2)
/-- Numbers don't lie where a point does. -/
theorem Nv.apart {w w' : World} {v : Value} {n : Int} {L r : Nat} {a1 a2 : Option Addr} {l1 k1 l2 k2 : Nat} {b : Bool} (h : Nv w v n L) (hs : PSl w r (.slice a1 l1 k1) (.slice a2 l2 k2) (.bool b)) (hb : Bt r w w') : Nv w' v n L := by
  obtain ⟨ao, len, cap, xs, e, h1, h2, h3⟩ := h
  refine ⟨ao, len, cap, xs, e, ⟨⟨h1.len, ?_⟩, h1.lc, h1.cm, h1.nn, h1.dg, h1.sm⟩, h2, h3⟩
  by_cases h0 : len = 0
  · exact .inl h0
  · obtain ⟨b', off, e2, hlt, hc⟩ := h1.lies.at (by omega)
    have hne : b' ≠ r := fun e3 => by
      subst e3
      have h4 := hc 0 (by omega)
      rw [cell_of_row _ _ _ _ _ _ hs] at h4
      obtain ⟨o, ho⟩ : ∃ o, off + 0 = o := ⟨_, rfl⟩
      rw [ho] at h4
      match o, h4 with
      | 0, h4 => cases h4
      | 1, h4 => cases h4
      | 2, h4 => cases h4
      | k + 3, h4 => simp at h4
    exact .inr ⟨b', off, e2, Nat.lt_of_lt_of_le hlt hb.size, fun i hi => (World.cell?_of_block (w := w) (hb.block b' hlt hne)).trans (hc i hi)⟩
theorem sizePt : (Try.prog.info? 42).map (·.size) = some 3 := by kernel_rfl
theorem ret_pt {fn : Func} {p u : Tmp} (h : fn.results = #[.cell p 42, .tmp u]) (tmps : Array Value) (w : World) (g : Nat) (c0 c1 c2 : Value) (hp : tmps.getD p undef = .pointer (some ⟨g, 0, none⟩)) (hg : PSl w g c0 c1 c2) :
    (results fn tmps).run Try.prog w = .ok (.tuple #[.agg #[c0, c1, c2], tmps.getD u undef]) w := by
  rw [results_cell_tmp h, hp]
  have hl := run_loadVar_row (P := Try.prog) w g 42 42 #[c0, c1, c2] (0, 0) _ hg Try.underlying42 rfl sizePt
  simp [asAddr, Result.andThen, hl]
theorem ret_pt1 {fn : Func} {p : Tmp} (h : fn.results = #[.cell p 42]) (tmps : Array Value) (w : World) (g : Nat) (c0 c1 c2 : Value) (hp : tmps.getD p undef = .pointer (some ⟨g, 0, none⟩)) (hg : PSl w g c0 c1 c2) :
    (results fn tmps).run Try.prog w = .ok (.agg #[c0, c1, c2]) w :=
  results_cell_row h tmps w g 42 _ (0, 0) _ hp hg Try.underlying42 rfl sizePt
set_option maxHeartbeats 1000000 in
theorem nothing_any (w : World) : Calls Try.prog 65 #[] w fun e w' => e = .returned (.agg #[.slice none 0 0, .slice none 0 0, .bool true]) ∧ Below w.heap.size w w' := by
  go_enter Try.func65, Try.ntmps65
  go_wp2
  refine bodyPost_ret (ret_pt1 rfl _ _ w.heap.size _ _ _ rfl (heap_alloc_new w _)) rfl ?_
  exact ⟨rfl, (Below.refl _ _).alloc (Nat.le_refl _) _⟩
/-- What addNumbers keeps in memory. -/
structure FrA (W : World) (b : Nat) (pv qv : Array Value) (m : Value) : Prop where
  p : W.heap[b + 1]? = some (.cells pv 42 (0, 0))
  q : W.heap[b + 1 + 1]? = some (.cells qv 42 (0, 0))
  r : PSl W (b + 1 + 1 + 1) (.slice none 0 0) (.slice none 0 0) (.bool false)
  f : W.heap[b + 1 + 1 + 1 + 1]? = some (.cells #[m] 97 (0, 0))
theorem frA_new (w : World) (cv pv qv : Array Value) (m : Value) : FrA (((((w.alloc (.cells cv 31)).alloc (.cells pv 42)).alloc (.cells qv 42)).alloc (.cells #[.slice none 0 0, .slice none 0 0, .bool false] 42)).alloc (.cells #[m] 97)) w.heap.size pv qv m ∧ Below w.heap.size w (((((w.alloc (.cells cv 31)).alloc (.cells pv 42)).alloc (.cells qv 42)).alloc (.cells #[.slice none 0 0, .slice none 0 0, .bool false] 42)).alloc (.cells #[m] 97)) := by
  obtain ⟨w1, e1⟩ : ∃ x, w.alloc (.cells cv 31) = x := ⟨_, rfl⟩
  obtain ⟨w2, e2⟩ : ∃ x, w1.alloc (.cells pv 42) = x := ⟨_, rfl⟩
  obtain ⟨w3, e3⟩ : ∃ x, w2.alloc (.cells qv 42) = x := ⟨_, rfl⟩
  obtain ⟨w4, e4⟩ : ∃ x, w3.alloc (.cells #[.slice none 0 0, .slice none 0 0, .bool false] 42) = x := ⟨_, rfl⟩
  have z1 : w1.heap.size = w.heap.size + 1 := by rw [← e1]; exact alloc_sz7 _ _
  have z2 : w2.heap.size = w.heap.size + 1 + 1 := by rw [← e2, alloc_sz7, z1]
  have z3 : w3.heap.size = w.heap.size + 1 + 1 + 1 := by rw [← e3, alloc_sz7, z2]
  have z4 : w4.heap.size = w.heap.size + 1 + 1 + 1 + 1 := by rw [← e4, alloc_sz7, z3]
  have n2 : w2.heap[w.heap.size + 1]? = some (.cells pv 42 (0, 0)) := by rw [← e2, ← z1]; exact heap_alloc_new w1 _
  have n3 : w3.heap[w.heap.size + 1 + 1]? = some (.cells qv 42 (0, 0)) := by rw [← e3, ← z2]; exact heap_alloc_new w2 _
  have n4 : w4.heap[w.heap.size + 1 + 1 + 1]? = some (.cells #[.slice none 0 0, .slice none 0 0, .bool false] 42 (0, 0)) := by rw [← e4, ← z3]; exact heap_alloc_new w3 _
  have n5 := heap_alloc_new w4 (.cells #[m] 97)
  rw [z4] at n5
  have m2 : w3.heap[w.heap.size + 1]? = some (.cells pv 42 (0, 0)) := by rw [← e3]; exact heap_new n2 (by omega)
  have k2 : w4.heap[w.heap.size + 1]? = some (.cells pv 42 (0, 0)) := by rw [← e4]; exact heap_new m2 (by omega)
  have k3 : w4.heap[w.heap.size + 1 + 1]? = some (.cells qv 42 (0, 0)) := by rw [← e4]; exact heap_new n3 (by omega)
  have bb : Below w.heap.size w (w4.alloc (.cells #[m] 97)) := by
    rw [← e4, ← e3, ← e2, ← e1]
    exact (((((Below.refl w.heap.size w).alloc (Nat.le_refl _) _).alloc (by rw [alloc_sz7]; omega) _).alloc (by rw [alloc_sz7, alloc_sz7]; omega) _).alloc (by rw [alloc_sz7, alloc_sz7, alloc_sz7]; omega) _).alloc (by rw [alloc_sz7, alloc_sz7, alloc_sz7, alloc_sz7]; omega) _
  rw [e1, e2, e3, e4]
  exact ⟨⟨heap_new k2 (by omega), heap_new k3 (by omega), heap_new n4 (by omega), n5⟩, bb⟩
theorem FrA.keep {W W' : World} {b : Nat} {pv qv : Array Value} {m : Value} (h : FrA W b pv qv m) (hb : Below W.heap.size W W') : FrA W' b pv qv m :=
  ⟨(hb.block _ (Array.getElem?_eq_some_iff.1 h.p).1).trans h.p, (hb.block _ (Array.getElem?_eq_some_iff.1 h.q).1).trans h.q, h.r.keep hb, (hb.block _ (Array.getElem?_eq_some_iff.1 h.f).1).trans h.f⟩
theorem FrA.cells {W : World} {b : Nat} {p0 p1 p2 q0 q1 q2 m : Value} (h : FrA W b #[p0, p1, p2] #[q0, q1, q2] m) : W.cell? ⟨b + 1, 0, none⟩ = some p0 ∧ W.cell? ⟨b + 1, 1, none⟩ = some p1 ∧ W.cell? ⟨b + 1 + 1, 0, none⟩ = some q0 ∧ W.cell? ⟨b + 1 + 1 + 1 + 1, 0, none⟩ = some m := by
  refine ⟨?_, ?_, ?_, ?_⟩
  · rw [cell_of_row _ _ _ _ _ _ h.p]; rfl
  · rw [cell_of_row _ _ _ _ _ _ h.p]; rfl
  · rw [cell_of_row _ _ _ _ _ _ h.q]; rfl
  · rw [cell_of_row _ _ _ _ _ _ h.f]; rfl
set_option maxRecDepth 100000 in
set_option maxHeartbeats 2000000 in
theorem addNumbers_any (c p q : Value) (K : Cz) (P Q : Pz) (L : Nat) (w : World) (hc : Cu w c K L) (hp : Pv w p P L) (hq : Pv w q Q L) (h0 : K.p ≠ 0) (hL : 1 ≤ L ∧ L ≤ 1000) :
    Calls Try.prog 68 #[c, p, q] w fun e w' => ∃ r, AddN K P Q r ∧ Pa w w' e r L := by
  have HS := fun W (hW : Below w.heap.size w W) => slope_any c p q K P Q L W (hc.old hW) (hp.old hW) (hq.old hW) h0 hL
  obtain ⟨g1, g2, oo, lo, co, vp, va, vb, vx, vy, vn, rfl, c1, c2, c3, c4, c5, c6⟩ := hc
  obtain ⟨px, py, rfl, p1, p2⟩ := hp
  obtain ⟨qx, qy, rfl, q1, q2⟩ := hq
  obtain ⟨a1, a2, a3, a4, rfl, a5⟩ := c1
  obtain ⟨b1, b2, b3, b4, rfl, b5⟩ := c2
  obtain ⟨d1, d2, d3, d4, rfl, d5⟩ := c3
  obtain ⟨e1, e2, e3, e4, rfl, e5⟩ := c4
  obtain ⟨f1, f2, f3, f4, rfl, f5⟩ := c5
  obtain ⟨j1, j2, j3, j4, rfl, j5⟩ := c6
  obtain ⟨k1, k2, k3, k4, rfl, k5⟩ := p1
  obtain ⟨l1, l2, l3, l4, rfl, l5⟩ := p2
  obtain ⟨m1, m2, m3, m4, rfl, m5⟩ := q1
  obtain ⟨n1, n2, n3, n4, rfl, n5⟩ := q2
  have FZ := frA_new w #[.int .i64 g1, .int .i64 g2, .slice oo lo co, .slice a1 a2 a3, .slice b1 b2 b3, .slice d1 d2 d3, .slice e1 e2 e3, .slice f1 f2 f3, .slice j1 j2 j3] #[.slice k1 k2 k3, .slice l1 l2 l3, .bool P.inf] #[.slice m1 m2 m3, .slice n1 n2 n3, .bool Q.inf] (.slice a1 a2 a3)
  obtain ⟨FZ, hb⟩ := FZ
  have HSW := HS _ hb
  obtain ⟨RI, hRI⟩ : ∃ r, riseZ K P Q = r := ⟨_, rfl⟩
  obtain ⟨RU, hRU⟩ : ∃ r, runZ K P Q = r := ⟨_, rfl⟩
  have HRI : Hid (riseZ K P Q = RI ∧ runZ K P Q = RU) := ⟨hRI, hRU⟩
  rw [hRI, hRU] at HSW
  clear hRI hRU
  have HFS : Hid (FrA _ w.heap.size #[.slice k1 k2 k3, .slice l1 l2 l3, .bool P.inf] #[.slice m1 m2 m3, .slice n1 n2 n3, .bool Q.inf] (.slice a1 a2 a3)) := FZ
  clear FZ HS
  go_enter Try.func68, Try.ntmps68
  go_wp2_with fail
  go_at_call 82
  refine HSW.mono ?_
  rintro e w1 ⟨v1, v2, rfl, hv1, hv2, hb1⟩
  have F1 := HFS.out.keep hb1
  have B1 := hb.trans (hb1.mono hb.size)
  have HZ := isZero_any v2 RU L w1 hv2
  have HN := nothing_any w1
  have s1 := F1.r
  obtain ⟨x1, x2, x3, x4⟩ := F1.cells
  have HQ := fun hg => quot_yes v1 v2 (.slice a1 a2 a3) RI RU K.p L L w1 hv1 hv2 (Nv.old ⟨a1, a2, a3, a4, rfl, a5⟩ B1) h0 hg (by omega)
  have HQn := fun hg => quot_no v1 v2 (.slice a1 a2 a3) RI RU K.p L L w1 hv1 hv2 (Nv.old ⟨a1, a2, a3, a4, rfl, a5⟩ B1) h0 hg (by omega)
  obtain ⟨t1, t2, t3, t4, rfl, t5⟩ := hv1
  obtain ⟨u1, u2, u3, u4, rfl, u5⟩ := hv2
  clear HSW
  by_cases hz : RU = 0
  · have hd : decide (RU = 0) = true := by simp [hz]
    rw [hd] at HZ
    go_wp2_with (first
      | (go_at_call 43; refine HZ.mono ?_; rintro e w2 ⟨rfl, rfl⟩)
      | (go_at_call 65; refine HN.mono ?_; rintro e w3 ⟨rfl, hb3⟩; have s3 := s1.keep hb3; obtain ⟨y0, y1, y2, y3, y4, y5⟩ := s3.facts))
    refine bodyPost_ret (ret_pt rfl _ _ (w.heap.size + 1 + 1 + 1) _ _ _ rfl (s3.set3 (.slice none 0 0) (.slice none 0 0) (.bool true))) rfl ?_
    have bt := Bt.set3 w3 (w.heap.size + 1 + 1 + 1) (.slice none 0 0) (.slice none 0 0) (.bool true)
    have B3 := B1.trans (hb3.mono B1.size)
    refine ⟨some noZ, ?_, B3.trans (bt.below (by omega) B3.size), .inl ⟨_, noZ, rfl, rfl, pv_no _ L⟩⟩
    unfold AddN
    rw [HRI.out.2, if_pos hz]
  · have hd : decide (RU = 0) = false := by simp [hz]
    rw [hd] at HZ
    by_cases hg : gd K.p (RU % K.p) = 1
    · have HQ2 := HQ hg
      clear HQ HQn HN
      go_wp2_with (first
        | (go_at_call 43; refine HZ.mono ?_; rintro e w2 ⟨rfl, rfl⟩)
        | (go_at_call 83; refine HQ2.mono ?_; rintro e w3 ⟨v3, n, rfl, ⟨hv3, hb3⟩, hn⟩; have F3 := F1.keep hb3; have B3 := B1.trans (hb3.mono B1.size); have hv3' := hv3; obtain ⟨z1, z2, z3, z4, rfl, z5⟩ := hv3; clear x1 x2 x3 x4; obtain ⟨y1, y2, y3, y4⟩ := F3.cells))
      have HK := fun (W : World) (hW : Below w3.heap.size w3 W) => (F3.keep hW).cells
      have K3 := HK w3 (Below.refl _ _)
      have K3d := HK w3.drew (Below.refl _ _).drew
      have HP1 := fun W (hW : Below w.heap.size w W) (h3 : Below w3.heap.size w3 W) => product_any (.slice z1 z2 z3) (.slice z1 z2 z3) (.slice a1 a2 a3) _ _ K.p L L W (hv3'.old h3) (hv3'.old h3) (Nv.old ⟨a1, a2, a3, a4, rfl, a5⟩ hW) h0 (by omega)
      have HP2 := fun W (hW : Below w.heap.size w W) (h3 : Below w3.heap.size w3 W) v m (hv : Nv W v m L) => product_any (.slice z1 z2 z3) v (.slice a1 a2 a3) _ m K.p L L W (hv3'.old h3) hv (Nv.old ⟨a1, a2, a3, a4, rfl, a5⟩ hW) h0 (by omega)
      have HM1 := fun W (hW : Below w.heap.size w W) v m (hv : Nv W v m L) => minus_any v (.slice k1 k2 k3) (.slice a1 a2 a3) m P.x K.p L L W hv (Nv.old ⟨k1, k2, k3, k4, rfl, k5⟩ hW) (Nv.old ⟨a1, a2, a3, a4, rfl, a5⟩ hW) h0 (by omega)
      have HM2 := fun W (hW : Below w.heap.size w W) v m (hv : Nv W v m L) => minus_any v (.slice m1 m2 m3) (.slice a1 a2 a3) m Q.x K.p L L W hv (Nv.old ⟨m1, m2, m3, m4, rfl, m5⟩ hW) (Nv.old ⟨a1, a2, a3, a4, rfl, a5⟩ hW) h0 (by omega)
      have HM3 := fun W (hW : Below w.heap.size w W) v m (hv : Nv W v m L) => minus_any (.slice k1 k2 k3) v (.slice a1 a2 a3) P.x m K.p L L W (Nv.old ⟨k1, k2, k3, k4, rfl, k5⟩ hW) hv (Nv.old ⟨a1, a2, a3, a4, rfl, a5⟩ hW) h0 (by omega)
      have HM4 := fun W (hW : Below w.heap.size w W) v m (hv : Nv W v m L) => minus_any v (.slice l1 l2 l3) (.slice a1 a2 a3) m P.y K.p L L W hv (Nv.old ⟨l1, l2, l3, l4, rfl, l5⟩ hW) (Nv.old ⟨a1, a2, a3, a4, rfl, a5⟩ hW) h0 (by omega)
      have HP1d := HP1 w3.drew B3.drew (Below.refl _ _).drew
      have T1 : True := trivial
      go_region_held3 (fun W => W.cell? ⟨w.heap.size + 1, 0, none⟩ = some (.slice k1 k2 k3) ∧ W.cell? ⟨w.heap.size + 1, 1, none⟩ = some (.slice l1 l2 l3) ∧ W.cell? ⟨w.heap.size + 1 + 1, 0, none⟩ = some (.slice m1 m2 m3) ∧ W.cell? ⟨w.heap.size + 1 + 1 + 1 + 1, 0, none⟩ = some (.slice a1 a2 a3))
        (first | exact K3 | exact K3d | exact K4 | exact K5 | exact K6) (first
        | (go_at_call 45; refine HP1d.mono ?_; rintro e w4 ⟨v4, rfl, hv4, hb4⟩; have C4 := ((Below.refl w3.heap.size w3).drew).trans (hb4.mono (Nat.le_refl _)); have K4 := HK w4 C4; have HM1d := HM1 w4 (B3.trans (C4.mono B3.size)) v4 _ hv4; obtain ⟨o1, o2, o3, o4, rfl, o5⟩ := hv4)
        | (go_at_call 84; clear T1; refine HM1d.mono ?_; rintro e w5 ⟨v5, rfl, hv5, hb5⟩; have C5 := C4.trans (hb5.mono C4.size); have K5 := HK w5 C5; have HM2d := HM2 w5 (B3.trans (C5.mono B3.size)) v5 _ hv5; obtain ⟨r1, r2, r3, r4, rfl, r5⟩ := hv5)
        | (go_at_call 84; refine HM2d.mono ?_; rintro e w6 ⟨v6, rfl, hv6, hb6⟩; have C6 := C5.trans (hb6.mono C5.size); have K6 := HK w6 C6; have hv6' := hv6; obtain ⟨s1, s2, s3, s4, rfl, s5⟩ := hv6))
      go_wp2_with fail
      have B6 := B3.trans (C6.mono B3.size)
      have C6d := C6.drew
      have K6d := HK w6.drew C6d
      have HM3d := HM3 w6.drew B6.drew (.slice s1 s2 s3) _ (hv6'.old (Below.refl _ _).drew)
      have T1 : True := trivial
      clear HM1d HM2d HP1d K3 K3d K4 K5 HZ HQ2 y1 y2 y3 y4
      go_region_held3 (fun W => W.cell? ⟨w.heap.size + 1, 0, none⟩ = some (.slice k1 k2 k3) ∧ W.cell? ⟨w.heap.size + 1, 1, none⟩ = some (.slice l1 l2 l3) ∧ W.cell? ⟨w.heap.size + 1 + 1, 0, none⟩ = some (.slice m1 m2 m3) ∧ W.cell? ⟨w.heap.size + 1 + 1 + 1 + 1, 0, none⟩ = some (.slice a1 a2 a3))
        (first | exact K6 | exact K6d | exact K7 | exact K8 | exact K9) (first
        | (go_at_call 84; clear T1; refine HM3d.mono ?_; rintro e w7 ⟨v7, rfl, hv7, hb7⟩; have C7 := C6d.trans (hb7.mono C6d.size); have K7 := HK w7 C7; have HP2d := HP2 w7 (B3.trans (C7.mono B3.size)) C7 v7 _ hv7; obtain ⟨o1', o2', o3', o4', rfl, o5'⟩ := hv7)
        | (go_at_call 45; refine HP2d.mono ?_; rintro e w8 ⟨v8, rfl, hv8, hb8⟩; have C8 := C7.trans (hb8.mono C7.size); have K8 := HK w8 C8; have HM4d := HM4 w8 (B3.trans (C8.mono B3.size)) v8 _ hv8; obtain ⟨r1', r2', r3', r4', rfl, r5'⟩ := hv8)
        | (go_at_call 84; refine HM4d.mono ?_; rintro e w9 ⟨v9, rfl, hv9, hb9⟩; have C9 := C8.trans (hb9.mono C8.size); have K9 := HK w9 C9; have hv9' := hv9; obtain ⟨q1', q2', q3', q4', rfl, q5'⟩ := hv9))
      have s9 := (F3.keep C9).r
      obtain ⟨i0, i1, i2, i3, i4, i5⟩ := s9.facts
      clear HM3d HP2d HM4d
      go_wp2_with fail
      refine bodyPost_ret (ret_pt rfl _ _ (w.heap.size + 1 + 1 + 1) _ _ _ rfl (s9.set3 (.slice s1 s2 s3) (.slice q1' q2' q3') (.bool false))) rfl ?_
      have bt := Bt.set3 w9 (w.heap.size + 1 + 1 + 1) (.slice s1 s2 s3) (.slice q1' q2' q3') (.bool false)
      have B9 := B3.trans (C9.mono B3.size)
      have hx := hv6'.old ((((Below.refl w6.heap.size w6).drew).trans (hb7.mono (Nat.le_refl _))).trans ((hb8.mono hb7.size).trans (hb9.mono (Nat.le_trans hb7.size hb8.size))))
      refine ⟨some ⟨sumX K P Q ((riseZ K P Q * n) % K.p), sumY K P Q ((riseZ K P Q * n) % K.p), false⟩, ?_, B9.trans (bt.below (by omega) B9.size), .inl ⟨_, _, rfl, rfl, _, _, rfl, ?_, ?_⟩⟩
      · unfold AddN
        rw [HRI.out.2, if_neg hz, if_neg (by simp [hg])]
        exact ⟨n, hn.1, hn.2.1, hn.2.2, rfl⟩
      · have h1 := hx.apart s9 bt
        rw [HRI.out.1]
        exact h1
      · have h1 := hv9'.apart s9 bt
        rw [HRI.out.1]
        exact h1
    · have HQ2 := HQn hg
      clear HQ HQn HN
      obtain ⟨r0, r1, r2, r3, r4, r5⟩ := s1.facts
      go_wp2_with (first
        | (go_at_call 43; refine HZ.mono ?_; rintro e w2 ⟨rfl, rfl⟩)
        | (go_at_call 83; refine HQ2.mono ?_; rintro e w3 ⟨rfl, hb3⟩; have s3 := s1.keep hb3; obtain ⟨y0, y1, y2, y3, y4, y5⟩ := s3.facts))
      refine bodyPost_ret (ret_pt rfl _ _ (w.heap.size + 1 + 1 + 1) _ _ _ rfl (s3.set3 (.slice none 0 0) (.slice none 0 0) (.bool false))) rfl ?_
      have bt := Bt.set3 w3 (w.heap.size + 1 + 1 + 1) (.slice none 0 0) (.slice none 0 0) (.bool false)
      have B3 := B1.trans (hb3.mono B1.size)
      refine ⟨none, ?_, B3.trans (bt.below (by omega) B3.size), .inr ⟨rfl, rfl⟩⟩
      unfold AddN
      rw [HRI.out.2, if_neg hz, if_pos hg]
end Go.Proofs.Ytagljkbfgldlgaa
/-
  The code's Add, Base, Size, On.
-/
namespace Go.Proofs.Ytagljkbfgldlgaa
open Go.Shelf Go.RowKit
set_option linter.unusedVariables false
set_option linter.unusedSimpArgs false

theorem norm_nv (a : Value) (x : Int) (L : Nat) (w : World) (ha : Nv w a x L) : Calls Try.prog 69 #[a] w fun e w' => ∃ v, e = .returned v ∧ Na w w' v x L := by
  obtain ⟨ao, la, ca, xs, rfl, h1, rfl, h2⟩ := ha
  refine (Norm_any ao la ca xs w h1).mono ?_
  rintro e w' ⟨v, rfl, h⟩
  exact ⟨v, rfl, h.na.1.up h2, h.na.2⟩
theorem set3_other {w : World} {b j r : Nat} {v d0 d1 d2 : Value} (h : w.cell? ⟨b, j, none⟩ = some v) (hne : b ≠ r) : (((w.setCell ⟨r, 0, none⟩ d0).setCell ⟨r, 1, none⟩ d1).setCell ⟨r, 2, none⟩ d2).cell? ⟨b, j, none⟩ = some v :=
  (World.cell?_of_block (w := w) ((Bt.set3 w r d0 d1 d2).block b (World.block_lt_of_cell? w _ h) hne)).trans h
/-- Two places, one behind the other. -/
theorem two_new (w : World) (pv : Array Value) (t : TypeId) : ((w.alloc (.cells pv t)).alloc (.cells #[.slice none 0 0, .slice none 0 0, .bool false] 42)).heap[w.heap.size]? = some (.cells pv t (0, 0)) ∧ PSl ((w.alloc (.cells pv t)).alloc (.cells #[.slice none 0 0, .slice none 0 0, .bool false] 42)) (w.heap.size + 1) (.slice none 0 0) (.slice none 0 0) (.bool false) ∧ Below w.heap.size w ((w.alloc (.cells pv t)).alloc (.cells #[.slice none 0 0, .slice none 0 0, .bool false] 42)) := by
  have z1 := alloc_sz7 w (.cells pv t)
  have n1 := heap_alloc_new w (.cells pv t)
  have n2 := heap_alloc_new (w.alloc (.cells pv t)) (.cells #[.slice none 0 0, .slice none 0 0, .bool false] 42)
  rw [z1] at n2
  exact ⟨heap_new n1 (by omega), n2, ((Below.refl w.heap.size w).alloc (Nat.le_refl _) _).alloc (by omega) _⟩
set_option maxRecDepth 100000 in
set_option maxHeartbeats 2000000 in
theorem own_any (p : Value) (P : Pz) (L : Nat) (w : World) (hp : Pv w p P L) :
    Calls Try.prog 67 #[p] w fun e w' => ∃ v, e = .returned v ∧ Pv w' v (ownZ P) L ∧ Below w.heap.size w w' := by
  obtain ⟨px, py, rfl, p1, p2⟩ := hp
  have HX := fun W (hW : Below w.heap.size w W) => norm_nv px P.x L W (p1.old hW)
  have HY := fun W (hW : Below w.heap.size w W) => norm_nv py P.y L W (p2.old hW)
  obtain ⟨k1, k2, k3, k4, rfl, k5⟩ := p1
  obtain ⟨l1, l2, l3, l4, rfl, l5⟩ := p2
  have HN := fun W => nothing_any W
  unfold ownZ
  cases hi : P.inf with
  | true =>
    rw [if_pos rfl]
    obtain ⟨f1, s1, hb⟩ := two_new w #[.slice k1 k2 k3, .slice l1 l2 l3, .bool true] 42
    have HN2 := HN ((w.alloc (.cells #[.slice k1 k2 k3, .slice l1 l2 l3, .bool true] 42)).alloc (.cells #[.slice none 0 0, .slice none 0 0, .bool false] 42))
    have HS1 : Hid (PSl _ (w.heap.size + 1) (.slice none 0 0) (.slice none 0 0) (.bool false)) := s1
    clear f1 s1 HN HX HY
    go_enter Try.func67, Try.ntmps67
    go_wp2_with (go_at_call 65; refine HN2.mono ?_; rintro e w3 ⟨rfl, hb3⟩; have s3 := HS1.out.keep hb3; obtain ⟨y0, y1, y2, y3, y4, y5⟩ := s3.facts)
    refine bodyPost_ret (ret_pt1 rfl _ _ (w.heap.size + 1) _ _ _ rfl (s3.set3 (.slice none 0 0) (.slice none 0 0) (.bool true))) rfl ?_
    have bt := Bt.set3 w3 (w.heap.size + 1) (.slice none 0 0) (.slice none 0 0) (.bool true)
    have B3 := hb.trans (hb3.mono hb.size)
    exact ⟨_, rfl, pv_no _ L, B3.trans (bt.below (by omega) B3.size)⟩
  | false =>
    rw [if_neg (by simp)]
    obtain ⟨f1, s1, hb⟩ := two_new w #[.slice k1 k2 k3, .slice l1 l2 l3, .bool false] 42
    obtain ⟨W, hW⟩ : ∃ W, (w.alloc (.cells #[.slice k1 k2 k3, .slice l1 l2 l3, .bool false] 42)).alloc (.cells #[.slice none 0 0, .slice none 0 0, .bool false] 42) = W := ⟨_, rfl⟩
    rw [hW] at f1 s1 hb
    have HK := fun (W' : World) (h' : Below W.heap.size W W') => (show W'.cell? ⟨w.heap.size, 0, none⟩ = some (.slice k1 k2 k3) ∧ W'.cell? ⟨w.heap.size, 1, none⟩ = some (.slice l1 l2 l3) from by
      have f2 := (h'.block _ (Array.getElem?_eq_some_iff.1 f1).1).trans f1
      exact ⟨by rw [cell_of_row _ _ _ _ _ _ f2]; rfl, by rw [cell_of_row _ _ _ _ _ _ f2]; rfl⟩)
    have HW : Hid ((w.alloc (.cells #[.slice k1 k2 k3, .slice l1 l2 l3, .bool false] 42)).alloc (.cells #[.slice none 0 0, .slice none 0 0, .bool false] 42) = W) := hW
    have HX2 := HX W.drew hb.drew
    have K3 := HK W (Below.refl _ _)
    have K4 := HK W.drew (Below.refl _ _).drew
    have T1 : True := trivial
    have HS1 : Hid (PSl W (w.heap.size + 1) (.slice none 0 0) (.slice none 0 0) (.bool false)) := s1
    clear hW HN HX f1 s1
    go_enter Try.func67, Try.ntmps67
    go_wp2_with fail
    rw [HW.out]
    go_region_held3 (fun W => W.cell? ⟨w.heap.size, 0, none⟩ = some (.slice k1 k2 k3) ∧ W.cell? ⟨w.heap.size, 1, none⟩ = some (.slice l1 l2 l3))
      (first | exact K3 | exact K4 | exact K5 | exact K6 | exact ⟨set3_other K6.1 (by omega), set3_other K6.2 (by omega)⟩) (first
      | (go_at_call 69; clear T1; refine HX2.mono ?_; rintro e w5 ⟨v5, rfl, hv5, hb5⟩; have C5 := ((Below.refl W.heap.size W).drew).trans (hb5.mono (Nat.le_refl _)); have K5 := HK w5 C5; have HY2 := HY w5 (hb.trans (C5.mono hb.size)); have hv5' := hv5; obtain ⟨o1, o2, o3, o4, rfl, o5⟩ := hv5)
      | (go_at_call 69; refine HY2.mono ?_; rintro e w6 ⟨v6, rfl, hv6, hb6⟩; have C6 := C5.trans (hb6.mono C5.size); have K6 := HK w6 C6; have hv6' := hv6; obtain ⟨r1, r2, r3, r4, rfl, r5⟩ := hv6; have s6 := HS1.out.keep C6; obtain ⟨y0, y1, y2, y3, y4, y5⟩ := s6.facts))
    go_wp2
    refine bodyPost_ret (ret_pt1 rfl _ _ (w.heap.size + 1) _ _ _ rfl (s6.set3 (.slice o1 o2 o3) (.slice r1 r2 r3) (.bool false))) rfl ?_
    have bt := Bt.set3 w6 (w.heap.size + 1) (.slice o1 o2 o3) (.slice r1 r2 r3) (.bool false)
    have B6 := hb.trans (C6.mono hb.size)
    exact ⟨_, rfl, ⟨_, _, by rw [hi], (hv5'.old hb6).apart s6 bt, hv6'.apart s6 bt⟩, B6.trans (bt.below (by omega) B6.size)⟩
theorem frB_new (w : World) (cv pv qv : Array Value) : PSl ((((w.alloc (.cells cv 31)).alloc (.cells pv 42)).alloc (.cells qv 42)).alloc (.cells #[.slice none 0 0, .slice none 0 0, .bool false] 42)) (w.heap.size + 1 + 1 + 1) (.slice none 0 0) (.slice none 0 0) (.bool false) ∧ Below w.heap.size w ((((w.alloc (.cells cv 31)).alloc (.cells pv 42)).alloc (.cells qv 42)).alloc (.cells #[.slice none 0 0, .slice none 0 0, .bool false] 42)) := by
  have n4 := heap_alloc_new (((w.alloc (.cells cv 31)).alloc (.cells pv 42)).alloc (.cells qv 42)) (.cells #[.slice none 0 0, .slice none 0 0, .bool false] 42)
  rw [alloc_sz7, alloc_sz7, alloc_sz7] at n4
  exact ⟨n4, ((((Below.refl w.heap.size w).alloc (Nat.le_refl _) _).alloc (by rw [alloc_sz7]; omega) _).alloc (by rw [alloc_sz7, alloc_sz7]; omega) _).alloc (by rw [alloc_sz7, alloc_sz7, alloc_sz7]; omega) _⟩
set_option maxRecDepth 100000 in
set_option maxHeartbeats 2000000 in
theorem Add_pt (c p q : Value) (K : Cz) (P Q : Pz) (L : Nat) (w : World) (hc : Cu w c K L) (hp : Pv w p P L) (hq : Pv w q Q L) (hL : 1 ≤ L ∧ L ≤ 1000) :
    Calls Try.prog 52 #[c, p, q] w fun e w' => ∃ r, AddZ K P Q r ∧ Pa w w' e r L := by
  have HA := fun W (hW : Below w.heap.size w W) h0 => addNumbers_any c p q K P Q L W (hc.old hW) (hp.old hW) (hq.old hW) h0 hL
  obtain ⟨g1, g2, oo, lo, co, vp, va, vb, vx, vy, vn, rfl, c1, c2, c3, c4, c5, c6⟩ := hc
  obtain ⟨px, py, rfl, p1, p2⟩ := hp
  obtain ⟨qx, qy, rfl, q1, q2⟩ := hq
  obtain ⟨a1, a2, a3, a4, rfl, a5⟩ := c1
  obtain ⟨b1, b2, b3, b4, rfl, b5⟩ := c2
  obtain ⟨d1, d2, d3, d4, rfl, d5⟩ := c3
  obtain ⟨e1, e2, e3, e4, rfl, e5⟩ := c4
  obtain ⟨f1, f2, f3, f4, rfl, f5⟩ := c5
  obtain ⟨j1, j2, j3, j4, rfl, j5⟩ := c6
  obtain ⟨k1, k2, k3, k4, rfl, k5⟩ := p1
  obtain ⟨l1, l2, l3, l4, rfl, l5⟩ := p2
  obtain ⟨m1, m2, m3, m4, rfl, m5⟩ := q1
  obtain ⟨n1, n2, n3, n4, rfl, n5⟩ := q2
  have FZ := frB_new w #[.int .i64 g1, .int .i64 g2, .slice oo lo co, .slice a1 a2 a3, .slice b1 b2 b3, .slice d1 d2 d3, .slice e1 e2 e3, .slice f1 f2 f3, .slice j1 j2 j3] #[.slice k1 k2 k3, .slice l1 l2 l3, .bool P.inf] #[.slice m1 m2 m3, .slice n1 n2 n3, .bool Q.inf]
  obtain ⟨W, hW⟩ : ∃ W, (((w.alloc (.cells #[.int .i64 g1, .int .i64 g2, .slice oo lo co, .slice a1 a2 a3, .slice b1 b2 b3, .slice d1 d2 d3, .slice e1 e2 e3, .slice f1 f2 f3, .slice j1 j2 j3] 31)).alloc (.cells #[.slice k1 k2 k3, .slice l1 l2 l3, .bool P.inf] 42)).alloc (.cells #[.slice m1 m2 m3, .slice n1 n2 n3, .bool Q.inf] 42)).alloc (.cells #[.slice none 0 0, .slice none 0 0, .bool false] 42) = W := ⟨_, rfl⟩
  rw [hW] at FZ
  obtain ⟨s1, hb⟩ := FZ
  have HZ := isZero_any (.slice a1 a2 a3) K.p L W (Nv.old ⟨a1, a2, a3, a4, rfl, a5⟩ hb)
  have HOP := own_any (.agg #[.slice k1 k2 k3, .slice l1 l2 l3, .bool P.inf]) P L W (Pv.old ⟨_, _, rfl, ⟨k1, k2, k3, k4, rfl, k5⟩, ⟨l1, l2, l3, l4, rfl, l5⟩⟩ hb)
  have HOQ := own_any (.agg #[.slice m1 m2 m3, .slice n1 n2 n3, .bool Q.inf]) Q L W (Pv.old ⟨_, _, rfl, ⟨m1, m2, m3, m4, rfl, m5⟩, ⟨n1, n2, n3, n4, rfl, n5⟩⟩ hb)
  have HAW := fun h0 => HA W hb h0
  have HW : Hid (_ = W) := hW
  have HS1 : Hid (PSl W (w.heap.size + 1 + 1 + 1) (.slice none 0 0) (.slice none 0 0) (.bool false)) := s1
  clear hW HA
  unfold AddZ
  by_cases h0 : K.p = 0
  · have hd : decide (K.p = 0) = true := by simp [h0]
    rw [hd] at HZ
    simp only [if_pos h0]
    have s2 := s1
    clear HOP HOQ HAW
    go_enter Try.func52, Try.ntmps52
    go_wp2_with (go_at_call 43; rw [HW.out]; refine HZ.mono ?_; rintro e w2 ⟨rfl, rfl⟩; obtain ⟨y0, y1, y2, y3, y4, y5⟩ := s2.facts)
    refine bodyPost_ret (ret_pt rfl _ _ (w.heap.size + 1 + 1 + 1) _ _ _ rfl (s2.set3 (.slice none 0 0) (.slice none 0 0) (.bool false))) rfl ?_
    have bt := Bt.set3 w2 (w.heap.size + 1 + 1 + 1) (.slice none 0 0) (.slice none 0 0) (.bool false)
    exact ⟨none, rfl, hb.trans (bt.below (by omega) hb.size), .inr ⟨rfl, rfl⟩⟩
  have hd : decide (K.p = 0) = false := by simp [h0]
  rw [hd] at HZ
  simp only [if_neg h0]
  have HAW2 := HAW h0
  cases hpi : P.inf with
  | true =>
    rw [hpi] at HOP HW
    simp only [if_pos]
    clear HAW HAW2 HOP
    go_enter Try.func52, Try.ntmps52
    go_wp2_with (first
      | (go_at_call 43; rw [HW.out]; refine HZ.mono ?_; rintro e w2 ⟨rfl, rfl⟩; rw [← HW.out])
      | (go_at_call 67; rw [HW.out]; refine HOQ.mono ?_; rintro e w3 ⟨v3, rfl, hv3, hb3⟩; have s3 := HS1.out.keep hb3; obtain ⟨y0, y1, y2, y3, y4, y5⟩ := s3.facts; have hv3' := hv3; obtain ⟨vx, vy, rfl, ⟨o1, o2, o3, o4, rfl, o5⟩, ⟨r1, r2, r3, r4, rfl, r5⟩⟩ := hv3))
    refine bodyPost_ret (ret_pt rfl _ _ (w.heap.size + 1 + 1 + 1) _ _ _ rfl (s3.set3 (.slice o1 o2 o3) (.slice r1 r2 r3) (.bool (ownZ Q).inf))) rfl ?_
    have bt := Bt.set3 w3 (w.heap.size + 1 + 1 + 1) (.slice o1 o2 o3) (.slice r1 r2 r3) (.bool (ownZ Q).inf)
    have B3 := hb.trans (hb3.mono hb.size)
    exact ⟨_, rfl, B3.trans (bt.below (by omega) B3.size), .inl ⟨_, _, rfl, rfl, _, _, rfl, Nv.apart ⟨o1, o2, o3, o4, rfl, o5⟩ s3 bt, Nv.apart ⟨r1, r2, r3, r4, rfl, r5⟩ s3 bt⟩⟩
  | false =>
    rw [hpi] at HOP HAW2 HW
    simp only [if_neg (show ¬ (false = true) by decide)]
    cases hqi : Q.inf with
    | true =>
      rw [hqi] at HW HOQ
      simp only [if_pos]
      clear HAW HAW2 HOQ
      go_enter Try.func52, Try.ntmps52
      go_wp2_with (first
        | (go_at_call 43; rw [HW.out]; refine HZ.mono ?_; rintro e w2 ⟨rfl, rfl⟩; rw [← HW.out])
        | (go_at_call 67; rw [HW.out]; refine HOP.mono ?_; rintro e w3 ⟨v3, rfl, hv3, hb3⟩; have s3 := HS1.out.keep hb3; obtain ⟨y0, y1, y2, y3, y4, y5⟩ := s3.facts; have hv3' := hv3; obtain ⟨vx, vy, rfl, ⟨o1, o2, o3, o4, rfl, o5⟩, ⟨r1, r2, r3, r4, rfl, r5⟩⟩ := hv3))
      refine bodyPost_ret (ret_pt rfl _ _ (w.heap.size + 1 + 1 + 1) _ _ _ rfl (s3.set3 (.slice o1 o2 o3) (.slice r1 r2 r3) (.bool (ownZ P).inf))) rfl ?_
      have bt := Bt.set3 w3 (w.heap.size + 1 + 1 + 1) (.slice o1 o2 o3) (.slice r1 r2 r3) (.bool (ownZ P).inf)
      have B3 := hb.trans (hb3.mono hb.size)
      exact ⟨_, rfl, B3.trans (bt.below (by omega) B3.size), .inl ⟨_, _, rfl, rfl, _, _, rfl, Nv.apart ⟨o1, o2, o3, o4, rfl, o5⟩ s3 bt, Nv.apart ⟨r1, r2, r3, r4, rfl, r5⟩ s3 bt⟩⟩
    | false =>
      rw [hqi] at HW HOQ HAW2
      simp only [if_neg (show ¬ (false = true) by decide)]
      clear HAW HOP HOQ
      go_enter Try.func52, Try.ntmps52
      go_wp2_with (go_at_call 43; rw [HW.out]; refine HZ.mono ?_; rintro e w2 ⟨rfl, rfl⟩; rw [← HW.out])
      rw [HW.out]
      go_at_call 68
      refine HAW2.mono ?_
      rintro e w3 ⟨r, hr, hb3, (⟨v, pz, rfl, rfl, hv3⟩ | ⟨rfl, rfl⟩)⟩
      · have s3 := HS1.out.keep hb3
        obtain ⟨y0, y1, y2, y3, y4, y5⟩ := s3.facts
        obtain ⟨vx, vy, rfl, ⟨o1, o2, o3, o4, rfl, o5⟩, ⟨r1, r2, r3, r4, rfl, r5⟩⟩ := hv3
        have B3 := hb.trans (hb3.mono hb.size)
        go_wp2_with fail
        refine bodyPost_ret (ret_pt rfl _ _ (w.heap.size + 1 + 1 + 1) _ _ _ rfl (s3.set3 (.slice o1 o2 o3) (.slice r1 r2 r3) (.bool pz.inf))) rfl ?_
        have bt := Bt.set3 w3 (w.heap.size + 1 + 1 + 1) (.slice o1 o2 o3) (.slice r1 r2 r3) (.bool pz.inf)
        exact ⟨_, hr, B3.trans (bt.below (by omega) B3.size), .inl ⟨_, _, rfl, rfl, _, _, rfl, Nv.apart ⟨o1, o2, o3, o4, rfl, o5⟩ s3 bt, Nv.apart ⟨r1, r2, r3, r4, rfl, r5⟩ s3 bt⟩⟩
      · have s3 := HS1.out.keep hb3
        obtain ⟨y0, y1, y2, y3, y4, y5⟩ := s3.facts
        have B3 := hb.trans (hb3.mono hb.size)
        go_wp2_with fail
        refine bodyPost_ret (ret_pt rfl _ _ (w.heap.size + 1 + 1 + 1) _ _ _ rfl (s3.set3 (.slice none 0 0) (.slice none 0 0) (.bool false))) rfl ?_
        have bt := Bt.set3 w3 (w.heap.size + 1 + 1 + 1) (.slice none 0 0) (.slice none 0 0) (.bool false)
        exact ⟨_, hr, B3.trans (bt.below (by omega) B3.size), .inr ⟨rfl, rfl⟩⟩
end Go.Proofs.Ytagljkbfgldlgaa
/-
  The code's Mul.
-/
namespace Go.Proofs.Ytagljkbfgldlgaa
open Go.RowKit Go.Shelf
set_option linter.unusedVariables false
set_option linter.unusedSimpArgs false
attribute [local go_sem] Oper.semAt_some

/-- What Mul keeps in memory from its beginning on. -/
structure FrC (W : World) (b : Nat) (cv pv : Array Value) : Prop where
  c : W.heap[b]? = some (.cells cv 31 (0, 0))
  p : W.heap[b + 1]? = some (.cells pv 42 (0, 0))
  r : PSl W (b + 1 + 1) (.slice none 0 0) (.slice none 0 0) (.bool false)
  o : W.heap[b + 1 + 1 + 1]? = some (.cells #[.bool false] 4 (0, 0))
theorem frC_new (w : World) (cv pv : Array Value) : FrC ((((w.alloc (.cells cv 31)).alloc (.cells pv 42)).alloc (.cells #[.slice none 0 0, .slice none 0 0, .bool false] 42)).alloc (.cells #[.bool false] 4)) w.heap.size cv pv ∧ Below w.heap.size w ((((w.alloc (.cells cv 31)).alloc (.cells pv 42)).alloc (.cells #[.slice none 0 0, .slice none 0 0, .bool false] 42)).alloc (.cells #[.bool false] 4)) := by
  obtain ⟨w1, e1⟩ : ∃ x, w.alloc (.cells cv 31) = x := ⟨_, rfl⟩
  obtain ⟨w2, e2⟩ : ∃ x, w1.alloc (.cells pv 42) = x := ⟨_, rfl⟩
  obtain ⟨w3, e3⟩ : ∃ x, w2.alloc (.cells #[.slice none 0 0, .slice none 0 0, .bool false] 42) = x := ⟨_, rfl⟩
  have z1 : w1.heap.size = w.heap.size + 1 := by rw [← e1]; exact alloc_sz7 _ _
  have z2 : w2.heap.size = w.heap.size + 1 + 1 := by rw [← e2, alloc_sz7, z1]
  have z3 : w3.heap.size = w.heap.size + 1 + 1 + 1 := by rw [← e3, alloc_sz7, z2]
  have n1 : w1.heap[w.heap.size]? = some (.cells cv 31 (0, 0)) := by rw [← e1]; exact heap_alloc_new w _
  have n2 : w2.heap[w.heap.size + 1]? = some (.cells pv 42 (0, 0)) := by rw [← e2, ← z1]; exact heap_alloc_new w1 _
  have n3 : w3.heap[w.heap.size + 1 + 1]? = some (.cells #[.slice none 0 0, .slice none 0 0, .bool false] 42 (0, 0)) := by rw [← e3, ← z2]; exact heap_alloc_new w2 _
  have n4 := heap_alloc_new w3 (.cells #[.bool false] 4)
  rw [z3] at n4
  have m1 : w2.heap[w.heap.size]? = some (.cells cv 31 (0, 0)) := by rw [← e2]; exact heap_new n1 (by omega)
  have k1 : w3.heap[w.heap.size]? = some (.cells cv 31 (0, 0)) := by rw [← e3]; exact heap_new m1 (by omega)
  have k2 : w3.heap[w.heap.size + 1]? = some (.cells pv 42 (0, 0)) := by rw [← e3]; exact heap_new n2 (by omega)
  have bb : Below w.heap.size w (w3.alloc (.cells #[.bool false] 4)) := by
    rw [← e3, ← e2, ← e1]
    exact ((((Below.refl w.heap.size w).alloc (Nat.le_refl _) _).alloc (by rw [alloc_sz7]; omega) _).alloc (by rw [alloc_sz7, alloc_sz7]; omega) _).alloc (by rw [alloc_sz7, alloc_sz7, alloc_sz7]; omega) _
  rw [e1, e2, e3]
  exact ⟨⟨heap_new k1 (by omega), heap_new k2 (by omega), heap_new n3 (by omega), n4⟩, bb⟩
theorem FrC.keep {W W' : World} {b : Nat} {cv pv : Array Value} (h : FrC W b cv pv) (hb : Below W.heap.size W W') : FrC W' b cv pv :=
  ⟨(hb.block _ (Array.getElem?_eq_some_iff.1 h.c).1).trans h.c, (hb.block _ (Array.getElem?_eq_some_iff.1 h.p).1).trans h.p, h.r.keep hb, (hb.block _ (Array.getElem?_eq_some_iff.1 h.o).1).trans h.o⟩
/-- One bit more. -/
def stepR (K : Cz) (P : Pz) (set : Bool) (q : Pz) (r : Option Pz) : Prop := ∃ d, AddZ K q q d ∧ ((d = none ∧ r = none) ∨ ∃ e, d = some e ∧ if set then AddZ K e P r else r = some e)
/-- What the bits so far make. -/
def MF (K : Cz) (P : Pz) (pre : List (Int × Bool)) : Pz → Prop := pre.foldl (fun S x => fun q' => ∃ q, S q ∧ stepR K P x.2 q (some q')) (fun q => q = noZ)
theorem MF_snoc (K : Cz) (P : Pz) (pre : List (Int × Bool)) (x : Int × Bool) (q' : Pz) : MF K P (pre ++ [x]) q' ↔ ∃ q, MF K P pre q ∧ stepR K P x.2 q (some q') := by
  unfold MF
  rw [List.foldl_append]
  exact Iff.rfl
/-- What Mul answers. -/
def MulZ (K : Cz) (P : Pz) (bits : List (Int × Bool)) (r : Option Pz) : Prop := (∃ q, r = some q ∧ MF K P bits q) ∨ (r = none ∧ ∃ pre x q, (pre ++ [x]) <+: bits ∧ MF K P pre q ∧ stepR K P x.2 q none)
theorem blk_kept {W W' : World} {k : Nat} {cs : Array Value} {t : TypeId} {row : Option Nat} (h : W.heap[k]? = some (.cells cs t (0, 0))) (hg : W.grownBy W' row) (hr : ∀ r, row = some r → ∃ o : Obj, W.heap[r]? = some o ∧ o.isCells = false) : W'.heap[k]? = some (.cells cs t (0, 0)) := by
  rw [hg.block k (Array.getElem?_eq_some_iff.1 h).1 (fun e => by
    obtain ⟨o, ho, hc⟩ := hr k e.symm
    rw [h] at ho
    cases ho
    cases hc), h]
theorem Nv.kept {W W' : World} {v : Value} {n : Int} {L : Nat} {row : Option Nat} (h : Nv W v n L) (hg : W.grownBy W' row) (hr : ∀ r, row = some r → ∃ o : Obj, W.heap[r]? = some o ∧ o.isCells = false) : Nv W' v n L := by
  obtain ⟨ao, len, cap, xs, e, h1, h2, h3⟩ := h
  exact ⟨ao, len, cap, xs, e, h1.keptc hg hr, h2, h3⟩
theorem Cu.kept {W W' : World} {c : Value} {K : Cz} {L : Nat} {row : Option Nat} (h : Cu W c K L) (hg : W.grownBy W' row) (hr : ∀ r, row = some r → ∃ o : Obj, W.heap[r]? = some o ∧ o.isCells = false) : Cu W' c K L := by
  obtain ⟨g1, g2, oo, lo, co, vp, va, vb, vx, vy, vn, e, h1, h2, h3, h4, h5, h6⟩ := h
  exact ⟨g1, g2, oo, lo, co, vp, va, vb, vx, vy, vn, e, h1.kept hg hr, h2.kept hg hr, h3.kept hg hr, h4.kept hg hr, h5.kept hg hr, h6.kept hg hr⟩
theorem Pv.kept {W W' : World} {c : Value} {p : Pz} {L : Nat} {row : Option Nat} (h : Pv W c p L) (hg : W.grownBy W' row) (hr : ∀ r, row = some r → ∃ o : Obj, W.heap[r]? = some o ∧ o.isCells = false) : Pv W' c p L := by
  obtain ⟨vx, vy, e, h1, h2⟩ := h
  exact ⟨vx, vy, e, h1.kept hg hr, h2.kept hg hr⟩
/-- A block of a truth alone. -/
def BBx (w : World) (g : Nat) (b : Bool) : Prop := w.heap[g]? = some (.cells #[.bool b] 4 (0, 0))
theorem Nv.apartB {w w' : World} {v : Value} {n : Int} {L r : Nat} {b : Bool} (h : Nv w v n L) (hs : BBx w r b) (hb : Bt r w w') : Nv w' v n L := by
  obtain ⟨ao, len, cap, xs, e, h1, h2, h3⟩ := h
  refine ⟨ao, len, cap, xs, e, ⟨⟨h1.len, ?_⟩, h1.lc, h1.cm, h1.nn, h1.dg, h1.sm⟩, h2, h3⟩
  by_cases h0 : len = 0
  · exact .inl h0
  · obtain ⟨b', off, e2, hlt, hc⟩ := h1.lies.at (by omega)
    have hne : b' ≠ r := fun e3 => by
      subst e3
      have h4 := hc 0 (by omega)
      rw [cell_of_row _ _ _ _ _ _ hs] at h4
      obtain ⟨o, ho⟩ : ∃ o, off + 0 = o := ⟨_, rfl⟩
      rw [ho] at h4
      match o, h4 with
      | 0, h4 => cases h4
      | k + 1, h4 => simp at h4
    exact .inr ⟨b', off, e2, Nat.lt_of_lt_of_le hlt hb.size, fun i hi => (World.cell?_of_block (w := w) (hb.block b' hlt hne)).trans (hc i hi)⟩
/-- The state between two bits. -/
structure MSt (w : World) (b gs go : Nat) (cv pv : Array Value) (K : Cz) (P : Pz) (L : Nat) (x1 y1 : Option Addr) (x2 x3 y2 y3 : Nat) (q : Pz) (W : World) : Prop where
  fr : FrC W b cv pv
  sum : PSl W gs (.slice x1 x2 x3) (.slice y1 y2 y3) (.bool q.inf)
  sx : Nv W (.slice x1 x2 x3) q.x L
  sy : Nv W (.slice y1 y2 y3) q.y L
  ok : BBx W go true
  cu : Cu W (.agg cv) K L
  pp : Pv W (.agg pv) P L
  low : Below w.heap.size w W
theorem MSt.old {w : World} {b gs go : Nat} {cv pv : Array Value} {K : Cz} {P : Pz} {L : Nat} {x1 y1 : Option Addr} {x2 x3 y2 y3 : Nat} {q : Pz} {W W' : World} (h : MSt w b gs go cv pv K P L x1 y1 x2 x3 y2 y3 q W) (hb : Below W.heap.size W W') : MSt w b gs go cv pv K P L x1 y1 x2 x3 y2 y3 q W' :=
  ⟨h.fr.keep hb, h.sum.keep hb, h.sx.old hb, h.sy.old hb, (hb.block _ (Array.getElem?_eq_some_iff.1 h.ok).1).trans h.ok, h.cu.old hb, h.pp.old hb, h.low.trans (hb.mono h.low.size)⟩
theorem MSt.kept {w : World} {b gs go : Nat} {cv pv : Array Value} {K : Cz} {P : Pz} {L : Nat} {x1 y1 : Option Addr} {x2 x3 y2 y3 : Nat} {q : Pz} {W W' : World} {row : Option Nat} {B : Nat} (hB : w.heap.size ≤ B) (h : MSt w b gs go cv pv K P L x1 y1 x2 x3 y2 y3 q W) (hg : W.grownBy W' row) (hr : ∀ r, row = some r → B ≤ r ∧ ∃ o : Obj, W.heap[r]? = some o ∧ o.isCells = false) : MSt w b gs go cv pv K P L x1 y1 x2 x3 y2 y3 q W' := by
  have hr2 := fun r e => (hr r e).2
  exact ⟨⟨blk_kept h.fr.c hg hr2, blk_kept h.fr.p hg hr2, blk_kept h.fr.r hg hr2, blk_kept h.fr.o hg hr2⟩, blk_kept h.sum hg hr2, h.sx.kept hg hr2, h.sy.kept hg hr2, blk_kept h.ok hg hr2, h.cu.kept hg hr2, h.pp.kept hg hr2, ownFrom_below (β := Unit) (Nat.le_refl _) hB () W W' row h.low hg hr⟩
/-- The world with another sum. -/
def sumW (W : World) (gs go : Nat) (vx vy : Value) (inf ok : Bool) : World := (((W.setCell ⟨gs, 0, none⟩ vx).setCell ⟨gs, 1, none⟩ vy).setCell ⟨gs, 2, none⟩ (.bool inf)).setCell ⟨go, 0, none⟩ (.bool ok)
theorem nv_sum {W : World} {v : Value} {n : Int} {L gs go : Nat} {a1 a2 : Option Addr} {l1 k1 l2 k2 : Nat} {b ok0 : Bool} (h : Nv W v n L) (hs : PSl W gs (.slice a1 l1 k1) (.slice a2 l2 k2) (.bool b)) (ho : BBx W go ok0) (hne : go ≠ gs) (vx vy : Value) (inf ok : Bool) : Nv (sumW W gs go vx vy inf ok) v n L := by
  have b3 := Bt.set3 W gs vx vy (.bool inf)
  have ho2 : BBx (((W.setCell ⟨gs, 0, none⟩ vx).setCell ⟨gs, 1, none⟩ vy).setCell ⟨gs, 2, none⟩ (.bool inf)) go ok0 := (b3.block go (Array.getElem?_eq_some_iff.1 ho).1 hne).trans ho
  exact (h.apart hs b3).apartB ho2 (Bt.setCell go _ 0 _)
theorem sumW_blocks {W : World} {gs go : Nat} (vx vy : Value) (inf ok : Bool) (k : Nat) (hk : k < W.heap.size) (h1 : k ≠ gs) (h2 : k ≠ go) : (sumW W gs go vx vy inf ok).heap[k]? = W.heap[k]? := by
  have b3 := Bt.set3 W gs vx vy (.bool inf)
  exact ((Bt.setCell go _ 0 (.bool ok)).block k (Nat.lt_of_lt_of_le hk b3.size) h2).trans (b3.block k hk h1)
theorem sumW_sum {W : World} {gs go : Nat} {c0 c1 c2 : Value} (hs : PSl W gs c0 c1 c2) (hne : go ≠ gs) (vx vy : Value) (inf ok : Bool) : PSl (sumW W gs go vx vy inf ok) gs vx vy (.bool inf) := by
  have s3 := hs.set3 vx vy (.bool inf)
  exact ((Bt.setCell go _ 0 (.bool ok)).block gs s3.lt (Ne.symm hne)).trans s3
theorem sumW_ok {W : World} {gs go : Nat} {ok0 : Bool} (ho : BBx W go ok0) (hne : go ≠ gs) (vx vy : Value) (inf ok : Bool) : BBx (sumW W gs go vx vy inf ok) go ok := by
  have b3 := Bt.set3 W gs vx vy (.bool inf)
  have ho2 : BBx (((W.setCell ⟨gs, 0, none⟩ vx).setCell ⟨gs, 1, none⟩ vy).setCell ⟨gs, 2, none⟩ (.bool inf)) go ok0 := (b3.block go (Array.getElem?_eq_some_iff.1 ho).1 hne).trans ho
  have := heap_set7 _ go 0 (.bool ok) _ _ _ ho2
  exact this
theorem sumW_below {w W : World} {gs go : Nat} (h : Below w.heap.size w W) (h1 : w.heap.size ≤ gs) (h2 : w.heap.size ≤ go) (vx vy : Value) (inf ok : Bool) : Below w.heap.size w (sumW W gs go vx vy inf ok) := by
  have b3 := Bt.set3 W gs vx vy (.bool inf)
  have b4 := Bt.setCell go (((W.setCell ⟨gs, 0, none⟩ vx).setCell ⟨gs, 1, none⟩ vy).setCell ⟨gs, 2, none⟩ (.bool inf)) 0 (.bool ok)
  exact h.trans ((b3.below h1 h.size).trans (b4.below h2 (Nat.le_trans h.size b3.size)))
theorem sumW_keeps (W : World) (gs go : Nat) (vx vy : Value) (inf ok : Bool) : KeepsOthers W (sumW W gs go vx vy inf ok) := (((KeepsOthers.setCell _ _ _).trans (KeepsOthers.setCell _ _ _)).trans (KeepsOthers.setCell _ _ _)).trans (KeepsOthers.setCell _ _ _)
theorem bitsAt_sum {W : World} {g3 g4 : Nat} {V : Int} {N gs go : Nat} {a1 a2 : Option Addr} {l1 k1 l2 k2 : Nat} {b ok0 : Bool} (h : BitsAt W g3 g4 V N) (hs : PSl W gs (.slice a1 l1 k1) (.slice a2 l2 k2) (.bool b)) (ho : BBx W go ok0) (hne : go ≠ gs) (h3 : gs ≠ g3 ∧ go ≠ g3) (vx vy : Value) (inf ok : Bool) : BitsAt (sumW W gs go vx vy inf ok) g3 g4 V N := by
  obtain ⟨ao, la, ca, xs, e1, e2, e3, e4, e5, e6, e7⟩ := h
  have hn4 : g4 ≠ gs := fun e => by
    subst e
    have := hs.facts.1.symm.trans e3
    cases this
  have hn5 : g4 ≠ go := fun e => by
    subst e
    rw [cell_of_row _ _ _ _ _ _ ho] at e3
    cases e3
  have hz := (sumW_keeps W gs go vx vy inf ok).size
  have hb := sumW_blocks (W := W) (gs := gs) (go := go) vx vy inf ok
  have hv := nv_sum (L := la) (v := .slice ao la ca) (n := val B64 xs) ⟨ao, la, ca, xs, rfl, e5, rfl, Nat.le_refl _⟩ hs ho hne vx vy inf ok
  generalize sumW W gs go vx vy inf ok = W' at *
  have c4 : W'.cell? ⟨g4, 0, none⟩ = some (.int .i64 N) := by rw [← e3]; exact World.cell?_of_block (w := W) (hb g4 e2 hn4 hn5)
  have c3 : W'.cell? ⟨g3, 0, none⟩ = some (.slice ao la ca) := by rw [← e4]; exact World.cell?_of_block (w := W) (hb g3 e1 (Ne.symm h3.1) (Ne.symm h3.2))
  obtain ⟨p1, p2, p3, p4, ee, q1, q2, q3⟩ := hv
  injection ee with u1 u2 u3
  subst u1 u2 u3
  exact ⟨ao, la, ca, p4, Nat.lt_of_lt_of_le e1 hz, Nat.lt_of_lt_of_le e2 hz, c4, c3, q1, by rw [q2]; exact e6, e7⟩
/-- The state with another sum. -/
theorem MSt.next {w : World} {b gs go : Nat} {cv pv : Array Value} {K : Cz} {P : Pz} {L : Nat} {x1 y1 x1' y1' : Option Addr} {x2 x3 y2 y3 x2' x3' y2' y3' : Nat} {q q' : Pz} {W : World} (h : MSt w b gs go cv pv K P L x1 y1 x2 x3 y2 y3 q W) (hg : b + 1 + 1 + 1 < gs ∧ gs + 1 = go ∧ w.heap.size = b) (nx : Nv W (.slice x1' x2' x3') q'.x L) (ny : Nv W (.slice y1' y2' y3') q'.y L) : MSt w b gs go cv pv K P L x1' y1' x2' x3' y2' y3' q' (sumW W gs go (.slice x1' x2' x3') (.slice y1' y2' y3') q'.inf true) := by
  have hne : go ≠ gs := by omega
  have nn : ∀ {v : Value} {n : Int}, Nv W v n L → Nv (sumW W gs go (.slice x1' x2' x3') (.slice y1' y2' y3') q'.inf true) v n L := fun hv => nv_sum hv h.sum h.ok hne _ _ _ _
  have bk := fun k hk h1 h2 => sumW_blocks (W := W) (gs := gs) (go := go) (.slice x1' x2' x3') (.slice y1' y2' y3') q'.inf true k hk h1 h2
  refine ⟨⟨(bk b (Array.getElem?_eq_some_iff.1 h.fr.c).1 (by omega) (by omega)).trans h.fr.c, (bk _ (Array.getElem?_eq_some_iff.1 h.fr.p).1 (by omega) (by omega)).trans h.fr.p, (bk _ h.fr.r.lt (by omega) (by omega)).trans h.fr.r, (bk _ (Array.getElem?_eq_some_iff.1 h.fr.o).1 (by omega) (by omega)).trans h.fr.o⟩, sumW_sum h.sum hne _ _ _ _, nn nx, nn ny, sumW_ok h.ok hne _ _ _ _, ?_, ?_, sumW_below h.low (by omega) (by omega) _ _ _ _⟩
  · obtain ⟨g1, g2, oo, lo, co, vp, va, vb, vx, vy, vn, e, h1, h2, h3, h4, h5, h6⟩ := h.cu
    exact ⟨g1, g2, oo, lo, co, vp, va, vb, vx, vy, vn, e, nn h1, nn h2, nn h3, nn h4, nn h5, nn h6⟩
  · obtain ⟨vx, vy, e, h1, h2⟩ := h.pp
    exact ⟨vx, vy, e, nn h1, nn h2⟩
/-- Between two bits. -/
def MGo (w : World) (b gs go : Nat) (cv pv : Array Value) (K : Cz) (P : Pz) (L : Nat) (pre : List (Int × Bool)) (W : World) : Prop := ∃ x1 y1 x2 x3 y2 y3 q, MF K P pre q ∧ MSt w b gs go cv pv K P L x1 y1 x2 x3 y2 y3 q W
/-- A sum that isn't. -/
def MEnd (w : World) (b : Nat) (K : Cz) (P : Pz) (c : Code) (pre : List (Int × Bool)) (W : World) : Prop := c = .ret ∧ (PSl W (b + 1 + 1) (.slice none 0 0) (.slice none 0 0) (.bool false) ∧ BBx W (b + 1 + 1 + 1) false) ∧ Below w.heap.size w W ∧ ∃ pre' x q, pre = pre' ++ [x] ∧ MF K P pre' q ∧ stepR K P x.2 q none
theorem MGo.kept {w : World} {b gs go : Nat} {cv pv : Array Value} {K : Cz} {P : Pz} {L B : Nat} (hB : w.heap.size ≤ B) : OwnFrom B (MGo w b gs go cv pv K P L) := by
  rintro pre A A' row ⟨x1, y1, x2, x3, y2, y3, q, h1, h2⟩ hg hr
  exact ⟨x1, y1, x2, x3, y2, y3, q, h1, h2.kept hB hg hr⟩
theorem MEnd.kept {w : World} {b : Nat} {K : Cz} {P : Pz} {B : Nat} (hB : w.heap.size ≤ B) (c : Code) : OwnFrom B (MEnd w b K P c) := by
  rintro pre A A' row ⟨h1, h2, h3, h4⟩ hg hr
  have hr2 := fun r e => (hr r e).2
  exact ⟨h1, ⟨blk_kept h2.1 hg hr2, blk_kept h2.2 hg hr2⟩, ownFrom_below (β := Unit) (Nat.le_refl _) hB () A A' row h3 hg hr, h4⟩
theorem BBx.facts {W : World} {g : Nat} {b : Bool} (h : BBx W g b) : W.cell? ⟨g, 0, none⟩ = some (.bool b) ∧ W.frozen? ⟨g, 0, none⟩ = false := by
  refine ⟨?_, ?_⟩
  · rw [cell_of_row _ _ _ _ _ _ h]; rfl
  · exact frozen_of_row W g 0 _ _ h
theorem FrC.cells {W : World} {b : Nat} {c0 c1 c2 c3 c4 c5 c6 c7 c8 p0 p1 p2 : Value} (h : FrC W b #[c0, c1, c2, c3, c4, c5, c6, c7, c8] #[p0, p1, p2]) : (W.cell? ⟨b, 0, none⟩ = some c0 ∧ W.cell? ⟨b, 1, none⟩ = some c1 ∧ W.cell? ⟨b, 2, none⟩ = some c2 ∧ W.cell? ⟨b, 3, none⟩ = some c3 ∧ W.cell? ⟨b, 4, none⟩ = some c4 ∧ W.cell? ⟨b, 5, none⟩ = some c5 ∧ W.cell? ⟨b, 6, none⟩ = some c6 ∧ W.cell? ⟨b, 7, none⟩ = some c7 ∧ W.cell? ⟨b, 8, none⟩ = some c8) ∧ W.cell? ⟨b + 1, 0, none⟩ = some p0 ∧ W.cell? ⟨b + 1, 1, none⟩ = some p1 ∧ W.cell? ⟨b + 1, 2, none⟩ = some p2 := by
  refine ⟨⟨?_, ?_, ?_, ?_, ?_, ?_, ?_, ?_, ?_⟩, ?_, ?_, ?_⟩
  all_goals first
    | (rw [cell_of_row _ _ _ _ _ _ h.c]; rfl)
    | (rw [cell_of_row _ _ _ _ _ _ h.p]; rfl)
/-- The end of a sum that isn't. -/
theorem MSt.fails {w : World} {b gs go : Nat} {cv pv : Array Value} {K : Cz} {P : Pz} {L : Nat} {x1 y1 : Option Addr} {x2 x3 y2 y3 : Nat} {q : Pz} {W : World} (h : MSt w b gs go cv pv K P L x1 y1 x2 x3 y2 y3 q W) (hg : b + 1 + 1 + 1 < gs ∧ gs + 1 = go ∧ w.heap.size = b) {pre : List (Int × Bool)} {x : Int × Bool} {q0 : Pz} (hm : MF K P pre q0) (hs : stepR K P x.2 q0 none) :
    KeepsOthers W (((((sumW W gs go (.slice none 0 0) (.slice none 0 0) false false).setCell ⟨b + 1 + 1, 0, none⟩ (.slice none 0 0)).setCell ⟨b + 1 + 1, 1, none⟩ (.slice none 0 0)).setCell ⟨b + 1 + 1, 2, none⟩ (.bool false)).setCell ⟨b + 1 + 1 + 1, 0, none⟩ (.bool false)) ∧ MEnd w b K P .ret (pre ++ [x]) (((((sumW W gs go (.slice none 0 0) (.slice none 0 0) false false).setCell ⟨b + 1 + 1, 0, none⟩ (.slice none 0 0)).setCell ⟨b + 1 + 1, 1, none⟩ (.slice none 0 0)).setCell ⟨b + 1 + 1, 2, none⟩ (.bool false)).setCell ⟨b + 1 + 1 + 1, 0, none⟩ (.bool false)) := by
  have ks := sumW_keeps W gs go (.slice none 0 0) (.slice none 0 0) false false
  have bk := fun k hk h1 h2 => sumW_blocks (W := W) (gs := gs) (go := go) (.slice none 0 0) (.slice none 0 0) false false k hk h1 h2
  have lo := sumW_below (gs := gs) (go := go) h.low (by omega) (by omega) (.slice none 0 0) (.slice none 0 0) false false
  have r1 : PSl _ (b + 1 + 1) (.slice none 0 0) (.slice none 0 0) (.bool false) := (bk _ h.fr.r.lt (by omega) (by omega)).trans h.fr.r
  have o1 : BBx _ (b + 1 + 1 + 1) false := (bk _ (Array.getElem?_eq_some_iff.1 h.fr.o).1 (by omega) (by omega)).trans h.fr.o
  generalize sumW W gs go (.slice none 0 0) (.slice none 0 0) false false = W2 at *
  refine ⟨ks.trans (sumW_keeps W2 (b + 1 + 1) (b + 1 + 1 + 1) _ _ false false), rfl, ⟨sumW_sum r1 (by omega) _ _ _ _, sumW_ok o1 (by omega) _ _ _ _⟩, sumW_below lo (by omega) (by omega) _ _ _ _, pre, x, q0, rfl, hm, hs⟩
theorem ret_ptb {fn : Func} {p u : Tmp} (h : fn.results = #[.cell p 42, .cell u 4]) (tmps : Array Value) (w : World) (g g' : Nat) (c0 c1 c2 : Value) (b : Bool) (hp : tmps.getD p undef = .pointer (some ⟨g, 0, none⟩)) (hu : tmps.getD u undef = .pointer (some ⟨g', 0, none⟩)) (hg : PSl w g c0 c1 c2) (hb : BBx w g' b) :
    (results fn tmps).run Try.prog w = .ok (.tuple #[.agg #[c0, c1, c2], .bool b]) w := by
  have hp' : tmps[p]?.getD undef = .pointer (some ⟨g, 0, none⟩) := by simpa using hp
  have hu' : tmps[u]?.getD undef = .pointer (some ⟨g', 0, none⟩) := by simpa using hu
  have hl := run_loadVar_row (P := Try.prog) w g 42 42 #[c0, c1, c2] (0, 0) _ hg Try.underlying42 rfl sizePt
  have hc := hb.facts.1
  obtain ⟨x0, x1, x2, _⟩ := hg.facts
  simp [results, h, hp', hu', asAddr, go_sem, x0, x1, x2, hc]
set_option maxRecDepth 100000 in
set_option maxHeartbeats 4000000 in
theorem Mul_pt (c k p : Value) (K : Cz) (n : Int) (P : Pz) (L : Nat) (w : World) (hc : Cu w c K L) (hk : Nv w k n L) (hp : Pv w p P L) (hL : 1 ≤ L ∧ L ≤ 70) (h0 : K.p ≠ 0) :
    Calls Try.prog 50 #[c, k, p] w fun e w' => ∃ r, MulZ K P (bitsOf n (blen n.toNat) (blen n.toNat)) r ∧ Pa w w' e r L := by
  obtain ⟨g1, g2, oo, lo, co, vp, va, vb, vx, vy, vn, rfl, c1, c2, c3, c4, c5, c6⟩ := hc
  obtain ⟨px, py, rfl, p1, p2⟩ := hp
  obtain ⟨a1, a2, a3, a4, rfl, a5⟩ := c1
  obtain ⟨b1, b2, b3, b4, rfl, b5'⟩ := c2
  obtain ⟨d1, d2, d3, d4, rfl, d5⟩ := c3
  obtain ⟨e1, e2, e3, e4, rfl, e5⟩ := c4
  obtain ⟨f1, f2, f3, f4, rfl, f5⟩ := c5
  obtain ⟨j1, j2, j3, j4, rfl, j5⟩ := c6
  obtain ⟨k1, k2, k3, k4, rfl, k5⟩ := p1
  obtain ⟨l1, l2, l3, l4, rfl, l5⟩ := p2
  obtain ⟨m1, m2, m3, m4, rfl, m5⟩ := hk
  have FZ := frC_new w #[.int .i64 g1, .int .i64 g2, .slice oo lo co, .slice a1 a2 a3, .slice b1 b2 b3, .slice d1 d2 d3, .slice e1 e2 e3, .slice f1 f2 f3, .slice j1 j2 j3] #[.slice k1 k2 k3, .slice l1 l2 l3, .bool P.inf]
  obtain ⟨W, hW⟩ : ∃ W, (((w.alloc (.cells #[.int .i64 g1, .int .i64 g2, .slice oo lo co, .slice a1 a2 a3, .slice b1 b2 b3, .slice d1 d2 d3, .slice e1 e2 e3, .slice f1 f2 f3, .slice j1 j2 j3] 31)).alloc (.cells #[.slice k1 k2 k3, .slice l1 l2 l3, .bool P.inf] 42)).alloc (.cells #[.slice none 0 0, .slice none 0 0, .bool false] 42)).alloc (.cells #[.bool false] 4) = W := ⟨_, rfl⟩
  rw [hW] at FZ
  obtain ⟨FZ, hb⟩ := FZ
  have HZ := isZero_any (.slice a1 a2 a3) K.p L W (Nv.old ⟨a1, a2, a3, a4, rfl, a5⟩ hb)
  have hd : decide (K.p = 0) = false := by simp [h0]
  rw [hd] at HZ
  have HN := nothing_any W
  have HW : Hid (_ = W) := hW
  clear hW
  refine (callsIn_wide (n := 4)).1 ?_
  refine callsIn_of_wp_marks Try.func50 rfl trivial ?_ rfl
  simp only [Try.ntmps50, List.size_toArray, List.length_cons, List.length_nil, Nat.reduceAdd, Nat.reduceSub, Array.replicate_succ, Array.replicate_zero, List.push_toArray, List.append_toArray, List.nil_append, List.cons_append]
  gi_wp2_with fail
  refine ⟨trivial, ?_⟩
  rw [HW.out]
  refine (callsIn_wide.2 HZ).mono ?_
  rintro e w2 ⟨rfl, rfl⟩
  gi_wp2_with fail
  refine ⟨trivial, ?_⟩
  refine (callsIn_wide.2 HN).mono ?_
  rintro e w3 ⟨rfl, hb3⟩
  have B3 := hb.trans (hb3.mono hb.size)
  have F3 := FZ.keep hb3
  obtain ⟨gs, hgs⟩ : ∃ gs, w3.heap.size = gs := ⟨_, rfl⟩
  obtain ⟨W5, hW5⟩ : ∃ W5, (w3.alloc (.cells #[.slice none 0 0, .slice none 0 0, .bool true] 42)).alloc (.cells #[.bool true] 4) = W5 := ⟨_, rfl⟩
  have b5 : Below w3.heap.size w3 W5 := by rw [← hW5]; exact ((Below.refl _ _).alloc (Nat.le_refl _) _).alloc (by rw [alloc_sz7]; omega) _
  have s5 : PSl W5 gs (.slice none 0 0) (.slice none 0 0) (.bool true) := by rw [← hW5, ← hgs]; exact heap_new (heap_alloc_new w3 _) (by rw [alloc_sz7]; omega)
  have o5 : BBx W5 (gs + 1) true := by
    have := heap_alloc_new (w3.alloc (.cells #[.slice none 0 0, .slice none 0 0, .bool true] 42)) (.cells #[.bool true] 4)
    rw [alloc_sz7, hgs, hW5] at this
    exact this
  have B5 := B3.trans (b5.mono B3.size)
  have hgg : w.heap.size + 1 + 1 + 1 < gs := by rw [← hgs]; exact (Array.getElem?_eq_some_iff.1 F3.o).1
  have HBITS := Bits_new m1 m2 m3 m4 W5 (m5.1.old B5) (by omega)
  have HMS : Hid (MSt w w.heap.size gs (gs + 1) #[.int .i64 g1, .int .i64 g2, .slice oo lo co, .slice a1 a2 a3, .slice b1 b2 b3, .slice d1 d2 d3, .slice e1 e2 e3, .slice f1 f2 f3, .slice j1 j2 j3] #[.slice k1 k2 k3, .slice l1 l2 l3, .bool P.inf] K P L none none 0 0 0 0 noZ W5) :=
    ⟨F3.keep b5, s5, nv_nil W5 L, nv_nil W5 L, o5, Cu.old ⟨g1, g2, oo, lo, co, _, _, _, _, _, _, rfl, ⟨a1, a2, a3, a4, rfl, a5⟩, ⟨b1, b2, b3, b4, rfl, b5'⟩, ⟨d1, d2, d3, d4, rfl, d5⟩, ⟨e1, e2, e3, e4, rfl, e5⟩, ⟨f1, f2, f3, f4, rfl, f5⟩, ⟨j1, j2, j3, j4, rfl, j5⟩⟩ B5, Pv.old ⟨_, _, rfl, ⟨k1, k2, k3, k4, rfl, k5⟩, ⟨l1, l2, l3, l4, rfl, l5⟩⟩ B5, B5⟩
  have HVN : Hid (val B64 m4 = n) := m5.2.1
  have HGG : Hid (w.heap.size + 1 + 1 + 1 < gs ∧ gs < W5.heap.size ∧ gs + 1 < W5.heap.size) := ⟨hgg, s5.lt, (Array.getElem?_eq_some_iff.1 o5).1⟩
  have HW5 : Hid (_ = W5) := hW5
  clear hW5 B5 B3 b5 s5 o5 hgg F3 FZ HN HZ hb hb3 HW
  gi_wp2_with fail
  rw [HW5.out]
  refine ⟨trivial, ?_⟩
  refine (callsIn_wide.2 HBITS).mono ?_
  rintro e W6 ⟨g3, g4, rfl, hBA, hbl, hg3⟩
  rw [HVN.out] at hBA
  obtain ⟨N, hN⟩ : ∃ N, blen n.toNat = N := ⟨_, rfl⟩
  rw [hN] at hBA
  have HNN : Hid (blen n.toNat = N) := hN
  clear hN
  have HGI : Hid (MSt w w.heap.size gs (gs + 1) _ _ K P L none none 0 0 0 0 noZ W6) := HMS.out.old hbl
  have HNE : Hid (gs ≠ g3 ∧ gs + 1 ≠ g3 ∧ w.heap.size ≤ W6.heap.size) := ⟨by have := HGG.out; omega, by have := HGG.out; omega, HGI.out.low.size⟩
  clear HMS hbl HBITS hg3 HW5
  have HGX : Hid (w.heap.size + 1 + 1 + 1 < gs ∧ True) := ⟨HGG.out.1, trivial⟩
  have HLL : Hid (1 ≤ L ∧ L ≤ 1000) := ⟨hL.1, by omega⟩
  clear HGG hgs a5 b5' d5 e5 f5 j5 k5 l5 m5 HVN hd h0 hL
  gi_wp2
  refine wpIn_rangeFunc_ownF rfl (by omega) (gf := 80) (lb := #[.pointer (some ⟨g4, 0, none⟩), .pointer (some ⟨g3, 0, none⟩)]) rfl trivial (enters_of Try.func80 (by kernel_rfl) rfl)
    (bits_stopsI (4 - 1) (by omega) W6 g3 g4 n N hBA) (fun h k hB => k (h hB)) (fun W l o o' _ hl hc _ hB => hB.keptc (grownBy_putObj' W l o') (fun r e => by cases e; exact ⟨o, hl, hc⟩)) (Below.refl _ _) (fun _ => rfl)
    (MGo w w.heap.size gs (gs + 1) #[.int .i64 g1, .int .i64 g2, .slice oo lo co, .slice a1 a2 a3, .slice b1 b2 b3, .slice d1 d2 d3, .slice e1 e2 e3, .slice f1 f2 f3, .slice j1 j2 j3] #[.slice k1 k2 k3, .slice l1 l2 l3, .bool P.inf] K P L) (MEnd w w.heap.size K P)
    (MGo.kept HNE.out.2.2) (MEnd.kept HNE.out.2.2) ⟨none, none, 0, 0, 0, 0, noZ, rfl, HGI.out⟩
    (fun x => { tmps := #[.agg #[.int .i64 g1, .int .i64 g2, .slice oo lo co, .slice a1 a2 a3, .slice b1 b2 b3, .slice d1 d2 d3, .slice e1 e2 e3, .slice f1 f2 f3, .slice j1 j2 j3], .slice m1 m2 m3, .agg #[.slice k1 k2 k3, .slice l1 l2 l3, .bool P.inf], .pointer (some ⟨w.heap.size, 0, none⟩), undef, .pointer (some ⟨w.heap.size + 1, 0, none⟩), .pointer (some ⟨w.heap.size + 1 + 1, 0, none⟩), .pointer (some ⟨w.heap.size + 1 + 1 + 1, 0, none⟩), .pointer (some ⟨gs, 0, none⟩), .pointer (some ⟨gs + 1, 0, none⟩), undef, .bool x.2, .pointer (some ⟨w.heap.size, 3, none⟩), .slice a1 a2 a3, .bool false, undef, .agg #[.slice none 0 0, .slice none 0 0, .bool true], .slice m1 m2 m3, .func (.func 80) #[] #[.pointer (some ⟨g4, 0, none⟩), .pointer (some ⟨g3, 0, none⟩)], .int .i64 x.1, .bool x.2, undef, undef, undef, undef, undef, undef, undef, undef, undef, undef, undef, undef, undef, undef, undef, undef, undef, undef, undef, undef, undef, undef, undef], defers := [] }) ?assign ?body ?done ?stop
  case assign =>
    intro l x W' K hK
    gi_wp2
    exact hK
  case body =>
    rintro l pre ⟨z1, z2⟩ W' ⟨x1, y1, x2, x3, y2, y3, q, hmf, hst⟩ hlen
    have HST : Hid (MSt w w.heap.size gs (gs + 1) #[.int .i64 g1, .int .i64 g2, .slice oo lo co, .slice a1 a2 a3, .slice b1 b2 b3, .slice d1 d2 d3, .slice e1 e2 e3, .slice f1 f2 f3, .slice j1 j2 j3] #[.slice k1 k2 k3, .slice l1 l2 l3, .bool P.inf] K P L x1 y1 x2 x3 y2 y3 q W') := hst
    have HMF : Hid (MF K P pre q) := hmf
    have HA := Add_pt _ (.agg #[.slice x1 x2 x3, .slice y1 y2 y3, .bool q.inf]) (.agg #[.slice x1 x2 x3, .slice y1 y2 y3, .bool q.inf]) K q q L W' hst.cu ⟨_, _, rfl, hst.sx, hst.sy⟩ ⟨_, _, rfl, hst.sx, hst.sy⟩ HLL.out
    obtain ⟨⟨C0, C1, C2, C3, C4, C5, C6, C7, C8⟩, P0, P1, P2⟩ := hst.fr.cells
    obtain ⟨S0, S1, S2, S3, S4, S5⟩ := hst.sum.facts
    clear hst hmf hBA HGI
    gi_wp2_with fail
    refine ⟨trivial, ?_⟩
    refine (CallsIn.inRound l (callsIn_wide.2 HA)).mono ?_
    rintro e W2 ⟨r, hr, hb2, hpa⟩
    have HS2 : Hid (MSt w w.heap.size gs (gs + 1) #[.int .i64 g1, .int .i64 g2, .slice oo lo co, .slice a1 a2 a3, .slice b1 b2 b3, .slice d1 d2 d3, .slice e1 e2 e3, .slice f1 f2 f3, .slice j1 j2 j3] #[.slice k1 k2 k3, .slice l1 l2 l3, .bool P.inf] K P L x1 y1 x2 x3 y2 y3 q W2) := HST.out.old hb2
    obtain ⟨T0, T1, T2, T3, T4, T5⟩ := HS2.out.sum.facts
    obtain ⟨U0, U1⟩ := HS2.out.ok.facts
    have KO : Hid (KeepsOthers W' W2) := KeepsOthers.of_below hb2
    have KP : Hid (BitsAt W' g3 g4 n N → BitsAt W2 g3 g4 n N) := fun hB => hB.old hb2
    clear C0 C1 C2 C3 C4 C5 C6 C7 C8 P0 P1 P2 S0 S1 S2 S3 S4 S5 HST HA hb2
    have N7 : w.heap.size ≠ gs ∧ w.heap.size ≠ gs + 1 ∧ w.heap.size + 1 ≠ gs ∧ w.heap.size + 1 ≠ gs + 1 ∧ w.heap.size + 1 + 1 ≠ gs ∧ w.heap.size + 1 + 1 ≠ gs + 1 ∧ w.heap.size + 1 + 1 + 1 ≠ gs ∧ w.heap.size + 1 + 1 + 1 ≠ gs + 1 := by have := HGX.out.1; omega
    obtain ⟨M1, M2, M3, M4, M5, M6, M7, M8⟩ := N7
    obtain ⟨⟨C0, C1, C2, C3, C4, C5, C6, C7, C8⟩, P0, P1, P2⟩ := HS2.out.fr.cells
    obtain ⟨R0, R1, R2, R3, R4, R5⟩ := HS2.out.fr.r.facts
    obtain ⟨O0, O1⟩ := BBx.facts HS2.out.fr.o
    have N1 : gs ≠ w.heap.size + 1 + 1 := by have := HGX.out.1; omega
    have N2 : gs ≠ w.heap.size + 1 + 1 + 1 := by have := HGX.out.1; omega
    have N3 : gs + 1 ≠ w.heap.size + 1 + 1 := by have := HGX.out.1; omega
    have N4 : gs + 1 ≠ w.heap.size + 1 + 1 + 1 := by have := HGX.out.1; omega
    rcases hpa with ⟨v, d, rfl, rfl, hv⟩ | ⟨rfl, rfl⟩
    · obtain ⟨vx, vy, rfl, hvx, hvy⟩ := hv
      have hvx' := hvx
      have hvy' := hvy
      obtain ⟨o1, o2, o3, o4, rfl, o5⟩ := hvx
      obtain ⟨r1, r2, r3, r4, rfl, r5⟩ := hvy
      have NX := HS2.out.next (q' := d) ⟨HGX.out.1, rfl, rfl⟩ hvx' hvy'
      have KP2 : Hid (BitsAt W' g3 g4 n N → BitsAt (sumW W2 gs (gs + 1) (.slice o1 o2 o3) (.slice r1 r2 r3) d.inf true) g3 g4 n N) := fun hB => bitsAt_sum (KP.out hB) HS2.out.sum HS2.out.ok (by omega) ⟨HNE.out.1, HNE.out.2.1⟩ _ _ _ _
      have KO2 : Hid (KeepsOthers W' (sumW W2 gs (gs + 1) (.slice o1 o2 o3) (.slice r1 r2 r3) d.inf true)) := KO.out.trans (sumW_keeps _ _ _ _ _ _ _)
      have HN : Hid (MSt w w.heap.size gs (gs + 1) #[.int .i64 g1, .int .i64 g2, .slice oo lo co, .slice a1 a2 a3, .slice b1 b2 b3, .slice d1 d2 d3, .slice e1 e2 e3, .slice f1 f2 f3, .slice j1 j2 j3] #[.slice k1 k2 k3, .slice l1 l2 l3, .bool P.inf] K P L o1 r1 o2 o3 r2 r3 d (sumW W2 gs (gs + 1) (.slice o1 o2 o3) (.slice r1 r2 r3) d.inf true)) := NX
      have HR : Hid (AddZ K q q (some d)) := hr
      clear hr hvx' hvy' o5 r5 NX KP KO HS2
      cases z2 with
      | false =>
        gi_wp2
        exact ⟨KO2.out, KP2.out, o1, r1, o2, o3, r2, r3, d, (MF_snoc K P pre (z1, false) d).2 ⟨q, HMF.out, some d, HR.out, .inr ⟨d, rfl, rfl⟩⟩, HN.out⟩
      | true =>
        have HA2 := Add_pt _ (.agg #[.slice o1 o2 o3, .slice r1 r2 r3, .bool d.inf]) (.agg #[.slice k1 k2 k3, .slice l1 l2 l3, .bool P.inf]) K d P L (sumW W2 gs (gs + 1) (.slice o1 o2 o3) (.slice r1 r2 r3) d.inf true) HN.out.cu ⟨_, _, rfl, HN.out.sx, HN.out.sy⟩ HN.out.pp HLL.out
        gi_wp2_with fail
        refine ⟨trivial, ?_⟩
        refine (CallsIn.inRound l (callsIn_wide.2 HA2)).mono ?_
        clear C0 C1 C2 C3 C4 C5 C6 C7 C8 P0 P1 P2 T0 T1 T2 T3 T4 T5 U0 U1 R0 R1 R2 R3 R4 R5 O0 O1
        rintro e W4 ⟨r, hr, hb4, hpa⟩
        have HS4 : Hid (MSt w w.heap.size gs (gs + 1) #[.int .i64 g1, .int .i64 g2, .slice oo lo co, .slice a1 a2 a3, .slice b1 b2 b3, .slice d1 d2 d3, .slice e1 e2 e3, .slice f1 f2 f3, .slice j1 j2 j3] #[.slice k1 k2 k3, .slice l1 l2 l3, .bool P.inf] K P L o1 r1 o2 o3 r2 r3 d W4) := HN.out.old hb4
        obtain ⟨T0, T1, T2, T3, T4, T5⟩ := HS4.out.sum.facts
        obtain ⟨U0, U1⟩ := HS4.out.ok.facts
        obtain ⟨R0, R1, R2, R3, R4, R5⟩ := HS4.out.fr.r.facts
        obtain ⟨O0, O1⟩ := BBx.facts HS4.out.fr.o
        have KO4 : Hid (KeepsOthers W' W4) := KO2.out.trans (KeepsOthers.of_below hb4)
        have KP4 : Hid (BitsAt W' g3 g4 n N → BitsAt W4 g3 g4 n N) := fun hB => (KP2.out hB).old hb4
        clear hb4 HN KO2 KP2 HA2
        rcases hpa with ⟨v, d', rfl, rfl, hv⟩ | ⟨rfl, rfl⟩
        · obtain ⟨vx, vy, rfl, hvx, hvy⟩ := hv
          have hvx' := hvx
          have hvy' := hvy
          obtain ⟨t1, t2, t3, t4, rfl, t5⟩ := hvx
          obtain ⟨u1, u2, u3, u4, rfl, u5⟩ := hvy
          have NX := HS4.out.next (q' := d') ⟨HGX.out.1, rfl, rfl⟩ hvx' hvy'
          have KP5 : Hid (BitsAt W' g3 g4 n N → BitsAt (sumW W4 gs (gs + 1) (.slice t1 t2 t3) (.slice u1 u2 u3) d'.inf true) g3 g4 n N) := fun hB => bitsAt_sum (KP4.out hB) HS4.out.sum HS4.out.ok (by omega) ⟨HNE.out.1, HNE.out.2.1⟩ _ _ _ _
          have KO5 : Hid (KeepsOthers W' (sumW W4 gs (gs + 1) (.slice t1 t2 t3) (.slice u1 u2 u3) d'.inf true)) := KO4.out.trans (sumW_keeps _ _ _ _ _ _ _)
          have HN5 : Hid (MSt w w.heap.size gs (gs + 1) #[.int .i64 g1, .int .i64 g2, .slice oo lo co, .slice a1 a2 a3, .slice b1 b2 b3, .slice d1 d2 d3, .slice e1 e2 e3, .slice f1 f2 f3, .slice j1 j2 j3] #[.slice k1 k2 k3, .slice l1 l2 l3, .bool P.inf] K P L t1 u1 t2 t3 u2 u3 d' (sumW W4 gs (gs + 1) (.slice t1 t2 t3) (.slice u1 u2 u3) d'.inf true)) := NX
          have HR5 : Hid (AddZ K d P (some d')) := hr
          clear hr hvx' hvy' t5 u5 NX KP4 KO4 HS4
          gi_wp2
          exact ⟨KO5.out, KP5.out, t1, u1, t2, t3, u2, u3, d', (MF_snoc K P pre (z1, true) d').2 ⟨q, HMF.out, some d, HR.out, .inr ⟨d, rfl, HR5.out⟩⟩, HN5.out⟩
        · have HF := HS4.out.fails ⟨HGX.out.1, rfl, rfl⟩ (x := (z1, true)) HMF.out ⟨some d, HR.out, .inr ⟨d, rfl, hr⟩⟩
          have HFF : Hid _ := HF
          clear HF hr
          gi_wp2
          exact ⟨KO4.out.trans HFF.out.1, HFF.out.2⟩
    · have HF := HS2.out.fails ⟨HGX.out.1, rfl, rfl⟩ (x := (z1, z2)) HMF.out ⟨none, hr, .inl ⟨rfl, rfl⟩⟩
      have HFF : Hid _ := HF
      clear HF hr
      gi_wp2
      exact ⟨KO.out.trans HFF.out.1, HFF.out.2⟩
  case done =>
    rintro D ys W' hD hys ⟨x1, y1, x2, x3, y2, y3, q, hmf, hst⟩ hK
    have HST : Hid (MSt w w.heap.size gs (gs + 1) #[.int .i64 g1, .int .i64 g2, .slice oo lo co, .slice a1 a2 a3, .slice b1 b2 b3, .slice d1 d2 d3, .slice e1 e2 e3, .slice f1 f2 f3, .slice j1 j2 j3] #[.slice k1 k2 k3, .slice l1 l2 l3, .bool P.inf] K P L x1 y1 x2 x3 y2 y3 q W') := hst
    have HMF : Hid (MF K P (bitsOf n N N) q) := by rw [← hys]; exact hmf
    have HK : Hid (W'.heap[D]? = some (.deferred (some [])) ∧ W6.heap.size ≤ D) := ⟨hK, hD⟩
    obtain ⟨S0, S1, S2, S3, S4, S5⟩ := hst.sum.facts
    obtain ⟨R0, R1, R2, R3, R4, R5⟩ := hst.fr.r.facts
    obtain ⟨O0, O1⟩ := BBx.facts hst.fr.o
    clear hst hmf hBA HGI hys hK hD
    have SS := sumW_sum HST.out.fr.r (go := w.heap.size + 1 + 1 + 1) (by omega) (.slice x1 x2 x3) (.slice y1 y2 y3) q.inf true
    have SO := sumW_ok (gs := w.heap.size + 1 + 1) HST.out.fr.o (by omega) (.slice x1 x2 x3) (.slice y1 y2 y3) q.inf true
    have SX := nv_sum HST.out.sx HST.out.fr.r HST.out.fr.o (by omega) (.slice x1 x2 x3) (.slice y1 y2 y3) q.inf true
    have SY := nv_sum HST.out.sy HST.out.fr.r HST.out.fr.o (by omega) (.slice x1 x2 x3) (.slice y1 y2 y3) q.inf true
    have SB := sumW_below (gs := w.heap.size + 1 + 1) (go := w.heap.size + 1 + 1 + 1) HST.out.low (by omega) (by omega) (.slice x1 x2 x3) (.slice y1 y2 y3) q.inf true
    have SK := (sumW_keeps W' (w.heap.size + 1 + 1) (w.heap.size + 1 + 1 + 1) (.slice x1 x2 x3) (.slice y1 y2 y3) q.inf true).same D _ HK.out.1 rfl
    have HALL : Hid (_ ∧ _ ∧ _ ∧ _ ∧ _ ∧ _) := ⟨SS, SO, SX, SY, SB, SK⟩
    clear SS SO SX SY SB SK
    gi_wp2
    obtain ⟨SS, SO, SX, SY, SB, SK⟩ := HALL.out
    refine ⟨by simp, .inl ⟨_, _, rfl, run_takeDeferred SK, ?_⟩⟩
    have gk := grownBy_putObj' (sumW W' (w.heap.size + 1 + 1) (w.heap.size + 1 + 1 + 1) (.slice x1 x2 x3) (.slice y1 y2 y3) q.inf true) D (.deferred none)
    have hr : ∀ r, some D = some r → ∃ o : Obj, (sumW W' (w.heap.size + 1 + 1) (w.heap.size + 1 + 1 + 1) (.slice x1 x2 x3) (.slice y1 y2 y3) q.inf true).heap[r]? = some o ∧ o.isCells = false := fun r e => by cases e; exact ⟨_, SK, rfl⟩
    refine ⟨_, ret_ptb rfl _ _ (w.heap.size + 1 + 1) (w.heap.size + 1 + 1 + 1) _ _ _ _ rfl rfl (blk_kept SS gk hr) (blk_kept SO gk hr), some q, .inl ⟨q, rfl, by rw [HNN.out]; exact HMF.out⟩, SB.trans (belowK_b (w := w) (Nat.le_refl _) _ D _ _ (by have := HK.out.2; have := HNE.out.2.2; omega) SK rfl rfl), .inl ⟨_, q, rfl, rfl, _, _, rfl, SX.kept gk hr, SY.kept gk hr⟩⟩
  case stop =>
    rintro D c pre W' hD hpre ⟨rfl, h1, h2, h3⟩ hK
    obtain ⟨pre', x, q, rfl, hm, hs⟩ := h3
    gi_wp2
    refine ⟨by simp, .inl ⟨_, _, rfl, run_takeDeferred hK, ?_⟩⟩
    have gk := grownBy_putObj' W' D (.deferred none)
    have hr : ∀ r, some D = some r → ∃ o : Obj, W'.heap[r]? = some o ∧ o.isCells = false := fun r e => by cases e; exact ⟨_, hK, rfl⟩
    exact ⟨_, ret_ptb rfl _ _ (w.heap.size + 1 + 1) (w.heap.size + 1 + 1 + 1) _ _ _ _ rfl rfl (blk_kept h1.1 gk hr) (blk_kept h1.2 gk hr), none, .inr ⟨rfl, pre', x, q, by rw [HNN.out]; exact hpre, hm, hs⟩, h2.trans (belowK_b (w := w) (Nat.le_refl _) _ D _ _ (by have := HNE.out.2.2; omega) hK rfl rfl), .inr ⟨rfl, rfl⟩⟩
end Go.Proofs.Ytagljkbfgldlgaa
