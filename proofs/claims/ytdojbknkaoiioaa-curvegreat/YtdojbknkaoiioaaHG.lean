/-
  The code's Base, Size, rightSide, On.
-/
import Derived.Test.YtdojbknkaoiioaaHF
namespace Go.Proofs.Ytdojbknkaoiioaa
open Go.Shelf Go.RowKit
set_option linter.unusedVariables false
set_option linter.unusedSimpArgs false

/-- Two blocks, one behind the other. -/
theorem pair_new (w : World) (cv pv : Array Value) (t t' : TypeId) : ((w.alloc (.cells cv t)).alloc (.cells pv t')).heap[w.heap.size]? = some (.cells cv t (0, 0)) ∧ ((w.alloc (.cells cv t)).alloc (.cells pv t')).heap[w.heap.size + 1]? = some (.cells pv t' (0, 0)) ∧ Below w.heap.size w ((w.alloc (.cells cv t)).alloc (.cells pv t')) := by
  have z1 := alloc_sz7 w (.cells cv t)
  have n1 := heap_alloc_new w (.cells cv t)
  have n2 := heap_alloc_new (w.alloc (.cells cv t)) (.cells pv t')
  rw [z1] at n2
  exact ⟨heap_new n1 (by omega), n2, ((Below.refl w.heap.size w).alloc (Nat.le_refl _) _).alloc (by omega) _⟩
theorem blk_old {W W' : World} {k : Nat} {o : Obj} (h : W.heap[k]? = some o) (hb : Below W.heap.size W W') : W'.heap[k]? = some o := (hb.block _ (Array.getElem?_eq_some_iff.1 h).1).trans h
def baseZ (K : Cz) : Pz := ⟨K.gx, K.gy, false⟩
set_option maxRecDepth 100000 in
set_option maxHeartbeats 2000000 in
theorem Base_any (c : Value) (K : Cz) (L : Nat) (w : World) (hc : Cu w c K L) :
    Calls Try.prog 18 #[c] w fun e w' => ∃ v, e = .returned v ∧ Pv w' v (baseZ K) L ∧ Below w.heap.size w w' := by
  obtain ⟨g1, g2, oo, lo, co, vp, va, vb, vx, vy, vn, rfl, c1, c2, c3, c4, c5, c6⟩ := hc
  have HO := fun W (hW : Below w.heap.size w W) => own_any (.agg #[vx, vy, .bool false]) (baseZ K) L W ⟨vx, vy, rfl, c4.old hW, c5.old hW⟩
  obtain ⟨a1, a2, a3, a4, rfl, a5⟩ := c1
  obtain ⟨b1, b2, b3, b4, rfl, b5⟩ := c2
  obtain ⟨d1, d2, d3, d4, rfl, d5⟩ := c3
  obtain ⟨e1, e2, e3, e4, rfl, e5⟩ := c4
  obtain ⟨f1, f2, f3, f4, rfl, f5⟩ := c5
  obtain ⟨j1, j2, j3, j4, rfl, j5⟩ := c6
  go_enter Try.func18, Try.ntmps18
  go_wp2_with fail
  obtain ⟨_, n2, hb⟩ := pair_new w #[.int .i64 g1, .int .i64 g2, .slice oo lo co, .slice a1 a2 a3, .slice b1 b2 b3, .slice d1 d2 d3, .slice e1 e2 e3, .slice f1 f2 f3, .slice j1 j2 j3] #[.slice none 0 0, .slice none 0 0, .bool false] 29 43
  go_at_call 52
  refine (HO _ hb).mono ?_
  rintro e w2 ⟨v, rfl, hv, hb2⟩
  have s2 : PSl w2 (w.heap.size + 1) (.slice none 0 0) (.slice none 0 0) (.bool false) := blk_old n2 hb2
  obtain ⟨y0, y1, y2, y3, y4, y5⟩ := s2.facts
  obtain ⟨ux, uy, rfl, ⟨o1, o2, o3, o4, rfl, o5⟩, ⟨r1, r2, r3, r4, rfl, r5⟩⟩ := hv
  go_wp2
  refine bodyPost_ret (ret_pt1 rfl _ _ (w.heap.size + 1) _ _ _ rfl (s2.set3 (.slice o1 o2 o3) (.slice r1 r2 r3) (.bool (ownZ (baseZ K)).inf))) rfl ?_
  have bt := Bt.set3 w2 (w.heap.size + 1) (.slice o1 o2 o3) (.slice r1 r2 r3) (.bool (ownZ (baseZ K)).inf)
  have B2 := hb.trans (hb2.mono hb.size)
  exact ⟨_, rfl, ⟨_, _, rfl, Nv.apart ⟨o1, o2, o3, o4, rfl, o5⟩ s2 bt, Nv.apart ⟨r1, r2, r3, r4, rfl, r5⟩ s2 bt⟩, B2.trans (bt.below (by omega) B2.size)⟩
set_option maxRecDepth 100000 in
set_option maxHeartbeats 2000000 in
theorem Size_any (c : Value) (K : Cz) (L : Nat) (w : World) (hc : Cu w c K L) (hL : L ≤ 1000) :
    Calls Try.prog 28 #[c] w fun e w' => e = .returned (.int .i64 (((blen K.p.toNat : Nat) + 7) / 8)) ∧ Below w.heap.size w w' := by
  obtain ⟨g1, g2, oo, lo, co, vp, va, vb, vx, vy, vn, rfl, c1, c2, c3, c4, c5, c6⟩ := hc
  obtain ⟨a1, a2, a3, a4, rfl, a5⟩ := c1
  obtain ⟨b1, b2, b3, b4, rfl, b5⟩ := c2
  obtain ⟨d1, d2, d3, d4, rfl, d5⟩ := c3
  obtain ⟨e1, e2, e3, e4, rfl, e5⟩ := c4
  obtain ⟨f1, f2, f3, f4, rfl, f5⟩ := c5
  obtain ⟨j1, j2, j3, j4, rfl, j5⟩ := c6
  have b0 := (Below.refl w.heap.size w).alloc (Nat.le_refl _) (.cells #[.int .i64 g1, .int .i64 g2, .slice oo lo co, .slice a1 a2 a3, .slice b1 b2 b3, .slice d1 d2 d3, .slice e1 e2 e3, .slice f1 f2 f3, .slice j1 j2 j3] 29)
  have HL := Len_any a1 a2 a3 a4 _ (a5.1.old b0)
  have hbl : lenOf a4 ≤ 64000 := lenOf_le a5.1.dg 1000 (by have := a5.1.len; have := a5.2.2; omega)
  rw [lenOf_eq a4 a5.1.dg, a5.2.1] at HL hbl
  obtain ⟨N, hN⟩ : ∃ N, blen K.p.toNat = N := ⟨_, rfl⟩
  rw [hN] at HL hbl ⊢
  go_enter Try.func28, Try.ntmps28
  go_wp2_with (go_at_call 30; refine HL.mono ?_; rintro e w2 ⟨rfl, rfl⟩)
  go_ret
  exact ⟨rfl, b0⟩
def rightZ (K : Cz) (x : Int) : Int := ((x * (((x * x) % K.p + K.a) % K.p)) % K.p + K.b) % K.p
set_option maxRecDepth 100000 in
set_option maxHeartbeats 2000000 in
theorem right_any (c v : Value) (K : Cz) (x : Int) (L : Nat) (w : World) (hc : Cu w c K L) (hv : Nv w v x L) (h0 : K.p ≠ 0) (hL : 1 ≤ L ∧ L ≤ 1000) :
    Calls Try.prog 59 #[c, v] w fun e w' => ∃ v, e = .returned v ∧ Na w w' v (rightZ K x) L := by
  obtain ⟨g1, g2, oo, lo, co, vp, va, vb, vx, vy, vn, rfl, c1, c2, c3, c4, c5, c6⟩ := hc
  obtain ⟨a1, a2, a3, a4, rfl, a5⟩ := c1
  obtain ⟨b1, b2, b3, b4, rfl, b5⟩ := c2
  obtain ⟨d1, d2, d3, d4, rfl, d5⟩ := c3
  obtain ⟨e1, e2, e3, e4, rfl, e5⟩ := c4
  obtain ⟨f1, f2, f3, f4, rfl, f5⟩ := c5
  obtain ⟨j1, j2, j3, j4, rfl, j5⟩ := c6
  obtain ⟨k1, k2, k3, k4, rfl, k5⟩ := hv
  obtain ⟨n1, n2, hb⟩ := pair_new w #[.int .i64 g1, .int .i64 g2, .slice oo lo co, .slice a1 a2 a3, .slice b1 b2 b3, .slice d1 d2 d3, .slice e1 e2 e3, .slice f1 f2 f3, .slice j1 j2 j3] #[.slice a1 a2 a3] 29 101
  obtain ⟨W, hW⟩ : ∃ W, (w.alloc (.cells #[.int .i64 g1, .int .i64 g2, .slice oo lo co, .slice a1 a2 a3, .slice b1 b2 b3, .slice d1 d2 d3, .slice e1 e2 e3, .slice f1 f2 f3, .slice j1 j2 j3] 29)).alloc (.cells #[.slice a1 a2 a3] 101) = W := ⟨_, rfl⟩
  rw [hW] at n1 n2 hb
  have HK := fun (W' : World) (hW' : Below W.heap.size W W') => (show W'.cell? ⟨w.heap.size + 1, 0, none⟩ = some (.slice a1 a2 a3) ∧ W'.cell? ⟨w.heap.size, 4, none⟩ = some (.slice b1 b2 b3) ∧ W'.cell? ⟨w.heap.size, 5, none⟩ = some (.slice d1 d2 d3) from by
    refine ⟨?_, ?_, ?_⟩
    · rw [cell_of_row _ _ _ _ _ _ (blk_old n2 hW')]; rfl
    · rw [cell_of_row _ _ _ _ _ _ (blk_old n1 hW')]; rfl
    · rw [cell_of_row _ _ _ _ _ _ (blk_old n1 hW')]; rfl)
  have VP := fun (W' : World) (hW' : Below W.heap.size W W') => (show Nv W' (.slice a1 a2 a3) K.p L ∧ Nv W' (.slice b1 b2 b3) K.a L ∧ Nv W' (.slice d1 d2 d3) K.b L ∧ Nv W' (.slice k1 k2 k3) x L from by
    have B := hb.trans (hW'.mono hb.size)
    exact ⟨Nv.old ⟨a1, a2, a3, a4, rfl, a5⟩ B, Nv.old ⟨b1, b2, b3, b4, rfl, b5⟩ B, Nv.old ⟨d1, d2, d3, d4, rfl, d5⟩ B, Nv.old ⟨k1, k2, k3, k4, rfl, k5⟩ B⟩)
  have K3 := HK W (Below.refl _ _)
  have K4 := HK W.drew (Below.refl _ _).drew
  have V4 := VP W.drew (Below.refl _ _).drew
  have H1 := product_any (.slice k1 k2 k3) (.slice k1 k2 k3) (.slice a1 a2 a3) x x K.p L L W.drew V4.2.2.2 V4.2.2.2 V4.1 h0 (by omega)
  have H2 := fun (W' : World) (hW' : Below W.heap.size W W') v n (hv : Nv W' v n L) => plus_any v (.slice b1 b2 b3) (.slice a1 a2 a3) n K.a K.p L L W' hv (VP W' hW').2.1 (VP W' hW').1 h0 (by omega)
  have H3 := fun (W' : World) (hW' : Below W.heap.size W W') v n (hv : Nv W' v n L) => product_any (.slice k1 k2 k3) v (.slice a1 a2 a3) x n K.p L L W' (VP W' hW').2.2.2 hv (VP W' hW').1 h0 (by omega)
  have H4 := fun (W' : World) (hW' : Below W.heap.size W W') v n (hv : Nv W' v n L) => plus_any v (.slice d1 d2 d3) (.slice a1 a2 a3) n K.b K.p L L W' hv (VP W' hW').2.2.1 (VP W' hW').1 h0 (by omega)
  obtain ⟨RZ, hRZ⟩ : ∃ r, rightZ K x = r := ⟨_, rfl⟩
  have HRZ : Hid (rightZ K x = RZ) := hRZ
  rw [hRZ]
  have HW : Hid (_ = W) := hW
  have T1 : True := trivial
  have T2 : True := trivial
  clear hW hRZ V4
  go_enter Try.func59, Try.ntmps59
  go_wp2_with fail
  rw [HW.out]
  go_region_held3 (fun W => W.cell? ⟨w.heap.size + 1, 0, none⟩ = some (.slice a1 a2 a3) ∧ W.cell? ⟨w.heap.size, 4, none⟩ = some (.slice b1 b2 b3) ∧ W.cell? ⟨w.heap.size, 5, none⟩ = some (.slice d1 d2 d3))
    (first | exact K3 | exact K4 | exact K5 | exact K6 | exact K7 | exact K8) (first
    | (go_at_call 58; clear T1; refine H1.mono ?_; rintro e w5 ⟨v5, rfl, hv5, hb5⟩; have C5 := ((Below.refl W.heap.size W).drew).trans (hb5.mono (Nat.le_refl _)); have K5 := HK w5 C5; have H22 := H2 w5 C5 v5 _ hv5; obtain ⟨o1, o2, o3, o4, rfl, o5⟩ := hv5)
    | (go_at_call 72; clear T2; refine H22.mono ?_; rintro e w6 ⟨v6, rfl, hv6, hb6⟩; have C6 := C5.trans (hb6.mono C5.size); have K6 := HK w6 C6; have H32 := H3 w6 C6 v6 _ hv6; obtain ⟨u1, u2, u3, u4, rfl, u5⟩ := hv6)
    | (go_at_call 58; refine H32.mono ?_; rintro e w7 ⟨v7, rfl, hv7, hb7⟩; have C7 := C6.trans (hb7.mono C6.size); have K7 := HK w7 C7; have H42 := H4 w7 C7 v7 _ hv7; obtain ⟨y1, y2, y3, y4, rfl, y5⟩ := hv7)
    | (go_at_call 72; refine H42.mono ?_; rintro e w8 ⟨v8, rfl, hv8, hb8⟩; have C8 := C7.trans (hb8.mono C7.size); have K8 := HK w8 C8; have hv8' := hv8; obtain ⟨z1, z2, z3, z4, rfl, z5⟩ := hv8))
  go_wp2
  go_ret
  refine ⟨_, rfl, ?_, hb.trans (C8.mono hb.size)⟩
  rw [← HRZ.out]
  exact hv8'
/-- Is it on the curve? -/
def onB (K : Cz) (P : Pz) : Bool := decide (K.p ≠ 0) && (P.inf || (decide (P.x < K.p) && (decide (P.y < K.p) && decide ((P.y * P.y) % K.p = rightZ K P.x))))
theorem cmp_nv (a b : Value) (x y : Int) (L : Nat) (w : World) (ha : Nv w a x L) (hb : Nv w b y L) : Calls Try.prog 22 #[a, b] w fun e w' => e = .returned (.int .i64 (cmpI x y)) ∧ Below w.heap.size w w' := by
  obtain ⟨ao, la, ca, xs, rfl, h1, rfl, h2⟩ := ha
  obtain ⟨bo, lb, cb, ys, rfl, k1, rfl, k2⟩ := hb
  refine (Cmp_any ao bo la ca lb cb xs ys w h1 k1).mono ?_
  rintro e w' ⟨rfl, k, rfl⟩
  exact ⟨rfl, drew7 _ _⟩
set_option maxRecDepth 100000 in
set_option maxHeartbeats 4000000 in
theorem On_any (c p : Value) (K : Cz) (P : Pz) (L : Nat) (w : World) (hc : Cu w c K L) (hp : Pv w p P L) (hL : 1 ≤ L ∧ L ≤ 1000) :
    Calls Try.prog 23 #[c, p] w fun e w' => e = .returned (.bool (onB K P)) ∧ Below w.heap.size w w' := by
  have HCU := hc
  obtain ⟨g1, g2, oo, lo, co, vp, va, vb, vx, vy, vn, rfl, c1, c2, c3, c4, c5, c6⟩ := hc
  obtain ⟨px, py, rfl, p1, p2⟩ := hp
  have HR := fun (h0 : K.p ≠ 0) W (hW : Below w.heap.size w W) => right_any _ px K P.x L W (HCU.old hW) (p1.old hW) h0 hL
  have HM := fun (h0 : K.p ≠ 0) W (hW : Below w.heap.size w W) => product_any py py vp P.y P.y K.p L L W (p2.old hW) (p2.old hW) (c1.old hW) h0 (by omega)
  have HBX := fun W (hW : Below w.heap.size w W) => isBelow_any px vp P.x K.p L W (p1.old hW) (c1.old hW)
  have HBY := fun W (hW : Below w.heap.size w W) => isBelow_any py vp P.y K.p L W (p2.old hW) (c1.old hW)
  have HZ := fun W (hW : Below w.heap.size w W) => isZero_any vp K.p L W (c1.old hW)
  clear HCU
  obtain ⟨a1, a2, a3, a4, rfl, a5⟩ := c1
  obtain ⟨b1, b2, b3, b4, rfl, b5⟩ := c2
  obtain ⟨d1, d2, d3, d4, rfl, d5⟩ := c3
  obtain ⟨e1, e2, e3, e4, rfl, e5⟩ := c4
  obtain ⟨f1, f2, f3, f4, rfl, f5⟩ := c5
  obtain ⟨j1, j2, j3, j4, rfl, j5⟩ := c6
  obtain ⟨k1, k2, k3, k4, rfl, k5⟩ := p1
  obtain ⟨l1, l2, l3, l4, rfl, l5⟩ := p2
  obtain ⟨n1, n2, hb⟩ := pair_new w #[.int .i64 g1, .int .i64 g2, .slice oo lo co, .slice a1 a2 a3, .slice b1 b2 b3, .slice d1 d2 d3, .slice e1 e2 e3, .slice f1 f2 f3, .slice j1 j2 j3] #[.slice k1 k2 k3, .slice l1 l2 l3, .bool P.inf] 29 43
  obtain ⟨W, hW⟩ : ∃ W, (w.alloc (.cells #[.int .i64 g1, .int .i64 g2, .slice oo lo co, .slice a1 a2 a3, .slice b1 b2 b3, .slice d1 d2 d3, .slice e1 e2 e3, .slice f1 f2 f3, .slice j1 j2 j3] 29)).alloc (.cells #[.slice k1 k2 k3, .slice l1 l2 l3, .bool P.inf] 43) = W := ⟨_, rfl⟩
  rw [hW] at n1 n2 hb
  have HK := fun (W' : World) (hW' : Below W.heap.size W W') => (show (W'.cell? ⟨w.heap.size, 0, none⟩ = some (.int .i64 g1) ∧ W'.cell? ⟨w.heap.size, 1, none⟩ = some (.int .i64 g2) ∧ W'.cell? ⟨w.heap.size, 2, none⟩ = some (.slice oo lo co) ∧ W'.cell? ⟨w.heap.size, 3, none⟩ = some (.slice a1 a2 a3) ∧ W'.cell? ⟨w.heap.size, 4, none⟩ = some (.slice b1 b2 b3) ∧ W'.cell? ⟨w.heap.size, 5, none⟩ = some (.slice d1 d2 d3) ∧ W'.cell? ⟨w.heap.size, 6, none⟩ = some (.slice e1 e2 e3) ∧ W'.cell? ⟨w.heap.size, 7, none⟩ = some (.slice f1 f2 f3) ∧ W'.cell? ⟨w.heap.size, 8, none⟩ = some (.slice j1 j2 j3)) ∧ W'.cell? ⟨w.heap.size + 1, 0, none⟩ = some (.slice k1 k2 k3) ∧ W'.cell? ⟨w.heap.size + 1, 1, none⟩ = some (.slice l1 l2 l3) ∧ W'.cell? ⟨w.heap.size + 1, 2, none⟩ = some (.bool P.inf) from by
    refine ⟨⟨?_, ?_, ?_, ?_, ?_, ?_, ?_, ?_, ?_⟩, ?_, ?_, ?_⟩
    all_goals first
      | (rw [cell_of_row _ _ _ _ _ _ (blk_old n1 hW')]; rfl)
      | (rw [cell_of_row _ _ _ _ _ _ (blk_old n2 hW')]; rfl))
  have HZW := HZ W hb
  have HW : Hid (_ = W) := hW
  have HBB : Hid (Below w.heap.size w W) := hb
  clear hW HZ
  unfold onB
  by_cases h0 : K.p = 0
  · have hd : decide (K.p = 0) = true := by simp [h0]
    have hd2 : decide (K.p ≠ 0) = false := by simp [h0]
    rw [hd] at HZW
    rw [hd2]
    go_enter Try.func23, Try.ntmps23
    go_wp2_with (go_at_call 47; rw [HW.out]; refine HZW.mono ?_; rintro e w2 ⟨rfl, rfl⟩)
    go_ret
    exact ⟨rfl, HBB.out⟩
  have hd : decide (K.p = 0) = false := by simp [h0]
  have hd2 : decide (K.p ≠ 0) = true := by simp [h0]
  rw [hd] at HZW
  rw [hd2]
  obtain ⟨⟨x0, x1, x2, x3, x4, x5, x6, x7, x8⟩, x9, x10, x11⟩ := HK W (Below.refl _ _)
  cases hpi : P.inf with
  | true =>
    rw [hpi] at HW x11
    go_enter Try.func23, Try.ntmps23
    go_wp2_with (go_at_call 47; rw [HW.out]; refine HZW.mono ?_; rintro e w2 ⟨rfl, rfl⟩)
    go_ret
    exact ⟨rfl, HBB.out⟩
  | false =>
    rw [hpi] at HW x11 HK
    have HXW := HBX W hb
    obtain ⟨BX, hBX⟩ : ∃ b, decide (P.x < K.p) = b := ⟨_, rfl⟩
    obtain ⟨BY, hBY⟩ : ∃ b, decide (P.y < K.p) = b := ⟨_, rfl⟩
    rw [hBX] at HXW ⊢
    rw [hBY] at HBY ⊢
    have HKB : Hid (∀ w3, Below W.heap.size W w3 → Below w.heap.size w w3) := fun w3 h => HBB.out.trans (h.mono HBB.out.size)
    cases BX with
    | false =>
      clear HR HM HBY HBX
      go_enter Try.func23, Try.ntmps23
      go_wp2_with (first
        | (go_at_call 47; rw [HW.out]; refine HZW.mono ?_; rintro e w2 ⟨rfl, rfl⟩)
        | (go_at_call 57; refine HXW.mono ?_; rintro e w3 ⟨rfl, hb3⟩))
      go_ret
      exact ⟨rfl, HKB.out _ hb3⟩
    | true =>
      cases BY with
      | false =>
        clear HR HM HBX
        have T1 : True := trivial
        go_enter Try.func23, Try.ntmps23
        go_wp2_with (first
          | (go_at_call 47; rw [HW.out]; refine HZW.mono ?_; rintro e w2 ⟨rfl, rfl⟩)
          | (go_at_call 57; clear T1; refine HXW.mono ?_; rintro e w3 ⟨rfl, hb3⟩; obtain ⟨⟨z0, z1, z2, z3, z4, z5, z6, z7, z8⟩, z9, z10, z11⟩ := HK w3 hb3)
          | (go_at_call 57; refine (HBY w3 (HKB.out _ hb3)).mono ?_; rintro e w4 ⟨rfl, hb4⟩))
        go_ret
        have B3 := HKB.out _ hb3
        exact ⟨rfl, B3.trans (hb4.mono B3.size)⟩
      | true =>
        clear HBX
        have T1 : True := trivial
        go_enter Try.func23, Try.ntmps23
        go_wp2_with (first
          | (go_at_call 47; rw [HW.out]; refine HZW.mono ?_; rintro e w2 ⟨rfl, rfl⟩)
          | (go_at_call 57; clear T1; refine HXW.mono ?_; rintro e w3 ⟨rfl, hb3⟩; obtain ⟨⟨z0, z1, z2, z3, z4, z5, z6, z7, z8⟩, z9, z10, z11⟩ := HK w3 hb3)
          | (go_at_call 57; refine (HBY w3 (HKB.out _ hb3)).mono ?_; rintro e w4 ⟨rfl, hb4⟩; have C4 := hb3.trans (hb4.mono hb3.size); clear x0 x1 x2 x3 x4 x5 x6 x7 x8 x9 x10 x11 z0 z1 z2 z3 z4 z5 z6 z7 z8 z9 z10 z11; obtain ⟨⟨x0, x1, x2, x3, x4, x5, x6, x7, x8⟩, x9, x10, x11⟩ := HK w4 C4))
        have L3 := HK w4 C4
        have D4 := C4.drew
        have L4 := HK w4.drew D4
        have H1 := HM h0 w4.drew (HKB.out _ D4)
        have H2 := fun W' hW' => HR h0 W' (HKB.out W' hW')
        have B4 : Hid (Below w2.heap.size w2 w4) := C4
        obtain ⟨YY, hYY⟩ : ∃ y, (P.y * P.y) % K.p = y := ⟨_, rfl⟩
        obtain ⟨RR, hRR⟩ : ∃ y, rightZ K P.x = y := ⟨_, rfl⟩
        rw [hYY] at H1
        simp only [hRR] at H2
        have hcm : ∀ z, cmpI YY RR = z → decide (z = 0) = decide (YY = RR) := by
          rintro z rfl
          unfold cmpI
          by_cases q : YY < RR
          · have : YY ≠ RR := by omega
            simp [q, this]
          · rw [if_neg q]
            by_cases q2 : RR < YY
            · have : YY ≠ RR := by omega
              simp [q2, this]
            · have : YY = RR := by omega
              simp [this]
        obtain ⟨CZ, hCZ⟩ : ∃ z, cmpI YY RR = z := ⟨_, rfl⟩
        have HF : Hid (decide (CZ = 0) = decide ((P.y * P.y) % K.p = rightZ K P.x)) := by rw [hYY, hRR]; exact hcm CZ hCZ
        clear hcm x0 x1 x2 x3 x4 x5 x6 x7 x8 x9 x10 x11 hYY hRR
        go_region_held3 (fun W' => (W'.cell? ⟨w.heap.size, 0, none⟩ = some (.int .i64 g1) ∧ W'.cell? ⟨w.heap.size, 1, none⟩ = some (.int .i64 g2) ∧ W'.cell? ⟨w.heap.size, 2, none⟩ = some (.slice oo lo co) ∧ W'.cell? ⟨w.heap.size, 3, none⟩ = some (.slice a1 a2 a3) ∧ W'.cell? ⟨w.heap.size, 4, none⟩ = some (.slice b1 b2 b3) ∧ W'.cell? ⟨w.heap.size, 5, none⟩ = some (.slice d1 d2 d3) ∧ W'.cell? ⟨w.heap.size, 6, none⟩ = some (.slice e1 e2 e3) ∧ W'.cell? ⟨w.heap.size, 7, none⟩ = some (.slice f1 f2 f3) ∧ W'.cell? ⟨w.heap.size, 8, none⟩ = some (.slice j1 j2 j3)) ∧ W'.cell? ⟨w.heap.size + 1, 0, none⟩ = some (.slice k1 k2 k3) ∧ W'.cell? ⟨w.heap.size + 1, 1, none⟩ = some (.slice l1 l2 l3) ∧ W'.cell? ⟨w.heap.size + 1, 2, none⟩ = some (.bool false))
          (first | exact L3 | exact L4 | exact L5 | exact L6 | exact L7) (first
          | (go_at_call 58; refine H1.mono ?_; rintro e w5 ⟨v5, rfl, hv5, hb5⟩; have C5 := D4.trans (hb5.mono D4.size); have L5 := HK w5 C5; have H22 := H2 w5 C5; have hv5' := hv5; obtain ⟨o1, o2, o3, o4, rfl, o5⟩ := hv5)
          | (go_at_call 59; refine H22.mono ?_; rintro e w6 ⟨v6, rfl, hv6, hb6⟩; have C6 := C5.trans (hb6.mono C5.size); have L6 := HK w6 C6; have H33 := cmp_nv _ v6 YY RR L w6 (hv5'.old hb6) hv6; rw [hCZ] at H33; obtain ⟨u1, u2, u3, u4, rfl, u5⟩ := hv6)
          | (go_at_call 22; refine H33.mono ?_; rintro e w7 ⟨rfl, hb7⟩; have C7 := C6.trans (hb7.mono C6.size); have L7 := HK w7 C7))
        go_wp2
        go_ret
        refine ⟨?_, HKB.out _ C7⟩
        rw [← HF.out]
        simp
        rfl
end Go.Proofs.Ytdojbknkaoiioaa
