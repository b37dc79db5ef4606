import Derived.Test.YtcobbbamocdbbaaK03
import Derived.Test.YtcobbbamocdbbaaK02
/-
  The code's Add, Base, Size, On.
-/
namespace Go.Proofs.Ytcobbbamocdbbaa
open Go.Shelf Go.RowKit
set_option linter.unusedVariables false
set_option linter.unusedSimpArgs false

theorem norm_nv (a : Value) (x : Int) (L : Nat) (w : World) (ha : Nv w a x L) : Calls Try.prog 84 #[a] w fun e w' => ∃ v, e = .returned v ∧ Na w w' v x L := by
  obtain ⟨ao, la, ca, xs, rfl, h1, rfl, h2⟩ := ha
  refine (Norm_any ao la ca xs w h1).mono ?_
  rintro e w' ⟨v, rfl, h⟩
  exact ⟨v, rfl, h.na.1.up h2, h.na.2⟩
theorem set3_other {w : World} {b j r : Nat} {v d0 d1 d2 : Value} (h : w.cell? ⟨b, j, none⟩ = some v) (hne : b ≠ r) : (((w.setCell ⟨r, 0, none⟩ d0).setCell ⟨r, 1, none⟩ d1).setCell ⟨r, 2, none⟩ d2).cell? ⟨b, j, none⟩ = some v :=
  (World.cell?_of_block (w := w) ((Bt.set3 w r d0 d1 d2).block b (World.block_lt_of_cell? w _ h) hne)).trans h
/-- Two places, one behind the other. -/
theorem two_new (w : World) (pv : Array Value) (t : TypeId) : ((w.alloc (.cells pv t)).alloc (.cells #[.slice none 0 0, .slice none 0 0, .bool false] 51)).heap[w.heap.size]? = some (.cells pv t (0, 0)) ∧ PSl ((w.alloc (.cells pv t)).alloc (.cells #[.slice none 0 0, .slice none 0 0, .bool false] 51)) (w.heap.size + 1) (.slice none 0 0) (.slice none 0 0) (.bool false) ∧ Below w.heap.size w ((w.alloc (.cells pv t)).alloc (.cells #[.slice none 0 0, .slice none 0 0, .bool false] 51)) := by
  have z1 := alloc_sz7 w (.cells pv t)
  have n1 := heap_alloc_new w (.cells pv t)
  have n2 := heap_alloc_new (w.alloc (.cells pv t)) (.cells #[.slice none 0 0, .slice none 0 0, .bool false] 51)
  rw [z1] at n2
  exact ⟨heap_new n1 (by omega), n2, ((Below.refl w.heap.size w).alloc (Nat.le_refl _) _).alloc (by omega) _⟩
set_option maxRecDepth 100000 in
set_option maxHeartbeats 2000000 in
theorem own_any (p : Value) (P : Pz) (L : Nat) (w : World) (hp : Pv w p P L) :
    Calls Try.prog 63 #[p] w fun e w' => ∃ v, e = .returned v ∧ Pv w' v (ownZ P) L ∧ Below w.heap.size w w' := by
  obtain ⟨px, py, rfl, p1, p2⟩ := hp
  have HX := fun W (hW : Below w.heap.size w W) => norm_nv px P.x L W (p1.old hW)
  have HY := fun W (hW : Below w.heap.size w W) => norm_nv py P.y L W (p2.old hW)
  obtain ⟨k1, k2, k3, k4, rfl, k5⟩ := p1
  obtain ⟨l1, l2, l3, l4, rfl, l5⟩ := p2
  have HN := fun W => nothing_any W
  unfold ownZ
  cases hi : P.inf with
  | true =>
    rw [if_pos rfl]
    obtain ⟨f1, s1, hb⟩ := two_new w #[.slice k1 k2 k3, .slice l1 l2 l3, .bool true] 51
    have HN2 := HN ((w.alloc (.cells #[.slice k1 k2 k3, .slice l1 l2 l3, .bool true] 51)).alloc (.cells #[.slice none 0 0, .slice none 0 0, .bool false] 51))
    have HS1 : Hid (PSl _ (w.heap.size + 1) (.slice none 0 0) (.slice none 0 0) (.bool false)) := s1
    clear f1 s1 HN HX HY
    go_enter Try.func63, Try.ntmps63
    go_wp2_with (go_at_call 64; refine HN2.mono ?_; rintro e w3 ⟨rfl, hb3⟩; have s3 := HS1.out.keep hb3; obtain ⟨y0, y1, y2, y3, y4, y5⟩ := s3.facts)
    refine bodyPost_ret (ret_pt1 rfl _ _ (w.heap.size + 1) _ _ _ rfl (s3.set3 (.slice none 0 0) (.slice none 0 0) (.bool true))) rfl ?_
    have bt := Bt.set3 w3 (w.heap.size + 1) (.slice none 0 0) (.slice none 0 0) (.bool true)
    have B3 := hb.trans (hb3.mono hb.size)
    exact ⟨_, rfl, pv_no _ L, B3.trans (bt.below (by omega) B3.size)⟩
  | false =>
    rw [if_neg (by simp)]
    obtain ⟨f1, s1, hb⟩ := two_new w #[.slice k1 k2 k3, .slice l1 l2 l3, .bool false] 51
    obtain ⟨W, hW⟩ : ∃ W, (w.alloc (.cells #[.slice k1 k2 k3, .slice l1 l2 l3, .bool false] 51)).alloc (.cells #[.slice none 0 0, .slice none 0 0, .bool false] 51) = W := ⟨_, rfl⟩
    rw [hW] at f1 s1 hb
    have HK := fun (W' : World) (h' : Below W.heap.size W W') => (show W'.cell? ⟨w.heap.size, 0, none⟩ = some (.slice k1 k2 k3) ∧ W'.cell? ⟨w.heap.size, 1, none⟩ = some (.slice l1 l2 l3) from by
      have f2 := (h'.block _ (Array.getElem?_eq_some_iff.1 f1).1).trans f1
      exact ⟨by rw [cell_of_row _ _ _ _ _ _ f2]; rfl, by rw [cell_of_row _ _ _ _ _ _ f2]; rfl⟩)
    have HW : Hid ((w.alloc (.cells #[.slice k1 k2 k3, .slice l1 l2 l3, .bool false] 51)).alloc (.cells #[.slice none 0 0, .slice none 0 0, .bool false] 51) = W) := hW
    have HX2 := HX W.drew hb.drew
    have K3 := HK W (Below.refl _ _)
    have K4 := HK W.drew (Below.refl _ _).drew
    have T1 : True := trivial
    have HS1 : Hid (PSl W (w.heap.size + 1) (.slice none 0 0) (.slice none 0 0) (.bool false)) := s1
    clear hW HN HX f1 s1
    go_enter Try.func63, Try.ntmps63
    go_wp2_with fail
    rw [HW.out]
    go_region_held3 (fun W => W.cell? ⟨w.heap.size, 0, none⟩ = some (.slice k1 k2 k3) ∧ W.cell? ⟨w.heap.size, 1, none⟩ = some (.slice l1 l2 l3))
      (first | exact K3 | exact K4 | exact K5 | exact K6 | exact ⟨set3_other K6.1 (by omega), set3_other K6.2 (by omega)⟩) (first
      | (go_at_call 84; clear T1; refine HX2.mono ?_; rintro e w5 ⟨v5, rfl, hv5, hb5⟩; have C5 := ((Below.refl W.heap.size W).drew).trans (hb5.mono (Nat.le_refl _)); have K5 := HK w5 C5; have HY2 := HY w5 (hb.trans (C5.mono hb.size)); have hv5' := hv5; obtain ⟨o1, o2, o3, o4, rfl, o5⟩ := hv5)
      | (go_at_call 84; refine HY2.mono ?_; rintro e w6 ⟨v6, rfl, hv6, hb6⟩; have C6 := C5.trans (hb6.mono C5.size); have K6 := HK w6 C6; have hv6' := hv6; obtain ⟨r1, r2, r3, r4, rfl, r5⟩ := hv6; have s6 := HS1.out.keep C6; obtain ⟨y0, y1, y2, y3, y4, y5⟩ := s6.facts))
    go_wp2
    refine bodyPost_ret (ret_pt1 rfl _ _ (w.heap.size + 1) _ _ _ rfl (s6.set3 (.slice o1 o2 o3) (.slice r1 r2 r3) (.bool false))) rfl ?_
    have bt := Bt.set3 w6 (w.heap.size + 1) (.slice o1 o2 o3) (.slice r1 r2 r3) (.bool false)
    have B6 := hb.trans (C6.mono hb.size)
    exact ⟨_, rfl, ⟨_, _, by rw [hi], (hv5'.old hb6).apart s6 bt, hv6'.apart s6 bt⟩, B6.trans (bt.below (by omega) B6.size)⟩
theorem frB_new (w : World) (cv pv qv : Array Value) : PSl ((((w.alloc (.cells cv 29)).alloc (.cells pv 51)).alloc (.cells qv 51)).alloc (.cells #[.slice none 0 0, .slice none 0 0, .bool false] 51)) (w.heap.size + 1 + 1 + 1) (.slice none 0 0) (.slice none 0 0) (.bool false) ∧ Below w.heap.size w ((((w.alloc (.cells cv 29)).alloc (.cells pv 51)).alloc (.cells qv 51)).alloc (.cells #[.slice none 0 0, .slice none 0 0, .bool false] 51)) := by
  have n4 := heap_alloc_new (((w.alloc (.cells cv 29)).alloc (.cells pv 51)).alloc (.cells qv 51)) (.cells #[.slice none 0 0, .slice none 0 0, .bool false] 51)
  rw [alloc_sz7, alloc_sz7, alloc_sz7] at n4
  exact ⟨n4, ((((Below.refl w.heap.size w).alloc (Nat.le_refl _) _).alloc (by rw [alloc_sz7]; omega) _).alloc (by rw [alloc_sz7, alloc_sz7]; omega) _).alloc (by rw [alloc_sz7, alloc_sz7, alloc_sz7]; omega) _⟩
set_option maxRecDepth 100000 in
set_option maxHeartbeats 2000000 in
theorem Add_pt (c p q : Value) (K : Cz) (P Q : Pz) (L : Nat) (w : World) (hc : Cu w c K L) (hp : Pv w p P L) (hq : Pv w q Q L) (hL : 1 ≤ L ∧ L ≤ 1000) :
    Calls Try.prog 29 #[c, p, q] w fun e w' => ∃ r, AddZ K P Q r ∧ Pa w w' e r L := by
  have HA := fun W (hW : Below w.heap.size w W) h0 => addNumbers_any c p q K P Q L W (hc.old hW) (hp.old hW) (hq.old hW) h0 hL
  obtain ⟨g1, g2, oo, lo, co, vp, va, vb, vx, vy, vn, rfl, c1, c2, c3, c4, c5, c6⟩ := hc
  obtain ⟨px, py, rfl, p1, p2⟩ := hp
  obtain ⟨qx, qy, rfl, q1, q2⟩ := hq
  obtain ⟨a1, a2, a3, a4, rfl, a5⟩ := c1
  obtain ⟨b1, b2, b3, b4, rfl, b5⟩ := c2
  obtain ⟨d1, d2, d3, d4, rfl, d5⟩ := c3
  obtain ⟨e1, e2, e3, e4, rfl, e5⟩ := c4
  obtain ⟨f1, f2, f3, f4, rfl, f5⟩ := c5
  obtain ⟨j1, j2, j3, j4, rfl, j5⟩ := c6
  obtain ⟨k1, k2, k3, k4, rfl, k5⟩ := p1
  obtain ⟨l1, l2, l3, l4, rfl, l5⟩ := p2
  obtain ⟨m1, m2, m3, m4, rfl, m5⟩ := q1
  obtain ⟨n1, n2, n3, n4, rfl, n5⟩ := q2
  have FZ := frB_new w #[.int .i64 g1, .int .i64 g2, .slice oo lo co, .slice a1 a2 a3, .slice b1 b2 b3, .slice d1 d2 d3, .slice e1 e2 e3, .slice f1 f2 f3, .slice j1 j2 j3] #[.slice k1 k2 k3, .slice l1 l2 l3, .bool P.inf] #[.slice m1 m2 m3, .slice n1 n2 n3, .bool Q.inf]
  obtain ⟨W, hW⟩ : ∃ W, (((w.alloc (.cells #[.int .i64 g1, .int .i64 g2, .slice oo lo co, .slice a1 a2 a3, .slice b1 b2 b3, .slice d1 d2 d3, .slice e1 e2 e3, .slice f1 f2 f3, .slice j1 j2 j3] 29)).alloc (.cells #[.slice k1 k2 k3, .slice l1 l2 l3, .bool P.inf] 51)).alloc (.cells #[.slice m1 m2 m3, .slice n1 n2 n3, .bool Q.inf] 51)).alloc (.cells #[.slice none 0 0, .slice none 0 0, .bool false] 51) = W := ⟨_, rfl⟩
  rw [hW] at FZ
  obtain ⟨s1, hb⟩ := FZ
  have HZ := isZero_any (.slice a1 a2 a3) K.p L W (Nv.old ⟨a1, a2, a3, a4, rfl, a5⟩ hb)
  have HOP := own_any (.agg #[.slice k1 k2 k3, .slice l1 l2 l3, .bool P.inf]) P L W (Pv.old ⟨_, _, rfl, ⟨k1, k2, k3, k4, rfl, k5⟩, ⟨l1, l2, l3, l4, rfl, l5⟩⟩ hb)
  have HOQ := own_any (.agg #[.slice m1 m2 m3, .slice n1 n2 n3, .bool Q.inf]) Q L W (Pv.old ⟨_, _, rfl, ⟨m1, m2, m3, m4, rfl, m5⟩, ⟨n1, n2, n3, n4, rfl, n5⟩⟩ hb)
  have HAW := fun h0 => HA W hb h0
  have HW : Hid (_ = W) := hW
  have HS1 : Hid (PSl W (w.heap.size + 1 + 1 + 1) (.slice none 0 0) (.slice none 0 0) (.bool false)) := s1
  clear hW HA
  unfold AddZ
  by_cases h0 : K.p = 0
  · have hd : decide (K.p = 0) = true := by simp [h0]
    rw [hd] at HZ
    simp only [if_pos h0]
    have s2 := s1
    clear HOP HOQ HAW
    go_enter Try.func29, Try.ntmps29
    go_wp2_with (go_at_call 40; rw [HW.out]; refine HZ.mono ?_; rintro e w2 ⟨rfl, rfl⟩; obtain ⟨y0, y1, y2, y3, y4, y5⟩ := s2.facts)
    refine bodyPost_ret (ret_pt rfl _ _ (w.heap.size + 1 + 1 + 1) _ _ _ rfl (s2.set3 (.slice none 0 0) (.slice none 0 0) (.bool false))) rfl ?_
    have bt := Bt.set3 w2 (w.heap.size + 1 + 1 + 1) (.slice none 0 0) (.slice none 0 0) (.bool false)
    exact ⟨none, rfl, hb.trans (bt.below (by omega) hb.size), .inr ⟨rfl, rfl⟩⟩
  have hd : decide (K.p = 0) = false := by simp [h0]
  rw [hd] at HZ
  simp only [if_neg h0]
  have HAW2 := HAW h0
  cases hpi : P.inf with
  | true =>
    rw [hpi] at HOP HW
    simp only [if_pos]
    clear HAW HAW2 HOP
    go_enter Try.func29, Try.ntmps29
    go_wp2_with (first
      | (go_at_call 40; rw [HW.out]; refine HZ.mono ?_; rintro e w2 ⟨rfl, rfl⟩; rw [← HW.out])
      | (go_at_call 63; rw [HW.out]; refine HOQ.mono ?_; rintro e w3 ⟨v3, rfl, hv3, hb3⟩; have s3 := HS1.out.keep hb3; obtain ⟨y0, y1, y2, y3, y4, y5⟩ := s3.facts; have hv3' := hv3; obtain ⟨vx, vy, rfl, ⟨o1, o2, o3, o4, rfl, o5⟩, ⟨r1, r2, r3, r4, rfl, r5⟩⟩ := hv3))
    refine bodyPost_ret (ret_pt rfl _ _ (w.heap.size + 1 + 1 + 1) _ _ _ rfl (s3.set3 (.slice o1 o2 o3) (.slice r1 r2 r3) (.bool (ownZ Q).inf))) rfl ?_
    have bt := Bt.set3 w3 (w.heap.size + 1 + 1 + 1) (.slice o1 o2 o3) (.slice r1 r2 r3) (.bool (ownZ Q).inf)
    have B3 := hb.trans (hb3.mono hb.size)
    exact ⟨_, rfl, B3.trans (bt.below (by omega) B3.size), .inl ⟨_, _, rfl, rfl, _, _, rfl, Nv.apart ⟨o1, o2, o3, o4, rfl, o5⟩ s3 bt, Nv.apart ⟨r1, r2, r3, r4, rfl, r5⟩ s3 bt⟩⟩
  | false =>
    rw [hpi] at HOP HAW2 HW
    simp only [if_neg (show ¬ (false = true) by decide)]
    cases hqi : Q.inf with
    | true =>
      rw [hqi] at HW HOQ
      simp only [if_pos]
      clear HAW HAW2 HOQ
      go_enter Try.func29, Try.ntmps29
      go_wp2_with (first
        | (go_at_call 40; rw [HW.out]; refine HZ.mono ?_; rintro e w2 ⟨rfl, rfl⟩; rw [← HW.out])
        | (go_at_call 63; rw [HW.out]; refine HOP.mono ?_; rintro e w3 ⟨v3, rfl, hv3, hb3⟩; have s3 := HS1.out.keep hb3; obtain ⟨y0, y1, y2, y3, y4, y5⟩ := s3.facts; have hv3' := hv3; obtain ⟨vx, vy, rfl, ⟨o1, o2, o3, o4, rfl, o5⟩, ⟨r1, r2, r3, r4, rfl, r5⟩⟩ := hv3))
      refine bodyPost_ret (ret_pt rfl _ _ (w.heap.size + 1 + 1 + 1) _ _ _ rfl (s3.set3 (.slice o1 o2 o3) (.slice r1 r2 r3) (.bool (ownZ P).inf))) rfl ?_
      have bt := Bt.set3 w3 (w.heap.size + 1 + 1 + 1) (.slice o1 o2 o3) (.slice r1 r2 r3) (.bool (ownZ P).inf)
      have B3 := hb.trans (hb3.mono hb.size)
      exact ⟨_, rfl, B3.trans (bt.below (by omega) B3.size), .inl ⟨_, _, rfl, rfl, _, _, rfl, Nv.apart ⟨o1, o2, o3, o4, rfl, o5⟩ s3 bt, Nv.apart ⟨r1, r2, r3, r4, rfl, r5⟩ s3 bt⟩⟩
    | false =>
      rw [hqi] at HW HOQ HAW2
      simp only [if_neg (show ¬ (false = true) by decide)]
      clear HAW HOP HOQ
      go_enter Try.func29, Try.ntmps29
      go_wp2_with (go_at_call 40; rw [HW.out]; refine HZ.mono ?_; rintro e w2 ⟨rfl, rfl⟩; rw [← HW.out])
      rw [HW.out]
      go_at_call 66
      refine HAW2.mono ?_
      rintro e w3 ⟨r, hr, hb3, (⟨v, pz, rfl, rfl, hv3⟩ | ⟨rfl, rfl⟩)⟩
      · have s3 := HS1.out.keep hb3
        obtain ⟨y0, y1, y2, y3, y4, y5⟩ := s3.facts
        obtain ⟨vx, vy, rfl, ⟨o1, o2, o3, o4, rfl, o5⟩, ⟨r1, r2, r3, r4, rfl, r5⟩⟩ := hv3
        have B3 := hb.trans (hb3.mono hb.size)
        go_wp2_with fail
        refine bodyPost_ret (ret_pt rfl _ _ (w.heap.size + 1 + 1 + 1) _ _ _ rfl (s3.set3 (.slice o1 o2 o3) (.slice r1 r2 r3) (.bool pz.inf))) rfl ?_
        have bt := Bt.set3 w3 (w.heap.size + 1 + 1 + 1) (.slice o1 o2 o3) (.slice r1 r2 r3) (.bool pz.inf)
        exact ⟨_, hr, B3.trans (bt.below (by omega) B3.size), .inl ⟨_, _, rfl, rfl, _, _, rfl, Nv.apart ⟨o1, o2, o3, o4, rfl, o5⟩ s3 bt, Nv.apart ⟨r1, r2, r3, r4, rfl, r5⟩ s3 bt⟩⟩
      · have s3 := HS1.out.keep hb3
        obtain ⟨y0, y1, y2, y3, y4, y5⟩ := s3.facts
        have B3 := hb.trans (hb3.mono hb.size)
        go_wp2_with fail
        refine bodyPost_ret (ret_pt rfl _ _ (w.heap.size + 1 + 1 + 1) _ _ _ rfl (s3.set3 (.slice none 0 0) (.slice none 0 0) (.bool false))) rfl ?_
        have bt := Bt.set3 w3 (w.heap.size + 1 + 1 + 1) (.slice none 0 0) (.slice none 0 0) (.bool false)
        exact ⟨_, hr, B3.trans (bt.below (by omega) B3.size), .inr ⟨rfl, rfl⟩⟩
end Go.Proofs.Ytcobbbamocdbbaa
/-
  The code's Mul.
-/
namespace Go.Proofs.Ytcobbbamocdbbaa
open Go.RowKit Go.Shelf
set_option linter.unusedVariables false
set_option linter.unusedSimpArgs false
attribute [local go_sem] Oper.semAt_some

/-- What Mul keeps in memory from its beginning on. -/
structure FrC (W : World) (b : Nat) (cv pv : Array Value) : Prop where
  c : W.heap[b]? = some (.cells cv 29 (0, 0))
  p : W.heap[b + 1]? = some (.cells pv 51 (0, 0))
  r : PSl W (b + 1 + 1) (.slice none 0 0) (.slice none 0 0) (.bool false)
  o : W.heap[b + 1 + 1 + 1]? = some (.cells #[.bool false] 4 (0, 0))
theorem frC_new (w : World) (cv pv : Array Value) : FrC ((((w.alloc (.cells cv 29)).alloc (.cells pv 51)).alloc (.cells #[.slice none 0 0, .slice none 0 0, .bool false] 51)).alloc (.cells #[.bool false] 4)) w.heap.size cv pv ∧ Below w.heap.size w ((((w.alloc (.cells cv 29)).alloc (.cells pv 51)).alloc (.cells #[.slice none 0 0, .slice none 0 0, .bool false] 51)).alloc (.cells #[.bool false] 4)) := by
  obtain ⟨w1, e1⟩ : ∃ x, w.alloc (.cells cv 29) = x := ⟨_, rfl⟩
  obtain ⟨w2, e2⟩ : ∃ x, w1.alloc (.cells pv 51) = x := ⟨_, rfl⟩
  obtain ⟨w3, e3⟩ : ∃ x, w2.alloc (.cells #[.slice none 0 0, .slice none 0 0, .bool false] 51) = x := ⟨_, rfl⟩
  have z1 : w1.heap.size = w.heap.size + 1 := by rw [← e1]; exact alloc_sz7 _ _
  have z2 : w2.heap.size = w.heap.size + 1 + 1 := by rw [← e2, alloc_sz7, z1]
  have z3 : w3.heap.size = w.heap.size + 1 + 1 + 1 := by rw [← e3, alloc_sz7, z2]
  have n1 : w1.heap[w.heap.size]? = some (.cells cv 29 (0, 0)) := by rw [← e1]; exact heap_alloc_new w _
  have n2 : w2.heap[w.heap.size + 1]? = some (.cells pv 51 (0, 0)) := by rw [← e2, ← z1]; exact heap_alloc_new w1 _
  have n3 : w3.heap[w.heap.size + 1 + 1]? = some (.cells #[.slice none 0 0, .slice none 0 0, .bool false] 51 (0, 0)) := by rw [← e3, ← z2]; exact heap_alloc_new w2 _
  have n4 := heap_alloc_new w3 (.cells #[.bool false] 4)
  rw [z3] at n4
  have m1 : w2.heap[w.heap.size]? = some (.cells cv 29 (0, 0)) := by rw [← e2]; exact heap_new n1 (by omega)
  have k1 : w3.heap[w.heap.size]? = some (.cells cv 29 (0, 0)) := by rw [← e3]; exact heap_new m1 (by omega)
  have k2 : w3.heap[w.heap.size + 1]? = some (.cells pv 51 (0, 0)) := by rw [← e3]; exact heap_new n2 (by omega)
  have bb : Below w.heap.size w (w3.alloc (.cells #[.bool false] 4)) := by
    rw [← e3, ← e2, ← e1]
    exact ((((Below.refl w.heap.size w).alloc (Nat.le_refl _) _).alloc (by rw [alloc_sz7]; omega) _).alloc (by rw [alloc_sz7, alloc_sz7]; omega) _).alloc (by rw [alloc_sz7, alloc_sz7, alloc_sz7]; omega) _
  rw [e1, e2, e3]
  exact ⟨⟨heap_new k1 (by omega), heap_new k2 (by omega), heap_new n3 (by omega), n4⟩, bb⟩
theorem FrC.keep {W W' : World} {b : Nat} {cv pv : Array Value} (h : FrC W b cv pv) (hb : Below W.heap.size W W') : FrC W' b cv pv :=
  ⟨(hb.block _ (Array.getElem?_eq_some_iff.1 h.c).1).trans h.c, (hb.block _ (Array.getElem?_eq_some_iff.1 h.p).1).trans h.p, h.r.keep hb, (hb.block _ (Array.getElem?_eq_some_iff.1 h.o).1).trans h.o⟩
/-- One bit more. -/
def stepR (K : Cz) (P : Pz) (set : Bool) (q : Pz) (r : Option Pz) : Prop := ∃ d, AddZ K q q d ∧ ((d = none ∧ r = none) ∨ ∃ e, d = some e ∧ if set then AddZ K e P r else r = some e)
/-- What the bits so far make. -/
def MF (K : Cz) (P : Pz) (pre : List (Int × Bool)) : Pz → Prop := pre.foldl (fun S x => fun q' => ∃ q, S q ∧ stepR K P x.2 q (some q')) (fun q => q = noZ)
theorem MF_snoc (K : Cz) (P : Pz) (pre : List (Int × Bool)) (x : Int × Bool) (q' : Pz) : MF K P (pre ++ [x]) q' ↔ ∃ q, MF K P pre q ∧ stepR K P x.2 q (some q') := by
  unfold MF
  rw [List.foldl_append]
  exact Iff.rfl
/-- What Mul answers. -/
def MulZ (K : Cz) (P : Pz) (bits : List (Int × Bool)) (r : Option Pz) : Prop := (∃ q, r = some q ∧ MF K P bits q) ∨ (r = none ∧ ∃ pre x q, (pre ++ [x]) <+: bits ∧ MF K P pre q ∧ stepR K P x.2 q none)
theorem blk_kept {W W' : World} {k : Nat} {cs : Array Value} {t : TypeId} {row : Option Nat} (h : W.heap[k]? = some (.cells cs t (0, 0))) (hg : W.grownBy W' row) (hr : ∀ r, row = some r → ∃ o : Obj, W.heap[r]? = some o ∧ o.isCells = false) : W'.heap[k]? = some (.cells cs t (0, 0)) := by
  rw [hg.block k (Array.getElem?_eq_some_iff.1 h).1 (fun e => by
    obtain ⟨o, ho, hc⟩ := hr k e.symm
    rw [h] at ho
    cases ho
    cases hc), h]
theorem Nv.kept {W W' : World} {v : Value} {n : Int} {L : Nat} {row : Option Nat} (h : Nv W v n L) (hg : W.grownBy W' row) (hr : ∀ r, row = some r → ∃ o : Obj, W.heap[r]? = some o ∧ o.isCells = false) : Nv W' v n L := by
  obtain ⟨ao, len, cap, xs, e, h1, h2, h3⟩ := h
  exact ⟨ao, len, cap, xs, e, h1.keptc hg hr, h2, h3⟩
theorem Cu.kept {W W' : World} {c : Value} {K : Cz} {L : Nat} {row : Option Nat} (h : Cu W c K L) (hg : W.grownBy W' row) (hr : ∀ r, row = some r → ∃ o : Obj, W.heap[r]? = some o ∧ o.isCells = false) : Cu W' c K L := by
  obtain ⟨g1, g2, oo, lo, co, vp, va, vb, vx, vy, vn, e, h1, h2, h3, h4, h5, h6⟩ := h
  exact ⟨g1, g2, oo, lo, co, vp, va, vb, vx, vy, vn, e, h1.kept hg hr, h2.kept hg hr, h3.kept hg hr, h4.kept hg hr, h5.kept hg hr, h6.kept hg hr⟩
theorem Pv.kept {W W' : World} {c : Value} {p : Pz} {L : Nat} {row : Option Nat} (h : Pv W c p L) (hg : W.grownBy W' row) (hr : ∀ r, row = some r → ∃ o : Obj, W.heap[r]? = some o ∧ o.isCells = false) : Pv W' c p L := by
  obtain ⟨vx, vy, e, h1, h2⟩ := h
  exact ⟨vx, vy, e, h1.kept hg hr, h2.kept hg hr⟩
/-- A block of a truth alone. -/
def BBx (w : World) (g : Nat) (b : Bool) : Prop := w.heap[g]? = some (.cells #[.bool b] 4 (0, 0))
theorem Nv.apartB {w w' : World} {v : Value} {n : Int} {L r : Nat} {b : Bool} (h : Nv w v n L) (hs : BBx w r b) (hb : Bt r w w') : Nv w' v n L := by
  obtain ⟨ao, len, cap, xs, e, h1, h2, h3⟩ := h
  refine ⟨ao, len, cap, xs, e, ⟨⟨h1.len, ?_⟩, h1.lc, h1.cm, h1.nn, h1.dg, h1.sm⟩, h2, h3⟩
  by_cases h0 : len = 0
  · exact .inl h0
  · obtain ⟨b', off, e2, hlt, hc⟩ := h1.lies.at (by omega)
    have hne : b' ≠ r := fun e3 => by
      subst e3
      have h4 := hc 0 (by omega)
      rw [cell_of_row _ _ _ _ _ _ hs] at h4
      obtain ⟨o, ho⟩ : ∃ o, off + 0 = o := ⟨_, rfl⟩
      rw [ho] at h4
      match o, h4 with
      | 0, h4 => cases h4
      | k + 1, h4 => simp at h4
    exact .inr ⟨b', off, e2, Nat.lt_of_lt_of_le hlt hb.size, fun i hi => (World.cell?_of_block (w := w) (hb.block b' hlt hne)).trans (hc i hi)⟩
/-- The state between two bits. -/
structure MSt (w : World) (b gs go : Nat) (cv pv : Array Value) (K : Cz) (P : Pz) (L : Nat) (x1 y1 : Option Addr) (x2 x3 y2 y3 : Nat) (q : Pz) (W : World) : Prop where
  fr : FrC W b cv pv
  sum : PSl W gs (.slice x1 x2 x3) (.slice y1 y2 y3) (.bool q.inf)
  sx : Nv W (.slice x1 x2 x3) q.x L
  sy : Nv W (.slice y1 y2 y3) q.y L
  ok : BBx W go true
  cu : Cu W (.agg cv) K L
  pp : Pv W (.agg pv) P L
  low : Below w.heap.size w W
theorem MSt.old {w : World} {b gs go : Nat} {cv pv : Array Value} {K : Cz} {P : Pz} {L : Nat} {x1 y1 : Option Addr} {x2 x3 y2 y3 : Nat} {q : Pz} {W W' : World} (h : MSt w b gs go cv pv K P L x1 y1 x2 x3 y2 y3 q W) (hb : Below W.heap.size W W') : MSt w b gs go cv pv K P L x1 y1 x2 x3 y2 y3 q W' :=
  ⟨h.fr.keep hb, h.sum.keep hb, h.sx.old hb, h.sy.old hb, (hb.block _ (Array.getElem?_eq_some_iff.1 h.ok).1).trans h.ok, h.cu.old hb, h.pp.old hb, h.low.trans (hb.mono h.low.size)⟩
theorem MSt.kept {w : World} {b gs go : Nat} {cv pv : Array Value} {K : Cz} {P : Pz} {L : Nat} {x1 y1 : Option Addr} {x2 x3 y2 y3 : Nat} {q : Pz} {W W' : World} {row : Option Nat} {B : Nat} (hB : w.heap.size ≤ B) (h : MSt w b gs go cv pv K P L x1 y1 x2 x3 y2 y3 q W) (hg : W.grownBy W' row) (hr : ∀ r, row = some r → B ≤ r ∧ ∃ o : Obj, W.heap[r]? = some o ∧ o.isCells = false) : MSt w b gs go cv pv K P L x1 y1 x2 x3 y2 y3 q W' := by
  have hr2 := fun r e => (hr r e).2
  exact ⟨⟨blk_kept h.fr.c hg hr2, blk_kept h.fr.p hg hr2, blk_kept h.fr.r hg hr2, blk_kept h.fr.o hg hr2⟩, blk_kept h.sum hg hr2, h.sx.kept hg hr2, h.sy.kept hg hr2, blk_kept h.ok hg hr2, h.cu.kept hg hr2, h.pp.kept hg hr2, ownFrom_below (β := Unit) (Nat.le_refl _) hB () W W' row h.low hg hr⟩
/-- The world with another sum. -/
def sumW (W : World) (gs go : Nat) (vx vy : Value) (inf ok : Bool) : World := (((W.setCell ⟨gs, 0, none⟩ vx).setCell ⟨gs, 1, none⟩ vy).setCell ⟨gs, 2, none⟩ (.bool inf)).setCell ⟨go, 0, none⟩ (.bool ok)
theorem nv_sum {W : World} {v : Value} {n : Int} {L gs go : Nat} {a1 a2 : Option Addr} {l1 k1 l2 k2 : Nat} {b ok0 : Bool} (h : Nv W v n L) (hs : PSl W gs (.slice a1 l1 k1) (.slice a2 l2 k2) (.bool b)) (ho : BBx W go ok0) (hne : go ≠ gs) (vx vy : Value) (inf ok : Bool) : Nv (sumW W gs go vx vy inf ok) v n L := by
  have b3 := Bt.set3 W gs vx vy (.bool inf)
  have ho2 : BBx (((W.setCell ⟨gs, 0, none⟩ vx).setCell ⟨gs, 1, none⟩ vy).setCell ⟨gs, 2, none⟩ (.bool inf)) go ok0 := (b3.block go (Array.getElem?_eq_some_iff.1 ho).1 hne).trans ho
  exact (h.apart hs b3).apartB ho2 (Bt.setCell go _ 0 _)
theorem sumW_blocks {W : World} {gs go : Nat} (vx vy : Value) (inf ok : Bool) (k : Nat) (hk : k < W.heap.size) (h1 : k ≠ gs) (h2 : k ≠ go) : (sumW W gs go vx vy inf ok).heap[k]? = W.heap[k]? := by
  have b3 := Bt.set3 W gs vx vy (.bool inf)
  exact ((Bt.setCell go _ 0 (.bool ok)).block k (Nat.lt_of_lt_of_le hk b3.size) h2).trans (b3.block k hk h1)
theorem sumW_sum {W : World} {gs go : Nat} {c0 c1 c2 : Value} (hs : PSl W gs c0 c1 c2) (hne : go ≠ gs) (vx vy : Value) (inf ok : Bool) : PSl (sumW W gs go vx vy inf ok) gs vx vy (.bool inf) := by
  have s3 := hs.set3 vx vy (.bool inf)
  exact ((Bt.setCell go _ 0 (.bool ok)).block gs s3.lt (Ne.symm hne)).trans s3
theorem sumW_ok {W : World} {gs go : Nat} {ok0 : Bool} (ho : BBx W go ok0) (hne : go ≠ gs) (vx vy : Value) (inf ok : Bool) : BBx (sumW W gs go vx vy inf ok) go ok := by
  have b3 := Bt.set3 W gs vx vy (.bool inf)
  have ho2 : BBx (((W.setCell ⟨gs, 0, none⟩ vx).setCell ⟨gs, 1, none⟩ vy).setCell ⟨gs, 2, none⟩ (.bool inf)) go ok0 := (b3.block go (Array.getElem?_eq_some_iff.1 ho).1 hne).trans ho
  have := heap_set7 _ go 0 (.bool ok) _ _ _ ho2
  exact this
theorem sumW_below {w W : World} {gs go : Nat} (h : Below w.heap.size w W) (h1 : w.heap.size ≤ gs) (h2 : w.heap.size ≤ go) (vx vy : Value) (inf ok : Bool) : Below w.heap.size w (sumW W gs go vx vy inf ok) := by
  have b3 := Bt.set3 W gs vx vy (.bool inf)
  have b4 := Bt.setCell go (((W.setCell ⟨gs, 0, none⟩ vx).setCell ⟨gs, 1, none⟩ vy).setCell ⟨gs, 2, none⟩ (.bool inf)) 0 (.bool ok)
  exact h.trans ((b3.below h1 h.size).trans (b4.below h2 (Nat.le_trans h.size b3.size)))
theorem sumW_keeps (W : World) (gs go : Nat) (vx vy : Value) (inf ok : Bool) : KeepsOthers W (sumW W gs go vx vy inf ok) := (((KeepsOthers.setCell _ _ _).trans (KeepsOthers.setCell _ _ _)).trans (KeepsOthers.setCell _ _ _)).trans (KeepsOthers.setCell _ _ _)
theorem bitsAt_sum {W : World} {g3 g4 : Nat} {V : Int} {N gs go : Nat} {a1 a2 : Option Addr} {l1 k1 l2 k2 : Nat} {b ok0 : Bool} (h : BitsAt W g3 g4 V N) (hs : PSl W gs (.slice a1 l1 k1) (.slice a2 l2 k2) (.bool b)) (ho : BBx W go ok0) (hne : go ≠ gs) (h3 : gs ≠ g3 ∧ go ≠ g3) (vx vy : Value) (inf ok : Bool) : BitsAt (sumW W gs go vx vy inf ok) g3 g4 V N := by
  obtain ⟨ao, la, ca, xs, e1, e2, e3, e4, e5, e6, e7⟩ := h
  have hn4 : g4 ≠ gs := fun e => by
    subst e
    have := hs.facts.1.symm.trans e3
    cases this
  have hn5 : g4 ≠ go := fun e => by
    subst e
    rw [cell_of_row _ _ _ _ _ _ ho] at e3
    cases e3
  have hz := (sumW_keeps W gs go vx vy inf ok).size
  have hb := sumW_blocks (W := W) (gs := gs) (go := go) vx vy inf ok
  have hv := nv_sum (L := la) (v := .slice ao la ca) (n := val B64 xs) ⟨ao, la, ca, xs, rfl, e5, rfl, Nat.le_refl _⟩ hs ho hne vx vy inf ok
  generalize sumW W gs go vx vy inf ok = W' at *
  have c4 : W'.cell? ⟨g4, 0, none⟩ = some (.int .i64 N) := by rw [← e3]; exact World.cell?_of_block (w := W) (hb g4 e2 hn4 hn5)
  have c3 : W'.cell? ⟨g3, 0, none⟩ = some (.slice ao la ca) := by rw [← e4]; exact World.cell?_of_block (w := W) (hb g3 e1 (Ne.symm h3.1) (Ne.symm h3.2))
  obtain ⟨p1, p2, p3, p4, ee, q1, q2, q3⟩ := hv
  injection ee with u1 u2 u3
  subst u1 u2 u3
  exact ⟨ao, la, ca, p4, Nat.lt_of_lt_of_le e1 hz, Nat.lt_of_lt_of_le e2 hz, c4, c3, q1, by rw [q2]; exact e6, e7⟩
/-- The state with another sum. -/
theorem MSt.next {w : World} {b gs go : Nat} {cv pv : Array Value} {K : Cz} {P : Pz} {L : Nat} {x1 y1 x1' y1' : Option Addr} {x2 x3 y2 y3 x2' x3' y2' y3' : Nat} {q q' : Pz} {W : World} (h : MSt w b gs go cv pv K P L x1 y1 x2 x3 y2 y3 q W) (hg : b + 1 + 1 + 1 < gs ∧ gs + 1 = go ∧ w.heap.size = b) (nx : Nv W (.slice x1' x2' x3') q'.x L) (ny : Nv W (.slice y1' y2' y3') q'.y L) : MSt w b gs go cv pv K P L x1' y1' x2' x3' y2' y3' q' (sumW W gs go (.slice x1' x2' x3') (.slice y1' y2' y3') q'.inf true) := by
  have hne : go ≠ gs := by omega
  have nn : ∀ {v : Value} {n : Int}, Nv W v n L → Nv (sumW W gs go (.slice x1' x2' x3') (.slice y1' y2' y3') q'.inf true) v n L := fun hv => nv_sum hv h.sum h.ok hne _ _ _ _
  have bk := fun k hk h1 h2 => sumW_blocks (W := W) (gs := gs) (go := go) (.slice x1' x2' x3') (.slice y1' y2' y3') q'.inf true k hk h1 h2
  refine ⟨⟨(bk b (Array.getElem?_eq_some_iff.1 h.fr.c).1 (by omega) (by omega)).trans h.fr.c, (bk _ (Array.getElem?_eq_some_iff.1 h.fr.p).1 (by omega) (by omega)).trans h.fr.p, (bk _ h.fr.r.lt (by omega) (by omega)).trans h.fr.r, (bk _ (Array.getElem?_eq_some_iff.1 h.fr.o).1 (by omega) (by omega)).trans h.fr.o⟩, sumW_sum h.sum hne _ _ _ _, nn nx, nn ny, sumW_ok h.ok hne _ _ _ _, ?_, ?_, sumW_below h.low (by omega) (by omega) _ _ _ _⟩
  · obtain ⟨g1, g2, oo, lo, co, vp, va, vb, vx, vy, vn, e, h1, h2, h3, h4, h5, h6⟩ := h.cu
    exact ⟨g1, g2, oo, lo, co, vp, va, vb, vx, vy, vn, e, nn h1, nn h2, nn h3, nn h4, nn h5, nn h6⟩
  · obtain ⟨vx, vy, e, h1, h2⟩ := h.pp
    exact ⟨vx, vy, e, nn h1, nn h2⟩
/-- Between two bits. -/
def MGo (w : World) (b gs go : Nat) (cv pv : Array Value) (K : Cz) (P : Pz) (L : Nat) (pre : List (Int × Bool)) (W : World) : Prop := ∃ x1 y1 x2 x3 y2 y3 q, MF K P pre q ∧ MSt w b gs go cv pv K P L x1 y1 x2 x3 y2 y3 q W
/-- A sum that isn't. -/
def MEnd (w : World) (b : Nat) (K : Cz) (P : Pz) (c : Code) (pre : List (Int × Bool)) (W : World) : Prop := c = .ret ∧ (PSl W (b + 1 + 1) (.slice none 0 0) (.slice none 0 0) (.bool false) ∧ BBx W (b + 1 + 1 + 1) false) ∧ Below w.heap.size w W ∧ ∃ pre' x q, pre = pre' ++ [x] ∧ MF K P pre' q ∧ stepR K P x.2 q none
theorem MGo.kept {w : World} {b gs go : Nat} {cv pv : Array Value} {K : Cz} {P : Pz} {L B : Nat} (hB : w.heap.size ≤ B) : OwnFrom B (MGo w b gs go cv pv K P L) := by
  rintro pre A A' row ⟨x1, y1, x2, x3, y2, y3, q, h1, h2⟩ hg hr
  exact ⟨x1, y1, x2, x3, y2, y3, q, h1, h2.kept hB hg hr⟩
theorem MEnd.kept {w : World} {b : Nat} {K : Cz} {P : Pz} {B : Nat} (hB : w.heap.size ≤ B) (c : Code) : OwnFrom B (MEnd w b K P c) := by
  rintro pre A A' row ⟨h1, h2, h3, h4⟩ hg hr
  have hr2 := fun r e => (hr r e).2
  exact ⟨h1, ⟨blk_kept h2.1 hg hr2, blk_kept h2.2 hg hr2⟩, ownFrom_below (β := Unit) (Nat.le_refl _) hB () A A' row h3 hg hr, h4⟩
theorem BBx.facts {W : World} {g : Nat} {b : Bool} (h : BBx W g b) : W.cell? ⟨g, 0, none⟩ = some (.bool b) ∧ W.frozen? ⟨g, 0, none⟩ = false := by
  refine ⟨?_, ?_⟩
  · rw [cell_of_row _ _ _ _ _ _ h]; rfl
  · exact frozen_of_row W g 0 _ _ h
theorem FrC.cells {W : World} {b : Nat} {c0 c1 c2 c3 c4 c5 c6 c7 c8 p0 p1 p2 : Value} (h : FrC W b #[c0, c1, c2, c3, c4, c5, c6, c7, c8] #[p0, p1, p2]) : (W.cell? ⟨b, 0, none⟩ = some c0 ∧ W.cell? ⟨b, 1, none⟩ = some c1 ∧ W.cell? ⟨b, 2, none⟩ = some c2 ∧ W.cell? ⟨b, 3, none⟩ = some c3 ∧ W.cell? ⟨b, 4, none⟩ = some c4 ∧ W.cell? ⟨b, 5, none⟩ = some c5 ∧ W.cell? ⟨b, 6, none⟩ = some c6 ∧ W.cell? ⟨b, 7, none⟩ = some c7 ∧ W.cell? ⟨b, 8, none⟩ = some c8) ∧ W.cell? ⟨b + 1, 0, none⟩ = some p0 ∧ W.cell? ⟨b + 1, 1, none⟩ = some p1 ∧ W.cell? ⟨b + 1, 2, none⟩ = some p2 := by
  refine ⟨⟨?_, ?_, ?_, ?_, ?_, ?_, ?_, ?_, ?_⟩, ?_, ?_, ?_⟩
  all_goals first
    | (rw [cell_of_row _ _ _ _ _ _ h.c]; rfl)
    | (rw [cell_of_row _ _ _ _ _ _ h.p]; rfl)
/-- The end of a sum that isn't. -/
theorem MSt.fails {w : World} {b gs go : Nat} {cv pv : Array Value} {K : Cz} {P : Pz} {L : Nat} {x1 y1 : Option Addr} {x2 x3 y2 y3 : Nat} {q : Pz} {W : World} (h : MSt w b gs go cv pv K P L x1 y1 x2 x3 y2 y3 q W) (hg : b + 1 + 1 + 1 < gs ∧ gs + 1 = go ∧ w.heap.size = b) {pre : List (Int × Bool)} {x : Int × Bool} {q0 : Pz} (hm : MF K P pre q0) (hs : stepR K P x.2 q0 none) :
    KeepsOthers W (((((sumW W gs go (.slice none 0 0) (.slice none 0 0) false false).setCell ⟨b + 1 + 1, 0, none⟩ (.slice none 0 0)).setCell ⟨b + 1 + 1, 1, none⟩ (.slice none 0 0)).setCell ⟨b + 1 + 1, 2, none⟩ (.bool false)).setCell ⟨b + 1 + 1 + 1, 0, none⟩ (.bool false)) ∧ MEnd w b K P .ret (pre ++ [x]) (((((sumW W gs go (.slice none 0 0) (.slice none 0 0) false false).setCell ⟨b + 1 + 1, 0, none⟩ (.slice none 0 0)).setCell ⟨b + 1 + 1, 1, none⟩ (.slice none 0 0)).setCell ⟨b + 1 + 1, 2, none⟩ (.bool false)).setCell ⟨b + 1 + 1 + 1, 0, none⟩ (.bool false)) := by
  have ks := sumW_keeps W gs go (.slice none 0 0) (.slice none 0 0) false false
  have bk := fun k hk h1 h2 => sumW_blocks (W := W) (gs := gs) (go := go) (.slice none 0 0) (.slice none 0 0) false false k hk h1 h2
  have lo := sumW_below (gs := gs) (go := go) h.low (by omega) (by omega) (.slice none 0 0) (.slice none 0 0) false false
  have r1 : PSl _ (b + 1 + 1) (.slice none 0 0) (.slice none 0 0) (.bool false) := (bk _ h.fr.r.lt (by omega) (by omega)).trans h.fr.r
  have o1 : BBx _ (b + 1 + 1 + 1) false := (bk _ (Array.getElem?_eq_some_iff.1 h.fr.o).1 (by omega) (by omega)).trans h.fr.o
  generalize sumW W gs go (.slice none 0 0) (.slice none 0 0) false false = W2 at *
  refine ⟨ks.trans (sumW_keeps W2 (b + 1 + 1) (b + 1 + 1 + 1) _ _ false false), rfl, ⟨sumW_sum r1 (by omega) _ _ _ _, sumW_ok o1 (by omega) _ _ _ _⟩, sumW_below lo (by omega) (by omega) _ _ _ _, pre, x, q0, rfl, hm, hs⟩
theorem ret_ptb {fn : Func} {p u : Tmp} (h : fn.results = #[.cell p 51, .cell u 4]) (tmps : Array Value) (w : World) (g g' : Nat) (c0 c1 c2 : Value) (b : Bool) (hp : tmps.getD p undef = .pointer (some ⟨g, 0, none⟩)) (hu : tmps.getD u undef = .pointer (some ⟨g', 0, none⟩)) (hg : PSl w g c0 c1 c2) (hb : BBx w g' b) :
    (results fn tmps).run Try.prog w = .ok (.tuple #[.agg #[c0, c1, c2], .bool b]) w := by
  have hp' : tmps[p]?.getD undef = .pointer (some ⟨g, 0, none⟩) := by simpa using hp
  have hu' : tmps[u]?.getD undef = .pointer (some ⟨g', 0, none⟩) := by simpa using hu
  have hl := run_loadVar_row (P := Try.prog) w g 51 51 #[c0, c1, c2] (0, 0) _ hg Try.underlying51 rfl sizePt
  have hc := hb.facts.1
  obtain ⟨x0, x1, x2, _⟩ := hg.facts
  simp [results, h, hp', hu', asAddr, go_sem, x0, x1, x2, hc]
set_option maxRecDepth 100000 in
set_option maxHeartbeats 4000000 in
theorem Mul_pt (c k p : Value) (K : Cz) (n : Int) (P : Pz) (L : Nat) (w : World) (hc : Cu w c K L) (hk : Nv w k n L) (hp : Pv w p P L) (hL : 1 ≤ L ∧ L ≤ 70) (h0 : K.p ≠ 0) :
    Calls Try.prog 28 #[c, k, p] w fun e w' => ∃ r, MulZ K P (bitsOf n (blen n.toNat) (blen n.toNat)) r ∧ Pa w w' e r L := by
  obtain ⟨g1, g2, oo, lo, co, vp, va, vb, vx, vy, vn, rfl, c1, c2, c3, c4, c5, c6⟩ := hc
  obtain ⟨px, py, rfl, p1, p2⟩ := hp
  obtain ⟨a1, a2, a3, a4, rfl, a5⟩ := c1
  obtain ⟨b1, b2, b3, b4, rfl, b5'⟩ := c2
  obtain ⟨d1, d2, d3, d4, rfl, d5⟩ := c3
  obtain ⟨e1, e2, e3, e4, rfl, e5⟩ := c4
  obtain ⟨f1, f2, f3, f4, rfl, f5⟩ := c5
  obtain ⟨j1, j2, j3, j4, rfl, j5⟩ := c6
  obtain ⟨k1, k2, k3, k4, rfl, k5⟩ := p1
  obtain ⟨l1, l2, l3, l4, rfl, l5⟩ := p2
  obtain ⟨m1, m2, m3, m4, rfl, m5⟩ := hk
  have FZ := frC_new w #[.int .i64 g1, .int .i64 g2, .slice oo lo co, .slice a1 a2 a3, .slice b1 b2 b3, .slice d1 d2 d3, .slice e1 e2 e3, .slice f1 f2 f3, .slice j1 j2 j3] #[.slice k1 k2 k3, .slice l1 l2 l3, .bool P.inf]
  obtain ⟨W, hW⟩ : ∃ W, (((w.alloc (.cells #[.int .i64 g1, .int .i64 g2, .slice oo lo co, .slice a1 a2 a3, .slice b1 b2 b3, .slice d1 d2 d3, .slice e1 e2 e3, .slice f1 f2 f3, .slice j1 j2 j3] 29)).alloc (.cells #[.slice k1 k2 k3, .slice l1 l2 l3, .bool P.inf] 51)).alloc (.cells #[.slice none 0 0, .slice none 0 0, .bool false] 51)).alloc (.cells #[.bool false] 4) = W := ⟨_, rfl⟩
  rw [hW] at FZ
  obtain ⟨FZ, hb⟩ := FZ
  have HZ := isZero_any (.slice a1 a2 a3) K.p L W (Nv.old ⟨a1, a2, a3, a4, rfl, a5⟩ hb)
  have hd : decide (K.p = 0) = false := by simp [h0]
  rw [hd] at HZ
  have HN := nothing_any W
  have HW : Hid (_ = W) := hW
  clear hW
  refine (callsIn_wide (n := 4)).1 ?_
  refine callsIn_of_wp_marks Try.func28 rfl trivial ?_ rfl
  simp only [Try.ntmps28, List.size_toArray, List.length_cons, List.length_nil, Nat.reduceAdd, Nat.reduceSub, Array.replicate_succ, Array.replicate_zero, List.push_toArray, List.append_toArray, List.nil_append, List.cons_append]
  gi_wp2_with fail
  refine ⟨trivial, ?_⟩
  rw [HW.out]
  refine (callsIn_wide.2 HZ).mono ?_
  rintro e w2 ⟨rfl, rfl⟩
  gi_wp2_with fail
  refine ⟨trivial, ?_⟩
  refine (callsIn_wide.2 HN).mono ?_
  rintro e w3 ⟨rfl, hb3⟩
  have B3 := hb.trans (hb3.mono hb.size)
  have F3 := FZ.keep hb3
  obtain ⟨gs, hgs⟩ : ∃ gs, w3.heap.size = gs := ⟨_, rfl⟩
  obtain ⟨W5, hW5⟩ : ∃ W5, (w3.alloc (.cells #[.slice none 0 0, .slice none 0 0, .bool true] 51)).alloc (.cells #[.bool true] 4) = W5 := ⟨_, rfl⟩
  have b5 : Below w3.heap.size w3 W5 := by rw [← hW5]; exact ((Below.refl _ _).alloc (Nat.le_refl _) _).alloc (by rw [alloc_sz7]; omega) _
  have s5 : PSl W5 gs (.slice none 0 0) (.slice none 0 0) (.bool true) := by rw [← hW5, ← hgs]; exact heap_new (heap_alloc_new w3 _) (by rw [alloc_sz7]; omega)
  have o5 : BBx W5 (gs + 1) true := by
    have := heap_alloc_new (w3.alloc (.cells #[.slice none 0 0, .slice none 0 0, .bool true] 51)) (.cells #[.bool true] 4)
    rw [alloc_sz7, hgs, hW5] at this
    exact this
  have B5 := B3.trans (b5.mono B3.size)
  have hgg : w.heap.size + 1 + 1 + 1 < gs := by rw [← hgs]; exact (Array.getElem?_eq_some_iff.1 F3.o).1
  have HBITS := Bits_new m1 m2 m3 m4 W5 (m5.1.old B5) (by omega)
  have HMS : Hid (MSt w w.heap.size gs (gs + 1) #[.int .i64 g1, .int .i64 g2, .slice oo lo co, .slice a1 a2 a3, .slice b1 b2 b3, .slice d1 d2 d3, .slice e1 e2 e3, .slice f1 f2 f3, .slice j1 j2 j3] #[.slice k1 k2 k3, .slice l1 l2 l3, .bool P.inf] K P L none none 0 0 0 0 noZ W5) :=
    ⟨F3.keep b5, s5, nv_nil W5 L, nv_nil W5 L, o5, Cu.old ⟨g1, g2, oo, lo, co, _, _, _, _, _, _, rfl, ⟨a1, a2, a3, a4, rfl, a5⟩, ⟨b1, b2, b3, b4, rfl, b5'⟩, ⟨d1, d2, d3, d4, rfl, d5⟩, ⟨e1, e2, e3, e4, rfl, e5⟩, ⟨f1, f2, f3, f4, rfl, f5⟩, ⟨j1, j2, j3, j4, rfl, j5⟩⟩ B5, Pv.old ⟨_, _, rfl, ⟨k1, k2, k3, k4, rfl, k5⟩, ⟨l1, l2, l3, l4, rfl, l5⟩⟩ B5, B5⟩
  have HVN : Hid (val B64 m4 = n) := m5.2.1
  have HGG : Hid (w.heap.size + 1 + 1 + 1 < gs ∧ gs < W5.heap.size ∧ gs + 1 < W5.heap.size) := ⟨hgg, s5.lt, (Array.getElem?_eq_some_iff.1 o5).1⟩
  have HW5 : Hid (_ = W5) := hW5
  clear hW5 B5 B3 b5 s5 o5 hgg F3 FZ HN HZ hb hb3 HW
  gi_wp2_with fail
  rw [HW5.out]
  refine ⟨trivial, ?_⟩
  refine (callsIn_wide.2 HBITS).mono ?_
  rintro e W6 ⟨g3, g4, rfl, hBA, hbl, hg3⟩
  rw [HVN.out] at hBA
  obtain ⟨N, hN⟩ : ∃ N, blen n.toNat = N := ⟨_, rfl⟩
  rw [hN] at hBA
  have HNN : Hid (blen n.toNat = N) := hN
  clear hN
  have HGI : Hid (MSt w w.heap.size gs (gs + 1) _ _ K P L none none 0 0 0 0 noZ W6) := HMS.out.old hbl
  have HNE : Hid (gs ≠ g3 ∧ gs + 1 ≠ g3 ∧ w.heap.size ≤ W6.heap.size) := ⟨by have := HGG.out; omega, by have := HGG.out; omega, HGI.out.low.size⟩
  clear HMS hbl HBITS hg3 HW5
  have HGX : Hid (w.heap.size + 1 + 1 + 1 < gs ∧ True) := ⟨HGG.out.1, trivial⟩
  have HLL : Hid (1 ≤ L ∧ L ≤ 1000) := ⟨hL.1, by omega⟩
  clear HGG hgs a5 b5' d5 e5 f5 j5 k5 l5 m5 HVN hd h0 hL
  gi_wp2
  refine wpIn_rangeFunc_ownF rfl (by omega) (gf := 85) (lb := #[.pointer (some ⟨g4, 0, none⟩), .pointer (some ⟨g3, 0, none⟩)]) rfl trivial (enters_of Try.func85 (by kernel_rfl) rfl)
    (bits_stopsI (4 - 1) (by omega) W6 g3 g4 n N hBA) (fun h k hB => k (h hB)) (fun W l o o' _ hl hc _ hB => hB.keptc (grownBy_putObj' W l o') (fun r e => by cases e; exact ⟨o, hl, hc⟩)) (Below.refl _ _) (fun _ => rfl)
    (MGo w w.heap.size gs (gs + 1) #[.int .i64 g1, .int .i64 g2, .slice oo lo co, .slice a1 a2 a3, .slice b1 b2 b3, .slice d1 d2 d3, .slice e1 e2 e3, .slice f1 f2 f3, .slice j1 j2 j3] #[.slice k1 k2 k3, .slice l1 l2 l3, .bool P.inf] K P L) (MEnd w w.heap.size K P)
    (MGo.kept HNE.out.2.2) (MEnd.kept HNE.out.2.2) ⟨none, none, 0, 0, 0, 0, noZ, rfl, HGI.out⟩
    (fun x => { tmps := #[.agg #[.int .i64 g1, .int .i64 g2, .slice oo lo co, .slice a1 a2 a3, .slice b1 b2 b3, .slice d1 d2 d3, .slice e1 e2 e3, .slice f1 f2 f3, .slice j1 j2 j3], .slice m1 m2 m3, .agg #[.slice k1 k2 k3, .slice l1 l2 l3, .bool P.inf], .pointer (some ⟨w.heap.size, 0, none⟩), undef, .pointer (some ⟨w.heap.size + 1, 0, none⟩), .pointer (some ⟨w.heap.size + 1 + 1, 0, none⟩), .pointer (some ⟨w.heap.size + 1 + 1 + 1, 0, none⟩), .pointer (some ⟨gs, 0, none⟩), .pointer (some ⟨gs + 1, 0, none⟩), undef, .bool x.2, .pointer (some ⟨w.heap.size, 3, none⟩), .slice a1 a2 a3, .bool false, undef, .agg #[.slice none 0 0, .slice none 0 0, .bool true], .slice m1 m2 m3, .func (.func 85) #[] #[.pointer (some ⟨g4, 0, none⟩), .pointer (some ⟨g3, 0, none⟩)], .int .i64 x.1, .bool x.2, undef, undef, undef, undef, undef, undef, undef, undef, undef, undef, undef, undef, undef, undef, undef, undef, undef, undef, undef, undef, undef, undef, undef], defers := [] }) ?assign ?body ?done ?stop
  case assign =>
    intro l x W' K hK
    gi_wp2
    exact hK
  case body =>
    rintro l pre ⟨z1, z2⟩ W' ⟨x1, y1, x2, x3, y2, y3, q, hmf, hst⟩ hlen
    have HST : Hid (MSt w w.heap.size gs (gs + 1) #[.int .i64 g1, .int .i64 g2, .slice oo lo co, .slice a1 a2 a3, .slice b1 b2 b3, .slice d1 d2 d3, .slice e1 e2 e3, .slice f1 f2 f3, .slice j1 j2 j3] #[.slice k1 k2 k3, .slice l1 l2 l3, .bool P.inf] K P L x1 y1 x2 x3 y2 y3 q W') := hst
    have HMF : Hid (MF K P pre q) := hmf
    have HA := Add_pt _ (.agg #[.slice x1 x2 x3, .slice y1 y2 y3, .bool q.inf]) (.agg #[.slice x1 x2 x3, .slice y1 y2 y3, .bool q.inf]) K q q L W' hst.cu ⟨_, _, rfl, hst.sx, hst.sy⟩ ⟨_, _, rfl, hst.sx, hst.sy⟩ HLL.out
    obtain ⟨⟨C0, C1, C2, C3, C4, C5, C6, C7, C8⟩, P0, P1, P2⟩ := hst.fr.cells
    obtain ⟨S0, S1, S2, S3, S4, S5⟩ := hst.sum.facts
    clear hst hmf hBA HGI
    gi_wp2_with fail
    refine ⟨trivial, ?_⟩
    refine (CallsIn.inRound l (callsIn_wide.2 HA)).mono ?_
    rintro e W2 ⟨r, hr, hb2, hpa⟩
    have HS2 : Hid (MSt w w.heap.size gs (gs + 1) #[.int .i64 g1, .int .i64 g2, .slice oo lo co, .slice a1 a2 a3, .slice b1 b2 b3, .slice d1 d2 d3, .slice e1 e2 e3, .slice f1 f2 f3, .slice j1 j2 j3] #[.slice k1 k2 k3, .slice l1 l2 l3, .bool P.inf] K P L x1 y1 x2 x3 y2 y3 q W2) := HST.out.old hb2
    obtain ⟨T0, T1, T2, T3, T4, T5⟩ := HS2.out.sum.facts
    obtain ⟨U0, U1⟩ := HS2.out.ok.facts
    have KO : Hid (KeepsOthers W' W2) := KeepsOthers.of_below hb2
    have KP : Hid (BitsAt W' g3 g4 n N → BitsAt W2 g3 g4 n N) := fun hB => hB.old hb2
    clear C0 C1 C2 C3 C4 C5 C6 C7 C8 P0 P1 P2 S0 S1 S2 S3 S4 S5 HST HA hb2
    have N7 : w.heap.size ≠ gs ∧ w.heap.size ≠ gs + 1 ∧ w.heap.size + 1 ≠ gs ∧ w.heap.size + 1 ≠ gs + 1 ∧ w.heap.size + 1 + 1 ≠ gs ∧ w.heap.size + 1 + 1 ≠ gs + 1 ∧ w.heap.size + 1 + 1 + 1 ≠ gs ∧ w.heap.size + 1 + 1 + 1 ≠ gs + 1 := by have := HGX.out.1; omega
    obtain ⟨M1, M2, M3, M4, M5, M6, M7, M8⟩ := N7
    obtain ⟨⟨C0, C1, C2, C3, C4, C5, C6, C7, C8⟩, P0, P1, P2⟩ := HS2.out.fr.cells
    obtain ⟨R0, R1, R2, R3, R4, R5⟩ := HS2.out.fr.r.facts
    obtain ⟨O0, O1⟩ := BBx.facts HS2.out.fr.o
    have N1 : gs ≠ w.heap.size + 1 + 1 := by have := HGX.out.1; omega
    have N2 : gs ≠ w.heap.size + 1 + 1 + 1 := by have := HGX.out.1; omega
    have N3 : gs + 1 ≠ w.heap.size + 1 + 1 := by have := HGX.out.1; omega
    have N4 : gs + 1 ≠ w.heap.size + 1 + 1 + 1 := by have := HGX.out.1; omega
    rcases hpa with ⟨v, d, rfl, rfl, hv⟩ | ⟨rfl, rfl⟩
    · obtain ⟨vx, vy, rfl, hvx, hvy⟩ := hv
      have hvx' := hvx
      have hvy' := hvy
      obtain ⟨o1, o2, o3, o4, rfl, o5⟩ := hvx
      obtain ⟨r1, r2, r3, r4, rfl, r5⟩ := hvy
      have NX := HS2.out.next (q' := d) ⟨HGX.out.1, rfl, rfl⟩ hvx' hvy'
      have KP2 : Hid (BitsAt W' g3 g4 n N → BitsAt (sumW W2 gs (gs + 1) (.slice o1 o2 o3) (.slice r1 r2 r3) d.inf true) g3 g4 n N) := fun hB => bitsAt_sum (KP.out hB) HS2.out.sum HS2.out.ok (by omega) ⟨HNE.out.1, HNE.out.2.1⟩ _ _ _ _
      have KO2 : Hid (KeepsOthers W' (sumW W2 gs (gs + 1) (.slice o1 o2 o3) (.slice r1 r2 r3) d.inf true)) := KO.out.trans (sumW_keeps _ _ _ _ _ _ _)
      have HN : Hid (MSt w w.heap.size gs (gs + 1) #[.int .i64 g1, .int .i64 g2, .slice oo lo co, .slice a1 a2 a3, .slice b1 b2 b3, .slice d1 d2 d3, .slice e1 e2 e3, .slice f1 f2 f3, .slice j1 j2 j3] #[.slice k1 k2 k3, .slice l1 l2 l3, .bool P.inf] K P L o1 r1 o2 o3 r2 r3 d (sumW W2 gs (gs + 1) (.slice o1 o2 o3) (.slice r1 r2 r3) d.inf true)) := NX
      have HR : Hid (AddZ K q q (some d)) := hr
      clear hr hvx' hvy' o5 r5 NX KP KO HS2
      cases z2 with
      | false =>
        gi_wp2
        exact ⟨KO2.out, KP2.out, o1, r1, o2, o3, r2, r3, d, (MF_snoc K P pre (z1, false) d).2 ⟨q, HMF.out, some d, HR.out, .inr ⟨d, rfl, rfl⟩⟩, HN.out⟩
      | true =>
        have HA2 := Add_pt _ (.agg #[.slice o1 o2 o3, .slice r1 r2 r3, .bool d.inf]) (.agg #[.slice k1 k2 k3, .slice l1 l2 l3, .bool P.inf]) K d P L (sumW W2 gs (gs + 1) (.slice o1 o2 o3) (.slice r1 r2 r3) d.inf true) HN.out.cu ⟨_, _, rfl, HN.out.sx, HN.out.sy⟩ HN.out.pp HLL.out
        gi_wp2_with fail
        refine ⟨trivial, ?_⟩
        refine (CallsIn.inRound l (callsIn_wide.2 HA2)).mono ?_
        clear C0 C1 C2 C3 C4 C5 C6 C7 C8 P0 P1 P2 T0 T1 T2 T3 T4 T5 U0 U1 R0 R1 R2 R3 R4 R5 O0 O1
        rintro e W4 ⟨r, hr, hb4, hpa⟩
        have HS4 : Hid (MSt w w.heap.size gs (gs + 1) #[.int .i64 g1, .int .i64 g2, .slice oo lo co, .slice a1 a2 a3, .slice b1 b2 b3, .slice d1 d2 d3, .slice e1 e2 e3, .slice f1 f2 f3, .slice j1 j2 j3] #[.slice k1 k2 k3, .slice l1 l2 l3, .bool P.inf] K P L o1 r1 o2 o3 r2 r3 d W4) := HN.out.old hb4
        obtain ⟨T0, T1, T2, T3, T4, T5⟩ := HS4.out.sum.facts
        obtain ⟨U0, U1⟩ := HS4.out.ok.facts
        obtain ⟨R0, R1, R2, R3, R4, R5⟩ := HS4.out.fr.r.facts
        obtain ⟨O0, O1⟩ := BBx.facts HS4.out.fr.o
        have KO4 : Hid (KeepsOthers W' W4) := KO2.out.trans (KeepsOthers.of_below hb4)
        have KP4 : Hid (BitsAt W' g3 g4 n N → BitsAt W4 g3 g4 n N) := fun hB => (KP2.out hB).old hb4
        clear hb4 HN KO2 KP2 HA2
        rcases hpa with ⟨v, d', rfl, rfl, hv⟩ | ⟨rfl, rfl⟩
        · obtain ⟨vx, vy, rfl, hvx, hvy⟩ := hv
          have hvx' := hvx
          have hvy' := hvy
          obtain ⟨t1, t2, t3, t4, rfl, t5⟩ := hvx
          obtain ⟨u1, u2, u3, u4, rfl, u5⟩ := hvy
          have NX := HS4.out.next (q' := d') ⟨HGX.out.1, rfl, rfl⟩ hvx' hvy'
          have KP5 : Hid (BitsAt W' g3 g4 n N → BitsAt (sumW W4 gs (gs + 1) (.slice t1 t2 t3) (.slice u1 u2 u3) d'.inf true) g3 g4 n N) := fun hB => bitsAt_sum (KP4.out hB) HS4.out.sum HS4.out.ok (by omega) ⟨HNE.out.1, HNE.out.2.1⟩ _ _ _ _
          have KO5 : Hid (KeepsOthers W' (sumW W4 gs (gs + 1) (.slice t1 t2 t3) (.slice u1 u2 u3) d'.inf true)) := KO4.out.trans (sumW_keeps _ _ _ _ _ _ _)
          have HN5 : Hid (MSt w w.heap.size gs (gs + 1) #[.int .i64 g1, .int .i64 g2, .slice oo lo co, .slice a1 a2 a3, .slice b1 b2 b3, .slice d1 d2 d3, .slice e1 e2 e3, .slice f1 f2 f3, .slice j1 j2 j3] #[.slice k1 k2 k3, .slice l1 l2 l3, .bool P.inf] K P L t1 u1 t2 t3 u2 u3 d' (sumW W4 gs (gs + 1) (.slice t1 t2 t3) (.slice u1 u2 u3) d'.inf true)) := NX
          have HR5 : Hid (AddZ K d P (some d')) := hr
          clear hr hvx' hvy' t5 u5 NX KP4 KO4 HS4
          gi_wp2
          exact ⟨KO5.out, KP5.out, t1, u1, t2, t3, u2, u3, d', (MF_snoc K P pre (z1, true) d').2 ⟨q, HMF.out, some d, HR.out, .inr ⟨d, rfl, HR5.out⟩⟩, HN5.out⟩
        · have HF := HS4.out.fails ⟨HGX.out.1, rfl, rfl⟩ (x := (z1, true)) HMF.out ⟨some d, HR.out, .inr ⟨d, rfl, hr⟩⟩
          have HFF : Hid _ := HF
          clear HF hr
          gi_wp2
          exact ⟨KO4.out.trans HFF.out.1, HFF.out.2⟩
    · have HF := HS2.out.fails ⟨HGX.out.1, rfl, rfl⟩ (x := (z1, z2)) HMF.out ⟨none, hr, .inl ⟨rfl, rfl⟩⟩
      have HFF : Hid _ := HF
      clear HF hr
      gi_wp2
      exact ⟨KO.out.trans HFF.out.1, HFF.out.2⟩
  case done =>
    rintro D ys W' hD hys ⟨x1, y1, x2, x3, y2, y3, q, hmf, hst⟩ hK
    have HST : Hid (MSt w w.heap.size gs (gs + 1) #[.int .i64 g1, .int .i64 g2, .slice oo lo co, .slice a1 a2 a3, .slice b1 b2 b3, .slice d1 d2 d3, .slice e1 e2 e3, .slice f1 f2 f3, .slice j1 j2 j3] #[.slice k1 k2 k3, .slice l1 l2 l3, .bool P.inf] K P L x1 y1 x2 x3 y2 y3 q W') := hst
    have HMF : Hid (MF K P (bitsOf n N N) q) := by rw [← hys]; exact hmf
    have HK : Hid (W'.heap[D]? = some (.deferred (some [])) ∧ W6.heap.size ≤ D) := ⟨hK, hD⟩
    obtain ⟨S0, S1, S2, S3, S4, S5⟩ := hst.sum.facts
    obtain ⟨R0, R1, R2, R3, R4, R5⟩ := hst.fr.r.facts
    obtain ⟨O0, O1⟩ := BBx.facts hst.fr.o
    clear hst hmf hBA HGI hys hK hD
    have SS := sumW_sum HST.out.fr.r (go := w.heap.size + 1 + 1 + 1) (by omega) (.slice x1 x2 x3) (.slice y1 y2 y3) q.inf true
    have SO := sumW_ok (gs := w.heap.size + 1 + 1) HST.out.fr.o (by omega) (.slice x1 x2 x3) (.slice y1 y2 y3) q.inf true
    have SX := nv_sum HST.out.sx HST.out.fr.r HST.out.fr.o (by omega) (.slice x1 x2 x3) (.slice y1 y2 y3) q.inf true
    have SY := nv_sum HST.out.sy HST.out.fr.r HST.out.fr.o (by omega) (.slice x1 x2 x3) (.slice y1 y2 y3) q.inf true
    have SB := sumW_below (gs := w.heap.size + 1 + 1) (go := w.heap.size + 1 + 1 + 1) HST.out.low (by omega) (by omega) (.slice x1 x2 x3) (.slice y1 y2 y3) q.inf true
    have SK := (sumW_keeps W' (w.heap.size + 1 + 1) (w.heap.size + 1 + 1 + 1) (.slice x1 x2 x3) (.slice y1 y2 y3) q.inf true).same D _ HK.out.1 rfl
    have HALL : Hid (_ ∧ _ ∧ _ ∧ _ ∧ _ ∧ _) := ⟨SS, SO, SX, SY, SB, SK⟩
    clear SS SO SX SY SB SK
    gi_wp2
    obtain ⟨SS, SO, SX, SY, SB, SK⟩ := HALL.out
    refine ⟨by simp, .inl ⟨_, _, rfl, run_takeDeferred SK, ?_⟩⟩
    have gk := grownBy_putObj' (sumW W' (w.heap.size + 1 + 1) (w.heap.size + 1 + 1 + 1) (.slice x1 x2 x3) (.slice y1 y2 y3) q.inf true) D (.deferred none)
    have hr : ∀ r, some D = some r → ∃ o : Obj, (sumW W' (w.heap.size + 1 + 1) (w.heap.size + 1 + 1 + 1) (.slice x1 x2 x3) (.slice y1 y2 y3) q.inf true).heap[r]? = some o ∧ o.isCells = false := fun r e => by cases e; exact ⟨_, SK, rfl⟩
    refine ⟨_, ret_ptb rfl _ _ (w.heap.size + 1 + 1) (w.heap.size + 1 + 1 + 1) _ _ _ _ rfl rfl (blk_kept SS gk hr) (blk_kept SO gk hr), some q, .inl ⟨q, rfl, by rw [HNN.out]; exact HMF.out⟩, SB.trans (belowK_b (w := w) (Nat.le_refl _) _ D _ _ (by have := HK.out.2; have := HNE.out.2.2; omega) SK rfl rfl), .inl ⟨_, q, rfl, rfl, _, _, rfl, SX.kept gk hr, SY.kept gk hr⟩⟩
  case stop =>
    rintro D c pre W' hD hpre ⟨rfl, h1, h2, h3⟩ hK
    obtain ⟨pre', x, q, rfl, hm, hs⟩ := h3
    gi_wp2
    refine ⟨by simp, .inl ⟨_, _, rfl, run_takeDeferred hK, ?_⟩⟩
    have gk := grownBy_putObj' W' D (.deferred none)
    have hr : ∀ r, some D = some r → ∃ o : Obj, W'.heap[r]? = some o ∧ o.isCells = false := fun r e => by cases e; exact ⟨_, hK, rfl⟩
    exact ⟨_, ret_ptb rfl _ _ (w.heap.size + 1 + 1) (w.heap.size + 1 + 1 + 1) _ _ _ _ rfl rfl (blk_kept h1.1 gk hr) (blk_kept h1.2 gk hr), none, .inr ⟨rfl, pre', x, q, by rw [HNN.out]; exact hpre, hm, hs⟩, h2.trans (belowK_b (w := w) (Nat.le_refl _) _ D _ _ (by have := HNE.out.2.2; omega) hK rfl rfl), .inr ⟨rfl, rfl⟩⟩
end Go.Proofs.Ytcobbbamocdbbaa
/-
  The code's Base, Size, rightSide, On.
-/
namespace Go.Proofs.Ytcobbbamocdbbaa
open Go.Shelf Go.RowKit
set_option linter.unusedVariables false
set_option linter.unusedSimpArgs false

/-- Two blocks, one behind the other. -/
theorem pair_new (w : World) (cv pv : Array Value) (t t' : TypeId) : ((w.alloc (.cells cv t)).alloc (.cells pv t')).heap[w.heap.size]? = some (.cells cv t (0, 0)) ∧ ((w.alloc (.cells cv t)).alloc (.cells pv t')).heap[w.heap.size + 1]? = some (.cells pv t' (0, 0)) ∧ Below w.heap.size w ((w.alloc (.cells cv t)).alloc (.cells pv t')) := by
  have z1 := alloc_sz7 w (.cells cv t)
  have n1 := heap_alloc_new w (.cells cv t)
  have n2 := heap_alloc_new (w.alloc (.cells cv t)) (.cells pv t')
  rw [z1] at n2
  exact ⟨heap_new n1 (by omega), n2, ((Below.refl w.heap.size w).alloc (Nat.le_refl _) _).alloc (by omega) _⟩
theorem blk_old {W W' : World} {k : Nat} {o : Obj} (h : W.heap[k]? = some o) (hb : Below W.heap.size W W') : W'.heap[k]? = some o := (hb.block _ (Array.getElem?_eq_some_iff.1 h).1).trans h
def baseZ (K : Cz) : Pz := ⟨K.gx, K.gy, false⟩
set_option maxRecDepth 100000 in
set_option maxHeartbeats 2000000 in
theorem Base_any (c : Value) (K : Cz) (L : Nat) (w : World) (hc : Cu w c K L) :
    Calls Try.prog 27 #[c] w fun e w' => ∃ v, e = .returned v ∧ Pv w' v (baseZ K) L ∧ Below w.heap.size w w' := by
  obtain ⟨g1, g2, oo, lo, co, vp, va, vb, vx, vy, vn, rfl, c1, c2, c3, c4, c5, c6⟩ := hc
  have HO := fun W (hW : Below w.heap.size w W) => own_any (.agg #[vx, vy, .bool false]) (baseZ K) L W ⟨vx, vy, rfl, c4.old hW, c5.old hW⟩
  obtain ⟨a1, a2, a3, a4, rfl, a5⟩ := c1
  obtain ⟨b1, b2, b3, b4, rfl, b5⟩ := c2
  obtain ⟨d1, d2, d3, d4, rfl, d5⟩ := c3
  obtain ⟨e1, e2, e3, e4, rfl, e5⟩ := c4
  obtain ⟨f1, f2, f3, f4, rfl, f5⟩ := c5
  obtain ⟨j1, j2, j3, j4, rfl, j5⟩ := c6
  go_enter Try.func27, Try.ntmps27
  go_wp2_with fail
  obtain ⟨_, n2, hb⟩ := pair_new w #[.int .i64 g1, .int .i64 g2, .slice oo lo co, .slice a1 a2 a3, .slice b1 b2 b3, .slice d1 d2 d3, .slice e1 e2 e3, .slice f1 f2 f3, .slice j1 j2 j3] #[.slice none 0 0, .slice none 0 0, .bool false] 29 51
  go_at_call 63
  refine (HO _ hb).mono ?_
  rintro e w2 ⟨v, rfl, hv, hb2⟩
  have s2 : PSl w2 (w.heap.size + 1) (.slice none 0 0) (.slice none 0 0) (.bool false) := blk_old n2 hb2
  obtain ⟨y0, y1, y2, y3, y4, y5⟩ := s2.facts
  obtain ⟨ux, uy, rfl, ⟨o1, o2, o3, o4, rfl, o5⟩, ⟨r1, r2, r3, r4, rfl, r5⟩⟩ := hv
  go_wp2
  refine bodyPost_ret (ret_pt1 rfl _ _ (w.heap.size + 1) _ _ _ rfl (s2.set3 (.slice o1 o2 o3) (.slice r1 r2 r3) (.bool (ownZ (baseZ K)).inf))) rfl ?_
  have bt := Bt.set3 w2 (w.heap.size + 1) (.slice o1 o2 o3) (.slice r1 r2 r3) (.bool (ownZ (baseZ K)).inf)
  have B2 := hb.trans (hb2.mono hb.size)
  exact ⟨_, rfl, ⟨_, _, rfl, Nv.apart ⟨o1, o2, o3, o4, rfl, o5⟩ s2 bt, Nv.apart ⟨r1, r2, r3, r4, rfl, r5⟩ s2 bt⟩, B2.trans (bt.below (by omega) B2.size)⟩
set_option maxRecDepth 100000 in
set_option maxHeartbeats 2000000 in
theorem Size_any (c : Value) (K : Cz) (L : Nat) (w : World) (hc : Cu w c K L) (hL : L ≤ 1000) :
    Calls Try.prog 32 #[c] w fun e w' => e = .returned (.int .i64 (((blen K.p.toNat : Nat) + 7) / 8)) ∧ Below w.heap.size w w' := by
  obtain ⟨g1, g2, oo, lo, co, vp, va, vb, vx, vy, vn, rfl, c1, c2, c3, c4, c5, c6⟩ := hc
  obtain ⟨a1, a2, a3, a4, rfl, a5⟩ := c1
  obtain ⟨b1, b2, b3, b4, rfl, b5⟩ := c2
  obtain ⟨d1, d2, d3, d4, rfl, d5⟩ := c3
  obtain ⟨e1, e2, e3, e4, rfl, e5⟩ := c4
  obtain ⟨f1, f2, f3, f4, rfl, f5⟩ := c5
  obtain ⟨j1, j2, j3, j4, rfl, j5⟩ := c6
  have b0 := (Below.refl w.heap.size w).alloc (Nat.le_refl _) (.cells #[.int .i64 g1, .int .i64 g2, .slice oo lo co, .slice a1 a2 a3, .slice b1 b2 b3, .slice d1 d2 d3, .slice e1 e2 e3, .slice f1 f2 f3, .slice j1 j2 j3] 29)
  have HL := Len_any a1 a2 a3 a4 _ (a5.1.old b0)
  have hbl : lenOf a4 ≤ 64000 := lenOf_le a5.1.dg 1000 (by have := a5.1.len; have := a5.2.2; omega)
  rw [lenOf_eq a4 a5.1.dg, a5.2.1] at HL hbl
  obtain ⟨N, hN⟩ : ∃ N, blen K.p.toNat = N := ⟨_, rfl⟩
  rw [hN] at HL hbl ⊢
  go_enter Try.func32, Try.ntmps32
  go_wp2_with (go_at_call 72; refine HL.mono ?_; rintro e w2 ⟨rfl, rfl⟩)
  go_ret
  exact ⟨rfl, b0⟩
def rightZ (K : Cz) (x : Int) : Int := ((x * (((x * x) % K.p + K.a) % K.p)) % K.p + K.b) % K.p
set_option maxRecDepth 100000 in
set_option maxHeartbeats 2000000 in
theorem right_any (c v : Value) (K : Cz) (x : Int) (L : Nat) (w : World) (hc : Cu w c K L) (hv : Nv w v x L) (h0 : K.p ≠ 0) (hL : 1 ≤ L ∧ L ≤ 1000) :
    Calls Try.prog 69 #[c, v] w fun e w' => ∃ v, e = .returned v ∧ Na w w' v (rightZ K x) L := by
  obtain ⟨g1, g2, oo, lo, co, vp, va, vb, vx, vy, vn, rfl, c1, c2, c3, c4, c5, c6⟩ := hc
  obtain ⟨a1, a2, a3, a4, rfl, a5⟩ := c1
  obtain ⟨b1, b2, b3, b4, rfl, b5⟩ := c2
  obtain ⟨d1, d2, d3, d4, rfl, d5⟩ := c3
  obtain ⟨e1, e2, e3, e4, rfl, e5⟩ := c4
  obtain ⟨f1, f2, f3, f4, rfl, f5⟩ := c5
  obtain ⟨j1, j2, j3, j4, rfl, j5⟩ := c6
  obtain ⟨k1, k2, k3, k4, rfl, k5⟩ := hv
  obtain ⟨n1, n2, hb⟩ := pair_new w #[.int .i64 g1, .int .i64 g2, .slice oo lo co, .slice a1 a2 a3, .slice b1 b2 b3, .slice d1 d2 d3, .slice e1 e2 e3, .slice f1 f2 f3, .slice j1 j2 j3] #[.slice a1 a2 a3] 29 123
  obtain ⟨W, hW⟩ : ∃ W, (w.alloc (.cells #[.int .i64 g1, .int .i64 g2, .slice oo lo co, .slice a1 a2 a3, .slice b1 b2 b3, .slice d1 d2 d3, .slice e1 e2 e3, .slice f1 f2 f3, .slice j1 j2 j3] 29)).alloc (.cells #[.slice a1 a2 a3] 123) = W := ⟨_, rfl⟩
  rw [hW] at n1 n2 hb
  have HK := fun (W' : World) (hW' : Below W.heap.size W W') => (show W'.cell? ⟨w.heap.size + 1, 0, none⟩ = some (.slice a1 a2 a3) ∧ W'.cell? ⟨w.heap.size, 4, none⟩ = some (.slice b1 b2 b3) ∧ W'.cell? ⟨w.heap.size, 5, none⟩ = some (.slice d1 d2 d3) from by
    refine ⟨?_, ?_, ?_⟩
    · rw [cell_of_row _ _ _ _ _ _ (blk_old n2 hW')]; rfl
    · rw [cell_of_row _ _ _ _ _ _ (blk_old n1 hW')]; rfl
    · rw [cell_of_row _ _ _ _ _ _ (blk_old n1 hW')]; rfl)
  have VP := fun (W' : World) (hW' : Below W.heap.size W W') => (show Nv W' (.slice a1 a2 a3) K.p L ∧ Nv W' (.slice b1 b2 b3) K.a L ∧ Nv W' (.slice d1 d2 d3) K.b L ∧ Nv W' (.slice k1 k2 k3) x L from by
    have B := hb.trans (hW'.mono hb.size)
    exact ⟨Nv.old ⟨a1, a2, a3, a4, rfl, a5⟩ B, Nv.old ⟨b1, b2, b3, b4, rfl, b5⟩ B, Nv.old ⟨d1, d2, d3, d4, rfl, d5⟩ B, Nv.old ⟨k1, k2, k3, k4, rfl, k5⟩ B⟩)
  have K3 := HK W (Below.refl _ _)
  have K4 := HK W.drew (Below.refl _ _).drew
  have V4 := VP W.drew (Below.refl _ _).drew
  have H1 := product_any (.slice k1 k2 k3) (.slice k1 k2 k3) (.slice a1 a2 a3) x x K.p L L W.drew V4.2.2.2 V4.2.2.2 V4.1 h0 (by omega)
  have H2 := fun (W' : World) (hW' : Below W.heap.size W W') v n (hv : Nv W' v n L) => plus_any v (.slice b1 b2 b3) (.slice a1 a2 a3) n K.a K.p L L W' hv (VP W' hW').2.1 (VP W' hW').1 h0 (by omega)
  have H3 := fun (W' : World) (hW' : Below W.heap.size W W') v n (hv : Nv W' v n L) => product_any (.slice k1 k2 k3) v (.slice a1 a2 a3) x n K.p L L W' (VP W' hW').2.2.2 hv (VP W' hW').1 h0 (by omega)
  have H4 := fun (W' : World) (hW' : Below W.heap.size W W') v n (hv : Nv W' v n L) => plus_any v (.slice d1 d2 d3) (.slice a1 a2 a3) n K.b K.p L L W' hv (VP W' hW').2.2.1 (VP W' hW').1 h0 (by omega)
  obtain ⟨RZ, hRZ⟩ : ∃ r, rightZ K x = r := ⟨_, rfl⟩
  have HRZ : Hid (rightZ K x = RZ) := hRZ
  rw [hRZ]
  have HW : Hid (_ = W) := hW
  have T1 : True := trivial
  have T2 : True := trivial
  clear hW hRZ V4
  go_enter Try.func69, Try.ntmps69
  go_wp2_with fail
  rw [HW.out]
  go_region_held3 (fun W => W.cell? ⟨w.heap.size + 1, 0, none⟩ = some (.slice a1 a2 a3) ∧ W.cell? ⟨w.heap.size, 4, none⟩ = some (.slice b1 b2 b3) ∧ W.cell? ⟨w.heap.size, 5, none⟩ = some (.slice d1 d2 d3))
    (first | exact K3 | exact K4 | exact K5 | exact K6 | exact K7 | exact K8) (first
    | (go_at_call 68; clear T1; refine H1.mono ?_; rintro e w5 ⟨v5, rfl, hv5, hb5⟩; have C5 := ((Below.refl W.heap.size W).drew).trans (hb5.mono (Nat.le_refl _)); have K5 := HK w5 C5; have H22 := H2 w5 C5 v5 _ hv5; obtain ⟨o1, o2, o3, o4, rfl, o5⟩ := hv5)
    | (go_at_call 76; clear T2; refine H22.mono ?_; rintro e w6 ⟨v6, rfl, hv6, hb6⟩; have C6 := C5.trans (hb6.mono C5.size); have K6 := HK w6 C6; have H32 := H3 w6 C6 v6 _ hv6; obtain ⟨u1, u2, u3, u4, rfl, u5⟩ := hv6)
    | (go_at_call 68; refine H32.mono ?_; rintro e w7 ⟨v7, rfl, hv7, hb7⟩; have C7 := C6.trans (hb7.mono C6.size); have K7 := HK w7 C7; have H42 := H4 w7 C7 v7 _ hv7; obtain ⟨y1, y2, y3, y4, rfl, y5⟩ := hv7)
    | (go_at_call 76; refine H42.mono ?_; rintro e w8 ⟨v8, rfl, hv8, hb8⟩; have C8 := C7.trans (hb8.mono C7.size); have K8 := HK w8 C8; have hv8' := hv8; obtain ⟨z1, z2, z3, z4, rfl, z5⟩ := hv8))
  go_wp2
  go_ret
  refine ⟨_, rfl, ?_, hb.trans (C8.mono hb.size)⟩
  rw [← HRZ.out]
  exact hv8'
/-- Is it on the curve? -/
def onB (K : Cz) (P : Pz) : Bool := decide (K.p ≠ 0) && (P.inf || (decide (P.x < K.p) && (decide (P.y < K.p) && decide ((P.y * P.y) % K.p = rightZ K P.x))))
theorem cmp_nv (a b : Value) (x y : Int) (L : Nat) (w : World) (ha : Nv w a x L) (hb : Nv w b y L) : Calls Try.prog 31 #[a, b] w fun e w' => e = .returned (.int .i64 (cmpI x y)) ∧ Below w.heap.size w w' := by
  obtain ⟨ao, la, ca, xs, rfl, h1, rfl, h2⟩ := ha
  obtain ⟨bo, lb, cb, ys, rfl, k1, rfl, k2⟩ := hb
  refine (Cmp_any ao bo la ca lb cb xs ys w h1 k1).mono ?_
  rintro e w' ⟨rfl, k, rfl⟩
  exact ⟨rfl, drew7 _ _⟩
set_option maxRecDepth 100000 in
set_option maxHeartbeats 4000000 in
theorem On_any (c p : Value) (K : Cz) (P : Pz) (L : Nat) (w : World) (hc : Cu w c K L) (hp : Pv w p P L) (hL : 1 ≤ L ∧ L ≤ 1000) :
    Calls Try.prog 30 #[c, p] w fun e w' => e = .returned (.bool (onB K P)) ∧ Below w.heap.size w w' := by
  have HCU := hc
  obtain ⟨g1, g2, oo, lo, co, vp, va, vb, vx, vy, vn, rfl, c1, c2, c3, c4, c5, c6⟩ := hc
  obtain ⟨px, py, rfl, p1, p2⟩ := hp
  have HR := fun (h0 : K.p ≠ 0) W (hW : Below w.heap.size w W) => right_any _ px K P.x L W (HCU.old hW) (p1.old hW) h0 hL
  have HM := fun (h0 : K.p ≠ 0) W (hW : Below w.heap.size w W) => product_any py py vp P.y P.y K.p L L W (p2.old hW) (p2.old hW) (c1.old hW) h0 (by omega)
  have HBX := fun W (hW : Below w.heap.size w W) => isBelow_any px vp P.x K.p L W (p1.old hW) (c1.old hW)
  have HBY := fun W (hW : Below w.heap.size w W) => isBelow_any py vp P.y K.p L W (p2.old hW) (c1.old hW)
  have HZ := fun W (hW : Below w.heap.size w W) => isZero_any vp K.p L W (c1.old hW)
  clear HCU
  obtain ⟨a1, a2, a3, a4, rfl, a5⟩ := c1
  obtain ⟨b1, b2, b3, b4, rfl, b5⟩ := c2
  obtain ⟨d1, d2, d3, d4, rfl, d5⟩ := c3
  obtain ⟨e1, e2, e3, e4, rfl, e5⟩ := c4
  obtain ⟨f1, f2, f3, f4, rfl, f5⟩ := c5
  obtain ⟨j1, j2, j3, j4, rfl, j5⟩ := c6
  obtain ⟨k1, k2, k3, k4, rfl, k5⟩ := p1
  obtain ⟨l1, l2, l3, l4, rfl, l5⟩ := p2
  obtain ⟨n1, n2, hb⟩ := pair_new w #[.int .i64 g1, .int .i64 g2, .slice oo lo co, .slice a1 a2 a3, .slice b1 b2 b3, .slice d1 d2 d3, .slice e1 e2 e3, .slice f1 f2 f3, .slice j1 j2 j3] #[.slice k1 k2 k3, .slice l1 l2 l3, .bool P.inf] 29 51
  obtain ⟨W, hW⟩ : ∃ W, (w.alloc (.cells #[.int .i64 g1, .int .i64 g2, .slice oo lo co, .slice a1 a2 a3, .slice b1 b2 b3, .slice d1 d2 d3, .slice e1 e2 e3, .slice f1 f2 f3, .slice j1 j2 j3] 29)).alloc (.cells #[.slice k1 k2 k3, .slice l1 l2 l3, .bool P.inf] 51) = W := ⟨_, rfl⟩
  rw [hW] at n1 n2 hb
  have HK := fun (W' : World) (hW' : Below W.heap.size W W') => (show (W'.cell? ⟨w.heap.size, 0, none⟩ = some (.int .i64 g1) ∧ W'.cell? ⟨w.heap.size, 1, none⟩ = some (.int .i64 g2) ∧ W'.cell? ⟨w.heap.size, 2, none⟩ = some (.slice oo lo co) ∧ W'.cell? ⟨w.heap.size, 3, none⟩ = some (.slice a1 a2 a3) ∧ W'.cell? ⟨w.heap.size, 4, none⟩ = some (.slice b1 b2 b3) ∧ W'.cell? ⟨w.heap.size, 5, none⟩ = some (.slice d1 d2 d3) ∧ W'.cell? ⟨w.heap.size, 6, none⟩ = some (.slice e1 e2 e3) ∧ W'.cell? ⟨w.heap.size, 7, none⟩ = some (.slice f1 f2 f3) ∧ W'.cell? ⟨w.heap.size, 8, none⟩ = some (.slice j1 j2 j3)) ∧ W'.cell? ⟨w.heap.size + 1, 0, none⟩ = some (.slice k1 k2 k3) ∧ W'.cell? ⟨w.heap.size + 1, 1, none⟩ = some (.slice l1 l2 l3) ∧ W'.cell? ⟨w.heap.size + 1, 2, none⟩ = some (.bool P.inf) from by
    refine ⟨⟨?_, ?_, ?_, ?_, ?_, ?_, ?_, ?_, ?_⟩, ?_, ?_, ?_⟩
    all_goals first
      | (rw [cell_of_row _ _ _ _ _ _ (blk_old n1 hW')]; rfl)
      | (rw [cell_of_row _ _ _ _ _ _ (blk_old n2 hW')]; rfl))
  have HZW := HZ W hb
  have HW : Hid (_ = W) := hW
  have HBB : Hid (Below w.heap.size w W) := hb
  clear hW HZ
  unfold onB
  by_cases h0 : K.p = 0
  · have hd : decide (K.p = 0) = true := by simp [h0]
    have hd2 : decide (K.p ≠ 0) = false := by simp [h0]
    rw [hd] at HZW
    rw [hd2]
    go_enter Try.func30, Try.ntmps30
    go_wp2_with (go_at_call 40; rw [HW.out]; refine HZW.mono ?_; rintro e w2 ⟨rfl, rfl⟩)
    go_ret
    exact ⟨rfl, HBB.out⟩
  have hd : decide (K.p = 0) = false := by simp [h0]
  have hd2 : decide (K.p ≠ 0) = true := by simp [h0]
  rw [hd] at HZW
  rw [hd2]
  obtain ⟨⟨x0, x1, x2, x3, x4, x5, x6, x7, x8⟩, x9, x10, x11⟩ := HK W (Below.refl _ _)
  cases hpi : P.inf with
  | true =>
    rw [hpi] at HW x11
    go_enter Try.func30, Try.ntmps30
    go_wp2_with (go_at_call 40; rw [HW.out]; refine HZW.mono ?_; rintro e w2 ⟨rfl, rfl⟩)
    go_ret
    exact ⟨rfl, HBB.out⟩
  | false =>
    rw [hpi] at HW x11 HK
    have HXW := HBX W hb
    obtain ⟨BX, hBX⟩ : ∃ b, decide (P.x < K.p) = b := ⟨_, rfl⟩
    obtain ⟨BY, hBY⟩ : ∃ b, decide (P.y < K.p) = b := ⟨_, rfl⟩
    rw [hBX] at HXW ⊢
    rw [hBY] at HBY ⊢
    have HKB : Hid (∀ w3, Below W.heap.size W w3 → Below w.heap.size w w3) := fun w3 h => HBB.out.trans (h.mono HBB.out.size)
    cases BX with
    | false =>
      clear HR HM HBY HBX
      go_enter Try.func30, Try.ntmps30
      go_wp2_with (first
        | (go_at_call 40; rw [HW.out]; refine HZW.mono ?_; rintro e w2 ⟨rfl, rfl⟩)
        | (go_at_call 67; refine HXW.mono ?_; rintro e w3 ⟨rfl, hb3⟩))
      go_ret
      exact ⟨rfl, HKB.out _ hb3⟩
    | true =>
      cases BY with
      | false =>
        clear HR HM HBX
        have T1 : True := trivial
        go_enter Try.func30, Try.ntmps30
        go_wp2_with (first
          | (go_at_call 40; rw [HW.out]; refine HZW.mono ?_; rintro e w2 ⟨rfl, rfl⟩)
          | (go_at_call 67; clear T1; refine HXW.mono ?_; rintro e w3 ⟨rfl, hb3⟩; obtain ⟨⟨z0, z1, z2, z3, z4, z5, z6, z7, z8⟩, z9, z10, z11⟩ := HK w3 hb3)
          | (go_at_call 67; refine (HBY w3 (HKB.out _ hb3)).mono ?_; rintro e w4 ⟨rfl, hb4⟩))
        go_ret
        have B3 := HKB.out _ hb3
        exact ⟨rfl, B3.trans (hb4.mono B3.size)⟩
      | true =>
        clear HBX
        have T1 : True := trivial
        go_enter Try.func30, Try.ntmps30
        go_wp2_with (first
          | (go_at_call 40; rw [HW.out]; refine HZW.mono ?_; rintro e w2 ⟨rfl, rfl⟩)
          | (go_at_call 67; clear T1; refine HXW.mono ?_; rintro e w3 ⟨rfl, hb3⟩; obtain ⟨⟨z0, z1, z2, z3, z4, z5, z6, z7, z8⟩, z9, z10, z11⟩ := HK w3 hb3)
          | (go_at_call 67; refine (HBY w3 (HKB.out _ hb3)).mono ?_; rintro e w4 ⟨rfl, hb4⟩; have C4 := hb3.trans (hb4.mono hb3.size); clear x0 x1 x2 x3 x4 x5 x6 x7 x8 x9 x10 x11 z0 z1 z2 z3 z4 z5 z6 z7 z8 z9 z10 z11; obtain ⟨⟨x0, x1, x2, x3, x4, x5, x6, x7, x8⟩, x9, x10, x11⟩ := HK w4 C4))
        have L3 := HK w4 C4
        have D4 := C4.drew
        have L4 := HK w4.drew D4
        have H1 := HM h0 w4.drew (HKB.out _ D4)
        have H2 := fun W' hW' => HR h0 W' (HKB.out W' hW')
        have B4 : Hid (Below w2.heap.size w2 w4) := C4
        obtain ⟨YY, hYY⟩ : ∃ y, (P.y * P.y) % K.p = y := ⟨_, rfl⟩
        obtain ⟨RR, hRR⟩ : ∃ y, rightZ K P.x = y := ⟨_, rfl⟩
        rw [hYY] at H1
        simp only [hRR] at H2
        have hcm : ∀ z, cmpI YY RR = z → decide (z = 0) = decide (YY = RR) := by
          rintro z rfl
          unfold cmpI
          by_cases q : YY < RR
          · have : YY ≠ RR := by omega
            simp [q, this]
          · rw [if_neg q]
            by_cases q2 : RR < YY
            · have : YY ≠ RR := by omega
              simp [q2, this]
            · have : YY = RR := by omega
              simp [this]
        obtain ⟨CZ, hCZ⟩ : ∃ z, cmpI YY RR = z := ⟨_, rfl⟩
        have HF : Hid (decide (CZ = 0) = decide ((P.y * P.y) % K.p = rightZ K P.x)) := by rw [hYY, hRR]; exact hcm CZ hCZ
        clear hcm x0 x1 x2 x3 x4 x5 x6 x7 x8 x9 x10 x11 hYY hRR
        go_region_held3 (fun W' => (W'.cell? ⟨w.heap.size, 0, none⟩ = some (.int .i64 g1) ∧ W'.cell? ⟨w.heap.size, 1, none⟩ = some (.int .i64 g2) ∧ W'.cell? ⟨w.heap.size, 2, none⟩ = some (.slice oo lo co) ∧ W'.cell? ⟨w.heap.size, 3, none⟩ = some (.slice a1 a2 a3) ∧ W'.cell? ⟨w.heap.size, 4, none⟩ = some (.slice b1 b2 b3) ∧ W'.cell? ⟨w.heap.size, 5, none⟩ = some (.slice d1 d2 d3) ∧ W'.cell? ⟨w.heap.size, 6, none⟩ = some (.slice e1 e2 e3) ∧ W'.cell? ⟨w.heap.size, 7, none⟩ = some (.slice f1 f2 f3) ∧ W'.cell? ⟨w.heap.size, 8, none⟩ = some (.slice j1 j2 j3)) ∧ W'.cell? ⟨w.heap.size + 1, 0, none⟩ = some (.slice k1 k2 k3) ∧ W'.cell? ⟨w.heap.size + 1, 1, none⟩ = some (.slice l1 l2 l3) ∧ W'.cell? ⟨w.heap.size + 1, 2, none⟩ = some (.bool false))
          (first | exact L3 | exact L4 | exact L5 | exact L6 | exact L7) (first
          | (go_at_call 68; refine H1.mono ?_; rintro e w5 ⟨v5, rfl, hv5, hb5⟩; have C5 := D4.trans (hb5.mono D4.size); have L5 := HK w5 C5; have H22 := H2 w5 C5; have hv5' := hv5; obtain ⟨o1, o2, o3, o4, rfl, o5⟩ := hv5)
          | (go_at_call 69; refine H22.mono ?_; rintro e w6 ⟨v6, rfl, hv6, hb6⟩; have C6 := C5.trans (hb6.mono C5.size); have L6 := HK w6 C6; have H33 := cmp_nv _ v6 YY RR L w6 (hv5'.old hb6) hv6; rw [hCZ] at H33; obtain ⟨u1, u2, u3, u4, rfl, u5⟩ := hv6)
          | (go_at_call 31; refine H33.mono ?_; rintro e w7 ⟨rfl, hb7⟩; have C7 := C6.trans (hb7.mono C6.size); have L7 := HK w7 C7))
        go_wp2
        go_ret
        refine ⟨?_, HKB.out _ C7⟩
        rw [← HF.out]
        simp
        rfl
end Go.Proofs.Ytcobbbamocdbbaa
/-
  The code's Check.
-/
namespace Go.Proofs.Ytcobbbamocdbbaa
open Go.Shelf Go.RowKit
set_option linter.unusedVariables false
set_option linter.unusedSimpArgs false

theorem of_nv (n : Int) (w : World) (h0 : 0 ≤ n) (h1 : n < 18446744073709551616) : Calls Try.prog 11 #[.int .u64 n] w fun e w' => ∃ v, e = .returned v ∧ Na w w' v n 1 := by
  refine (Of_any n w (by omega) (by omega)).mono ?_
  rintro e w' ⟨v, rfl, h⟩
  exact ⟨v, rfl, h.na⟩
def reducedB (K : Cz) : Bool := decide (K.a < K.p) && (decide (K.b < K.p) && (decide (K.gx < K.p) && decide (K.gy < K.p)))
set_option maxRecDepth 100000 in
set_option maxHeartbeats 2000000 in
theorem reduced_any (c : Value) (K : Cz) (L : Nat) (w : World) (hc : Cu w c K L) :
    Calls Try.prog 39 #[c] w fun e w' => e = .returned (.bool (reducedB K)) ∧ Below w.heap.size w w' := by
  obtain ⟨g1, g2, oo, lo, co, vp, va, vb, vx, vy, vn, rfl, c1, c2, c3, c4, c5, c6⟩ := hc
  have H1 := fun W (hW : Below w.heap.size w W) => isBelow_any va vp K.a K.p L W (c2.old hW) (c1.old hW)
  have H2 := fun W (hW : Below w.heap.size w W) => isBelow_any vb vp K.b K.p L W (c3.old hW) (c1.old hW)
  have H3 := fun W (hW : Below w.heap.size w W) => isBelow_any vx vp K.gx K.p L W (c4.old hW) (c1.old hW)
  have H4 := fun W (hW : Below w.heap.size w W) => isBelow_any vy vp K.gy K.p L W (c5.old hW) (c1.old hW)
  obtain ⟨a1, a2, a3, a4, rfl, a5⟩ := c1
  obtain ⟨b1, b2, b3, b4, rfl, b5⟩ := c2
  obtain ⟨d1, d2, d3, d4, rfl, d5⟩ := c3
  obtain ⟨e1, e2, e3, e4, rfl, e5⟩ := c4
  obtain ⟨f1, f2, f3, f4, rfl, f5⟩ := c5
  obtain ⟨j1, j2, j3, j4, rfl, j5⟩ := c6
  have b0 := (Below.refl w.heap.size w).alloc (Nat.le_refl _) (.cells #[.int .i64 g1, .int .i64 g2, .slice oo lo co, .slice a1 a2 a3, .slice b1 b2 b3, .slice d1 d2 d3, .slice e1 e2 e3, .slice f1 f2 f3, .slice j1 j2 j3] 29)
  have n0 := heap_alloc_new w (.cells #[.int .i64 g1, .int .i64 g2, .slice oo lo co, .slice a1 a2 a3, .slice b1 b2 b3, .slice d1 d2 d3, .slice e1 e2 e3, .slice f1 f2 f3, .slice j1 j2 j3] 29)
  generalize hW0 : w.alloc (.cells #[.int .i64 g1, .int .i64 g2, .slice oo lo co, .slice a1 a2 a3, .slice b1 b2 b3, .slice d1 d2 d3, .slice e1 e2 e3, .slice f1 f2 f3, .slice j1 j2 j3] 29) = W0 at b0 n0
  have HW0 : Hid (_ = W0) := hW0
  unfold reducedB
  generalize decide (K.a < K.p) = B1 at *
  generalize decide (K.b < K.p) = B2 at *
  generalize decide (K.gx < K.p) = B3 at *
  generalize decide (K.gy < K.p) = B4 at *
  have HK := fun (W' : World) (hW' : Below W0.heap.size W0 W') => (show W'.cell? ⟨w.heap.size, 3, none⟩ = some (.slice a1 a2 a3) ∧ W'.cell? ⟨w.heap.size, 4, none⟩ = some (.slice b1 b2 b3) ∧ W'.cell? ⟨w.heap.size, 5, none⟩ = some (.slice d1 d2 d3) ∧ W'.cell? ⟨w.heap.size, 6, none⟩ = some (.slice e1 e2 e3) ∧ W'.cell? ⟨w.heap.size, 7, none⟩ = some (.slice f1 f2 f3) from by
    refine ⟨?_, ?_, ?_, ?_, ?_⟩
    all_goals (rw [cell_of_row _ _ _ _ _ _ (blk_old n0 hW')]; rfl))
  have HKB : Hid (∀ w3, Below W0.heap.size W0 w3 → Below w.heap.size w w3) := fun w3 h => b0.trans (h.mono b0.size)
  have G1 := H1 W0 b0
  clear hW0
  rcases B1 <;> rcases B2 <;> rcases B3 <;> rcases B4
  all_goals
    have T1 : True := trivial
    have T2 : True := trivial
    have T3 : True := trivial
    go_enter Try.func39, Try.ntmps39
    go_wp2_with (first
      | (go_at_call 67; clear T1; rw [HW0.out]; refine G1.mono ?_; rintro e w1 ⟨rfl, h1⟩; have C1 := h1; obtain ⟨x3, x4, x5, x6, x7⟩ := HK w1 C1; have G2 := H2 w1 (HKB.out _ C1))
      | (go_at_call 67; clear T2; refine G2.mono ?_; rintro e w2 ⟨rfl, h2⟩; have C2 := C1.trans (h2.mono C1.size); obtain ⟨y3, y4, y5, y6, y7⟩ := HK w2 C2; have G3 := H3 w2 (HKB.out _ C2))
      | (go_at_call 67; clear T3; refine G3.mono ?_; rintro e w3 ⟨rfl, h3⟩; have C3 := C2.trans (h3.mono C2.size); obtain ⟨z3, z4, z5, z6, z7⟩ := HK w3 C3; have G4 := H4 w3 (HKB.out _ C3))
      | (go_at_call 67; refine G4.mono ?_; rintro e w4 ⟨rfl, h4⟩; have C4 := C3.trans (h4.mono C3.size)))
    go_ret
    first
      | exact ⟨rfl, HKB.out _ C4⟩
      | exact ⟨rfl, HKB.out _ C3⟩
      | exact ⟨rfl, HKB.out _ C2⟩
      | exact ⟨rfl, HKB.out _ C1⟩
set_option maxRecDepth 100000 in
set_option maxHeartbeats 2000000 in
theorem odd_any (v : Value) (n : Int) (L : Nat) (w : World) (hv : Nv w v n L) :
    Calls Try.prog 75 #[v] w fun e w' => e = .returned (.bool (decide (n % 2 = 1))) ∧ Below w.heap.size w w' := by
  obtain ⟨a1, a2, a3, a4, rfl, a5, a6, a7⟩ := hv
  have hlen := a5.len
  by_cases h0 : a2 = 0
  · have hn : n = 0 := by
      have : a4 = [] := List.eq_nil_of_length_eq_zero (by omega)
      rw [← a6, this]; rfl
    subst h0
    rw [hn]
    go_enter Try.func75, Try.ntmps75
    go_wp2
    go_ret
    exact ⟨rfl, Below.refl _ _⟩
  · obtain ⟨b', off, rfl, hlt, hc⟩ := a5.lies.at (by omega)
    match a4, hlen, a6, hc, a5 with
    | [], hlen, _, _, _ => exact absurd hlen.symm h0
    | x :: xs, hlen, a6, hc, a5 =>
      have hc0 : w.cell? ⟨b', off, none⟩ = some (.int .u64 x) := by
        have := hc 0 (by omega)
        simpa using this
      have hx := a5.dg x (by simp)
      have hd : decide (n % 2 = 1) = decide (x % 2 = 1) := by
        have e := a6
        rw [val_cons] at e
        have : n % 2 = x % 2 := by
          rw [← e]
          unfold B64
          generalize val _ xs = v
          omega
        rw [this]
      rw [hd]
      have hpos : (0 : Int) < a2 := by omega
      clear hc a6 hd
      go_enter Try.func75, Try.ntmps75
      go_wp2
      go_ret
      exact ⟨rfl, Below.refl _ _⟩
end Go.Proofs.Ytcobbbamocdbbaa
/-
  The code's discriminant; what isSized asks.
-/
namespace Go.Proofs.Ytcobbbamocdbbaa
open Go.Shelf Go.RowKit
set_option linter.unusedVariables false
set_option linter.unusedSimpArgs false

def discZ (K : Cz) : Int := ((4 * ((K.a * ((K.a * K.a) % K.p)) % K.p)) % K.p + (27 * ((K.b * K.b) % K.p)) % K.p) % K.p
set_option maxRecDepth 100000 in
set_option maxHeartbeats 2000000 in
theorem disc_any (c : Value) (K : Cz) (L : Nat) (w : World) (hc : Cu w c K L) (h0 : K.p ≠ 0) (hL : 1 ≤ L ∧ L ≤ 1000) :
    Calls Try.prog 41 #[c] w fun e w' => ∃ v, e = .returned v ∧ Na w w' v (discZ K) L := by
  obtain ⟨g1, g2, oo, lo, co, vp, va, vb, vx, vy, vn, rfl, c1, c2, c3, c4, c5, c6⟩ := hc
  obtain ⟨a1, a2, a3, a4, rfl, a5⟩ := c1
  obtain ⟨b1, b2, b3, b4, rfl, b5⟩ := c2
  obtain ⟨d1, d2, d3, d4, rfl, d5⟩ := c3
  obtain ⟨e1, e2, e3, e4, rfl, e5⟩ := c4
  obtain ⟨f1, f2, f3, f4, rfl, f5⟩ := c5
  obtain ⟨j1, j2, j3, j4, rfl, j5⟩ := c6
  obtain ⟨n1, n2, hb⟩ := pair_new w #[.int .i64 g1, .int .i64 g2, .slice oo lo co, .slice a1 a2 a3, .slice b1 b2 b3, .slice d1 d2 d3, .slice e1 e2 e3, .slice f1 f2 f3, .slice j1 j2 j3] #[.slice a1 a2 a3] 29 123
  obtain ⟨W, hW⟩ : ∃ W, (w.alloc (.cells #[.int .i64 g1, .int .i64 g2, .slice oo lo co, .slice a1 a2 a3, .slice b1 b2 b3, .slice d1 d2 d3, .slice e1 e2 e3, .slice f1 f2 f3, .slice j1 j2 j3] 29)).alloc (.cells #[.slice a1 a2 a3] 123) = W := ⟨_, rfl⟩
  rw [hW] at n1 n2 hb
  have HK := fun (W' : World) (hW' : Below W.heap.size W W') => (show W'.cell? ⟨w.heap.size + 1, 0, none⟩ = some (.slice a1 a2 a3) ∧ W'.cell? ⟨w.heap.size, 4, none⟩ = some (.slice b1 b2 b3) ∧ W'.cell? ⟨w.heap.size, 5, none⟩ = some (.slice d1 d2 d3) from by
    refine ⟨?_, ?_, ?_⟩
    · rw [cell_of_row _ _ _ _ _ _ (blk_old n2 hW')]; rfl
    · rw [cell_of_row _ _ _ _ _ _ (blk_old n1 hW')]; rfl
    · rw [cell_of_row _ _ _ _ _ _ (blk_old n1 hW')]; rfl)
  have VP := fun (W' : World) (hW' : Below W.heap.size W W') => (show Nv W' (.slice a1 a2 a3) K.p L ∧ Nv W' (.slice b1 b2 b3) K.a L ∧ Nv W' (.slice d1 d2 d3) K.b L from by
    have B := hb.trans (hW'.mono hb.size)
    exact ⟨Nv.old ⟨a1, a2, a3, a4, rfl, a5⟩ B, Nv.old ⟨b1, b2, b3, b4, rfl, b5⟩ B, Nv.old ⟨d1, d2, d3, d4, rfl, d5⟩ B⟩)
  have K3 := HK W (Below.refl _ _)
  have D4 := (Below.refl W.heap.size W).drew
  have K4 := HK W.drew D4
  have V4 := VP W.drew D4
  have H1 := product_any (.slice b1 b2 b3) (.slice b1 b2 b3) (.slice a1 a2 a3) K.a K.a K.p L L W.drew V4.2.1 V4.2.1 V4.1 h0 (by omega)
  have H2 := fun (W' : World) (hW' : Below W.heap.size W W') v n (hv : Nv W' v n L) => product_any (.slice b1 b2 b3) v (.slice a1 a2 a3) K.a n K.p L L W' (VP W' hW').2.1 hv (VP W' hW').1 h0 (by omega)
  have H3 := fun (W' : World) (hW' : Below W.heap.size W W') => product_any (.slice d1 d2 d3) (.slice d1 d2 d3) (.slice a1 a2 a3) K.b K.b K.p L L W' (VP W' hW').2.2 (VP W' hW').2.2 (VP W' hW').1 h0 (by omega)
  have H4 := fun (W' : World) (hW' : Below W.heap.size W W') v n u m (hv : Nv W' v n 1) (hu : Nv W' u m L) => product_any v u (.slice a1 a2 a3) n m K.p L L W' (hv.up hL.1) hu (VP W' hW').1 h0 (by omega)
  have H5 := fun (W' : World) (hW' : Below W.heap.size W W') v n u m (hv : Nv W' v n L) (hu : Nv W' u m L) => plus_any v u (.slice a1 a2 a3) n m K.p L L W' hv hu (VP W' hW').1 h0 (by omega)
  obtain ⟨RZ, hRZ⟩ : ∃ r, discZ K = r := ⟨_, rfl⟩
  have HRZ : Hid (discZ K = RZ) := hRZ
  rw [hRZ]
  have HW : Hid (_ = W) := hW
  have T1 : True := trivial
  clear hW hRZ V4
  go_enter Try.func41, Try.ntmps41
  go_wp2_with fail
  rw [HW.out]
  go_region_held3 (fun W => W.cell? ⟨w.heap.size + 1, 0, none⟩ = some (.slice a1 a2 a3) ∧ W.cell? ⟨w.heap.size, 4, none⟩ = some (.slice b1 b2 b3) ∧ W.cell? ⟨w.heap.size, 5, none⟩ = some (.slice d1 d2 d3))
    (first | exact K3 | exact K4 | exact K5 | exact K6) (first
    | (go_at_call 68; clear T1; refine H1.mono ?_; rintro e w5 ⟨v5, rfl, hv5, hb5⟩; have C5 := D4.trans (hb5.mono D4.size); have K5 := HK w5 C5; have H22 := H2 w5 C5 v5 _ hv5; obtain ⟨o1, o2, o3, o4, rfl, o5⟩ := hv5)
    | (go_at_call 68; refine H22.mono ?_; rintro e w6 ⟨v6, rfl, hv6, hb6⟩; have C6 := C5.trans (hb6.mono C5.size); have K6 := HK w6 C6; have hv6' := hv6; obtain ⟨u1, u2, u3, u4, rfl, u5⟩ := hv6))
  obtain ⟨x1, x2, x3⟩ := HK _ C6
  go_wp2_with fail
  go_at_call 68
  refine (H3 _ C6).mono ?_
  rintro e w7 ⟨v7, rfl, hv7, hb7⟩
  have C7 := C6.trans (hb7.mono C6.size)
  have K7 := HK w7 C7
  have D8 := C7.drew
  have K8 := HK w7.drew D8
  have hv6b := (hv6'.old hb7)
  have hv7' := hv7
  obtain ⟨r1, r2, r3, r4, rfl, r5⟩ := hv7
  have HO4 := of_nv 4 w7.drew (by decide) (by decide)
  have T2 : True := trivial
  have T3 : True := trivial
  clear K3 K4 K5 K6 x1 x2 x3
  go_wp2_with fail
  go_region_held3 (fun W => W.cell? ⟨w.heap.size + 1, 0, none⟩ = some (.slice a1 a2 a3) ∧ W.cell? ⟨w.heap.size, 4, none⟩ = some (.slice b1 b2 b3) ∧ W.cell? ⟨w.heap.size, 5, none⟩ = some (.slice d1 d2 d3))
    (first | exact K7 | exact K8 | exact K9 | exact K10 | exact K11 | exact K12 | exact K13) (first
    | (go_at_call 11; clear T2; refine HO4.mono ?_; rintro e w9 ⟨v9, rfl, hv9, hb9⟩; have E9 := ((Below.refl w7.heap.size w7).drew).trans (hb9.mono (Nat.le_refl _)); have C9 := C7.trans (E9.mono C7.size); have K9 := HK w9 C9; have hu9 := hv6b.old E9; have G9 := H4 w9 C9 v9 _ _ _ hv9 hu9; obtain ⟨s1, s2, s3, s4, rfl, s5⟩ := hv9)
    | (go_at_call 68; clear T3; refine G9.mono ?_; rintro e w10 ⟨v10, rfl, hv10, hb10⟩; have C10 := C9.trans (hb10.mono C9.size); have E10 := E9.trans (hb10.mono E9.size); have K10 := HK w10 C10; have hv10' := hv10; have HO27 := of_nv 27 w10 (by decide) (by decide); obtain ⟨q1, q2, q3, q4, rfl, q5⟩ := hv10)
    | (go_at_call 11; refine HO27.mono ?_; rintro e w11 ⟨v11, rfl, hv11, hb11⟩; have C11 := C10.trans (hb11.mono C10.size); have E11 := E10.trans (hb11.mono E10.size); have K11 := HK w11 C11; have G11 := H4 w11 C11 v11 _ _ _ hv11 (hv7'.old E11); obtain ⟨p1, p2, p3, p4, rfl, p5⟩ := hv11)
    | (go_at_call 68; refine G11.mono ?_; rintro e w12 ⟨v12, rfl, hv12, hb12⟩; have C12 := C11.trans (hb12.mono C11.size); have K12 := HK w12 C12; have G12 := H5 w12 C12 _ _ _ _ (hv10'.old (hb11.trans (hb12.mono hb11.size))) hv12; obtain ⟨m1, m2, m3, m4, rfl, m5⟩ := hv12)
    | (go_at_call 76; refine G12.mono ?_; rintro e w13 ⟨v13, rfl, hv13, hb13⟩; have C13 := C12.trans (hb13.mono C12.size); have K13 := HK w13 C13; have hv13' := hv13; obtain ⟨i1, i2, i3, i4, rfl, i5⟩ := hv13))
  go_wp2
  go_ret
  refine ⟨_, rfl, ?_, hb.trans (C13.mono hb.size)⟩
  rw [← HRZ.out]
  exact hv13'
/-- Are the sizes right? -/
def sizedB (K : Cz) : Bool := decide (blen K.p.toNat ≤ 256) && (decide (blen K.n.toNat ≤ 257) && (decide (3 < K.p) && (decide (K.p % 2 = 1) && decide (1 < K.n))))
theorem len_nv (a : Value) (x : Int) (L : Nat) (w : World) (ha : Nv w a x L) (hL : L ≤ 1000) : Calls Try.prog 72 #[a] w fun e w' => (e = .returned (.int .i64 (blen x.toNat : Nat)) ∧ blen x.toNat ≤ 64000) ∧ w' = w := by
  obtain ⟨ao, la, ca, xs, rfl, h1, rfl, h2⟩ := ha
  refine (Len_any ao la ca xs w h1).mono ?_
  rintro e w' ⟨rfl, rfl⟩
  have := lenOf_le h1.dg 1000 (by have := h1.len; omega)
  rw [lenOf_eq xs h1.dg] at this ⊢
  exact ⟨⟨rfl, this⟩, rfl⟩
end Go.Proofs.Ytcobbbamocdbbaa
