/-
  The code's Add, Base, Size, On.
-/
import Derived.Test.YtdojbknkaoiioaaHD
namespace Go.Proofs.Ytdojbknkaoiioaa
open Go.Shelf Go.RowKit
set_option linter.unusedVariables false
set_option linter.unusedSimpArgs false

theorem norm_nv (a : Value) (x : Int) (L : Nat) (w : World) (ha : Nv w a x L) : Calls Try.prog 73 #[a] w fun e w' => ∃ v, e = .returned v ∧ Na w w' v x L := by
  obtain ⟨ao, la, ca, xs, rfl, h1, rfl, h2⟩ := ha
  refine (Norm_any ao la ca xs w h1).mono ?_
  rintro e w' ⟨v, rfl, h⟩
  exact ⟨v, rfl, h.na.1.up h2, h.na.2⟩
theorem set3_other {w : World} {b j r : Nat} {v d0 d1 d2 : Value} (h : w.cell? ⟨b, j, none⟩ = some v) (hne : b ≠ r) : (((w.setCell ⟨r, 0, none⟩ d0).setCell ⟨r, 1, none⟩ d1).setCell ⟨r, 2, none⟩ d2).cell? ⟨b, j, none⟩ = some v :=
  (World.cell?_of_block (w := w) ((Bt.set3 w r d0 d1 d2).block b (World.block_lt_of_cell? w _ h) hne)).trans h
/-- Two places, one behind the other. -/
theorem two_new (w : World) (pv : Array Value) (t : TypeId) : ((w.alloc (.cells pv t)).alloc (.cells #[.slice none 0 0, .slice none 0 0, .bool false] 43)).heap[w.heap.size]? = some (.cells pv t (0, 0)) ∧ PSl ((w.alloc (.cells pv t)).alloc (.cells #[.slice none 0 0, .slice none 0 0, .bool false] 43)) (w.heap.size + 1) (.slice none 0 0) (.slice none 0 0) (.bool false) ∧ Below w.heap.size w ((w.alloc (.cells pv t)).alloc (.cells #[.slice none 0 0, .slice none 0 0, .bool false] 43)) := by
  have z1 := alloc_sz7 w (.cells pv t)
  have n1 := heap_alloc_new w (.cells pv t)
  have n2 := heap_alloc_new (w.alloc (.cells pv t)) (.cells #[.slice none 0 0, .slice none 0 0, .bool false] 43)
  rw [z1] at n2
  exact ⟨heap_new n1 (by omega), n2, ((Below.refl w.heap.size w).alloc (Nat.le_refl _) _).alloc (by omega) _⟩
set_option maxRecDepth 100000 in
set_option maxHeartbeats 2000000 in
theorem own_any (p : Value) (P : Pz) (L : Nat) (w : World) (hp : Pv w p P L) :
    Calls Try.prog 52 #[p] w fun e w' => ∃ v, e = .returned v ∧ Pv w' v (ownZ P) L ∧ Below w.heap.size w w' := by
  obtain ⟨px, py, rfl, p1, p2⟩ := hp
  have HX := fun W (hW : Below w.heap.size w W) => norm_nv px P.x L W (p1.old hW)
  have HY := fun W (hW : Below w.heap.size w W) => norm_nv py P.y L W (p2.old hW)
  obtain ⟨k1, k2, k3, k4, rfl, k5⟩ := p1
  obtain ⟨l1, l2, l3, l4, rfl, l5⟩ := p2
  have HN := fun W => nothing_any W
  unfold ownZ
  cases hi : P.inf with
  | true =>
    rw [if_pos rfl]
    obtain ⟨f1, s1, hb⟩ := two_new w #[.slice k1 k2 k3, .slice l1 l2 l3, .bool true] 43
    have HN2 := HN ((w.alloc (.cells #[.slice k1 k2 k3, .slice l1 l2 l3, .bool true] 43)).alloc (.cells #[.slice none 0 0, .slice none 0 0, .bool false] 43))
    have HS1 : Hid (PSl _ (w.heap.size + 1) (.slice none 0 0) (.slice none 0 0) (.bool false)) := s1
    clear f1 s1 HN HX HY
    go_enter Try.func52, Try.ntmps52
    go_wp2_with (go_at_call 50; refine HN2.mono ?_; rintro e w3 ⟨rfl, hb3⟩; have s3 := HS1.out.keep hb3; obtain ⟨y0, y1, y2, y3, y4, y5⟩ := s3.facts)
    refine bodyPost_ret (ret_pt1 rfl _ _ (w.heap.size + 1) _ _ _ rfl (s3.set3 (.slice none 0 0) (.slice none 0 0) (.bool true))) rfl ?_
    have bt := Bt.set3 w3 (w.heap.size + 1) (.slice none 0 0) (.slice none 0 0) (.bool true)
    have B3 := hb.trans (hb3.mono hb.size)
    exact ⟨_, rfl, pv_no _ L, B3.trans (bt.below (by omega) B3.size)⟩
  | false =>
    rw [if_neg (by simp)]
    obtain ⟨f1, s1, hb⟩ := two_new w #[.slice k1 k2 k3, .slice l1 l2 l3, .bool false] 43
    obtain ⟨W, hW⟩ : ∃ W, (w.alloc (.cells #[.slice k1 k2 k3, .slice l1 l2 l3, .bool false] 43)).alloc (.cells #[.slice none 0 0, .slice none 0 0, .bool false] 43) = W := ⟨_, rfl⟩
    rw [hW] at f1 s1 hb
    have HK := fun (W' : World) (h' : Below W.heap.size W W') => (show W'.cell? ⟨w.heap.size, 0, none⟩ = some (.slice k1 k2 k3) ∧ W'.cell? ⟨w.heap.size, 1, none⟩ = some (.slice l1 l2 l3) from by
      have f2 := (h'.block _ (Array.getElem?_eq_some_iff.1 f1).1).trans f1
      exact ⟨by rw [cell_of_row _ _ _ _ _ _ f2]; rfl, by rw [cell_of_row _ _ _ _ _ _ f2]; rfl⟩)
    have HW : Hid ((w.alloc (.cells #[.slice k1 k2 k3, .slice l1 l2 l3, .bool false] 43)).alloc (.cells #[.slice none 0 0, .slice none 0 0, .bool false] 43) = W) := hW
    have HX2 := HX W.drew hb.drew
    have K3 := HK W (Below.refl _ _)
    have K4 := HK W.drew (Below.refl _ _).drew
    have T1 : True := trivial
    have HS1 : Hid (PSl W (w.heap.size + 1) (.slice none 0 0) (.slice none 0 0) (.bool false)) := s1
    clear hW HN HX f1 s1
    go_enter Try.func52, Try.ntmps52
    go_wp2_with fail
    rw [HW.out]
    go_region_held3 (fun W => W.cell? ⟨w.heap.size, 0, none⟩ = some (.slice k1 k2 k3) ∧ W.cell? ⟨w.heap.size, 1, none⟩ = some (.slice l1 l2 l3))
      (first | exact K3 | exact K4 | exact K5 | exact K6 | exact ⟨set3_other K6.1 (by omega), set3_other K6.2 (by omega)⟩) (first
      | (go_at_call 73; clear T1; refine HX2.mono ?_; rintro e w5 ⟨v5, rfl, hv5, hb5⟩; have C5 := ((Below.refl W.heap.size W).drew).trans (hb5.mono (Nat.le_refl _)); have K5 := HK w5 C5; have HY2 := HY w5 (hb.trans (C5.mono hb.size)); have hv5' := hv5; obtain ⟨o1, o2, o3, o4, rfl, o5⟩ := hv5)
      | (go_at_call 73; refine HY2.mono ?_; rintro e w6 ⟨v6, rfl, hv6, hb6⟩; have C6 := C5.trans (hb6.mono C5.size); have K6 := HK w6 C6; have hv6' := hv6; obtain ⟨r1, r2, r3, r4, rfl, r5⟩ := hv6; have s6 := HS1.out.keep C6; obtain ⟨y0, y1, y2, y3, y4, y5⟩ := s6.facts))
    go_wp2
    refine bodyPost_ret (ret_pt1 rfl _ _ (w.heap.size + 1) _ _ _ rfl (s6.set3 (.slice o1 o2 o3) (.slice r1 r2 r3) (.bool false))) rfl ?_
    have bt := Bt.set3 w6 (w.heap.size + 1) (.slice o1 o2 o3) (.slice r1 r2 r3) (.bool false)
    have B6 := hb.trans (C6.mono hb.size)
    exact ⟨_, rfl, ⟨_, _, by rw [hi], (hv5'.old hb6).apart s6 bt, hv6'.apart s6 bt⟩, B6.trans (bt.below (by omega) B6.size)⟩
theorem frB_new (w : World) (cv pv qv : Array Value) : PSl ((((w.alloc (.cells cv 29)).alloc (.cells pv 43)).alloc (.cells qv 43)).alloc (.cells #[.slice none 0 0, .slice none 0 0, .bool false] 43)) (w.heap.size + 1 + 1 + 1) (.slice none 0 0) (.slice none 0 0) (.bool false) ∧ Below w.heap.size w ((((w.alloc (.cells cv 29)).alloc (.cells pv 43)).alloc (.cells qv 43)).alloc (.cells #[.slice none 0 0, .slice none 0 0, .bool false] 43)) := by
  have n4 := heap_alloc_new (((w.alloc (.cells cv 29)).alloc (.cells pv 43)).alloc (.cells qv 43)) (.cells #[.slice none 0 0, .slice none 0 0, .bool false] 43)
  rw [alloc_sz7, alloc_sz7, alloc_sz7] at n4
  exact ⟨n4, ((((Below.refl w.heap.size w).alloc (Nat.le_refl _) _).alloc (by rw [alloc_sz7]; omega) _).alloc (by rw [alloc_sz7, alloc_sz7]; omega) _).alloc (by rw [alloc_sz7, alloc_sz7, alloc_sz7]; omega) _⟩
set_option maxRecDepth 100000 in
set_option maxHeartbeats 2000000 in
theorem Add_pt (c p q : Value) (K : Cz) (P Q : Pz) (L : Nat) (w : World) (hc : Cu w c K L) (hp : Pv w p P L) (hq : Pv w q Q L) (hL : 1 ≤ L ∧ L ≤ 1000) :
    Calls Try.prog 20 #[c, p, q] w fun e w' => ∃ r, AddZ K P Q r ∧ Pa w w' e r L := by
  have HA := fun W (hW : Below w.heap.size w W) h0 => addNumbers_any c p q K P Q L W (hc.old hW) (hp.old hW) (hq.old hW) h0 hL
  obtain ⟨g1, g2, oo, lo, co, vp, va, vb, vx, vy, vn, rfl, c1, c2, c3, c4, c5, c6⟩ := hc
  obtain ⟨px, py, rfl, p1, p2⟩ := hp
  obtain ⟨qx, qy, rfl, q1, q2⟩ := hq
  obtain ⟨a1, a2, a3, a4, rfl, a5⟩ := c1
  obtain ⟨b1, b2, b3, b4, rfl, b5⟩ := c2
  obtain ⟨d1, d2, d3, d4, rfl, d5⟩ := c3
  obtain ⟨e1, e2, e3, e4, rfl, e5⟩ := c4
  obtain ⟨f1, f2, f3, f4, rfl, f5⟩ := c5
  obtain ⟨j1, j2, j3, j4, rfl, j5⟩ := c6
  obtain ⟨k1, k2, k3, k4, rfl, k5⟩ := p1
  obtain ⟨l1, l2, l3, l4, rfl, l5⟩ := p2
  obtain ⟨m1, m2, m3, m4, rfl, m5⟩ := q1
  obtain ⟨n1, n2, n3, n4, rfl, n5⟩ := q2
  have FZ := frB_new w #[.int .i64 g1, .int .i64 g2, .slice oo lo co, .slice a1 a2 a3, .slice b1 b2 b3, .slice d1 d2 d3, .slice e1 e2 e3, .slice f1 f2 f3, .slice j1 j2 j3] #[.slice k1 k2 k3, .slice l1 l2 l3, .bool P.inf] #[.slice m1 m2 m3, .slice n1 n2 n3, .bool Q.inf]
  obtain ⟨W, hW⟩ : ∃ W, (((w.alloc (.cells #[.int .i64 g1, .int .i64 g2, .slice oo lo co, .slice a1 a2 a3, .slice b1 b2 b3, .slice d1 d2 d3, .slice e1 e2 e3, .slice f1 f2 f3, .slice j1 j2 j3] 29)).alloc (.cells #[.slice k1 k2 k3, .slice l1 l2 l3, .bool P.inf] 43)).alloc (.cells #[.slice m1 m2 m3, .slice n1 n2 n3, .bool Q.inf] 43)).alloc (.cells #[.slice none 0 0, .slice none 0 0, .bool false] 43) = W := ⟨_, rfl⟩
  rw [hW] at FZ
  obtain ⟨s1, hb⟩ := FZ
  have HZ := isZero_any (.slice a1 a2 a3) K.p L W (Nv.old ⟨a1, a2, a3, a4, rfl, a5⟩ hb)
  have HOP := own_any (.agg #[.slice k1 k2 k3, .slice l1 l2 l3, .bool P.inf]) P L W (Pv.old ⟨_, _, rfl, ⟨k1, k2, k3, k4, rfl, k5⟩, ⟨l1, l2, l3, l4, rfl, l5⟩⟩ hb)
  have HOQ := own_any (.agg #[.slice m1 m2 m3, .slice n1 n2 n3, .bool Q.inf]) Q L W (Pv.old ⟨_, _, rfl, ⟨m1, m2, m3, m4, rfl, m5⟩, ⟨n1, n2, n3, n4, rfl, n5⟩⟩ hb)
  have HAW := fun h0 => HA W hb h0
  have HW : Hid (_ = W) := hW
  have HS1 : Hid (PSl W (w.heap.size + 1 + 1 + 1) (.slice none 0 0) (.slice none 0 0) (.bool false)) := s1
  clear hW HA
  unfold AddZ
  by_cases h0 : K.p = 0
  · have hd : decide (K.p = 0) = true := by simp [h0]
    rw [hd] at HZ
    simp only [if_pos h0]
    have s2 := s1
    clear HOP HOQ HAW
    go_enter Try.func20, Try.ntmps20
    go_wp2_with (go_at_call 47; rw [HW.out]; refine HZ.mono ?_; rintro e w2 ⟨rfl, rfl⟩; obtain ⟨y0, y1, y2, y3, y4, y5⟩ := s2.facts)
    refine bodyPost_ret (ret_pt rfl _ _ (w.heap.size + 1 + 1 + 1) _ _ _ rfl (s2.set3 (.slice none 0 0) (.slice none 0 0) (.bool false))) rfl ?_
    have bt := Bt.set3 w2 (w.heap.size + 1 + 1 + 1) (.slice none 0 0) (.slice none 0 0) (.bool false)
    exact ⟨none, rfl, hb.trans (bt.below (by omega) hb.size), .inr ⟨rfl, rfl⟩⟩
  have hd : decide (K.p = 0) = false := by simp [h0]
  rw [hd] at HZ
  simp only [if_neg h0]
  have HAW2 := HAW h0
  cases hpi : P.inf with
  | true =>
    rw [hpi] at HOP HW
    simp only [if_pos]
    clear HAW HAW2 HOP
    go_enter Try.func20, Try.ntmps20
    go_wp2_with (first
      | (go_at_call 47; rw [HW.out]; refine HZ.mono ?_; rintro e w2 ⟨rfl, rfl⟩; rw [← HW.out])
      | (go_at_call 52; rw [HW.out]; refine HOQ.mono ?_; rintro e w3 ⟨v3, rfl, hv3, hb3⟩; have s3 := HS1.out.keep hb3; obtain ⟨y0, y1, y2, y3, y4, y5⟩ := s3.facts; have hv3' := hv3; obtain ⟨vx, vy, rfl, ⟨o1, o2, o3, o4, rfl, o5⟩, ⟨r1, r2, r3, r4, rfl, r5⟩⟩ := hv3))
    refine bodyPost_ret (ret_pt rfl _ _ (w.heap.size + 1 + 1 + 1) _ _ _ rfl (s3.set3 (.slice o1 o2 o3) (.slice r1 r2 r3) (.bool (ownZ Q).inf))) rfl ?_
    have bt := Bt.set3 w3 (w.heap.size + 1 + 1 + 1) (.slice o1 o2 o3) (.slice r1 r2 r3) (.bool (ownZ Q).inf)
    have B3 := hb.trans (hb3.mono hb.size)
    exact ⟨_, rfl, B3.trans (bt.below (by omega) B3.size), .inl ⟨_, _, rfl, rfl, _, _, rfl, Nv.apart ⟨o1, o2, o3, o4, rfl, o5⟩ s3 bt, Nv.apart ⟨r1, r2, r3, r4, rfl, r5⟩ s3 bt⟩⟩
  | false =>
    rw [hpi] at HOP HAW2 HW
    simp only [if_neg (show ¬ (false = true) by decide)]
    cases hqi : Q.inf with
    | true =>
      rw [hqi] at HW HOQ
      simp only [if_pos]
      clear HAW HAW2 HOQ
      go_enter Try.func20, Try.ntmps20
      go_wp2_with (first
        | (go_at_call 47; rw [HW.out]; refine HZ.mono ?_; rintro e w2 ⟨rfl, rfl⟩; rw [← HW.out])
        | (go_at_call 52; rw [HW.out]; refine HOP.mono ?_; rintro e w3 ⟨v3, rfl, hv3, hb3⟩; have s3 := HS1.out.keep hb3; obtain ⟨y0, y1, y2, y3, y4, y5⟩ := s3.facts; have hv3' := hv3; obtain ⟨vx, vy, rfl, ⟨o1, o2, o3, o4, rfl, o5⟩, ⟨r1, r2, r3, r4, rfl, r5⟩⟩ := hv3))
      refine bodyPost_ret (ret_pt rfl _ _ (w.heap.size + 1 + 1 + 1) _ _ _ rfl (s3.set3 (.slice o1 o2 o3) (.slice r1 r2 r3) (.bool (ownZ P).inf))) rfl ?_
      have bt := Bt.set3 w3 (w.heap.size + 1 + 1 + 1) (.slice o1 o2 o3) (.slice r1 r2 r3) (.bool (ownZ P).inf)
      have B3 := hb.trans (hb3.mono hb.size)
      exact ⟨_, rfl, B3.trans (bt.below (by omega) B3.size), .inl ⟨_, _, rfl, rfl, _, _, rfl, Nv.apart ⟨o1, o2, o3, o4, rfl, o5⟩ s3 bt, Nv.apart ⟨r1, r2, r3, r4, rfl, r5⟩ s3 bt⟩⟩
    | false =>
      rw [hqi] at HW HOQ HAW2
      simp only [if_neg (show ¬ (false = true) by decide)]
      clear HAW HOP HOQ
      go_enter Try.func20, Try.ntmps20
      go_wp2_with (go_at_call 47; rw [HW.out]; refine HZ.mono ?_; rintro e w2 ⟨rfl, rfl⟩; rw [← HW.out])
      rw [HW.out]
      go_at_call 53
      refine HAW2.mono ?_
      rintro e w3 ⟨r, hr, hb3, (⟨v, pz, rfl, rfl, hv3⟩ | ⟨rfl, rfl⟩)⟩
      · have s3 := HS1.out.keep hb3
        obtain ⟨y0, y1, y2, y3, y4, y5⟩ := s3.facts
        obtain ⟨vx, vy, rfl, ⟨o1, o2, o3, o4, rfl, o5⟩, ⟨r1, r2, r3, r4, rfl, r5⟩⟩ := hv3
        have B3 := hb.trans (hb3.mono hb.size)
        go_wp2_with fail
        refine bodyPost_ret (ret_pt rfl _ _ (w.heap.size + 1 + 1 + 1) _ _ _ rfl (s3.set3 (.slice o1 o2 o3) (.slice r1 r2 r3) (.bool pz.inf))) rfl ?_
        have bt := Bt.set3 w3 (w.heap.size + 1 + 1 + 1) (.slice o1 o2 o3) (.slice r1 r2 r3) (.bool pz.inf)
        exact ⟨_, hr, B3.trans (bt.below (by omega) B3.size), .inl ⟨_, _, rfl, rfl, _, _, rfl, Nv.apart ⟨o1, o2, o3, o4, rfl, o5⟩ s3 bt, Nv.apart ⟨r1, r2, r3, r4, rfl, r5⟩ s3 bt⟩⟩
      · have s3 := HS1.out.keep hb3
        obtain ⟨y0, y1, y2, y3, y4, y5⟩ := s3.facts
        have B3 := hb.trans (hb3.mono hb.size)
        go_wp2_with fail
        refine bodyPost_ret (ret_pt rfl _ _ (w.heap.size + 1 + 1 + 1) _ _ _ rfl (s3.set3 (.slice none 0 0) (.slice none 0 0) (.bool false))) rfl ?_
        have bt := Bt.set3 w3 (w.heap.size + 1 + 1 + 1) (.slice none 0 0) (.slice none 0 0) (.bool false)
        exact ⟨_, hr, B3.trans (bt.below (by omega) B3.size), .inr ⟨rfl, rfl⟩⟩
end Go.Proofs.Ytdojbknkaoiioaa
