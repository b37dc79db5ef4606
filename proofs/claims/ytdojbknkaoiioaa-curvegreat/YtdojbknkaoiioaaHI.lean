/-
  The code's discriminant; what isSized asks.
-/
import Derived.Test.YtdojbknkaoiioaaHH
namespace Go.Proofs.Ytdojbknkaoiioaa
open Go.Shelf Go.RowKit
set_option linter.unusedVariables false
set_option linter.unusedSimpArgs false

def discZ (K : Cz) : Int := ((4 * ((K.a * ((K.a * K.a) % K.p)) % K.p)) % K.p + (27 * ((K.b * K.b) % K.p)) % K.p) % K.p
set_option maxRecDepth 100000 in
set_option maxHeartbeats 2000000 in
theorem disc_any (c : Value) (K : Cz) (L : Nat) (w : World) (hc : Cu w c K L) (h0 : K.p ≠ 0) (hL : 1 ≤ L ∧ L ≤ 1000) :
    Calls Try.prog 48 #[c] w fun e w' => ∃ v, e = .returned v ∧ Na w w' v (discZ K) L := by
  obtain ⟨g1, g2, oo, lo, co, vp, va, vb, vx, vy, vn, rfl, c1, c2, c3, c4, c5, c6⟩ := hc
  obtain ⟨a1, a2, a3, a4, rfl, a5⟩ := c1
  obtain ⟨b1, b2, b3, b4, rfl, b5⟩ := c2
  obtain ⟨d1, d2, d3, d4, rfl, d5⟩ := c3
  obtain ⟨e1, e2, e3, e4, rfl, e5⟩ := c4
  obtain ⟨f1, f2, f3, f4, rfl, f5⟩ := c5
  obtain ⟨j1, j2, j3, j4, rfl, j5⟩ := c6
  obtain ⟨n1, n2, hb⟩ := pair_new w #[.int .i64 g1, .int .i64 g2, .slice oo lo co, .slice a1 a2 a3, .slice b1 b2 b3, .slice d1 d2 d3, .slice e1 e2 e3, .slice f1 f2 f3, .slice j1 j2 j3] #[.slice a1 a2 a3] 29 101
  obtain ⟨W, hW⟩ : ∃ W, (w.alloc (.cells #[.int .i64 g1, .int .i64 g2, .slice oo lo co, .slice a1 a2 a3, .slice b1 b2 b3, .slice d1 d2 d3, .slice e1 e2 e3, .slice f1 f2 f3, .slice j1 j2 j3] 29)).alloc (.cells #[.slice a1 a2 a3] 101) = W := ⟨_, rfl⟩
  rw [hW] at n1 n2 hb
  have HK := fun (W' : World) (hW' : Below W.heap.size W W') => (show W'.cell? ⟨w.heap.size + 1, 0, none⟩ = some (.slice a1 a2 a3) ∧ W'.cell? ⟨w.heap.size, 4, none⟩ = some (.slice b1 b2 b3) ∧ W'.cell? ⟨w.heap.size, 5, none⟩ = some (.slice d1 d2 d3) from by
    refine ⟨?_, ?_, ?_⟩
    · rw [cell_of_row _ _ _ _ _ _ (blk_old n2 hW')]; rfl
    · rw [cell_of_row _ _ _ _ _ _ (blk_old n1 hW')]; rfl
    · rw [cell_of_row _ _ _ _ _ _ (blk_old n1 hW')]; rfl)
  have VP := fun (W' : World) (hW' : Below W.heap.size W W') => (show Nv W' (.slice a1 a2 a3) K.p L ∧ Nv W' (.slice b1 b2 b3) K.a L ∧ Nv W' (.slice d1 d2 d3) K.b L from by
    have B := hb.trans (hW'.mono hb.size)
    exact ⟨Nv.old ⟨a1, a2, a3, a4, rfl, a5⟩ B, Nv.old ⟨b1, b2, b3, b4, rfl, b5⟩ B, Nv.old ⟨d1, d2, d3, d4, rfl, d5⟩ B⟩)
  have K3 := HK W (Below.refl _ _)
  have D4 := (Below.refl W.heap.size W).drew
  have K4 := HK W.drew D4
  have V4 := VP W.drew D4
  have H1 := product_any (.slice b1 b2 b3) (.slice b1 b2 b3) (.slice a1 a2 a3) K.a K.a K.p L L W.drew V4.2.1 V4.2.1 V4.1 h0 (by omega)
  have H2 := fun (W' : World) (hW' : Below W.heap.size W W') v n (hv : Nv W' v n L) => product_any (.slice b1 b2 b3) v (.slice a1 a2 a3) K.a n K.p L L W' (VP W' hW').2.1 hv (VP W' hW').1 h0 (by omega)
  have H3 := fun (W' : World) (hW' : Below W.heap.size W W') => product_any (.slice d1 d2 d3) (.slice d1 d2 d3) (.slice a1 a2 a3) K.b K.b K.p L L W' (VP W' hW').2.2 (VP W' hW').2.2 (VP W' hW').1 h0 (by omega)
  have H4 := fun (W' : World) (hW' : Below W.heap.size W W') v n u m (hv : Nv W' v n 1) (hu : Nv W' u m L) => product_any v u (.slice a1 a2 a3) n m K.p L L W' (hv.up hL.1) hu (VP W' hW').1 h0 (by omega)
  have H5 := fun (W' : World) (hW' : Below W.heap.size W W') v n u m (hv : Nv W' v n L) (hu : Nv W' u m L) => plus_any v u (.slice a1 a2 a3) n m K.p L L W' hv hu (VP W' hW').1 h0 (by omega)
  obtain ⟨RZ, hRZ⟩ : ∃ r, discZ K = r := ⟨_, rfl⟩
  have HRZ : Hid (discZ K = RZ) := hRZ
  rw [hRZ]
  have HW : Hid (_ = W) := hW
  have T1 : True := trivial
  clear hW hRZ V4
  go_enter Try.func48, Try.ntmps48
  go_wp2_with fail
  rw [HW.out]
  go_region_held3 (fun W => W.cell? ⟨w.heap.size + 1, 0, none⟩ = some (.slice a1 a2 a3) ∧ W.cell? ⟨w.heap.size, 4, none⟩ = some (.slice b1 b2 b3) ∧ W.cell? ⟨w.heap.size, 5, none⟩ = some (.slice d1 d2 d3))
    (first | exact K3 | exact K4 | exact K5 | exact K6) (first
    | (go_at_call 58; clear T1; refine H1.mono ?_; rintro e w5 ⟨v5, rfl, hv5, hb5⟩; have C5 := D4.trans (hb5.mono D4.size); have K5 := HK w5 C5; have H22 := H2 w5 C5 v5 _ hv5; obtain ⟨o1, o2, o3, o4, rfl, o5⟩ := hv5)
    | (go_at_call 58; refine H22.mono ?_; rintro e w6 ⟨v6, rfl, hv6, hb6⟩; have C6 := C5.trans (hb6.mono C5.size); have K6 := HK w6 C6; have hv6' := hv6; obtain ⟨u1, u2, u3, u4, rfl, u5⟩ := hv6))
  obtain ⟨x1, x2, x3⟩ := HK _ C6
  go_wp2_with fail
  go_at_call 58
  refine (H3 _ C6).mono ?_
  rintro e w7 ⟨v7, rfl, hv7, hb7⟩
  have C7 := C6.trans (hb7.mono C6.size)
  have K7 := HK w7 C7
  have D8 := C7.drew
  have K8 := HK w7.drew D8
  have hv6b := (hv6'.old hb7)
  have hv7' := hv7
  obtain ⟨r1, r2, r3, r4, rfl, r5⟩ := hv7
  have HO4 := of_nv 4 w7.drew (by decide) (by decide)
  have T2 : True := trivial
  have T3 : True := trivial
  clear K3 K4 K5 K6 x1 x2 x3
  go_wp2_with fail
  go_region_held3 (fun W => W.cell? ⟨w.heap.size + 1, 0, none⟩ = some (.slice a1 a2 a3) ∧ W.cell? ⟨w.heap.size, 4, none⟩ = some (.slice b1 b2 b3) ∧ W.cell? ⟨w.heap.size, 5, none⟩ = some (.slice d1 d2 d3))
    (first | exact K7 | exact K8 | exact K9 | exact K10 | exact K11 | exact K12 | exact K13) (first
    | (go_at_call 12; clear T2; refine HO4.mono ?_; rintro e w9 ⟨v9, rfl, hv9, hb9⟩; have E9 := ((Below.refl w7.heap.size w7).drew).trans (hb9.mono (Nat.le_refl _)); have C9 := C7.trans (E9.mono C7.size); have K9 := HK w9 C9; have hu9 := hv6b.old E9; have G9 := H4 w9 C9 v9 _ _ _ hv9 hu9; obtain ⟨s1, s2, s3, s4, rfl, s5⟩ := hv9)
    | (go_at_call 58; clear T3; refine G9.mono ?_; rintro e w10 ⟨v10, rfl, hv10, hb10⟩; have C10 := C9.trans (hb10.mono C9.size); have E10 := E9.trans (hb10.mono E9.size); have K10 := HK w10 C10; have hv10' := hv10; have HO27 := of_nv 27 w10 (by decide) (by decide); obtain ⟨q1, q2, q3, q4, rfl, q5⟩ := hv10)
    | (go_at_call 12; refine HO27.mono ?_; rintro e w11 ⟨v11, rfl, hv11, hb11⟩; have C11 := C10.trans (hb11.mono C10.size); have E11 := E10.trans (hb11.mono E10.size); have K11 := HK w11 C11; have G11 := H4 w11 C11 v11 _ _ _ hv11 (hv7'.old E11); obtain ⟨p1, p2, p3, p4, rfl, p5⟩ := hv11)
    | (go_at_call 58; refine G11.mono ?_; rintro e w12 ⟨v12, rfl, hv12, hb12⟩; have C12 := C11.trans (hb12.mono C11.size); have K12 := HK w12 C12; have G12 := H5 w12 C12 _ _ _ _ (hv10'.old (hb11.trans (hb12.mono hb11.size))) hv12; obtain ⟨m1, m2, m3, m4, rfl, m5⟩ := hv12)
    | (go_at_call 72; refine G12.mono ?_; rintro e w13 ⟨v13, rfl, hv13, hb13⟩; have C13 := C12.trans (hb13.mono C12.size); have K13 := HK w13 C13; have hv13' := hv13; obtain ⟨i1, i2, i3, i4, rfl, i5⟩ := hv13))
  go_wp2
  go_ret
  refine ⟨_, rfl, ?_, hb.trans (C13.mono hb.size)⟩
  rw [← HRZ.out]
  exact hv13'
/-- Are the sizes right? -/
def sizedB (K : Cz) : Bool := decide (blen K.p.toNat ≤ 256) && (decide (blen K.n.toNat ≤ 257) && (decide (3 < K.p) && (decide (K.p % 2 = 1) && decide (1 < K.n))))
theorem len_nv (a : Value) (x : Int) (L : Nat) (w : World) (ha : Nv w a x L) (hL : L ≤ 1000) : Calls Try.prog 30 #[a] w fun e w' => (e = .returned (.int .i64 (blen x.toNat : Nat)) ∧ blen x.toNat ≤ 64000) ∧ w' = w := by
  obtain ⟨ao, la, ca, xs, rfl, h1, rfl, h2⟩ := ha
  refine (Len_any ao la ca xs w h1).mono ?_
  rintro e w' ⟨rfl, rfl⟩
  have := lenOf_le h1.dg 1000 (by have := h1.len; omega)
  rw [lenOf_eq xs h1.dg] at this ⊢
  exact ⟨⟨rfl, this⟩, rfl⟩
end Go.Proofs.Ytdojbknkaoiioaa
