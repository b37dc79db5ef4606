/-
  One of the laws' three curves; ecdsa's Digest.
-/
import Derived.Test.YtdojbknkaoiioaaHN
import Derived.Test.YtdojbknkaoiioaaRefT
import Derived.Test.YtdojbknkaoiioaaRefR
namespace Go.Proofs.Ytdojbknkaoiioaa
open Go.Shelf Go.RowKit
set_option linter.unusedVariables false
set_option linter.unusedSimpArgs false

theorem curZ_lim (j : Nat) : (0 ≤ (curZ j).p ∧ (curZ j).p < 18446744073709551616) ∧ (0 ≤ (curZ j).a ∧ (curZ j).a < 18446744073709551616) ∧ (0 ≤ (curZ j).b ∧ (curZ j).b < 18446744073709551616) ∧ (0 ≤ (curZ j).gx ∧ (curZ j).gx < 18446744073709551616) ∧ (0 ≤ (curZ j).gy ∧ (curZ j).gy < 18446744073709551616) ∧ (0 ≤ (curZ j).n ∧ (curZ j).n < 18446744073709551616) := by
  unfold curZ
  split <;> decide
theorem CuN.cu {W : World} {v : Value} {j : Nat} (h : CuN W v (curZ j)) : Cu W v (curZ j) 1 := by
  obtain ⟨g1, g2, oo, lo, co, vp, va, vb, vx, vy, vn, e, h1, h2, h3, h4, h5, h6⟩ := h
  obtain ⟨l1, l2, l3, l4, l5, l6⟩ := curZ_lim j
  exact ⟨g1, g2, oo, lo, co, vp, va, vb, vx, vy, vn, e, h1.nv l1, h2.nv l2, h3.nv l3, h4.nv l4, h5.nv l5, h6.nv l6⟩
/-- The cells of a curve. -/
structure CuAt (W : World) (g o : Nat) (g1 g2 : Int) (oo : Option Addr) (lo co : Nat) (b0 b1 b2 b3 b4 b5 : Nat) : Prop where
  c0 : W.cell? ⟨g, o, none⟩ = some (.int .i64 g1)
  c1 : W.cell? ⟨g, o + 1, none⟩ = some (.int .i64 g2)
  c2 : W.cell? ⟨g, o + 2, none⟩ = some (.slice oo lo co)
  c3 : W.cell? ⟨g, o + 3, none⟩ = some (.slice (some ⟨b0, 0, none⟩) 1 1)
  c4 : W.cell? ⟨g, o + 4, none⟩ = some (.slice (some ⟨b1, 0, none⟩) 1 1)
  c5 : W.cell? ⟨g, o + 5, none⟩ = some (.slice (some ⟨b2, 0, none⟩) 1 1)
  c6 : W.cell? ⟨g, o + 6, none⟩ = some (.slice (some ⟨b3, 0, none⟩) 1 1)
  c7 : W.cell? ⟨g, o + 7, none⟩ = some (.slice (some ⟨b4, 0, none⟩) 1 1)
  c8 : W.cell? ⟨g, o + 8, none⟩ = some (.slice (some ⟨b5, 0, none⟩) 1 1)
abbrev curV (g1 g2 : Int) (oo : Option Addr) (lo co : Nat) (b0 b1 b2 b3 b4 b5 : Nat) : Value := .agg #[.int .i64 g1, .int .i64 g2, .slice oo lo co, .slice (some ⟨b0, 0, none⟩) 1 1, .slice (some ⟨b1, 0, none⟩) 1 1, .slice (some ⟨b2, 0, none⟩) 1 1, .slice (some ⟨b3, 0, none⟩) 1 1, .slice (some ⟨b4, 0, none⟩) 1 1, .slice (some ⟨b5, 0, none⟩) 1 1]
theorem cur_at {W : World} {base : Nat} {v : Value} {xs : List Value} (ho : W.ownsRow base 29 9 v 3 xs) (hl : CuL W 3 xs) : ∃ g cap, v = .slice (some ⟨g, 0, none⟩) 3 cap ∧ 3 ≤ cap ∧ cap ≤ maxLen ∧ ∀ j, j < 3 → ∃ g1 g2 oo lo co b0 b1 b2 b3 b4 b5, CuAt W g (9 * j) g1 g2 oo lo co b0 b1 b2 b3 b4 b5 ∧ Cu W (curV g1 g2 oo lo co b0 b1 b2 b3 b4 b5) (curZ j) 1 := by
  obtain ⟨g, cap, rfl, hb, hlt⟩ := ho.form (by decide)
  have hcap : 3 ≤ cap ∧ cap ≤ maxLen := by
    rcases ho.2 with ⟨h, _⟩ | ⟨g', cap', cur, h, _, _, h1, h2, _⟩
    · cases h
    · cases h; exact ⟨h1, h2⟩
  refine ⟨g, cap, rfl, hcap.1, hcap.2, fun j hj => ?_⟩
  have h := hl j hj
  have hcu := h.cu
  obtain ⟨g1, g2, oo, lo, co, vp, va, vb, vx, vy, vn, e, ⟨b0, rfl, _⟩, ⟨b1, rfl, _⟩, ⟨b2, rfl, _⟩, ⟨b3, rfl, _⟩, ⟨b4, rfl, _⟩, ⟨b5, rfl, _⟩⟩ := h
  rw [e] at hcu
  refine ⟨g1, g2, oo, lo, co, b0, b1, b2, b3, b4, b5, ?_, hcu⟩
  injection e with e
  have e2 : (xs.drop (9 * j)).take 9 = [.int .i64 g1, .int .i64 g2, .slice oo lo co, .slice (some ⟨b0, 0, none⟩) 1 1, .slice (some ⟨b1, 0, none⟩) 1 1, .slice (some ⟨b2, 0, none⟩) 1 1, .slice (some ⟨b3, 0, none⟩) 1 1, .slice (some ⟨b4, 0, none⟩) 1 1, .slice (some ⟨b5, 0, none⟩) 1 1] := congrArg Array.toList e
  have hc : ∀ i, i < 9 → W.cell? ⟨g, 9 * j + i, none⟩ = ((xs.drop (9 * j)).take 9)[i]? := fun i hi => by
    rw [ho.cellAt (9 * j + i) (by omega), List.getElem?_take, if_pos hi, List.getElem?_drop]
  rw [e2] at hc
  exact ⟨hc 0 (by decide), hc 1 (by decide), hc 2 (by decide), hc 3 (by decide), hc 4 (by decide), hc 5 (by decide), hc 6 (by decide), hc 7 (by decide), hc 8 (by decide)⟩
theorem CuAt.keep {W W' : World} {g o : Nat} {g1 g2 : Int} {oo : Option Addr} {lo co b0 b1 b2 b3 b4 b5 : Nat} (h : CuAt W g o g1 g2 oo lo co b0 b1 b2 b3 b4 b5) (hb : Below W.heap.size W W') : CuAt W' g o g1 g2 oo lo co b0 b1 b2 b3 b4 b5 := by
  have hk : ∀ (i : Nat) (x : Value), W.cell? ⟨g, i, none⟩ = some x → W'.cell? ⟨g, i, none⟩ = some x := fun i x hx => (hb.cell (p := ⟨g, i, none⟩) (World.block_lt_of_cell? W _ hx)).trans hx
  exact ⟨hk _ _ h.c0, hk _ _ h.c1, hk _ _ h.c2, hk _ _ h.c3, hk _ _ h.c4, hk _ _ h.c5, hk _ _ h.c6, hk _ _ h.c7, hk _ _ h.c8⟩
/-- A hash's first bits. -/
def digZ (N : Int) (n : Nat) (bs : List Int) : Int := val 256 (bs.take (min n ((blen N.toNat + 7) / 8))).reverse / 2 ^ (8 * min n ((blen N.toNat + 7) / 8) - blen N.toNat)
theorem digZ_eq (N : Int) (n : Nat) (bs : List Int) (hn : bs.length = n) (hd : Dg 256 bs) : digZ N n bs = val 256 bs.reverse / 2 ^ (8 * n - blen N.toNat) := by
  unfold digZ
  generalize blen N.toNat = L
  by_cases h : n ≤ (L + 7) / 8
  · rw [Nat.min_eq_left h, List.take_of_length_le (by omega)]
  · rw [Nat.min_eq_right (by omega)]
    obtain ⟨m, hm⟩ : ∃ m, (L + 7) / 8 = m := ⟨_, rfl⟩
    rw [hm]
    have e : bs.reverse = (bs.drop m).reverse ++ (bs.take m).reverse := by rw [← List.reverse_append, List.take_append_drop]
    rw [e, val_append]
    have hdd : Dg 256 (bs.drop m).reverse := fun x hx => hd x (List.mem_of_mem_drop (List.mem_reverse.1 hx))
    have h0 := val_nonneg (by decide : (0 : Int) < 256) hdd
    have h1 := val_lt (by decide : (0 : Int) < 256) hdd
    have hl : (bs.drop m).reverse.length = n - m := by simp [hn]
    rw [hl] at h1 ⊢
    have e2 : (2 : Int) ^ (8 * n - L) = 256 ^ (n - m) * 2 ^ (8 * m - L) := by
      rw [show (256 : Int) = 2 ^ 8 by decide, ← Int.pow_mul, ← Int.pow_add]
      congr 1
      omega
    rw [e2, ← Int.ediv_ediv_of_nonneg (Int.le_of_lt (Int.pow_pos (by decide)))]
    congr 1
    rw [Int.add_mul_ediv_left _ _ (Int.ne_of_gt (Int.pow_pos (by decide))), Int.ediv_eq_zero_of_lt h0 h1, Int.zero_add]
set_option maxRecDepth 100000 in
set_option maxHeartbeats 2000000 in
theorem Digest_any (c : Value) (K : Cz) (L : Nat) (ao : Option Addr) (n ca : Nat) (bs : List Int) (w : World) (hc : Cu w c K L) (hL : L ≤ 100) (h : NumIn .u8 256 w ao n ca bs) (hn : n ≤ 512) :
    Calls Try.prog 37 #[c, .slice ao n ca] w fun e w' => ∃ v, e = .returned v ∧ NumOut .u64 B64 w w' v (digZ K.n n bs) 64 := by
  obtain ⟨g1, g2, oo, lo, co, vp, va, vb, vx, vy, vn, rfl, c1, c2, c3, c4, c5, c6⟩ := hc
  obtain ⟨a1, a2, a3, a4, rfl, a5⟩ := c1
  obtain ⟨b1, b2, b3, b4, rfl, b5⟩ := c2
  obtain ⟨d1, d2, d3, d4, rfl, d5⟩ := c3
  obtain ⟨e1, e2, e3, e4, rfl, e5⟩ := c4
  obtain ⟨f1, f2, f3, f4, rfl, f5⟩ := c5
  obtain ⟨j1, j2, j3, j4, rfl, j5⟩ := c6
  have b0 := (Below.refl w.heap.size w).alloc (Nat.le_refl _) (.cells #[.int .i64 g1, .int .i64 g2, .slice oo lo co, .slice a1 a2 a3, .slice b1 b2 b3, .slice d1 d2 d3, .slice e1 e2 e3, .slice f1 f2 f3, .slice j1 j2 j3] 29)
  have HL := Len_any j1 j2 j3 j4 _ (j5.1.old b0)
  have hbl : lenOf j4 ≤ 64000 := lenOf_le j5.1.dg 1000 (by have := j5.1.len; have := j5.2.2; omega)
  rw [lenOf_eq j4 j5.1.dg, j5.2.1] at HL hbl
  obtain ⟨N, hN⟩ : ∃ N, blen K.n.toNat = N := ⟨_, rfl⟩
  rw [hN] at HL hbl
  have hlc := h.lc
  have hcm := h.cm
  unfold maxLen at hcm
  obtain ⟨m, hm⟩ : ∃ m, min n ((N + 7) / 8) = m := ⟨_, rfl⟩
  have hm1 : m ≤ n ∧ m ≤ (N + 7) / 8 := by omega
  have HR := fun W (hW : Below w.heap.size w W) => Read_yes ao m ca (bs.take m) W ((h.old hW).take m hm1.1) (by omega)
  have hmin : (min (n : Int) (((N : Int) + 7) / 8)).toNat = m := by omega
  have hmi2 : min (n : Int) (((N : Int) + 7) / 8) = m := by omega
  have HM : Hid (min n ((N + 7) / 8) = m) := hm
  clear hm
  go_enter Try.func37, Try.ntmps37
  go_wp2_with (go_at_call 30; refine HL.mono ?_; rintro e w1 ⟨rfl, rfl⟩)
  go_at_call 67
  refine (HR _ b0).mono ?_
  rintro e w2 ⟨v, rfl, p1, p2, p3, p4, rfl, hp, _, hv, hpl, hb2⟩
  have B2 := b0.trans (hb2.mono b0.size)
  have HSH := Shift_plus p1 p2 p3 p4 (8 * m - N) (max 0 (8 * (m : Int) - N)) w2 hp (by omega) (by omega)
  clear HL
  go_wp2_with fail
  go_at_call 68
  refine HSH.mono ?_
  rintro e w3 ⟨v3, rfl, r1, r2, r3, r4, rfl, hr, hcan, hrv, hrl, hb3⟩
  go_wp2
  go_ret
  refine ⟨_, rfl, r1, r2, r3, r4, rfl, hr, hcan, ?_, by omega, B2.trans (hb3.mono B2.size)⟩
  rw [hrv, hv, ← hN]
  unfold digZ
  rw [hN, HM.out]
end Go.Proofs.Ytdojbknkaoiioaa
