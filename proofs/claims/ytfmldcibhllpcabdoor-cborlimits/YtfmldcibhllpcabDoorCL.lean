/-
  Keys, in the code: which is ahead.
-/
import Derived.Test.YtfmldcibhllpcabDoorCK
import Derived.Deep.RegionHeld3
namespace Go.Proofs.YtfmldcibhllpcabDoor
open Go.Shelf Go.RowKit
set_option linter.unusedVariables false
set_option linter.unusedSimpArgs false

theorem cell_allocC {w : World} {o : Obj} {p : Addr} {v : Value} (h : w.cell? p = some v) : (w.alloc o).cell? p = some v := by
  rw [← h]
  exact World.cell?_of_block (w := w) (heap_alloc_old w _ (World.block_lt_of_cell? w p h))
/-- How a key stands to another one. -/
def cmpK (a b : It) : Int := if cmpN a.kind b.kind ≠ 0 then cmpN a.kind b.kind else if numK a.kind then cmpN a.n b.n else if cmpN a.b.length b.b.length ≠ 0 then cmpN a.b.length b.b.length else Lib.compareBytes a.b b.b
theorem cmpN_rng (a b : Nat) : cmpN a b = -1 ∨ cmpN a b = 0 ∨ cmpN a b = 1 := by
  unfold cmpN
  repeat' split
  all_goals simp
theorem cmpN_lt (a b : Nat) : cmpN a b < 0 ↔ a < b := by
  unfold cmpN
  repeat' split
  all_goals omega
theorem cmpN_zero (a b : Nat) : cmpN a b = 0 ↔ a = b := by
  unfold cmpN
  repeat' split
  all_goals omega
theorem compareBytes_rng : ∀ (x y : Bs), Lib.compareBytes x y = -1 ∨ Lib.compareBytes x y = 0 ∨ Lib.compareBytes x y = 1
  | [], [] => by simp [Lib.compareBytes]
  | [], _ :: _ => by simp [Lib.compareBytes]
  | _ :: _, [] => by simp [Lib.compareBytes]
  | a :: x, b :: y => by
    unfold Lib.compareBytes
    have := compareBytes_rng x y
    repeat' split
    all_goals first | exact this | simp
theorem compareBytes_lt : ∀ (x y : Bs), Lib.compareBytes x y < 0 ↔ ltB x y = true
  | [], [] => by simp [Lib.compareBytes, ltB]
  | [], _ :: _ => by simp [Lib.compareBytes, ltB]
  | _ :: _, [] => by simp [Lib.compareBytes, ltB]
  | a :: x, b :: y => by
    have ih := compareBytes_lt x y
    unfold Lib.compareBytes ltB
    by_cases h1 : a < b
    · have hne : a ≠ b := by rintro rfl; exact absurd h1 (by simp [UInt8.lt_iff_toNat_lt])
      rw [if_pos h1, if_neg hne]
      simpa [UInt8.lt_iff_toNat_lt] using h1
    · rw [if_neg h1]
      by_cases h2 : b < a
      · have hne : a ≠ b := by rintro rfl; exact h1 h2
        rw [if_pos h2, if_neg hne]
        simp [UInt8.lt_iff_toNat_lt] at h1 ⊢
        exact h1
      · have he : a = b := by
          apply UInt8.toNat.inj
          simp [UInt8.lt_iff_toNat_lt] at h1 h2
          omega
        rw [if_neg h2, if_pos he]
        exact ih
theorem compareBytes_zero : ∀ (x y : Bs), Lib.compareBytes x y = 0 ↔ x = y
  | [], [] => by simp [Lib.compareBytes]
  | [], _ :: _ => by simp [Lib.compareBytes]
  | _ :: _, [] => by simp [Lib.compareBytes]
  | a :: x, b :: y => by
    have ih := compareBytes_zero x y
    unfold Lib.compareBytes
    by_cases h1 : a < b
    · have hne : a ≠ b := by rintro rfl; exact absurd h1 (by simp [UInt8.lt_iff_toNat_lt])
      rw [if_pos h1]
      simp [hne]
    · rw [if_neg h1]
      by_cases h2 : b < a
      · have hne : a ≠ b := by rintro rfl; exact h1 h2
        rw [if_pos h2]
        simp [hne]
      · have he : a = b := by
          apply UInt8.toNat.inj
          simp [UInt8.lt_iff_toNat_lt] at h1 h2
          omega
        rw [if_neg h2, ih]
        simp [he]
theorem cmpK_ahead (a b : It) : 0 ≤ cmpK a b ↔ aheadC a b = false := by
  unfold cmpK aheadC
  by_cases h1 : a.kind = b.kind
  · have e1 : cmpN a.kind b.kind = 0 := (cmpN_zero _ _).2 h1
    rw [if_neg (show ¬ (cmpN a.kind b.kind ≠ 0) from fun h => h e1), if_neg (show ¬ (a.kind ≠ b.kind) from fun h => h h1)]
    by_cases h2 : a.kind = 1 ∨ a.kind = 2
    · rw [if_pos (show numK a.kind = true by simpa [numK] using h2), if_pos h2]
      have := cmpN_lt a.n b.n
      simp
      omega
    · rw [if_neg (show ¬ (numK a.kind = true) by simpa [numK] using h2), if_neg h2]
      by_cases h3 : a.b.length = b.b.length
      · rw [if_neg (show ¬ (cmpN a.b.length b.b.length ≠ 0) from fun h => h ((cmpN_zero _ _).2 h3)), if_neg (show ¬ (a.b.length ≠ b.b.length) from fun h => h h3)]
        have := compareBytes_lt a.b b.b
        cases hq : ltB a.b b.b
        · rw [hq] at this; simp at this ⊢; omega
        · rw [hq] at this; simp at this ⊢; omega
      · have e3 : cmpN a.b.length b.b.length ≠ 0 := fun e => h3 ((cmpN_zero _ _).1 e)
        rw [if_pos e3, if_pos (show a.b.length ≠ b.b.length from h3)]
        have := cmpN_lt a.b.length b.b.length
        simp
        omega
  · have e1 : cmpN a.kind b.kind ≠ 0 := fun e => h1 ((cmpN_zero _ _).1 e)
    rw [if_pos e1, if_pos (show a.kind ≠ b.kind from h1)]
    have := cmpN_lt a.kind b.kind
    simp
    omega
theorem keyK_C (i : It) : keyK i.kind = keyC i := by
  unfold keyK keyC
  by_cases h : 1 ≤ i.kind <;> by_cases h2 : i.kind ≤ 4 <;> simp [h, h2]

set_option maxRecDepth 100000 in
set_option maxHeartbeats 2000000 in
/-- cmp.Or of two numbers. -/
theorem or2_any (b : Nat) (x y : Int) (w : World) (h0 : w.cell? ⟨b, 0, none⟩ = some (.int .i64 x)) (h1 : w.cell? ⟨b, 1, none⟩ = some (.int .i64 y)) : Calls Tryd.prog 44 #[.slice (some ⟨b, 0, none⟩) 2 2] w fun e w' => e = .returned (.int .i64 (if x ≠ 0 then x else y)) ∧ w' = w := by
  obtain ⟨r, hr⟩ : ∃ r, (if x ≠ 0 then x else y) = r := ⟨_, rfl⟩
  rw [hr]
  have HR : Hid ((if x ≠ 0 then x else y) = r) := hr
  clear hr
  go_enter Tryd.func44, Tryd.ntmps44
  go_wp2
  go_loopw [8] (fun v8 wr => ∃ j : Nat, v8 = .int .i64 (j : Int) ∧ j ≤ 2 ∧ (1 ≤ j → x = 0) ∧ (2 ≤ j → y = 0) ∧ wr = w) (fun v8 _ => 2 - (intOf v8).toNat)
  case atStart => exact ⟨0, rfl, by omega, fun h => by omega, fun h => by omega, rfl⟩
  case round =>
    obtain ⟨j, rfl, hj, hx0, hy0, rfl⟩ := hrel
    rcases (by omega : j = 0 ∨ j = 1 ∨ j = 2) with rfl | rfl | rfl
    · by_cases hx : x = 0
      · subst hx
        go_wp2
        exact ⟨⟨1, rfl, by omega, fun _ => trivial, fun h => by omega, trivial⟩, by decide⟩
      · have hxb : (x != 0) = true := by simp [hx]
        go_wp2
        go_ret
        exact ⟨by rw [← HR.out, if_pos hx]; rfl, rfl⟩
    · have hx := hx0 (Nat.le_refl _)
      subst hx
      by_cases hy : y = 0
      · subst hy
        go_wp2
        exact ⟨⟨2, rfl, by omega, fun _ => trivial, fun _ => trivial, trivial⟩, by decide⟩
      · have hyb : (y != 0) = true := by simp [hy]
        go_wp2
        go_ret
        exact ⟨by rw [← HR.out, if_neg (by simp)]; rfl, rfl⟩
    · have hx := hx0 (by omega)
      have hy := hy0 (by omega)
      subst hx hy
      go_wp2
      go_ret
      exact ⟨by rw [← HR.out, if_neg (by simp)]; rfl, rfl⟩

set_option maxRecDepth 100000 in
set_option maxHeartbeats 2000000 in
/-- compareKeys. -/
theorem compareKeys_any (a b : It) (p1 p2 : Option Addr) (n1 n2 c1 c2 : Nat) (v1 v2 : Value) (w : World) (ha : a.kind < 256) (hb : b.kind < 256) (hna : a.n < 18446744073709551616) (hnb : b.n < 18446744073709551616) (h1 : BAt w p1 n1 a.b) (h2 : BAt w p2 n2 b.b) (hl1 : a.b.length = n1) (hl2 : b.b.length = n2) (hm1 : n1 ≤ 9223372036854775807) (hm2 : n2 ≤ 9223372036854775807) :
    Calls Tryd.prog 38 #[.agg #[.int .u8 (a.kind : Int), .int .u64 (a.n : Int), .slice p1 n1 c1, v1], .agg #[.int .u8 (b.kind : Int), .int .u64 (b.n : Int), .slice p2 n2 c2, v2]] w fun e w' => e = .returned (.int .i64 (cmpK a b)) ∧ Below w.heap.size w w' := by
  obtain ⟨r, hr⟩ : ∃ r, cmpK a b = r := ⟨_, rfl⟩
  rw [hr]
  obtain ⟨K1, hK1⟩ : ∃ K, a.kind = K := ⟨_, rfl⟩
  obtain ⟨K2, hK2⟩ : ∃ K, b.kind = K := ⟨_, rfl⟩
  obtain ⟨N1, hN1⟩ : ∃ K, a.n = K := ⟨_, rfl⟩
  obtain ⟨N2, hN2⟩ : ∃ K, b.n = K := ⟨_, rfl⟩
  unfold cmpK at hr
  rw [hK1, hK2, hN1, hN2, hl1, hl2] at hr
  rw [hK1] at ha
  rw [hK2] at hb
  rw [hN1] at hna
  rw [hN2] at hnb
  rw [hK1, hK2, hN1, hN2]
  have HR : Hid ((if cmpN K1 K2 ≠ 0 then cmpN K1 K2 else if numK K1 then cmpN N1 N2 else if cmpN n1 n2 ≠ 0 then cmpN n1 n2 else Lib.compareBytes a.b b.b) = r) := hr
  clear hr hK1 hK2 hN1 hN2
  have C1 := fun W => cmp8_any K1 K2 ha hb W
  obtain ⟨z1, hz1⟩ : ∃ z, cmpN K1 K2 = z := ⟨_, rfl⟩
  have r1 := cmpN_rng K1 K2
  rw [hz1] at C1 HR r1
  clear hz1
  by_cases q1 : z1 = 0
  · subst q1
    have N1' := fun v W => isNumber_any K1 ha (.int .u64 (N1 : Int)) (.slice p1 n1 c1) v W
    obtain ⟨z2, hz2⟩ : ∃ z, numK K1 = z := ⟨_, rfl⟩
    rw [hz2] at N1' HR
    clear hz2
    cases z2 with
    | true =>
      have C2 := fun W => cmp64_any N1 N2 hna hnb W
      obtain ⟨z3, hz3⟩ : ∃ z, cmpN N1 N2 = z := ⟨_, rfl⟩
      rw [hz3] at C2 HR
      clear hz3
      have HK := fun w2 hb2 => alloc2_cells (w := w) (w2 := w2) (A := #[.int .u8 (K1 : Int), .int .u64 (N1 : Int), .slice p1 n1 c1, v1]) (B := #[.int .u8 (K2 : Int), .int .u64 (N2 : Int), .slice p2 n2 c2, v2]) (t := 29) (u := 29) hb2
      go_enter Tryd.func38, Tryd.ntmps38
      go_wp2_with (first
        | (go_at_call 42; refine (C1 _).mono ?_; rintro e w1 ⟨rfl, rfl⟩)
        | (go_at_call 41; refine (N1' _ _).mono ?_; rintro e w2 ⟨rfl, hb2⟩; obtain ⟨ka, kb, hw2⟩ := HK w2 hb2; have ka1 : w2.cell? ⟨w.heap.size, 1, none⟩ = some (.int .u64 (N1 : Int)) := ka 1; have kb1 : w2.cell? ⟨w.heap.size + 1, 1, none⟩ = some (.int .u64 (N2 : Int)) := kb 1; clear ka kb hb2)
        | (go_at_call 43; refine (C2 _).mono ?_; rintro e w3 ⟨rfl, rfl⟩))
      go_ret
      exact ⟨by rw [← HR.out, if_neg (by simp), if_pos trivial]; rfl, hw2⟩
    | false =>
      have C2 := fun W => cmpI_any n1 n2 (by omega) (by omega) W
      obtain ⟨z3, hz3⟩ : ∃ z, cmpN n1 n2 = z := ⟨_, rfl⟩
      rw [hz3] at C2 HR
      clear hz3
      have C3 := fun W (hW : Below w.heap.size w W) => bytesCompare_any (c := c1) (d := c2) (h1.below hW) hl1 (h2.below hW) hl2
      obtain ⟨z4, hz4⟩ : ∃ z, Lib.compareBytes a.b b.b = z := ⟨_, rfl⟩
      rw [hz4] at C3 HR
      clear hz4
      have HK := fun w2 hb2 => alloc2_cells (w := w) (w2 := w2) (A := #[.int .u8 (K1 : Int), .int .u64 (N1 : Int), .slice p1 n1 c1, v1]) (B := #[.int .u8 (K2 : Int), .int .u64 (N2 : Int), .slice p2 n2 c2, v2]) (t := 29) (u := 29) hb2
      have C4 := fun b W h0 h1 => or2_any b z3 z4 W h0 h1
      obtain ⟨z5, hz5⟩ : ∃ z, (if z3 ≠ 0 then z3 else z4) = z := ⟨_, rfl⟩
      rw [hz5] at C4 HR
      clear hz5
      have hm1I : (n1 : Int) ≤ 9223372036854775807 := by omega
      have hm2I : (n2 : Int) ≤ 9223372036854775807 := by omega
      clear h1 h2 hl1 hl2
      go_enter Tryd.func38, Tryd.ntmps38
      go_wp2_with (first
        | (go_at_call 42; refine (C1 _).mono ?_; rintro e w1 ⟨rfl, rfl⟩)
        | (go_at_call 41; refine (N1' _ _).mono ?_; rintro e w2 ⟨rfl, hb2⟩; obtain ⟨ka, kb, hw2⟩ := HK w2 hb2; have ka2 : w2.cell? ⟨w.heap.size, 2, none⟩ = some (.slice p1 n1 c1) := ka 2; have kb2 : w2.cell? ⟨w.heap.size + 1, 2, none⟩ = some (.slice p2 n2 c2) := kb 2; clear ka kb hb2)
        )
      go_region_held3 (fun W => W.cell? ⟨w.heap.size, 2, none⟩ = some (.slice p1 n1 c1) ∧ W.cell? ⟨w.heap.size + 1, 2, none⟩ = some (.slice p2 n2 c2)) (first | exact ⟨ka2, kb2⟩ | exact ⟨cell_allocC ka2, cell_allocC kb2⟩) (first
        | (go_at_call 45; refine (C2 _).mono ?_; rintro e w3 ⟨rfl, rfl⟩)
        | (go_at_call 46; refine (C3 _ hw2.drew).mono ?_; rintro e w4 ⟨rfl, rfl⟩)
        | (go_at_call 44; refine (C4 _ _ (cell_of_row (w2.alloc _) w2.heap.size 0 _ _ _ (heap_alloc_new w2 _)) (cell_of_row (w2.alloc _) w2.heap.size 1 _ _ _ (heap_alloc_new w2 _))).mono ?_; rintro e w5 ⟨rfl, rfl⟩))
      go_wp2
      go_ret
      exact ⟨by rw [← HR.out, if_neg (by simp), if_neg (by simp)]; rfl, (hw2.alloc hw2.size _).drew⟩
  · have q1b : (z1 != 0) = true := by simp [q1]
    go_enter Tryd.func38, Tryd.ntmps38
    go_wp2_with (go_at_call 42; refine (C1 _).mono ?_; rintro e w1 ⟨rfl, rfl⟩)
    go_ret
    exact ⟨by rw [← HR.out, if_pos q1]; rfl, (((Below.refl _ _).alloc (Nat.le_refl _) _).alloc (by rw [alloc_sz]; omega) _)⟩

theorem below_drews {B : Nat} {a w : World} (h : Below B a w) : ∀ q, Below B a (w.drewN q)
  | 0 => h
  | q + 1 => (below_drews h q).drew
theorem ItHd.cells {w : World} {P : Nat → Prop} {c0 c1 c2 c3 : Value} {i : It} {q : Option Addr} (h : ItHd w P [c0, c1, c2, c3] i q) : ∃ p c c', c0 = .int .u8 (i.kind : Int) ∧ c1 = .int .u64 (i.n : Int) ∧ c2 = .slice p i.b.length c ∧ c3 = .slice q i.kids.length c' ∧ i.kind < 256 ∧ i.n < 18446744073709551616 ∧ ByV w P p c i.b ∧ i.kids.length ≤ c' ∧ c' ≤ 9223372036854775807 := by
  obtain ⟨p, c, c', e, h2, h3, h4, h5, h6⟩ := h
  simp only [List.cons.injEq, and_true] at e
  exact ⟨p, c, c', e.1, e.2.1, e.2.2.1, e.2.2.2, h2, h3, h4, h5, h6⟩
set_option maxRecDepth 100000 in
set_option maxHeartbeats 2000000 in
/-- keyError, of what may be no key, or of the first key. -/
theorem keyError_first (k : It) (P : Nat → Prop) (c0 c1 c2 c3 : Value) (q qa : Option Addr) (m ca : Nat) (w : World) (hk : ItHd w P [c0, c1, c2, c3] k q) (hm : m = 0 ∨ keyC k = false) (hmb : m ≤ 9223372036854775807) :
    Calls Tryd.prog 32 #[.slice qa m ca, .agg #[c0, c1, c2, c3]] w fun e w' => e = .returned (.int .i64 (if keyC k = false then 20 else 0)) ∧ Below w.heap.size w w' := by
  obtain ⟨p, c, c', rfl, rfl, rfl, rfl, h1, h2, h3, h4, h5⟩ := hk.cells
  have HM := fun v W => mayBeKey_any k.kind h1 (.int .u64 (k.n : Int)) (.slice p k.b.length c) v W
  rw [keyK_C] at HM
  cases hkc : keyC k with
  | false =>
    rw [hkc] at HM
    rw [if_pos rfl]
    go_enter Tryd.func32, Tryd.ntmps32
    go_wp2_with (go_at_call 37; refine (HM _ _).mono ?_; rintro e w1 ⟨rfl, hb1⟩)
    go_ret
    exact ⟨rfl, ((Below.refl _ _).alloc (Nat.le_refl _) _).trans (hb1.mono (by rw [alloc_sz]; omega))⟩
  | true =>
    rw [hkc] at HM
    rw [hkc] at hm
    have hm0 : m = 0 := by simpa using hm
    subst hm0
    rw [if_neg (by simp)]
    go_enter Tryd.func32, Tryd.ntmps32
    go_wp2_with (go_at_call 37; refine (HM _ _).mono ?_; rintro e w1 ⟨rfl, hb1⟩)
    go_quiet (fail)
    go_wp2
    go_ret
    exact ⟨rfl, below_drews (((Below.refl _ _).alloc (Nat.le_refl _) _).trans (hb1.mono (by rw [alloc_sz]; omega))) _⟩
set_option maxRecDepth 100000 in
set_option maxHeartbeats 2000000 in
/-- keyError, behind a key and its value. -/
theorem keyError_next (k l : It) (P Q : Nat → Prop) (c0 c1 c2 c3 a0 a1 a2 a3 : Value) (q ql : Option Addr) (b o m ca : Nat) (w : World) (hk : ItHd w P [c0, c1, c2, c3] k q) (hl : ItHd w Q [a0, a1, a2, a3] l ql) (hkc : keyC k = true) (hmb : m + 2 ≤ 9223372036854775807)
    (k0 : w.cell? ⟨b, o + m * 4, none⟩ = some a0) (k1 : w.cell? ⟨b, o + m * 4 + 1, none⟩ = some a1) (k2 : w.cell? ⟨b, o + m * 4 + 2, none⟩ = some a2) (k3 : w.cell? ⟨b, o + m * 4 + 3, none⟩ = some a3) :
    Calls Tryd.prog 32 #[.slice (some ⟨b, o, none⟩) (m + 2) ca, .agg #[c0, c1, c2, c3]] w fun e w' => e = .returned (.int .i64 (if aheadC l k then 0 else 21)) ∧ Below w.heap.size w w' := by
  have hlt := World.block_lt_of_cell? w ⟨b, o + m * 4, none⟩ k0
  obtain ⟨p, c, c', rfl, rfl, rfl, rfl, h1, h2, h3, h4, h5⟩ := hk.cells
  obtain ⟨p', d, d', rfl, rfl, rfl, rfl, g1, g2, g3, g4, g5⟩ := hl.cells
  have HM := fun v W => mayBeKey_any k.kind h1 (.int .u64 (k.n : Int)) (.slice p k.b.length c) v W
  rw [keyK_C, hkc] at HM
  have HC := fun W (hW : Below w.heap.size w W) v1 v2 => compareKeys_any l k p' p l.b.length k.b.length d c v1 v2 W g1 h1 g2 h2 (g3.lies.below hW) (h3.lies.below hW) rfl rfl (by have := g3.cap; have := g3.big; omega) (by have := h3.cap; have := h3.big; omega)
  have hca := cmpK_ahead l k
  obtain ⟨z, hz⟩ : ∃ z, cmpK l k = z := ⟨_, rfl⟩
  rw [hz] at hca HC
  have HZ : Hid (0 ≤ z ↔ aheadC l k = false) := hca
  obtain ⟨R, hR⟩ : ∃ R : Int, (if aheadC l k then 0 else 21) = R := ⟨_, rfl⟩
  rw [hR]
  have HRR : Hid ((if aheadC l k then 0 else 21) = R) := hR
  have hmI : (m : Int) + 2 ≤ 9223372036854775807 := by omega
  obtain ⟨n1, hn1⟩ : ∃ n, l.b.length = n := ⟨_, rfl⟩
  obtain ⟨n2, hn2⟩ : ∃ n, k.b.length = n := ⟨_, rfl⟩
  obtain ⟨n3, hn3⟩ : ∃ n, l.kids.length = n := ⟨_, rfl⟩
  obtain ⟨n4, hn4⟩ : ∃ n, k.kids.length = n := ⟨_, rfl⟩
  rw [hn1] at k2 HC
  rw [hn2] at HM HC
  rw [hn3] at k3
  rw [hn2, hn4]
  obtain ⟨kk, hkk⟩ : ∃ n, k.kind = n := ⟨_, rfl⟩
  obtain ⟨kn, hkn⟩ : ∃ n, k.n = n := ⟨_, rfl⟩
  obtain ⟨lk, hlk⟩ : ∃ n, l.kind = n := ⟨_, rfl⟩
  obtain ⟨ln, hln⟩ : ∃ n, l.n = n := ⟨_, rfl⟩
  rw [hkk, hkn] at HM HC ⊢
  rw [hlk, hln] at HC
  rw [hlk] at k0
  rw [hln] at k1
  clear hca hz hR hk hl h3 g3 h1 h2 g1 g2 h4 h5 g4 g5 hn1 hn2 hn3 hn4 hkk hkn hlk hln
  have KK : ∀ (v : Value) (w1 : World), Below (w.alloc (.cells #[.int .u8 (kk : Int), .int .u64 (kn : Int), .slice p n2 c, v] 29)).heap.size (w.alloc (.cells #[.int .u8 (kk : Int), .int .u64 (kn : Int), .slice p n2 c, v] 29)) w1 → Below w.heap.size w w1 ∧ w1.cell? ⟨b, o + m * 4, none⟩ = some (.int .u8 (lk : Int)) ∧ w1.cell? ⟨b, o + m * 4 + 1, none⟩ = some (.int .u64 (ln : Int)) ∧ w1.cell? ⟨b, o + m * 4 + 2, none⟩ = some (.slice p' n1 d) ∧ w1.cell? ⟨b, o + m * 4 + 3, none⟩ = some (.slice ql n3 d') ∧ (∀ j, w1.cell? ⟨w.heap.size, j, none⟩ = #[Value.int .u8 (kk : Int), .int .u64 (kn : Int), .slice p n2 c, v][j]?) := fun v w1 hb1 => by
    have hb0 : Below w.heap.size w w1 := ((Below.refl _ _).alloc (Nat.le_refl _) _).trans (hb1.mono (by rw [alloc_sz]; omega))
    exact ⟨hb0, (hb0.cell (p := ⟨b, o + m * 4, none⟩) hlt).trans k0, (hb0.cell (p := ⟨b, o + m * 4 + 1, none⟩) hlt).trans k1, (hb0.cell (p := ⟨b, o + m * 4 + 2, none⟩) hlt).trans k2, (hb0.cell (p := ⟨b, o + m * 4 + 3, none⟩) hlt).trans k3, fun j => cell_of_row w1 w.heap.size j _ 29 (0, 0) (by rw [hb1.block _ (by rw [alloc_sz]; omega)]; exact heap_alloc_new w _)⟩
  clear k0 k1 k2 k3
  obtain ⟨M, hM⟩ : ∃ M, m + 2 = M := ⟨_, rfl⟩
  rw [hM]
  have hM1 : (M : Int) - 2 = (m : Int) := by omega
  have hM2 : (0 : Int) < (M : Int) := by omega
  have hM2d : decide ((0 : Int) < (M : Int)) = true := by simpa using hM2
  have hM2n : decide (0 < M) = true := by simp; omega
  have hM3 : (m : Int) < (M : Int) := by omega
  have hM3n : m < M := by omega
  have hwr : IntKind.i64.wrap ((M : Int) - 2) = (m : Int) := by rw [hM1]; exact IntWalk.i64_in _ (by omega)
  have hM4 : (0 : Int) ≤ (m : Int) := by omega
  have hM5 : (M : Int) ≤ 9223372036854775807 := by omega
  have hm5 : (m : Int) ≤ 9223372036854775807 := by omega
  have hwm : IntKind.i64.wrap (m : Int) = (m : Int) := IntWalk.i64_in _ (by omega)
  clear hM hmI hmb hM1
  by_cases hz0 : 0 ≤ z
  · have hzd : decide (0 ≤ z) = true := by simpa using hz0
    go_enter Tryd.func32, Tryd.ntmps32
    go_wp2_with (first
      | (go_at_call 37; refine (HM _ _).mono ?_; rintro e w1 ⟨rfl, hb1⟩; obtain ⟨b0, k0, k1, k2, k3, k4⟩ := KK _ w1 hb1; have k5 := k4 0; have k6 := k4 1; have k7 := k4 2; have k8 := k4 3; clear k4; simp only [List.getElem?_toArray, List.getElem?_cons_zero, List.getElem?_cons_succ] at k5 k6 k7 k8)
      )
    have hl1 : b < w1.heap.size := World.block_lt_of_cell? w1 ⟨b, o + m * 4, none⟩ k0
    have hl2 : w.heap.size < w1.heap.size := World.block_lt_of_cell? w1 ⟨w.heap.size, 0, none⟩ k5
    clear HM KK hb1
    go_region_held3 (fun W => W.cell? ⟨b, o + m * 4, none⟩ = some (.int .u8 (lk : Int)) ∧ W.cell? ⟨b, o + m * 4 + 1, none⟩ = some (.int .u64 (ln : Int)) ∧ W.cell? ⟨b, o + m * 4 + 2, none⟩ = some (.slice p' n1 d) ∧ W.cell? ⟨b, o + m * 4 + 3, none⟩ = some (.slice ql n3 d') ∧ W.cell? ⟨w.heap.size, 0, none⟩ = some (.int .u8 (kk : Int)) ∧ W.cell? ⟨w.heap.size, 1, none⟩ = some (.int .u64 (kn : Int)) ∧ W.cell? ⟨w.heap.size, 2, none⟩ = some (.slice p n2 c) ∧ W.cell? ⟨w.heap.size, 3, none⟩ = some (.slice q n4 c'))
      (first | exact ⟨k0, k1, k2, k3, k5, k6, k7, k8⟩ | exact ⟨(hb2.cell (p := ⟨b, _, none⟩) hl1).trans k0, (hb2.cell (p := ⟨b, _, none⟩) hl1).trans k1, (hb2.cell (p := ⟨b, _, none⟩) hl1).trans k2, (hb2.cell (p := ⟨b, _, none⟩) hl1).trans k3, (hb2.cell (p := ⟨w.heap.size, _, none⟩) hl2).trans k5, (hb2.cell (p := ⟨w.heap.size, _, none⟩) hl2).trans k6, (hb2.cell (p := ⟨w.heap.size, _, none⟩) hl2).trans k7, (hb2.cell (p := ⟨w.heap.size, _, none⟩) hl2).trans k8⟩) (first
      | (go_at_call 38; refine (HC _ b0.drew _ _).mono ?_; rintro e w2 ⟨rfl, hb2⟩))
    go_wp2
    go_ret
    exact ⟨by rw [← HRR.out, HZ.out.1 hz0]; rfl, b0.drew.trans (hb2.mono b0.size)⟩
  · have hzd : decide (0 ≤ z) = false := by simpa using hz0
    go_enter Tryd.func32, Tryd.ntmps32
    go_wp2_with (first
      | (go_at_call 37; refine (HM _ _).mono ?_; rintro e w1 ⟨rfl, hb1⟩; obtain ⟨b0, k0, k1, k2, k3, k4⟩ := KK _ w1 hb1; have k5 := k4 0; have k6 := k4 1; have k7 := k4 2; have k8 := k4 3; clear k4; simp only [List.getElem?_toArray, List.getElem?_cons_zero, List.getElem?_cons_succ] at k5 k6 k7 k8)
      )
    have hl1 : b < w1.heap.size := World.block_lt_of_cell? w1 ⟨b, o + m * 4, none⟩ k0
    have hl2 : w.heap.size < w1.heap.size := World.block_lt_of_cell? w1 ⟨w.heap.size, 0, none⟩ k5
    clear HM KK hb1
    go_region_held3 (fun W => W.cell? ⟨b, o + m * 4, none⟩ = some (.int .u8 (lk : Int)) ∧ W.cell? ⟨b, o + m * 4 + 1, none⟩ = some (.int .u64 (ln : Int)) ∧ W.cell? ⟨b, o + m * 4 + 2, none⟩ = some (.slice p' n1 d) ∧ W.cell? ⟨b, o + m * 4 + 3, none⟩ = some (.slice ql n3 d') ∧ W.cell? ⟨w.heap.size, 0, none⟩ = some (.int .u8 (kk : Int)) ∧ W.cell? ⟨w.heap.size, 1, none⟩ = some (.int .u64 (kn : Int)) ∧ W.cell? ⟨w.heap.size, 2, none⟩ = some (.slice p n2 c) ∧ W.cell? ⟨w.heap.size, 3, none⟩ = some (.slice q n4 c'))
      (first | exact ⟨k0, k1, k2, k3, k5, k6, k7, k8⟩ | exact ⟨(hb2.cell (p := ⟨b, _, none⟩) hl1).trans k0, (hb2.cell (p := ⟨b, _, none⟩) hl1).trans k1, (hb2.cell (p := ⟨b, _, none⟩) hl1).trans k2, (hb2.cell (p := ⟨b, _, none⟩) hl1).trans k3, (hb2.cell (p := ⟨w.heap.size, _, none⟩) hl2).trans k5, (hb2.cell (p := ⟨w.heap.size, _, none⟩) hl2).trans k6, (hb2.cell (p := ⟨w.heap.size, _, none⟩) hl2).trans k7, (hb2.cell (p := ⟨w.heap.size, _, none⟩) hl2).trans k8⟩) (first
      | (go_at_call 38; refine (HC _ b0.drew _ _).mono ?_; rintro e w2 ⟨rfl, hb2⟩))
    go_wp2
    go_ret
    exact ⟨by rw [← HRR.out, show aheadC l k = true from by cases hq : aheadC l k with | true => rfl | false => exact absurd (HZ.out.2 hq) (by omega)]; rfl, b0.drew.trans (hb2.mono b0.size)⟩
end Go.Proofs.YtfmldcibhllpcabDoor
