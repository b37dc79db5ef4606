import Derived.Test.YtiblpcfkecalcaaDoorK13
import Derived.Test.YtiblpcfkecalcaaDoorK09
/-
  Bits, of the code and of the document.
-/
namespace Go.Proofs.YtiblpcfkecalcaaDoor
open Go.Shelf Go.RowKit
set_option linter.unusedVariables false
set_option linter.unusedSimpArgs false

/-- Bytes, and how many bits of the last one are none. -/
def bitsD (t : Nat) : Bs → Option (Bs × Nat)
  | [] => none
  | f :: xs => if t = 3 ∧ f.toNat ≤ 7 ∧ endsZ xs f.toNat = true then some (xs, f.toNat) else none
theorem bitsD_tag {t : Nat} {l : Bs} (h : t ≠ 3) : bitsD t l = none := by
  cases l with
  | nil => rfl
  | cons f xs => simp only [bitsD]; rw [if_neg (fun e => h e.1)]
theorem bitsD_big {t : Nat} {f : UInt8} {xs : Bs} (h : 7 < f.toNat) : bitsD t (f :: xs) = none := by simp only [bitsD]; rw [if_neg (fun e => by have := e.2.1; omega)]
theorem bitsD_end {t : Nat} {f : UInt8} {xs : Bs} (h : endsZ xs f.toNat = false) : bitsD t (f :: xs) = none := by simp only [bitsD]; rw [if_neg (fun e => by rw [h] at e; exact absurd e.2.2 (by decide))]
theorem bitsD_ok {t : Nat} {f : UInt8} {xs : Bs} (h1 : t = 3) (h2 : f.toNat ≤ 7) (h : endsZ xs f.toNat = true) : bitsD t (f :: xs) = some (xs, f.toNat) := by simp only [bitsD]; rw [if_pos ⟨h1, h2, h⟩]
/-- What Bits answers. -/
def BtPost (w : World) (r : Option (Bs × Nat)) (e : Ending) (w' : World) : Prop :=
  Below w.heap.size w w' ∧ ((r = none ∧ e = .returned (.tuple #[.slice none 0 0, .int .i64 0, .int .i64 30])) ∨ ∃ xs k p c, r = some (xs, k) ∧ e = .returned (.tuple #[.slice p xs.length c, .int .i64 (k : Int), .int .i64 0]) ∧ BAt w' p xs.length xs)
theorem bit_none {C i : Nat} (h : C % 2 ^ i = 0) (hb : C / 2 ^ i % 2 = 0) : C % 2 ^ (i + 1) = 0 := by
  obtain ⟨q, hq⟩ := Nat.dvd_of_mod_eq_zero h
  have hp : 0 < 2 ^ i := Nat.pow_pos (by omega)
  rw [hq, Nat.mul_div_cancel_left _ hp] at hb
  obtain ⟨r, hr⟩ := Nat.dvd_of_mod_eq_zero hb
  rw [hq, hr, Nat.pow_succ, ← Nat.mul_assoc]
  exact Nat.mul_mod_right _ _
theorem bit_one {C i F : Nat} (hi : i < F) (hb : C / 2 ^ i % 2 = 1) : ¬ C % 2 ^ F = 0 := by
  intro h
  obtain ⟨q, hq⟩ := Nat.dvd_of_mod_eq_zero h
  obtain ⟨k, rfl⟩ : ∃ k, F = i + 1 + k := ⟨F - (i + 1), by omega⟩
  have hp : 0 < 2 ^ i := Nat.pow_pos (by omega)
  have e : C = 2 ^ i * (2 * (2 ^ k * q)) := by rw [hq, Nat.pow_add, Nat.pow_add]; simp [Nat.mul_assoc]
  rw [e, Nat.mul_div_cancel_left _ hp] at hb
  omega
def btL (r : Option (Bs × Nat)) : Bs := (r.map (·.1)).getD []
def btK (r : Option (Bs × Nat)) : Nat := (r.map (·.2)).getD 0
def btE (r : Option (Bs × Nat)) : Nat := if r.isSome then 0 else 30
theorem BtPost.uni {w w' : World} {r : Option (Bs × Nat)} {e : Ending} (h : BtPost w r e w') : Below w.heap.size w w' ∧ ∃ p c, e = .returned (.tuple #[.slice p (btL r).length c, .int .i64 (btK r : Int), .int .i64 (btE r : Int)]) ∧ BAt w' p (btL r).length (btL r) := by
  obtain ⟨hb, (⟨rfl, rfl⟩ | ⟨xs, k, p, c, rfl, rfl, h2⟩)⟩ := h
  · exact ⟨hb, none, 0, rfl, fun h0 => absurd h0 (by decide)⟩
  · exact ⟨hb, p, c, rfl, h2⟩
set_option maxRecDepth 100000 in
set_option maxHeartbeats 4000000 in
theorem derBits (t : Nat) (ht : t < 256) (p : Option Addr) (n c : Nat) (l : Bs) (P : Nat → Prop) (w : World) (hl : l.length = n) (h : ByV w P p c l) (hn : n ≤ 1000000) :
    Calls Tryd.prog 31 #[.agg #[.int .u8 (t : Int), .slice p n c]] w (BtPost w (bitsD t l)) := by
  have hcap := h.cap
  have hbig := h.big
  rw [hl] at hcap
  obtain ⟨W1, hW1⟩ : ∃ W1, w.alloc (.cells #[.int .u8 (t : Int), .slice p n c] 25) = W1 := ⟨_, rfl⟩
  have b1 : Below w.heap.size w W1 := by rw [← hW1]; exact (Below.refl _ _).alloc (Nat.le_refl _) _
  have s1 : Tl W1 w.heap.size (.int .u8 (t : Int)) (.slice p n c) := by rw [← hW1]; exact Tl.new w _ _
  obtain ⟨g0, g1, g2, g3⟩ := s1.facts
  have HBAD : Hid (∀ W, bitsD t l = none → Below w.heap.size w W → BtPost w (bitsD t l) (.returned (.tuple #[.slice none 0 0, .int .i64 0, .int .i64 30])) W) := fun W hh hb => ⟨hb, .inl ⟨hh, rfl⟩⟩
  have HB : Hid (Below w.heap.size w W1) := b1
  clear s1
  by_cases q1 : t = 3
  rotate_left
  · have q1b : ((t : Int) != 3) = true := by simp; omega
    have hR : Hid (bitsD t l = none) := bitsD_tag q1
    clear hl h
    go_enter Tryd.func31, Tryd.ntmps31
    go_wp2_with fail
    go_ret3
    exact HBAD.out _ hR.out HB.out
  have q1b : ((t : Int) != 3) = false := by simp; omega
  cases l with
  | nil =>
    simp at hl
    subst hl
    have hR : Hid (bitsD t [] = none) := rfl
    clear h q1
    go_enter Tryd.func31, Tryd.ntmps31
    go_wp2_with fail
    go_ret3
    exact HBAD.out _ hR.out HB.out
  | cons f xs =>
    obtain ⟨b, o, rfl, hc⟩ := h.lies (by simp)
    have c0w : w.cell? ⟨b, o, none⟩ = some (.int .u8 (f.toNat : Int)) := by have := hc 0 (by simp); simpa using this
    have c0 : W1.cell? ⟨b, o, none⟩ = some (.int .u8 (f.toNat : Int)) := (b1.cell (p := ⟨b, o, none⟩) (World.block_lt_of_cell? w _ c0w)).trans c0w
    have hf := f.toNat_lt
    have hxl : xs.length = n - 1 := by simp at hl; omega
    have hn0 : 0 < n := by simp at hl; omega
    have hnz : ((n : Int) == 0) = false := by simp; omega
    have hn1 : (1 : Int) ≤ (n : Int) := by omega
    have hc1 : (1 : Int) ≤ (c : Int) := by omega
    have hnc : (n : Int) ≤ (c : Int) := by omega
    have hnp : (0 : Int) < (n : Int) := by omega
    have hcI : (c : Int) ≤ 9223372036854775807 := by omega
    have hnI : (n : Int) ≤ 9223372036854775807 := by omega
    have hdr := ((h.keep (w' := W1) (fun k _ hk => b1.block k hk))).drop 1 (by simp)
    obtain ⟨F, hF⟩ : ∃ F, f.toNat = F := ⟨_, rfl⟩
    rw [hF] at c0 hf
    have HF : Hid (f.toNat = F ∧ xs.length = n - 1 ∧ t = 3 ∧ ByV W1 P (if c = 1 then some ⟨b, o, none⟩ else some ⟨b, o + 1, none⟩) (c - 1) xs) := ⟨hF, hxl, q1, by
      by_cases h1 : c = 1
      · rw [if_pos h1] at hdr ⊢; exact hdr
      · rw [if_neg h1] at hdr ⊢; exact hdr⟩
    clear hc c0w h hl hxl hF b1 hdr q1
    by_cases q2 : 7 < F
    · have q2I : (7 : Int) < (F : Int) := by omega
      have hR : Hid (bitsD t (f :: xs) = none) := bitsD_big (by rw [HF.out.1]; exact q2)
      by_cases hcc : c = 1
      · subst hcc
        go_enter Tryd.func31, Tryd.ntmps31
        go_wp2_with fail
        go_quiet (fail)
        go_wp2_with fail
        go_ret3
        exact HBAD.out _ hR.out (below_drews HB.out _)
      · go_enter Tryd.func31, Tryd.ntmps31
        go_wp2_with fail
        go_quiet (fail)
        go_wp2_with fail
        go_ret3
        exact HBAD.out _ hR.out (below_drews HB.out _)
    have q2I : ¬ (7 : Int) < (F : Int) := by omega
    have hE : ∀ q d (W : World), BAt W q (n - 1) xs → Calls Tryd.prog 47 #[.slice q (n - 1) d, .int .i64 (F : Int)] W fun e w' => e = .returned (.bool (endsZ xs F)) ∧ w' = W := fun q d W hb => ends_any q (n - 1) d xs F (by omega) W HF.out.2.1 hb (by omega)
    by_cases hcc : c = 1
    · subst hcc
      have hn2 : n = 1 := by omega
      subst hn2
      have hx0 : xs = [] := List.eq_nil_of_length_eq_zero HF.out.2.1
      subst hx0
      cases hz : endsZ [] F with
      | false =>
        have hR : Hid (bitsD t (f :: []) = none) := bitsD_end (by rw [HF.out.1]; exact hz)
        go_enter Tryd.func31, Tryd.ntmps31
        go_wp2_with fail
        go_quiet (fail)
        generalize hwq : World.drewN W1 nq = wq
        have HW : Hid (Below W1.heap.size W1 wq) := by rw [← hwq]; exact below_drews (Below.refl _ _) _
        clear hwq
        have hE1 := hE (some ⟨b, o, none⟩) 0 wq (fun h0 => absurd h0 (by omega))
        rw [hz] at hE1
        clear hE
        go_wp2_with (go_at_call 47; refine hE1.mono ?_; rintro e w2 ⟨rfl, rfl⟩)
        go_ret3
        exact HBAD.out _ hR.out (HB.out.trans (HW.out.mono HB.out.size))
      | true =>
        have hR : Hid (bitsD t (f :: []) = some ([], F)) := by show bitsD t (f :: []) = _; rw [bitsD_ok HF.out.2.2.1 (by rw [HF.out.1]; omega) (by rw [HF.out.1]; exact hz), HF.out.1]
        go_enter Tryd.func31, Tryd.ntmps31
        go_wp2_with fail
        go_quiet (fail)
        generalize hwq : World.drewN W1 nq = wq
        have HW : Hid (Below W1.heap.size W1 wq) := by rw [← hwq]; exact below_drews (Below.refl _ _) _
        clear hwq
        have hE1 := hE (some ⟨b, o, none⟩) 0 wq (fun h0 => absurd h0 (by omega))
        rw [hz] at hE1
        have HC := clone_any (some ⟨b, o, none⟩) 0 0 [] wq rfl (fun h0 => absurd h0 (by omega)) (by omega)
        clear hE
        go_wp2_with (first | (go_at_call 47; refine hE1.mono ?_; rintro e w2 ⟨rfl, rfl⟩) | (go_at_call 38; refine HC.mono ?_; rintro e w3 ⟨hb3, p', c', rfl, hv⟩))
        go_ret3
        have hB3 : Below w.heap.size w w3 := HB.out.trans ((HW.out.mono HB.out.size).trans (Below.mono ⟨hb3.os, hb3.tape, hb3.output, hb3.size, hb3.block⟩ (Nat.le_trans HB.out.size HW.out.size)))
        rw [hR.out]
        exact ⟨hB3, .inr ⟨[], F, p', c', rfl, by rfl, hv.lies⟩⟩
    · have hb1 : Hid (ByV W1 P (some ⟨b, o + 1, none⟩) (c - 1) xs) := by have := HF.out.2.2.2; rw [if_neg hcc] at this; exact this
      cases hz : endsZ xs F with
      | false =>
        have hR : Hid (bitsD t (f :: xs) = none) := bitsD_end (by rw [HF.out.1]; exact hz)
        go_enter Tryd.func31, Tryd.ntmps31
        go_wp2_with fail
        go_quiet (fail)
        generalize hwq : World.drewN W1 nq = wq
        have HW : Hid (Below W1.heap.size W1 wq) := by rw [← hwq]; exact below_drews (Below.refl _ _) _
        clear hwq
        have hE1 := hE (some ⟨b, o + 1, none⟩) (c - 1) wq (by have := (hb1.out.below HW.out).lies; rw [HF.out.2.1] at this; exact this)
        rw [hz] at hE1
        clear hE
        go_wp2_with (go_at_call 47; refine hE1.mono ?_; rintro e w2 ⟨rfl, rfl⟩)
        go_ret3
        exact HBAD.out _ hR.out (HB.out.trans (HW.out.mono HB.out.size))
      | true =>
        have hR : Hid (bitsD t (f :: xs) = some (xs, F)) := by show bitsD t (f :: xs) = _; rw [bitsD_ok HF.out.2.2.1 (by rw [HF.out.1]; omega) (by rw [HF.out.1]; exact hz), HF.out.1]
        go_enter Tryd.func31, Tryd.ntmps31
        go_wp2_with fail
        go_quiet (fail)
        generalize hwq : World.drewN W1 nq = wq
        have HW : Hid (Below W1.heap.size W1 wq) := by rw [← hwq]; exact below_drews (Below.refl _ _) _
        clear hwq
        have hE1 := hE (some ⟨b, o + 1, none⟩) (c - 1) wq (by have := (hb1.out.below HW.out).lies; rw [HF.out.2.1] at this; exact this)
        rw [hz] at hE1
        have HC := clone_any (some ⟨b, o + 1, none⟩) (n - 1) (c - 1) xs wq HF.out.2.1 (by have := (hb1.out.below HW.out).lies; rw [HF.out.2.1] at this; exact this) (by omega)
        clear hE
        go_wp2_with (first | (go_at_call 47; refine hE1.mono ?_; rintro e w2 ⟨rfl, rfl⟩) | (go_at_call 38; refine HC.mono ?_; rintro e w3 ⟨hb3, p', c', rfl, hv⟩))
        go_ret3
        have hB3 : Below w.heap.size w w3 := HB.out.trans ((HW.out.mono HB.out.size).trans (Below.mono ⟨hb3.os, hb3.tape, hb3.output, hb3.size, hb3.block⟩ (Nat.le_trans HB.out.size HW.out.size)))
        rw [hR.out]
        exact ⟨hB3, .inr ⟨xs, F, p', c', rfl, by rw [HF.out.2.1]; rfl, hv.lies⟩⟩

set_option maxRecDepth 100000 in
set_option maxHeartbeats 4000000 in
theorem rBits (t : Nat) (ht : t < 256) (p : Option Addr) (n c : Nat) (l : Bs) (P : Nat → Prop) (w : World) (hl : l.length = n) (h : ByV w P p c l) (hn : n ≤ 1000000) :
    Calls Tryd.prog 32 #[.agg #[.int .u8 (t : Int), .slice p n c]] w (BtPost w (bitsD t l)) := by
  have hcap := h.cap
  have hbig := h.big
  rw [hl] at hcap
  obtain ⟨W1, hW1⟩ : ∃ W1, w.alloc (.cells #[.int .u8 (t : Int), .slice p n c] 25) = W1 := ⟨_, rfl⟩
  have b1 : Below w.heap.size w W1 := by rw [← hW1]; exact (Below.refl _ _).alloc (Nat.le_refl _) _
  have s1 : Tl W1 w.heap.size (.int .u8 (t : Int)) (.slice p n c) := by rw [← hW1]; exact Tl.new w _ _
  obtain ⟨g0, g1, g2, g3⟩ := s1.facts
  have HBAD : Hid (∀ W, bitsD t l = none → Below w.heap.size w W → BtPost w (bitsD t l) (.returned (.tuple #[.slice none 0 0, .int .i64 0, .int .i64 30])) W) := fun W hh hb => ⟨hb, .inl ⟨hh, rfl⟩⟩
  have HB : Hid (Below w.heap.size w W1) := b1
  clear s1
  by_cases q1 : t = 3
  rotate_left
  · have q1b : ((t : Int) != 3) = true := by simp; omega
    have hR : Hid (bitsD t l = none) := bitsD_tag q1
    clear hl h
    go_enter Tryd.func32, Tryd.ntmps32
    go_wp2_with fail
    go_ret3
    exact HBAD.out _ hR.out HB.out
  have q1b : ((t : Int) != 3) = false := by simp; omega
  cases l with
  | nil =>
    simp at hl
    subst hl
    have hR : Hid (bitsD t [] = none) := rfl
    clear h q1
    go_enter Tryd.func32, Tryd.ntmps32
    go_wp2_with fail
    go_ret3
    exact HBAD.out _ hR.out HB.out
  | cons f xs =>
    obtain ⟨b, o, rfl, hc⟩ := h.lies (by simp)
    have c0w : w.cell? ⟨b, o, none⟩ = some (.int .u8 (f.toNat : Int)) := by have := hc 0 (by simp); simpa using this
    have c0 : W1.cell? ⟨b, o, none⟩ = some (.int .u8 (f.toNat : Int)) := (b1.cell (p := ⟨b, o, none⟩) (World.block_lt_of_cell? w _ c0w)).trans c0w
    have hf := f.toNat_lt
    have hxl : xs.length = n - 1 := by simp at hl; omega
    have hn0 : 0 < n := by simp at hl; omega
    have hnz : ((n : Int) == 0) = false := by simp; omega
    have hn1 : (1 : Int) ≤ (n : Int) := by omega
    have hc1 : (1 : Int) ≤ (c : Int) := by omega
    have hnc : (n : Int) ≤ (c : Int) := by omega
    have hnp : (0 : Int) < (n : Int) := by omega
    have hcI : (c : Int) ≤ 9223372036854775807 := by omega
    have hnI : (n : Int) ≤ 9223372036854775807 := by omega
    have hdr := ((h.keep (w' := W1) (fun k _ hk => b1.block k hk))).drop 1 (by simp)
    obtain ⟨F, hF⟩ : ∃ F, f.toNat = F := ⟨_, rfl⟩
    rw [hF] at c0 hf
    have HF : Hid (f.toNat = F ∧ xs.length = n - 1 ∧ t = 3 ∧ ByV W1 P (if c = 1 then some ⟨b, o, none⟩ else some ⟨b, o + 1, none⟩) (c - 1) xs) := ⟨hF, hxl, q1, by
      by_cases h1 : c = 1
      · rw [if_pos h1] at hdr ⊢; exact hdr
      · rw [if_neg h1] at hdr ⊢; exact hdr⟩
    clear hc c0w h hl hxl hF b1 hdr q1
    by_cases q2 : 7 < F
    · have q2I : (7 : Int) < (F : Int) := by omega
      have hR : Hid (bitsD t (f :: xs) = none) := bitsD_big (by rw [HF.out.1]; exact q2)
      go_enter Tryd.func32, Tryd.ntmps32
      go_wp2_with fail
      go_ret3
      exact HBAD.out _ hR.out HB.out
    have q2I : ¬ (7 : Int) < (F : Int) := by omega
    by_cases hn2 : n = 1
    · have hx0 : xs = [] := List.eq_nil_of_length_eq_zero (by rw [HF.out.2.1]; omega)
      have hn2b : ((n : Int) == 1) = true := by simp; omega
      by_cases hF0 : F = 0
      · have hR : Hid (bitsD t (f :: xs) = some (xs, F) ∧ xs = []) := ⟨by rw [bitsD_ok HF.out.2.2.1 (by rw [HF.out.1]; omega) (by rw [hx0, HF.out.1, hF0]; rfl), HF.out.1], hx0⟩
        have hF0b : ((F : Int) != 0) = false := by simp; omega
        have hF1 : ¬ (0 : Int) < (F : Int) := by omega
        have HL1 : Hid (n - 1 = 0) := by show n - 1 = 0; omega
        clear hx0 hn2 hF0
        by_cases hcc : c = 1
        · subst hcc
          go_enter Tryd.func32, Tryd.ntmps32
          go_wp2_with fail
          go_loopw [7] (fun v7 wr => v7 = .int .i64 0 ∧ wr = W1) (fun _ _ => 0)
          case atStart => exact ⟨rfl, rfl⟩
          case round =>
            obtain ⟨rfl, rfl⟩ := hrel
            go_wp2_with fail
            go_ret3
            rw [hR.out.1]
            exact ⟨HB.out, .inr ⟨xs, F, _, _, rfl, by first | (rw [hR.out.2, HL1.out]; rfl) | (rw [hR.out.2]; rfl), fun h0 => by rw [hR.out.2] at h0; exact absurd h0 (by decide)⟩⟩
        · go_enter Tryd.func32, Tryd.ntmps32
          go_wp2_with fail
          go_loopw [7] (fun v7 wr => v7 = .int .i64 0 ∧ wr = W1) (fun _ _ => 0)
          case atStart => exact ⟨rfl, rfl⟩
          case round =>
            obtain ⟨rfl, rfl⟩ := hrel
            go_wp2_with fail
            go_ret3
            rw [hR.out.1]
            exact ⟨HB.out, .inr ⟨xs, F, _, _, rfl, by first | (rw [hR.out.2, HL1.out]; rfl) | (rw [hR.out.2]; rfl), fun h0 => by rw [hR.out.2] at h0; exact absurd h0 (by decide)⟩⟩
      · have hR : Hid (bitsD t (f :: xs) = none) := bitsD_end (by rw [hx0, HF.out.1]; show (F == 0) = false; simpa using hF0)
        have hF0b : ((F : Int) != 0) = true := by simp; omega
        clear hx0 hn2 hF0
        go_enter Tryd.func32, Tryd.ntmps32
        go_wp2_with fail
        go_ret3
        exact HBAD.out _ hR.out HB.out
    have hn2b : ((n : Int) == 1) = false := by simp; omega
    have hcc : ¬ c = 1 := by omega
    have hb1 : Hid (ByV W1 P (some ⟨b, o + 1, none⟩) (c - 1) xs) := by have := HF.out.2.2.2; rw [if_neg hcc] at this; exact this
    obtain ⟨b', o', e', hcl⟩ := hb1.out.lies (by rw [HF.out.2.1]; omega)
    cases e'
    have cL := hcl (n - 2) (by rw [HF.out.2.1]; omega)
    have hlast : xs.getLast? = some (xs.getD (n - 2) 0) := by rw [last_of HF.out.2.1 (by omega)]; rw [show n - 1 - 1 = n - 2 by omega]
    have hC := (xs.getD (n - 2) 0).toNat_lt
    obtain ⟨C, hCe⟩ : ∃ C, (xs.getD (n - 2) 0).toNat = C := ⟨_, rfl⟩
    rw [hCe] at cL hC
    have hEZ : Hid (endsZ xs F = (C % 2 ^ F == 0)) := by show endsZ xs F = _; unfold endsZ; rw [hlast]; simp only []; rw [hCe]
    obtain ⟨m, hm⟩ : ∃ m, n - 1 = m := ⟨_, rfl⟩
    have hmI : (n : Int) - 1 = (m : Int) := by omega
    have hmn : (m : Int) < (n : Int) := by omega
    have cL' : W1.cell? ⟨b, o + m, none⟩ = some (.int .u8 (C : Int)) := by rw [show o + m = o + 1 + (n - 2) by omega]; exact cL
    clear hcl cL hlast hCe hm
    go_enter Tryd.func32, Tryd.ntmps32
    go_wp2_with fail
    go_loopw [7] (fun v7 wr => ∃ i : Nat, i ≤ F ∧ v7 = .int .i64 (i : Int) ∧ C % 2 ^ i = 0 ∧ wr = W1) (fun v7 _ => F - (intOf v7).toNat)
    case atStart => exact ⟨0, Nat.zero_le _, rfl, by omega, rfl⟩
    case round =>
      obtain ⟨i, hi, rfl, hCi, rfl⟩ := hrel
      by_cases hlt : i < F
      · have hltI : (i : Int) < (F : Int) := by omega
        have hTm : ((C : Int) / 2 ^ i).tmod 2 = ((C / 2 ^ i % 2 : Nat) : Int) := by
          have e1 : ((2 ^ i : Nat) : Int) = 2 ^ i := by simp
          rw [← e1, ← Int.natCast_ediv, Int.tmod_eq_emod_of_nonneg (Int.natCast_nonneg _)]
          omega
        rcases (show C / 2 ^ i % 2 = 1 ∨ C / 2 ^ i % 2 = 0 by omega) with hbt | hbt
        · have hR : Hid (bitsD t (f :: xs) = none) := bitsD_end (by rw [HF.out.1, hEZ.out]; simpa using bit_one hlt hbt)
          rw [hbt] at hTm
          clear hCi hbt
          go_wp2_with fail
          go_ret3
          exact HBAD.out _ hR.out HB.out
        · have HI : Hid (C % 2 ^ (i + 1) = 0) := bit_none hCi hbt
          rw [hbt] at hTm
          clear hCi hbt
          go_wp2_with fail
          exact ⟨⟨i + 1, by omega, by push_cast; rfl, HI.out, trivial⟩, by simp only [intOf]; omega⟩
      · have hltI : ¬ (i : Int) < (F : Int) := by omega
        have hiF : i = F := by omega
        have hR : Hid (bitsD t (f :: xs) = some (xs, F)) := by show bitsD t (f :: xs) = _; rw [bitsD_ok HF.out.2.2.1 (by rw [HF.out.1]; omega) (by rw [HF.out.1, hEZ.out, ← hiF, hCi]; rfl), HF.out.1]
        clear hCi hiF
        go_wp2_with fail
        go_ret3
        rw [hR.out]
        exact ⟨HB.out, .inr ⟨xs, F, _, _, rfl, by rw [HF.out.2.1]; rfl, hb1.out.lies⟩⟩

end Go.Proofs.YtiblpcfkecalcaaDoor
