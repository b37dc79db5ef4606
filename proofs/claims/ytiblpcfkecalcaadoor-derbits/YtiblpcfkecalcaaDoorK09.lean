import Derived.Test.YtiblpcfkecalcaaDoorK08
import Derived.Test.YtiblpcfkecalcaaDoorK05
/-
  Bool and Bits, of the code and of the document.
-/
namespace Go.Proofs.YtiblpcfkecalcaaDoor
open Go.Shelf Go.RowKit
set_option linter.unusedVariables false
set_option linter.unusedSimpArgs false

/-- Yes or no. -/
def boolD (t : Nat) (b : Bs) : Option Bool := if t = 1 then (match b with
  | [c] => if c.toNat = 255 then some true else if c.toNat = 0 then some false else none
  | _ => none) else none
def boolV : Option Bool → Value
  | none => .tuple #[.bool false, .int .i64 30]
  | some x => .tuple #[.bool x, .int .i64 0]
theorem boolD_tag {t : Nat} {b : Bs} (h : t ≠ 1) : boolD t b = none := by unfold boolD; rw [if_neg h]
theorem boolD_len {t : Nat} {b : Bs} (h : b.length ≠ 1) : boolD t b = none := by
  unfold boolD
  split
  · match b, h with
    | [], _ => rfl
    | [c], h => exact absurd rfl h
    | _ :: _ :: _, _ => rfl
  · rfl
theorem boolD_one (c : UInt8) : boolD 1 [c] = if c.toNat = 255 then some true else if c.toNat = 0 then some false else none := rfl
set_option maxRecDepth 100000 in
set_option maxHeartbeats 2000000 in
theorem derBool (t : Nat) (ht : t < 256) (p : Option Addr) (n c : Nat) (l : Bs) (w : World) (hl : l.length = n) (h : BAt w p n l) (hn : n ≤ 1000000) :
    Calls Tryd.prog 33 #[.agg #[.int .u8 (t : Int), .slice p n c]] w fun e w' => e = .returned (boolV (boolD t l)) ∧ Below w.heap.size w w' := by
  obtain ⟨W1, hW1⟩ : ∃ W1, w.alloc (.cells #[.int .u8 (t : Int), .slice p n c] 25) = W1 := ⟨_, rfl⟩
  have b1 : Below w.heap.size w W1 := by rw [← hW1]; exact (Below.refl _ _).alloc (Nat.le_refl _) _
  have s1 : Tl W1 w.heap.size (.int .u8 (t : Int)) (.slice p n c) := by rw [← hW1]; exact Tl.new w _ _
  obtain ⟨g0, g1, g2, g3⟩ := s1.facts
  have HB : Hid (Below w.heap.size w W1) := b1
  have h1 := h.below b1
  clear b1 s1 h
  by_cases q1 : t = 1
  rotate_left
  · have q1b : ((t : Int) != 1) = true := by simp; omega
    rw [boolD_tag q1]
    clear hl h1
    go_enter Tryd.func33, Tryd.ntmps33
    go_wp2_with fail
    go_ret2
    exact ⟨rfl, HB.out⟩
  have q1b : ((t : Int) != 1) = false := by simp; omega
  by_cases q2 : n = 1
  rotate_left
  · have q2b : ((n : Int) != 1) = true := by simp; omega
    rw [boolD_len (by omega)]
    clear hl h1 q1
    go_enter Tryd.func33, Tryd.ntmps33
    go_wp2_with fail
    go_ret2
    exact ⟨rfl, HB.out⟩
  have q2b : ((n : Int) != 1) = false := by simp; omega
  have q2c : (0 : Int) < (n : Int) := by omega
  obtain ⟨x, rfl⟩ : ∃ x, l = [x] := by
    rw [q2] at hl
    match l, hl with
    | [x], _ => exact ⟨x, rfl⟩
  obtain ⟨b, o, rfl, hc⟩ := h1 (by omega)
  have c0 : W1.cell? ⟨b, o, none⟩ = some (.int .u8 (x.toNat : Int)) := by have := hc 0 (by omega); simpa using this
  have hx := x.toNat_lt
  rw [q1, boolD_one]
  rw [← q1]
  obtain ⟨X, hX⟩ : ∃ X, x.toNat = X := ⟨_, rfl⟩
  rw [hX] at c0 hx ⊢
  clear hX hc h1 hl q1 q2
  by_cases q3 : X = 255
  · subst q3
    go_enter Tryd.func33, Tryd.ntmps33
    go_wp2_with fail
    go_ret2
    exact ⟨rfl, HB.out⟩
  by_cases q4 : X = 0
  · subst q4
    go_enter Tryd.func33, Tryd.ntmps33
    go_wp2_with fail
    go_ret2
    exact ⟨rfl, HB.out⟩
  have q3b : ((X : Int) == 255) = false := by simp; omega
  have q4b : ((X : Int) == 0) = false := by simp; omega
  have q3c : ((X : Int) != 255) = true := by simp; omega
  have q4c : ((X : Int) != 0) = true := by simp; omega
  rw [if_neg q3, if_neg q4]
  go_enter Tryd.func33, Tryd.ntmps33
  go_wp2_with fail
  go_ret2
  exact ⟨rfl, HB.out⟩
set_option maxRecDepth 100000 in
set_option maxHeartbeats 2000000 in
theorem rBool (t : Nat) (ht : t < 256) (p : Option Addr) (n c : Nat) (l : Bs) (w : World) (hl : l.length = n) (h : BAt w p n l) (hn : n ≤ 1000000) :
    Calls Tryd.prog 34 #[.agg #[.int .u8 (t : Int), .slice p n c]] w fun e w' => e = .returned (boolV (boolD t l)) ∧ Below w.heap.size w w' := by
  obtain ⟨W1, hW1⟩ : ∃ W1, w.alloc (.cells #[.int .u8 (t : Int), .slice p n c] 25) = W1 := ⟨_, rfl⟩
  have b1 : Below w.heap.size w W1 := by rw [← hW1]; exact (Below.refl _ _).alloc (Nat.le_refl _) _
  have s1 : Tl W1 w.heap.size (.int .u8 (t : Int)) (.slice p n c) := by rw [← hW1]; exact Tl.new w _ _
  obtain ⟨g0, g1, g2, g3⟩ := s1.facts
  have HB : Hid (Below w.heap.size w W1) := b1
  have h1 := h.below b1
  clear b1 s1 h
  by_cases q1 : t = 1
  rotate_left
  · have q1b : ((t : Int) != 1) = true := by simp; omega
    rw [boolD_tag q1]
    clear hl h1
    go_enter Tryd.func34, Tryd.ntmps34
    go_wp2_with fail
    go_ret2
    exact ⟨rfl, HB.out⟩
  have q1b : ((t : Int) != 1) = false := by simp; omega
  by_cases q2 : n = 1
  rotate_left
  · have q2b : ((n : Int) != 1) = true := by simp; omega
    rw [boolD_len (by omega)]
    clear hl h1 q1
    go_enter Tryd.func34, Tryd.ntmps34
    go_wp2_with fail
    go_ret2
    exact ⟨rfl, HB.out⟩
  have q2b : ((n : Int) != 1) = false := by simp; omega
  have q2c : (0 : Int) < (n : Int) := by omega
  obtain ⟨x, rfl⟩ : ∃ x, l = [x] := by
    rw [q2] at hl
    match l, hl with
    | [x], _ => exact ⟨x, rfl⟩
  obtain ⟨b, o, rfl, hc⟩ := h1 (by omega)
  have c0 : W1.cell? ⟨b, o, none⟩ = some (.int .u8 (x.toNat : Int)) := by have := hc 0 (by omega); simpa using this
  have hx := x.toNat_lt
  rw [q1, boolD_one]
  rw [← q1]
  obtain ⟨X, hX⟩ : ∃ X, x.toNat = X := ⟨_, rfl⟩
  rw [hX] at c0 hx ⊢
  clear hX hc h1 hl q1 q2
  by_cases q3 : X = 255
  · subst q3
    go_enter Tryd.func34, Tryd.ntmps34
    go_wp2_with fail
    go_ret2
    exact ⟨rfl, HB.out⟩
  by_cases q4 : X = 0
  · subst q4
    go_enter Tryd.func34, Tryd.ntmps34
    go_wp2_with fail
    go_ret2
    exact ⟨rfl, HB.out⟩
  have q3b : ((X : Int) == 255) = false := by simp; omega
  have q4b : ((X : Int) == 0) = false := by simp; omega
  have q3c : ((X : Int) != 255) = true := by simp; omega
  have q4c : ((X : Int) != 0) = true := by simp; omega
  rw [if_neg q3, if_neg q4]
  go_enter Tryd.func34, Tryd.ntmps34
  go_wp2_with fail
  go_ret2
  exact ⟨rfl, HB.out⟩
/-- Whether so many lowest bits of the last byte are there, and 0. -/
def endsZ (xs : Bs) (k : Nat) : Bool := match xs.getLast? with
  | none => k == 0
  | some c => c.toNat % 2 ^ k == 0
theorem u8_mask (x : Nat) (hx : x < 256) (k : Nat) (hk : k < 8) : bits .and .u8 (x : Int) (((2 ^ k - 1 : Nat)) : Int) = ((x % 2 ^ k : Nat) : Int) := by
  have : ∀ (n : Fin 256) (k : Fin 8), bits .and .u8 ((n.val : Nat) : Int) ((2 ^ k.val - 1 : Nat) : Int) = ((n.val % 2 ^ k.val : Nat) : Int) := by decide +kernel
  exact this ⟨x, hx⟩ ⟨k, hk⟩
theorem last_of {xs : Bs} {n : Nat} (hl : xs.length = n) (h0 : 0 < n) : xs.getLast? = some (xs.getD (n - 1) 0) := by
  rw [List.getLast?_eq_getElem?, hl]
  simp [List.getD, List.getElem?_eq_getElem (show n - 1 < xs.length by omega)]
set_option maxRecDepth 100000 in
set_option maxHeartbeats 2000000 in
/-- endsInZeros. -/
theorem ends_any (p : Option Addr) (n c : Nat) (l : Bs) (k : Nat) (hk : k < 8) (w : World) (hl : l.length = n) (h : BAt w p n l) (hn : n ≤ 1000000) :
    Calls Tryd.prog 47 #[.slice p n c, .int .i64 (k : Int)] w fun e w' => e = .returned (.bool (endsZ l k)) ∧ w' = w := by
  by_cases h0 : n = 0
  · subst h0
    have : l = [] := List.eq_nil_of_length_eq_zero hl
    subst this
    have hkb : ((k : Int) == 0) = (k == 0) := by
      by_cases h : k = 0
      · subst h; rfl
      · rw [show (k == 0) = false by simpa using h]; simp; omega
    have he : endsZ [] k = (k == 0) := rfl
    rw [he]
    clear he
    go_enter Tryd.func47, Tryd.ntmps47
    go_wp2_with fail
    go_ret
    exact ⟨rfl, rfl⟩
  obtain ⟨b, o, rfl, hc⟩ := h (by omega)
  have c0 := hc (n - 1) (by omega)
  have he : endsZ l k = ((l.getD (n - 1) 0).toNat % 2 ^ k == 0) := by unfold endsZ; rw [last_of hl (by omega)]
  rw [he]
  have hx := (l.getD (n - 1) 0).toNat_lt
  obtain ⟨X, hX⟩ : ∃ X, (l.getD (n - 1) 0).toNat = X := ⟨_, rfl⟩
  rw [hX] at c0 hx ⊢
  obtain ⟨m, hm⟩ : ∃ m, n - 1 = m := ⟨_, rfl⟩
  have hmI : (n : Int) - 1 = (m : Int) := by omega
  have hmn : (m : Int) < (n : Int) := by omega
  have hn0 : ((n : Int) == 0) = false := by simp; omega
  rw [hm] at c0
  have hmask := u8_mask X hx k hk
  obtain ⟨R, hR⟩ : ∃ R, X % 2 ^ k = R := ⟨_, rfl⟩
  rw [hR] at hmask ⊢
  have hRb : ((R : Int) == 0) = (R == 0) := by
    by_cases h : R = 0
    · subst h; rfl
    · rw [show (R == 0) = false by simpa using h]; simp; omega
  clear hm hX he hc h hl hR
  match k, hk, hmask with
  | 0, _, hmask => 
    simp only [Nat.reducePow, Nat.reduceSub, Int.cast_ofNat_Int, Int.natCast_zero] at hmask
    go_enter Tryd.func47, Tryd.ntmps47
    go_wp2_with fail
    go_ret
    exact ⟨rfl, rfl⟩
  | 1, _, hmask => 
    simp only [Nat.reducePow, Nat.reduceSub, Int.cast_ofNat_Int, Int.natCast_zero] at hmask
    go_enter Tryd.func47, Tryd.ntmps47
    go_wp2_with fail
    go_ret
    exact ⟨rfl, rfl⟩
  | 2, _, hmask => 
    simp only [Nat.reducePow, Nat.reduceSub, Int.cast_ofNat_Int, Int.natCast_zero] at hmask
    go_enter Tryd.func47, Tryd.ntmps47
    go_wp2_with fail
    go_ret
    exact ⟨rfl, rfl⟩
  | 3, _, hmask => 
    simp only [Nat.reducePow, Nat.reduceSub, Int.cast_ofNat_Int, Int.natCast_zero] at hmask
    go_enter Tryd.func47, Tryd.ntmps47
    go_wp2_with fail
    go_ret
    exact ⟨rfl, rfl⟩
  | 4, _, hmask => 
    simp only [Nat.reducePow, Nat.reduceSub, Int.cast_ofNat_Int, Int.natCast_zero] at hmask
    go_enter Tryd.func47, Tryd.ntmps47
    go_wp2_with fail
    go_ret
    exact ⟨rfl, rfl⟩
  | 5, _, hmask => 
    simp only [Nat.reducePow, Nat.reduceSub, Int.cast_ofNat_Int, Int.natCast_zero] at hmask
    go_enter Tryd.func47, Tryd.ntmps47
    go_wp2_with fail
    go_ret
    exact ⟨rfl, rfl⟩
  | 6, _, hmask => 
    simp only [Nat.reducePow, Nat.reduceSub, Int.cast_ofNat_Int, Int.natCast_zero] at hmask
    go_enter Tryd.func47, Tryd.ntmps47
    go_wp2_with fail
    go_ret
    exact ⟨rfl, rfl⟩
  | 7, _, hmask => 
    simp only [Nat.reducePow, Nat.reduceSub, Int.cast_ofNat_Int, Int.natCast_zero] at hmask
    go_enter Tryd.func47, Tryd.ntmps47
    go_wp2_with fail
    go_ret
    exact ⟨rfl, rfl⟩
end Go.Proofs.YtiblpcfkecalcaaDoor
