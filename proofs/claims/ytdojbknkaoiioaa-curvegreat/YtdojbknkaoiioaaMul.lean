/-
  Contracts of math/bits.Mul64 and nat.mulAdd.
-/
import Derived.Test.YtdojbknkaoiioaaBits
namespace Go.Proofs.Ytdojbknkaoiioaa
open Go.RowKit Go.Lib
set_option linter.unusedVariables false
set_option linter.unusedSimpArgs false

theorem low_half (a : Nat) (ha : a < 18446744073709551616) : bits .and .u64 (a : Int) 4294967295 = ((a % 4294967296 : Nat) : Int) := by
  have h := bits_and_u64_nat a 4294967295 ha (by omega)
  rw [show a &&& 4294967295 = a % 4294967296 from Nat.and_two_pow_sub_one_eq_mod a 32] at h
  exact h
theorem cast_div32 (a : Nat) : (a : Int) / 4294967296 = ((a / 4294967296 : Nat) : Int) := by omega
theorem cast_mul (a b : Nat) : (a : Int) * (b : Int) = ((a * b : Nat) : Int) := (Int.natCast_mul a b).symm
theorem cast_add (a b : Nat) : (a : Int) + (b : Int) = ((a + b : Nat) : Int) := (Int.natCast_add a b).symm
theorem wrap_fit (a : Nat) (ha : a < 18446744073709551616) : IntKind.u64.wrap (a : Int) = (a : Int) := by rw [IntKind.wrap_u64]; omega
theorem wrap_mod (a : Nat) : IntKind.u64.wrap (a : Int) = ((a % 18446744073709551616 : Nat) : Int) := by rw [IntKind.wrap_u64]; omega

set_option maxHeartbeats 1000000 in
theorem mul64_nat (x y : Nat) (hx : x < 18446744073709551616) (hy : y < 18446744073709551616) (w : World) :
    Calls Try.prog 93 #[.int .u64 x, .int .u64 y] w fun e w' => e = .returned (.tuple #[.int .u64 ((x * y / 18446744073709551616 : Nat) : Int), .int .u64 ((x * y % 18446744073709551616 : Nat) : Int)]) ∧ w' = w := by
  obtain ⟨p1, p2, p3, hhi⟩ := Lib.mul64_hi x y hx hy
  have q1 := Lib.half_mul_le (a := x / 4294967296) (b := y / 4294967296) (by omega) (by omega)
  have q2 := Lib.half_mul_le (a := x / 4294967296) (b := y % 4294967296) (by omega) (by omega)
  have q3 := Lib.half_mul_le (a := x % 4294967296) (b := y / 4294967296) (by omega) (by omega)
  have r1 : x / 4294967296 * (y / 4294967296) < 18446744073709551616 := by omega
  have r2 : x / 4294967296 * (y % 4294967296) < 18446744073709551616 := by omega
  have r3 : x % 4294967296 * (y / 4294967296) < 18446744073709551616 := by omega
  have s1 : x / 4294967296 * (y / 4294967296) + (x / 4294967296 * (y % 4294967296) + x % 4294967296 * (y % 4294967296) / 4294967296) / 4294967296 < 18446744073709551616 := by omega
  have s2 : x / 4294967296 * (y / 4294967296) + (x / 4294967296 * (y % 4294967296) + x % 4294967296 * (y % 4294967296) / 4294967296) / 4294967296 + ((x / 4294967296 * (y % 4294967296) + x % 4294967296 * (y % 4294967296) / 4294967296) % 4294967296 + x % 4294967296 * (y / 4294967296)) / 4294967296 < 18446744073709551616 := by omega
  go_enter Try.func93, Try.ntmps93
  go_wp2
  simp only [low_half x hx, low_half y hy, cast_div32, cast_mul, cast_add, wrap_fit _ p1, wrap_fit _ r2, wrap_fit _ p2, low_half _ p2, wrap_fit _ r3, wrap_fit _ p3, wrap_fit _ r1, wrap_fit _ s1, wrap_fit _ s2, wrap_mod (x * y)]
  rw [hhi]
  go_ret2
  exact ⟨rfl, rfl⟩
theorem mul64_any (x y : Int) (hx0 : 0 ≤ x) (hx : x < 18446744073709551616) (hy0 : 0 ≤ y) (hy : y < 18446744073709551616) (w : World) :
    Calls Try.prog 93 #[.int .u64 x, .int .u64 y] w fun e w' => e = .returned (.tuple #[.int .u64 (x * y / 18446744073709551616), .int .u64 (x * y % 18446744073709551616)]) ∧ w' = w := by
  obtain ⟨x, rfl⟩ := Int.eq_ofNat_of_zero_le hx0
  obtain ⟨y, rfl⟩ := Int.eq_ofNat_of_zero_le hy0
  have h := mul64_nat x y (by omega) (by omega) w
  rw [Int.natCast_ediv, Int.natCast_emod, Int.natCast_mul] at h
  exact h

theorem ret_two {k l : IntKind} {a b c d : Int} (h : a = b) (h' : c = d) : Ending.returned (.tuple #[.int k a, .int l c]) = .returned (.tuple #[.int k b, .int l d]) := by rw [h, h']

theorem prod_lt (a b more : Int) (ha0 : 0 ≤ a) (ha : a < 18446744073709551616) (hb0 : 0 ≤ b) (hb : b < 18446744073709551616) (hm : more < 18446744073709551616) :
    a * b + more < 18446744073709551616 * 18446744073709551616 - 18446744073709551616 + 1 := by
  have h1 : a * b ≤ 18446744073709551615 * 18446744073709551615 := Int.mul_le_mul (by omega) (by omega) hb0 (by omega)
  omega

set_option maxHeartbeats 400000 in
/-- nat.mulAdd: a product and one more limb, as two limbs. -/
theorem mulAdd_any (a b more : Int) (ha0 : 0 ≤ a) (ha : a < 18446744073709551616) (hb0 : 0 ≤ b) (hb : b < 18446744073709551616) (hm0 : 0 ≤ more) (hm : more < 18446744073709551616) (w : World) :
    Calls Try.prog 82 #[.int .u64 a, .int .u64 b, .int .u64 more] w fun e w' => e = .returned (.tuple #[.int .u64 ((a * b + more) / 18446744073709551616), .int .u64 ((a * b + more) % 18446744073709551616)]) ∧ w' = w := by
  have hp := prod_lt a b more ha0 ha hb0 hb hm
  have hp0 : 0 ≤ a * b := Int.mul_nonneg ha0 hb0
  have HM := mul64_any a b ha0 ha hb0 hb
  generalize hP : a * b = P at *
  clear hP
  have k0 : 0 ≤ P % 18446744073709551616 := by omega
  go_enter Try.func82, Try.ntmps82
  go_wp2_with (first | (go_at_call 93; refine (HM _).mono ?_; rintro e w' ⟨rfl, rfl⟩) | simp only [add64_0 _ more k0 hm0])
  go_ret2
  exact ⟨ret_two (by omega) rfl, rfl⟩

/-! ### A row of the program's own memory -/
/-- Block g is a row of numbers that may be written. -/
def Row (e : TypeId) (k : IntKind) (w : World) (g : Nat) (xs : List Int) : Prop := w.heap[g]? = some (.cells ((xs.map (Value.int k)).toArray) e (0, 0))
theorem Row.lt {e : TypeId} {k : IntKind} {w : World} {g : Nat} {xs : List Int} (h : Row e k w g xs) : g < w.heap.size := by
  unfold Row at h
  exact (Array.getElem?_eq_some_iff.1 h).1
theorem Row.cell {e : TypeId} {k : IntKind} {w : World} {g : Nat} {xs : List Int} (h : Row e k w g xs) (j : Nat) (hj : j < xs.length) : w.cell? ⟨g, j, none⟩ = some (.int k (xs.getD j 0)) := by
  rw [cell_of_row w g j _ e (0, 0) h]
  simp [hj]
theorem Row.frozen {e : TypeId} {k : IntKind} {w : World} {g : Nat} {xs : List Int} (h : Row e k w g xs) (j : Nat) : w.frozen? ⟨g, j, none⟩ = false := frozen_of_row w g j _ e h
theorem Row.set {e : TypeId} {k : IntKind} {w : World} {g : Nat} {xs : List Int} (h : Row e k w g xs) (j : Nat) (y : Int) : Row e k (w.setCell ⟨g, j, none⟩ (.int k y)) g (xs.set j y) := by
  unfold Row
  rw [heap_setCell_same w g j _ e _ h]
  simp [List.map_set]
theorem Row.kept {e : TypeId} {k : IntKind} {w w' : World} {g : Nat} {xs : List Int} (h : Row e k w g xs) {row : Option Nat} (hg : w.grownBy w' row) (hne : some g ≠ row) : Row e k w' g xs := by
  unfold Row
  rw [hg.block g h.lt hne]; exact h
theorem Row.below {e : TypeId} {k : IntKind} {w w' : World} {g : Nat} {xs : List Int} (h : Row e k w g xs) {B : Nat} (hg : Below B w w') (hne : g < B) : Row e k w' g xs := by
  unfold Row
  rw [hg.block g hne]; exact h
theorem Row.lies {e : TypeId} {k : IntKind} {w : World} {g : Nat} {xs : List Int} (h : Row e k w g xs) (off len : Nat) (hl : off + len ≤ xs.length) : Lies k w (some ⟨g, off, none⟩) len ((xs.drop off).take len) := by
  refine ⟨by simp; omega, .inr ⟨g, off, rfl, h.lt, fun i hi => ?_⟩⟩
  rw [h.cell (off + i) (by omega)]
  simp only [List.getD, List.getElem?_take, List.getElem?_drop]
  rw [if_pos hi]
theorem grown_set (w : World) (g j : Nat) (u : Value) : w.grownBy (w.setCell ⟨g, j, none⟩ u) (some g) :=
  ⟨rfl, rfl, rfl, by simp, fun k _ hk => heap_setCell_other w ⟨g, j, none⟩ k u (fun e => hk (by simp [e]))⟩
theorem grown_trans {a b c : World} {row : Option Nat} (h : a.grownBy b row) (k : b.grownBy c row) : a.grownBy c row :=
  ⟨k.os.trans h.os, k.tape.trans h.tape, k.output.trans h.output, Nat.le_trans h.size k.size, fun i hi hne => (k.block i (Nat.lt_of_lt_of_le hi h.size) hne).trans (h.block i hi hne)⟩
theorem Lies.kept {k : IntKind} {w w' : World} {ao : Option Addr} {len : Nat} {xs : List Int} (h : Lies k w ao len xs) {row : Option Nat} (hg : w.grownBy w' row) (hne : ∀ b off s, ao = some ⟨b, off, s⟩ → some b ≠ row) : Lies k w' ao len xs := by
  refine ⟨h.1, ?_⟩
  rcases h.2 with h0 | ⟨b, off, e, hlt, hc⟩
  · exact .inl h0
  · exact .inr ⟨b, off, e, Nat.lt_of_lt_of_le hlt hg.size, fun i hi => hg.cell (hc i hi) (hne b off none e)⟩
end Go.Proofs.Ytdojbknkaoiioaa
