/-
  Contracts for a number's bits: the document's Bit, nat.isSet, nat.Bits.
-/
import Derived.Test.YtdojbknkaoiioaaRefL
import Derived.RangeFuncNested
import Derived.RangeFuncBound
import Derived.RangeFuncCalls
import Derived.RangeFuncLeaves
import Derived.Shelf.Abstract
import Derived.Shelf.RegionOpen
import Derived.OwnWalkIn
import Derived.TacticsInMore
import Derived.LoopNIn
import Derived.LoopIn
namespace Go.Proofs.Ytdojbknkaoiioaa
open Go.RowKit
set_option linter.unusedVariables false
set_option linter.unusedSimpArgs false

/-- The bit of that place. -/
def bitAt (V : Int) (p : Nat) : Int := V / 2 ^ p % 2
theorem bitAt_01 (V : Int) (p : Nat) : bitAt V p = 0 ∨ bitAt V p = 1 := by unfold bitAt; omega
theorem bit_of_digit {B : Int} {m : Nat} (hB : B = 2 ^ m) (hm : 0 < m) (xs : List Int) (hd : Dg B xs) (p : Nat) : xs.getD (p / m) 0 / 2 ^ (p % m) % 2 = bitAt (val B xs) p := by
  have hB0 : 0 < B := by rw [hB]; exact Int.pow_pos (by decide)
  unfold bitAt
  rw [digit_at hB0 xs hd (p / m)]
  have hp : (0 : Int) < B ^ (p / m) := Int.pow_pos hB0
  have hq : (0 : Int) < 2 ^ (p % m) := Int.pow_pos (by decide)
  have e0 : (2 : Int) ^ p = B ^ (p / m) * 2 ^ (p % m) := by
    rw [hB, ← Int.pow_mul, ← Int.pow_add, Nat.div_add_mod]
  rw [e0, ← Int.ediv_ediv_of_nonneg (by omega)]
  generalize val B xs / B ^ (p / m) = Y
  have hlt : p % m < m := Nat.mod_lt _ hm
  have e : B = 2 ^ (p % m) * (2 * 2 ^ (m - 1 - p % m)) := by
    rw [Int.mul_comm 2, ← Int.pow_succ, ← Int.pow_add, show p % m + (m - 1 - p % m + 1) = m by omega]; exact hB
  rw [e]
  generalize (2 : Int) ^ (p % m) = q at *
  generalize (2 : Int) ^ (m - 1 - p % m) = s at *
  rw [Int.emod_def Y, show Y - q * (2 * s) * (Y / (q * (2 * s))) = Y + q * (-(2 * s * (Y / (q * (2 * s))))) by grind]
  rw [Int.add_mul_ediv_left _ _ (by omega)]
  rw [show Y / q + -(2 * s * (Y / (q * (2 * s)))) = Y / q + 2 * (-(s * (Y / (q * (2 * s))))) by grind, Int.add_mul_emod_self_left]

set_option maxHeartbeats 1000000 in
/-- the document's Bit. -/
theorem rBit_any (ao : Option Addr) (la ca : Nat) (ds : List Int) (i : Nat) (w : World) (h : NumIn .i64 D16 w ao la ca ds) (hi : i < 1000000000) :
    Calls Try.prog 70 #[.slice ao la ca, .int .i64 i] w fun e w' => e = .returned (.int .i64 (bitAt (val D16 ds) i)) ∧ w' = w := by
  have hl := h.len
  have HE : Hid (ds.getD (i / 16) 0 / 2 ^ (i % 16) % 2 = bitAt (val D16 ds) i) := bit_of_digit (m := 16) rfl (by decide) ds h.dg i
  have gx := h.dg.getD D16_pos (i / 16)
  obtain ⟨q, hq⟩ : ∃ q, i / 16 = q := ⟨_, rfl⟩
  obtain ⟨r, hr⟩ : ∃ r, i % 16 = r := ⟨_, rfl⟩
  have hqI : (i : Int) / 16 = (q : Int) := by omega
  have hrI : (i : Int) % 16 = (r : Int) := by omega
  have hr16 : r < 16 := by omega
  rw [hq, hr] at HE
  rw [hq] at gx
  by_cases hin : q < la
  · obtain ⟨b, off, rfl, hblk, hcs⟩ := h.lies.at (by omega)
    have hc := hcs q hin
    have x0 := gx.1
    have x1 : ds.getD q 0 < 65536 := gx.2
    generalize ds.getD q 0 = x at *
    clear hcs h hq hr gx
    go_enter Try.func70, Try.ntmps70
    go_wp2
    go_ret
    exact ⟨ret_int (by rw [← HE.out]; exact Int.tmod_eq_emod_of_nonneg (Int.ediv_nonneg x0 (Int.le_of_lt (Int.pow_pos (by decide))))), rfl⟩
  · have hz : ds.getD q 0 = 0 := by simp [List.getD, List.getElem?_eq_none (show ds.length ≤ q by omega)]
    rw [hz] at HE
    have HF : Hid (bitAt (val D16 ds) i = 0) := by unfold Hid; rw [← HE.out]; simp
    clear h hq hr gx hz HE
    go_enter Try.func70, Try.ntmps70
    go_wp2
    go_ret
    exact ⟨ret_int HF.out.symm, rfl⟩

theorem low_bit (a : Nat) (ha : a < 18446744073709551616) : bits .and .u64 (a : Int) 1 = ((a % 2 : Nat) : Int) := by
  have h := bits_and_u64_nat a 1 ha (by omega)
  rw [show a &&& 1 = a % 2 from Nat.and_two_pow_sub_one_eq_mod a 1] at h
  exact h

set_option maxHeartbeats 1000000 in
/-- nat.isSet. -/
theorem isSet_any (ao : Option Addr) (la ca : Nat) (xs : List Int) (i : Nat) (w : World) (h : NumIn .u64 B64 w ao la ca xs) (hi : i < 1000000000) :
    Calls Try.prog 75 #[.slice ao la ca, .int .i64 i] w fun e w' => e = .returned (.bool (bitAt (val B64 xs) i == 1)) ∧ w' = w := by
  have hl := h.len
  have hs := h.sm
  have HE : Hid (xs.getD (i / 64) 0 / 2 ^ (i % 64) % 2 = bitAt (val B64 xs) i) := bit_of_digit (m := 64) rfl (by decide) xs h.dg i
  have gx := h.dg.getD B64_pos (i / 64)
  have HL := limb_any ao la ca xs ((i : Int) / 64) w h.lies (by unfold maxLen; omega) (by omega)
  rw [show ((i : Int) / 64).toNat = i / 64 by omega] at HL
  obtain ⟨q, hq⟩ : ∃ q, i / 64 = q := ⟨_, rfl⟩
  obtain ⟨r, hr⟩ : ∃ r, i % 64 = r := ⟨_, rfl⟩
  have hqI : (i : Int) / 64 = (q : Int) := by omega
  have hrI : (i : Int) % 64 = (r : Int) := by omega
  have hr64 : r < 64 := by omega
  rw [hq, hr] at HE
  rw [hq] at gx HL
  rw [hqI] at HL
  obtain ⟨x, hx⟩ := Int.eq_ofNat_of_zero_le gx.1
  rw [hx] at HE gx HL
  have hx1 : x < 18446744073709551616 := by unfold B64 at gx; omega
  have ed : (x : Int) / 2 ^ r = ((x / 2 ^ r : Nat) : Int) := by rw [Int.natCast_ediv, Int.natCast_pow]; rfl
  have hdl : x / 2 ^ r < 18446744073709551616 := Nat.lt_of_le_of_lt (Nat.div_le_self _ _) hx1
  have hb := low_bit (x / 2 ^ r) hdl
  rw [← ed] at hb
  clear h hq hr gx hx ed
  go_enter Try.func75, Try.ntmps75
  go_wp2_with fail
  refine HL.mono ?_
  rintro e w' ⟨rfl, rfl⟩
  go_wp2
  go_ret
  exact ⟨by rw [← HE.out]; rfl, rfl⟩

theorem new_cell (W : World) (v : Value) (t : TypeId) : (W.alloc (.cells #[v] t)).cell? ⟨W.heap.size, 0, none⟩ = some v ∧ (W.alloc (.cells #[v] t)).frozen? ⟨W.heap.size, 0, none⟩ = false := ⟨by simp, by simp⟩
theorem more_cell {W : World} {a : Addr} {v : Value} (o : Obj) (h : W.cell? a = some v) : (W.alloc o).cell? a = some v := cell_kept h (World.grownBy_alloc W o none) (fun r e => by cases e)
theorem more_frozen {W : World} {a : Addr} {v : Value} (o : Obj) (h : W.cell? a = some v) (hf : W.frozen? a = false) : (W.alloc o).frozen? a = false := (frozen_kept h (World.grownBy_alloc W o none) (fun r e => by cases e)).trans hf

/-- What nat.Bits hands out: a closure over two cells: how many bits there are, and the limbs. -/
def BitsAt (w : World) (g3 g4 : Nat) (V : Int) (L : Nat) : Prop :=
  ∃ ao la ca xs, g3 < w.heap.size ∧ g4 < w.heap.size ∧ w.cell? ⟨g4, 0, none⟩ = some (.int .i64 L) ∧ w.cell? ⟨g3, 0, none⟩ = some (.slice ao la ca) ∧ NumIn .u64 B64 w ao la ca xs ∧ val B64 xs = V ∧ L ≤ 4480
theorem BitsAt.old {w w' : World} {g3 g4 : Nat} {V : Int} {L : Nat} (h : BitsAt w g3 g4 V L) (hb : Below w.heap.size w w') : BitsAt w' g3 g4 V L := by
  obtain ⟨ao, la, ca, xs, h1, h2, h3, h4, h5, h6, h7⟩ := h
  exact ⟨ao, la, ca, xs, Nat.lt_of_lt_of_le h1 hb.size, Nat.lt_of_lt_of_le h2 hb.size, (hb.cell (p := ⟨g4, 0, none⟩) h2).trans h3, (hb.cell (p := ⟨g3, 0, none⟩) h1).trans h4, h5.old hb, h6, h7⟩

set_option maxHeartbeats 1000000 in
/-- nat.Bits. -/
theorem Bits_new (ao : Option Addr) (la ca : Nat) (xs : List Int) (w : World) (h : NumIn .u64 B64 w ao la ca xs) (hla : la ≤ 70) :
    Calls Try.prog 51 #[.slice ao la ca] w fun e w' => ∃ g3 g4, e = .returned (.func (.func 74) #[] #[.pointer (some ⟨g4, 0, none⟩), .pointer (some ⟨g3, 0, none⟩)]) ∧ BitsAt w' g3 g4 (val B64 xs) (blen (val B64 xs).toNat) ∧ Below w.heap.size w w' ∧ w.heap.size ≤ g3 := by
  have HN := Norm_any ao la ca xs w h
  have hbl : blen (val B64 xs).toNat ≤ 4480 := by
    have h0 := val_nonneg B64_pos h.dg
    have h1 := val_lt B64_pos h.dg
    have h2 := pow_mono (B := B64) (by decide) (show xs.length ≤ 70 by have := h.len; omega)
    refine blen_le _ _ ?_
    have e : ((2 ^ 4480 : Nat) : Int) = B64 ^ 70 := by decide +kernel
    omega
  have HBL : Hid (blen (val B64 xs).toNat ≤ 4480) := hbl
  clear hbl h
  go_enter Try.func51, Try.ntmps51
  go_wp2_with fail
  refine HN.mono ?_
  rintro e w1 ⟨v, rfl, a1, l1, c1, ys, rfl, hy, hcy, hvy, hby, hb⟩
  have HB1 : Hid (Below w.heap.size w w1) := hb
  have HY : Hid (NumIn .u64 B64 w1 a1 l1 c1 ys ∧ val B64 ys = val B64 xs) := ⟨hy, hvy⟩
  clear hy hcy hvy hb HN
  go_wp2_with fail
  obtain ⟨w2, hw2⟩ : ∃ w2, w1.alloc (.cells #[.slice a1 l1 c1] 27) = w2 := ⟨_, rfl⟩
  have c3 := new_cell w1 (.slice a1 l1 c1) 27
  have hb2 : Below w1.heap.size w1 (w1.alloc (.cells #[.slice a1 l1 c1] 27)) := (Below.refl _ _).alloc (Nat.le_refl _) _
  have hs2 : (w1.alloc (.cells #[.slice a1 l1 c1] 27)).heap.size = w1.heap.size + 1 := World.size_alloc _ _
  have HL := Len_any a1 l1 c1 ys (w1.alloc (.cells #[.slice a1 l1 c1] 27)) (HY.out.1.old hb2)
  rw [show lenOf ys = blen (val B64 xs).toNat from by rw [lenOf_eq _ HY.out.1.dg, HY.out.2]] at HL
  rw [hw2] at HL c3 hb2 hs2 ⊢
  clear hw2
  refine HL.mono ?_
  rintro e w2' ⟨rfl, rfl⟩
  clear HL
  generalize hL : blen (val B64 xs).toNat = L at *
  have c4 := new_cell w2' (.int .i64 L) 3
  have hb3 : Below w2'.heap.size w2' (w2'.alloc (.cells #[.int .i64 L] 3)) := (Below.refl _ _).alloc (Nat.le_refl _) _
  have HF : Hid (BitsAt (w2'.alloc (.cells #[.int .i64 L] 3)) w1.heap.size w2'.heap.size (val B64 xs) L ∧ Below w.heap.size w (w2'.alloc (.cells #[.int .i64 L] 3)) ∧ w.heap.size ≤ w1.heap.size) := by
    refine ⟨⟨a1, l1, c1, ys, ?_, ?_, c4.1, ?_, (HY.out.1.old hb2).old hb3, HY.out.2, HBL.out⟩, ?_, HB1.out.size⟩
    · rw [World.size_alloc]; omega
    · rw [World.size_alloc]; omega
    · exact (hb3.cell (p := ⟨w1.heap.size, 0, none⟩) (by show w1.heap.size < _; omega)).trans c3.1
    · exact (HB1.out.trans (hb2.mono HB1.out.size)).trans (hb3.mono (by have := HB1.out.size; omega))
  have HS : Hid (w2'.heap.size = w1.heap.size + 1) := hs2
  have HLE : Hid (blen (val B64 xs).toNat = L) := hL
  clear c3 c4 hb2 hb3 HB1 HY HBL hs2 hL
  go_wp2
  go_ret
  exact ⟨_, _, rfl, by rw [HLE.out]; exact HF.out⟩
theorem Bits_any (ao : Option Addr) (la ca : Nat) (xs : List Int) (w : World) (h : NumIn .u64 B64 w ao la ca xs) (hla : la ≤ 70) :
    Calls Try.prog 51 #[.slice ao la ca] w fun e w' => ∃ g3 g4, e = .returned (.func (.func 74) #[] #[.pointer (some ⟨g4, 0, none⟩), .pointer (some ⟨g3, 0, none⟩)]) ∧ BitsAt w' g3 g4 (val B64 xs) (blen (val B64 xs).toNat) ∧ Below w.heap.size w w' := by
  refine (Bits_new ao la ca xs w h hla).mono ?_
  rintro e w' ⟨g3, g4, h1, h2, h3, _⟩
  exact ⟨g3, g4, h1, h2, h3⟩
end Go.Proofs.Ytdojbknkaoiioaa
