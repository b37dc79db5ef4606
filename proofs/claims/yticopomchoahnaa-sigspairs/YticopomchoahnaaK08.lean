import Derived.Test.YticopomchoahnaaK07
import Derived.RangeFuncNested
import Derived.RangeFuncBound
import Derived.RangeFuncCalls
import Derived.RangeFuncLeaves
import Derived.Shelf.Abstract
import Derived.Shelf.RegionOpen
import Derived.OwnWalkIn
import Derived.TacticsInMore
import Derived.LoopNIn
import Derived.LoopIn
import Derived.Test.YticopomchoahnaaK05
import Derived.Stop.RegionWithIn
import Derived.Deep.RegionHeld3
import Derived.Test.YticopomchoahnaaK06
import Derived.Test.YticopomchoahnaaK00
import Derived.Maps.OwnIn
/-
  Contracts for a number's bits: the document's Bit, nat.isSet, nat.Bits.
-/
namespace Go.Proofs.Yticopomchoahnaa
open Go.RowKit
set_option linter.unusedVariables false
set_option linter.unusedSimpArgs false

/-- The bit of that place. -/
def bitAt (V : Int) (p : Nat) : Int := V / 2 ^ p % 2
theorem bitAt_01 (V : Int) (p : Nat) : bitAt V p = 0 ∨ bitAt V p = 1 := by unfold bitAt; omega
theorem bit_of_digit {B : Int} {m : Nat} (hB : B = 2 ^ m) (hm : 0 < m) (xs : List Int) (hd : Dg B xs) (p : Nat) : xs.getD (p / m) 0 / 2 ^ (p % m) % 2 = bitAt (val B xs) p := by
  have hB0 : 0 < B := by rw [hB]; exact Int.pow_pos (by decide)
  unfold bitAt
  rw [digit_at hB0 xs hd (p / m)]
  have hp : (0 : Int) < B ^ (p / m) := Int.pow_pos hB0
  have hq : (0 : Int) < 2 ^ (p % m) := Int.pow_pos (by decide)
  have e0 : (2 : Int) ^ p = B ^ (p / m) * 2 ^ (p % m) := by
    rw [hB, ← Int.pow_mul, ← Int.pow_add, Nat.div_add_mod]
  rw [e0, ← Int.ediv_ediv_of_nonneg (by omega)]
  generalize val B xs / B ^ (p / m) = Y
  have hlt : p % m < m := Nat.mod_lt _ hm
  have e : B = 2 ^ (p % m) * (2 * 2 ^ (m - 1 - p % m)) := by
    rw [Int.mul_comm 2, ← Int.pow_succ, ← Int.pow_add, show p % m + (m - 1 - p % m + 1) = m by omega]; exact hB
  rw [e]
  generalize (2 : Int) ^ (p % m) = q at *
  generalize (2 : Int) ^ (m - 1 - p % m) = s at *
  rw [Int.emod_def Y, show Y - q * (2 * s) * (Y / (q * (2 * s))) = Y + q * (-(2 * s * (Y / (q * (2 * s))))) by grind]
  rw [Int.add_mul_ediv_left _ _ (by omega)]
  rw [show Y / q + -(2 * s * (Y / (q * (2 * s)))) = Y / q + 2 * (-(s * (Y / (q * (2 * s))))) by grind, Int.add_mul_emod_self_left]

set_option maxHeartbeats 1000000 in
/-- the document's Bit. -/
theorem rBit_any (ao : Option Addr) (la ca : Nat) (ds : List Int) (i : Nat) (w : World) (h : NumIn .i64 D16 w ao la ca ds) (hi : i < 1000000000) :
    Calls Try.prog 47 #[.slice ao la ca, .int .i64 i] w fun e w' => e = .returned (.int .i64 (bitAt (val D16 ds) i)) ∧ w' = w := by
  have hl := h.len
  have HE : Hid (ds.getD (i / 16) 0 / 2 ^ (i % 16) % 2 = bitAt (val D16 ds) i) := bit_of_digit (m := 16) rfl (by decide) ds h.dg i
  have gx := h.dg.getD D16_pos (i / 16)
  obtain ⟨q, hq⟩ : ∃ q, i / 16 = q := ⟨_, rfl⟩
  obtain ⟨r, hr⟩ : ∃ r, i % 16 = r := ⟨_, rfl⟩
  have hqI : (i : Int) / 16 = (q : Int) := by omega
  have hrI : (i : Int) % 16 = (r : Int) := by omega
  have hr16 : r < 16 := by omega
  rw [hq, hr] at HE
  rw [hq] at gx
  by_cases hin : q < la
  · obtain ⟨b, off, rfl, hblk, hcs⟩ := h.lies.at (by omega)
    have hc := hcs q hin
    have x0 := gx.1
    have x1 : ds.getD q 0 < 65536 := gx.2
    generalize ds.getD q 0 = x at *
    clear hcs h hq hr gx
    go_enter Try.func47, Try.ntmps47
    go_wp2
    go_ret
    exact ⟨ret_int (by rw [← HE.out]; exact Int.tmod_eq_emod_of_nonneg (Int.ediv_nonneg x0 (Int.le_of_lt (Int.pow_pos (by decide))))), rfl⟩
  · have hz : ds.getD q 0 = 0 := by simp [List.getD, List.getElem?_eq_none (show ds.length ≤ q by omega)]
    rw [hz] at HE
    have HF : Hid (bitAt (val D16 ds) i = 0) := by unfold Hid; rw [← HE.out]; simp
    clear h hq hr gx hz HE
    go_enter Try.func47, Try.ntmps47
    go_wp2
    go_ret
    exact ⟨ret_int HF.out.symm, rfl⟩

theorem low_bit (a : Nat) (ha : a < 18446744073709551616) : bits .and .u64 (a : Int) 1 = ((a % 2 : Nat) : Int) := by
  have h := bits_and_u64_nat a 1 ha (by omega)
  rw [show a &&& 1 = a % 2 from Nat.and_two_pow_sub_one_eq_mod a 1] at h
  exact h

theorem new_cell (W : World) (v : Value) (t : TypeId) : (W.alloc (.cells #[v] t)).cell? ⟨W.heap.size, 0, none⟩ = some v ∧ (W.alloc (.cells #[v] t)).frozen? ⟨W.heap.size, 0, none⟩ = false := ⟨by simp, by simp⟩
theorem more_cell {W : World} {a : Addr} {v : Value} (o : Obj) (h : W.cell? a = some v) : (W.alloc o).cell? a = some v := cell_kept h (World.grownBy_alloc W o none) (fun r e => by cases e)
theorem more_frozen {W : World} {a : Addr} {v : Value} (o : Obj) (h : W.cell? a = some v) (hf : W.frozen? a = false) : (W.alloc o).frozen? a = false := (frozen_kept h (World.grownBy_alloc W o none) (fun r e => by cases e)).trans hf

/-- What nat.Bits hands out: a closure over two cells: how many bits there are, and the limbs. -/
def BitsAt (w : World) (g3 g4 : Nat) (V : Int) (L : Nat) : Prop :=
  ∃ ao la ca xs, g3 < w.heap.size ∧ g4 < w.heap.size ∧ w.cell? ⟨g4, 0, none⟩ = some (.int .i64 L) ∧ w.cell? ⟨g3, 0, none⟩ = some (.slice ao la ca) ∧ NumIn .u64 B64 w ao la ca xs ∧ val B64 xs = V ∧ L ≤ 4480
theorem BitsAt.old {w w' : World} {g3 g4 : Nat} {V : Int} {L : Nat} (h : BitsAt w g3 g4 V L) (hb : Below w.heap.size w w') : BitsAt w' g3 g4 V L := by
  obtain ⟨ao, la, ca, xs, h1, h2, h3, h4, h5, h6, h7⟩ := h
  exact ⟨ao, la, ca, xs, Nat.lt_of_lt_of_le h1 hb.size, Nat.lt_of_lt_of_le h2 hb.size, (hb.cell (p := ⟨g4, 0, none⟩) h2).trans h3, (hb.cell (p := ⟨g3, 0, none⟩) h1).trans h4, h5.old hb, h6, h7⟩

end Go.Proofs.Yticopomchoahnaa
/-
  The iterator that nat.Bits hands out: what it yields.
-/
namespace Go.Proofs.Yticopomchoahnaa
open Go.RowKit Go.Shelf
set_option linter.unusedVariables false
set_option linter.unusedSimpArgs false
attribute [local go_sem] Oper.semAt_some

abbrev encB (p : Int × Bool) : Array Value := #[.int .i64 p.1, .bool p.2]
/-- A number's bits, from the greatest one on. -/
def bitOf (V : Int) (L i : Nat) : Int × Bool := (((L - 1 - i : Nat) : Int), bitAt V (L - 1 - i) == 1)
def bitsOf (V : Int) (L k : Nat) : List (Int × Bool) := (List.range k).map (bitOf V L)
theorem bitsOf_succ (V : Int) (L k : Nat) : bitsOf V L (k + 1) = bitsOf V L k ++ [bitOf V L k] := by simp [bitsOf, List.range_succ]
theorem bitsOf_len (V : Int) (L k : Nat) : (bitsOf V L k).length = k := by simp [bitsOf]
theorem bitsOf_pre (V : Int) (L k m : Nat) (h : k ≤ m) : bitsOf V L k <+: bitsOf V L m := by
  obtain ⟨d, rfl⟩ := Nat.le.dest h
  clear h
  induction d with
  | zero => exact List.prefix_refl _
  | succ d ih => rw [← Nat.add_assoc, bitsOf_succ]; exact ih.trans (List.prefix_append _ _)
theorem bitsOf_take (V : Int) (L : Nat) (pre : List (Int × Bool)) (x : Int × Bool) (h : pre ++ [x] <+: bitsOf V L L) : x = bitOf V L pre.length := by
  obtain ⟨t, ht⟩ := h
  have h1 : (bitsOf V L L)[pre.length]? = some x := by rw [← ht]; simp
  have h2 : pre.length < L := by
    have := congrArg List.length ht
    rw [bitsOf_len] at this
    simp at this
    omega
  rw [bitsOf, List.getElem?_map, List.getElem?_range h2] at h1
  simpa using h1.symm

end Go.Proofs.Yticopomchoahnaa
/-
  Plain mathematics below a modulus: the same up to multiples, powers by bits, the greatest common divisor, inverses by Euclid's steps. No program in sight.
-/
namespace Go.Proofs.Yticopomchoahnaa
set_option linter.unusedVariables false

/-- The same up to multiples of M. -/
def Cg (M a b : Int) : Prop := ∃ k, a - b = M * k
theorem Cg.refl (M a : Int) : Cg M a a := ⟨0, by simp⟩
theorem Cg.of_eq {M a b : Int} (h : a = b) : Cg M a b := h ▸ Cg.refl M a
theorem Cg.symm {M a b : Int} (h : Cg M a b) : Cg M b a := by obtain ⟨k, hk⟩ := h; exact ⟨-k, by grind⟩
theorem Cg.trans {M a b c : Int} (h : Cg M a b) (h' : Cg M b c) : Cg M a c := by obtain ⟨k, hk⟩ := h; obtain ⟨l, hl⟩ := h'; exact ⟨k + l, by grind⟩
theorem Cg.add {M a b c d : Int} (h : Cg M a b) (h' : Cg M c d) : Cg M (a + c) (b + d) := by obtain ⟨k, hk⟩ := h; obtain ⟨l, hl⟩ := h'; exact ⟨k + l, by grind⟩
theorem Cg.sub {M a b c d : Int} (h : Cg M a b) (h' : Cg M c d) : Cg M (a - c) (b - d) := by obtain ⟨k, hk⟩ := h; obtain ⟨l, hl⟩ := h'; exact ⟨k - l, by grind⟩
theorem Cg.mul {M a b c d : Int} (h : Cg M a b) (h' : Cg M c d) : Cg M (a * c) (b * d) := by
  obtain ⟨k, hk⟩ := h; obtain ⟨l, hl⟩ := h'
  exact ⟨a * l + k * d, by
    have e : a * c - b * d = a * (c - d) + (a - b) * d := by grind
    rw [e, hk, hl]; grind⟩
theorem Cg.neg {M a b : Int} (h : Cg M a b) : Cg M (-a) (-b) := by obtain ⟨k, hk⟩ := h; exact ⟨-k, by grind⟩
theorem Cg.pow {M a b : Int} (h : Cg M a b) : ∀ n : Nat, Cg M (a ^ n) (b ^ n)
  | 0 => by rw [Int.pow_zero, Int.pow_zero]; exact Cg.refl _ _
  | n + 1 => by rw [Int.pow_succ, Int.pow_succ]; exact (Cg.pow h n).mul h
theorem Cg.mod (M a : Int) : Cg M (a % M) a := ⟨-(a / M), by have := Int.emod_add_mul_ediv a M; grind⟩
theorem Cg.emod {M a b : Int} (h : Cg M a b) : a % M = b % M := by
  obtain ⟨k, hk⟩ := h
  rw [show a = b + M * k by omega, Int.add_mul_emod_self_left]
theorem Cg.eq {M a b : Int} (h : Cg M a b) (ha : 0 ≤ a) (ha' : a < M) (hb : 0 ≤ b) (hb' : b < M) : a = b := by
  have := h.emod
  rwa [Int.emod_eq_of_lt ha ha', Int.emod_eq_of_lt hb hb'] at this
theorem cg_of_emod {M a b : Int} (h : a % M = b % M) : Cg M a b := (Cg.mod M a).symm.trans (h ▸ Cg.mod M b)
theorem cg_mult (M a k : Int) : Cg M (a + k * M) a := ⟨k, by grind⟩

/-- The half of a number, and its last bit. -/
theorem half_step (V : Int) (p : Nat) : V / 2 ^ p = 2 * (V / 2 ^ (p + 1)) + V / 2 ^ p % 2 := by
  have hp : (0 : Int) < 2 ^ p := Int.pow_pos (by decide)
  rw [Int.pow_succ, ← Int.ediv_ediv_of_nonneg (by omega)]
  omega
/-- The power by the exponent's bits from p on. -/
def pws (X V : Int) (p : Nat) : Int := X ^ (V / 2 ^ p).toNat
theorem pws_zero (X V : Int) : pws X V 0 = X ^ V.toNat := by simp [pws]
theorem pws_top (X V : Int) (h0 : 0 ≤ V) (L : Nat) (h : V < 2 ^ L) : pws X V L = 1 := by
  unfold pws
  rw [Int.ediv_eq_zero_of_lt h0 h]; exact Int.pow_zero X
theorem pws_even (X V : Int) (h0 : 0 ≤ V) (p : Nat) (h : V / 2 ^ p % 2 = 0) : pws X V p = pws X V (p + 1) * pws X V (p + 1) := by
  have hp : (0 : Int) < 2 ^ (p + 1) := Int.pow_pos (by decide)
  have hq : 0 ≤ V / 2 ^ (p + 1) := Int.ediv_nonneg h0 (by omega)
  have hs := half_step V p
  unfold pws
  rw [← Int.pow_add]
  congr 1
  omega
theorem pws_odd (X V : Int) (h0 : 0 ≤ V) (p : Nat) (h : V / 2 ^ p % 2 = 1) : pws X V p = pws X V (p + 1) * pws X V (p + 1) * X := by
  have hp : (0 : Int) < 2 ^ (p + 1) := Int.pow_pos (by decide)
  have hq : 0 ≤ V / 2 ^ (p + 1) := Int.ediv_nonneg h0 (by omega)
  have hs := half_step V p
  unfold pws
  rw [← Int.pow_add, ← Int.pow_succ]
  congr 1
  omega

/-- The greatest common divisor. -/
def gd (a b : Int) : Int := (Nat.gcd a.toNat b.toNat : Nat)
theorem gd_step (a b : Int) (ha : 0 ≤ a) (hb : 0 ≤ b) : gd a b = gd b (a % b) := by
  unfold gd
  rw [Int.toNat_emod ha hb, Nat.gcd_comm a.toNat b.toNat, Nat.gcd_rec b.toNat a.toNat, Nat.gcd_comm]
theorem gd_zero (a : Int) (ha : 0 ≤ a) : gd a 0 = a := by unfold gd; simp; omega
theorem gd_dvd_left (a b : Int) (ha : 0 ≤ a) : ∃ k, a = gd a b * k := by
  obtain ⟨k, hk⟩ := Nat.gcd_dvd_left a.toNat b.toNat
  exact ⟨k, by unfold gd; rw [← Int.natCast_mul, ← hk]; omega⟩
theorem gd_dvd_right (a b : Int) (hb : 0 ≤ b) : ∃ k, b = gd a b * k := by
  obtain ⟨k, hk⟩ := Nat.gcd_dvd_right a.toNat b.toNat
  exact ⟨k, by unfold gd; rw [← Int.natCast_mul, ← hk]; omega⟩
theorem gd_nonneg (a b : Int) : 0 ≤ gd a b := by unfold gd; omega

/-- Between two of Euclid's steps: left, next, how often each; which of the two stands below 0. -/
def Euc (M A l n t m : Int) (b : Bool) : Prop :=
  0 < l ∧ l ≤ M ∧ 0 ≤ n ∧ n ≤ M ∧ 0 ≤ t ∧ t ≤ M ∧ 0 ≤ m ∧ m ≤ M ∧ t * n + m * l = M ∧ gd l n = gd M A ∧
    Cg M l (bif b then -(t * A) else t * A) ∧ Cg M n (bif b then m * A else -(m * A))
theorem Euc.start (M A : Int) (hM : 0 < M) (h0 : 0 ≤ A) (h1 : A < M) : Euc M A M A 0 1 true :=
  ⟨hM, by omega, h0, by omega, by omega, by omega, by omega, by omega, by omega, rfl, ⟨1, by simp⟩, Cg.of_eq (by simp)⟩
theorem Euc.step {M A l n t m : Int} {b : Bool} (h : Euc M A l n t m b) (hn : 0 < n) : Euc M A n (l % n) m (t + l / n * m) (!b) := by
  obtain ⟨h1, h2, h3, h4, h5, h6, h7, h8, h9, h10, h11, h12⟩ := h
  have r0 := Int.emod_nonneg l (show n ≠ 0 by omega)
  have r1 := Int.emod_lt_of_pos l hn
  have q0 : 0 ≤ l / n := Int.ediv_nonneg (by omega) (by omega)
  have hd := Int.emod_add_mul_ediv l n
  generalize l % n = r at *
  generalize l / n = q at *
  have m0 : 0 ≤ q * m := Int.mul_nonneg q0 h7
  have e : m * r + (t + q * m) * n = M := by rw [← h9, ← hd]; grind
  have p0 : 0 ≤ m * r := Int.mul_nonneg h7 r0
  have p1 : (t + q * m) * 1 ≤ (t + q * m) * n := Int.mul_le_mul_of_nonneg_left (by omega) (by omega)
  refine ⟨hn, h4, r0, by omega, h7, h8, by omega, by omega, e, ?_, ?_, ?_⟩
  · rw [← h10, gd_step l n (by omega) h3]
    congr 1
    rw [← hd, Int.add_mul_emod_self_left, Int.emod_eq_of_lt r0 r1]
  · cases b
    · exact h12
    · exact h12
  · have e2 : r = l - q * n := by rw [← hd]; grind
    rw [e2]
    have h13 := h11.sub ((Cg.refl M q).mul h12)
    cases b
    · exact h13.trans (Cg.of_eq (by simp only [cond_false, cond_true, Bool.not_false]; grind))
    · exact h13.trans (Cg.of_eq (by simp only [cond_false, cond_true, Bool.not_true]; grind))
theorem Euc.done {M A l t m : Int} {b : Bool} (h : Euc M A l 0 t m b) : l = gd M A ∧ Cg M (gd M A) (bif b then -(t * A) else t * A) := by
  obtain ⟨h1, h2, h3, h4, h5, h6, h7, h8, h9, h10, h11, h12⟩ := h
  rw [gd_zero l (by omega)] at h10
  exact ⟨h10, h10 ▸ h11⟩

/-- There is but one inverse. -/
theorem inv_one {M X i j : Int} (hi : Cg M (i * X) 1) (hj : Cg M (j * X) 1) : Cg M i j := by
  have a : Cg M (i * (j * X)) (i * 1) := (Cg.refl M i).mul hj
  have b : Cg M (j * (i * X)) (j * 1) := (Cg.refl M j).mul hi
  have e : i * (j * X) = j * (i * X) := by grind
  rw [e] at a
  exact (Cg.of_eq (by simp)).trans (a.symm.trans (b.trans (Cg.of_eq (by simp))))
/-- What has an inverse has no divisor above 1 together with the modulus. -/
theorem gd_of_inv {M A i : Int} (hM : 0 < M) (hA : 0 ≤ A) (h : Cg M (i * A) 1) : gd M A = 1 := by
  obtain ⟨k, hk⟩ := h
  obtain ⟨x, hx⟩ := gd_dvd_left M A (by omega)
  obtain ⟨y, hy⟩ := gd_dvd_right M A hA
  have h0 := gd_nonneg M A
  generalize gd M A = g at *
  have e : g * (i * y - x * k) = 1 := by
    have e1 : i * (g * y) - g * x * k = 1 := by rw [← hx, ← hy]; omega
    rw [← e1]; grind
  exact Int.eq_one_of_mul_eq_one_right h0 e
end Go.Proofs.Yticopomchoahnaa
/-
  Contracts of modular.Of, Add, Mul, Sub.
-/
namespace Go.Proofs.Yticopomchoahnaa
open Go.RowKit
set_option linter.unusedVariables false
set_option linter.unusedSimpArgs false

/-- A number that is no greater has no more digits. -/
theorem len_fit {B : Int} (hB : 1 < B) {xs ys : List Int} (hx : Dg B xs) (cx : Canon xs) (hy : Dg B ys) (h : val B xs ≤ val B ys) : xs.length ≤ ys.length := by
  have h1 := top_mono hB hx hy h
  have h2 := top_le ys
  unfold Canon at cx
  omega
theorem NumOut.fit {k : IntKind} {B : Int} {w w' : World} {v : Value} {n : Int} {L : Nat} (h : NumOut k B w w' v n L) (hB : 1 < B) {ys : List Int} (hy : Dg B ys) (hn : n ≤ val B ys) : NumOut k B w w' v n ys.length := by
  obtain ⟨ao, len, cap, xs, rfl, h1, h2, h3, h4, h5⟩ := h
  exact ⟨ao, len, cap, xs, rfl, h1, h2, h3, by rw [← h1.len]; exact len_fit hB h1.dg h2 hy (by omega), h5⟩
theorem NumOut.from {k : IntKind} {B : Int} {w0 w w' : World} {v : Value} {n : Int} {L : Nat} (h : NumOut k B w w' v n L) (hb : Below w0.heap.size w0 w) : NumOut k B w0 w' v n L := by
  obtain ⟨ao, len, cap, xs, rfl, h1, h2, h3, h4, h5⟩ := h
  exact ⟨ao, len, cap, xs, rfl, h1, h2, h3, h4, hb.trans (h5.mono hb.size)⟩
theorem mod_range (x m : Int) (hm : 0 ≤ m) (h0 : m ≠ 0) : 0 ≤ x % m ∧ x % m < m := ⟨Int.emod_nonneg x h0, Int.emod_lt_of_pos x (by omega)⟩

set_option maxHeartbeats 400000 in
/-- modular.Of. -/
theorem mOf_any (ao mo : Option Addr) (la ca lm cm : Nat) (xs ms : List Int) (w : World) (h : NumIn .u64 B64 w ao la ca xs) (h' : NumIn .u64 B64 w mo lm cm ms) (h0 : val B64 ms ≠ 0) (hsm : la + lm < 1073740000) :
    Calls Try.prog 120 #[.slice ao la ca, .slice mo lm cm] w fun e w' => ∃ v, e = .returned (.tuple #[v, .int .i64 0]) ∧ NumOut .u64 B64 w w' v (val B64 xs % val B64 ms) lm := by
  have HD := Div_any ao mo la ca lm cm xs ms w h h' h0 hsm
  have hr := mod_range (val B64 xs) (val B64 ms) (val_nonneg B64_pos h'.dg) h0
  have HR : Hid (val B64 xs % val B64 ms ≤ val B64 ms ∧ Dg B64 ms ∧ ms.length = lm) := ⟨by omega, h'.dg, h'.len⟩
  clear h h' hr
  go_enter Try.func120, Try.ntmps120
  go_wp2_with fail
  refine HD.mono ?_
  rintro e w' ⟨q, r, rfl, hq, hr⟩
  have hr2 := hr.fit B64_one HR.out.2.1 HR.out.1
  rw [HR.out.2.2] at hr2
  obtain ⟨aq, lq, cq, xq, rfl, _, _, _, _, _⟩ := hq
  obtain ⟨ar, lr, cr, xr, rfl, n1, n2, n3, n4, n5⟩ := hr2
  have HN : Hid (NumOut .u64 B64 w w' (.slice ar lr cr) (val B64 xs % val B64 ms) lm) := ⟨ar, lr, cr, xr, rfl, n1, n2, n3, n4, n5⟩
  clear hr n1 n2 n3 n4 n5 HR HD
  go_wp2
  go_ret2
  exact ⟨_, rfl, HN.out⟩

set_option maxHeartbeats 400000 in
/-- modular.Of: of a modulus of 0. -/
theorem mOf_zero (ao mo : Option Addr) (la ca lm cm : Nat) (xs ms : List Int) (w : World) (h : NumIn .u64 B64 w ao la ca xs) (h' : NumIn .u64 B64 w mo lm cm ms) (h0 : val B64 ms = 0) :
    Calls Try.prog 120 #[.slice ao la ca, .slice mo lm cm] w fun e w' => e = .returned (.tuple #[.slice none 0 0, .int .i64 4]) ∧ w' = w := by
  have HD := Div_zero ao mo la ca lm cm xs ms w h h' h0
  clear h h' h0
  go_enter Try.func120, Try.ntmps120
  go_wp2_with fail
  refine HD.mono ?_
  rintro e w' ⟨rfl, rfl⟩
  go_wp2
  go_ret2
  exact ⟨rfl, rfl⟩

set_option maxHeartbeats 400000 in
/-- modular.Add. -/
theorem mAdd_any (ao bo mo : Option Addr) (la ca lb cb lm cm : Nat) (xs ys ms : List Int) (w : World) (h : NumIn .u64 B64 w ao la ca xs) (hb : NumIn .u64 B64 w bo lb cb ys) (h' : NumIn .u64 B64 w mo lm cm ms) (h0 : val B64 ms ≠ 0) (hsm : la + lb + lm < 1073730000) :
    Calls Try.prog 122 #[.slice ao la ca, .slice bo lb cb, .slice mo lm cm] w fun e w' => ∃ v, e = .returned (.tuple #[v, .int .i64 0]) ∧ NumOut .u64 B64 w w' v ((val B64 xs + val B64 ys) % val B64 ms) lm := by
  have HA := Add_any ao bo la ca lb cb xs ys w h hb (by omega)
  have HM : Hid (NumIn .u64 B64 w mo lm cm ms) := h'
  clear h hb h'
  go_enter Try.func122, Try.ntmps122
  go_wp2_with fail
  refine HA.mono ?_
  rintro e w1 ⟨v, rfl, a1, l1, c1, zs, rfl, n1, n2, n3, n4, n5⟩
  have HO := mOf_any a1 mo l1 c1 lm cm zs ms w1 n1 (HM.out.old n5) h0 (by omega)
  rw [n3] at HO
  have HB : Hid (Below w.heap.size w w1) := n5
  clear n1 n2 n3 n4 n5 HM HA
  go_wp2_with fail
  refine HO.mono ?_
  rintro e w2 ⟨v, rfl, hv⟩
  have HV : Hid (NumOut .u64 B64 w w2 v ((val B64 xs + val B64 ys) % val B64 ms) lm) := hv.from HB.out
  clear hv HB HO
  go_wp2
  go_ret2
  exact ⟨_, rfl, HV.out⟩

set_option maxHeartbeats 400000 in
/-- modular.Add: of a modulus of 0. -/
theorem mAdd_zero (ao bo mo : Option Addr) (la ca lb cb lm cm : Nat) (xs ys ms : List Int) (w : World) (h : NumIn .u64 B64 w ao la ca xs) (hb : NumIn .u64 B64 w bo lb cb ys) (h' : NumIn .u64 B64 w mo lm cm ms) (h0 : val B64 ms = 0) (hsm : la + lb + lm < 1073730000) :
    Calls Try.prog 122 #[.slice ao la ca, .slice bo lb cb, .slice mo lm cm] w fun e w' => e = .returned (.tuple #[.slice none 0 0, .int .i64 4]) ∧ Below w.heap.size w w' := by
  have HA := Add_any ao bo la ca lb cb xs ys w h hb (by omega)
  have HM : Hid (NumIn .u64 B64 w mo lm cm ms) := h'
  clear h hb h'
  go_enter Try.func122, Try.ntmps122
  go_wp2_with fail
  refine HA.mono ?_
  rintro e w1 ⟨v, rfl, a1, l1, c1, zs, rfl, n1, n2, n3, n4, n5⟩
  have HO := mOf_zero a1 mo l1 c1 lm cm zs ms w1 n1 (HM.out.old n5) h0
  have HB : Hid (Below w.heap.size w w1) := n5
  clear n1 n2 n3 n4 n5 HM HA h0
  go_wp2_with fail
  refine HO.mono ?_
  rintro e w2 ⟨rfl, rfl⟩
  go_wp2
  go_ret2
  exact ⟨rfl, HB.out⟩

set_option maxHeartbeats 400000 in
/-- modular.Mul. -/
theorem mMul_any (ao bo mo : Option Addr) (la ca lb cb lm cm : Nat) (xs ys ms : List Int) (w : World) (h : NumIn .u64 B64 w ao la ca xs) (hb : NumIn .u64 B64 w bo lb cb ys) (h' : NumIn .u64 B64 w mo lm cm ms) (h0 : val B64 ms ≠ 0) (hsm : la + lb + lm < 1073730000) :
    Calls Try.prog 114 #[.slice ao la ca, .slice bo lb cb, .slice mo lm cm] w fun e w' => ∃ v, e = .returned (.tuple #[v, .int .i64 0]) ∧ NumOut .u64 B64 w w' v ((val B64 xs * val B64 ys) % val B64 ms) lm := by
  have HA := Mul_any ao bo la ca lb cb xs ys w h hb (by omega)
  have HM : Hid (NumIn .u64 B64 w mo lm cm ms) := h'
  clear h hb h'
  go_enter Try.func114, Try.ntmps114
  go_wp2_with fail
  refine HA.mono ?_
  rintro e w1 ⟨v, rfl, a1, l1, c1, zs, rfl, n1, n2, n3, n4, n5⟩
  have HO := mOf_any a1 mo l1 c1 lm cm zs ms w1 n1 (HM.out.old n5) h0 (by omega)
  rw [n3] at HO
  have HB : Hid (Below w.heap.size w w1) := n5
  clear n1 n2 n3 n4 n5 HM HA
  go_wp2_with fail
  refine HO.mono ?_
  rintro e w2 ⟨v, rfl, hv⟩
  have HV : Hid (NumOut .u64 B64 w w2 v ((val B64 xs * val B64 ys) % val B64 ms) lm) := hv.from HB.out
  clear hv HB HO
  go_wp2
  go_ret2
  exact ⟨_, rfl, HV.out⟩

set_option maxHeartbeats 400000 in
/-- modular.Mul: of a modulus of 0. -/
theorem mMul_zero (ao bo mo : Option Addr) (la ca lb cb lm cm : Nat) (xs ys ms : List Int) (w : World) (h : NumIn .u64 B64 w ao la ca xs) (hb : NumIn .u64 B64 w bo lb cb ys) (h' : NumIn .u64 B64 w mo lm cm ms) (h0 : val B64 ms = 0) (hsm : la + lb + lm < 1073730000) :
    Calls Try.prog 114 #[.slice ao la ca, .slice bo lb cb, .slice mo lm cm] w fun e w' => e = .returned (.tuple #[.slice none 0 0, .int .i64 4]) ∧ Below w.heap.size w w' := by
  have HA := Mul_any ao bo la ca lb cb xs ys w h hb (by omega)
  have HM : Hid (NumIn .u64 B64 w mo lm cm ms) := h'
  clear h hb h'
  go_enter Try.func114, Try.ntmps114
  go_wp2_with fail
  refine HA.mono ?_
  rintro e w1 ⟨v, rfl, a1, l1, c1, zs, rfl, n1, n2, n3, n4, n5⟩
  have HO := mOf_zero a1 mo l1 c1 lm cm zs ms w1 n1 (HM.out.old n5) h0
  have HB : Hid (Below w.heap.size w w1) := n5
  clear n1 n2 n3 n4 n5 HM HA h0
  go_wp2_with fail
  refine HO.mono ?_
  rintro e w2 ⟨rfl, rfl⟩
  go_wp2
  go_ret2
  exact ⟨rfl, HB.out⟩

theorem sub_mod (a b m : Int) (h0 : 0 < m) : (a % m < b % m → a % m + m - b % m = (a - b) % m) ∧ (b % m ≤ a % m → a % m - b % m = (a - b) % m) := by
  have ra := mod_range a m (by omega) (by omega)
  have rb := mod_range b m (by omega) (by omega)
  have rc := mod_range (a - b) m (by omega) (by omega)
  have h1 : Cg m (a % m - b % m) ((a - b) % m) := ((Cg.mod m a).sub (Cg.mod m b)).trans (Cg.mod m (a - b)).symm
  refine ⟨fun hl => ?_, fun hl => ?_⟩
  · refine Cg.eq (M := m) ?_ (by omega) (by omega) rc.1 rc.2
    exact (show Cg m (a % m + m - b % m) (a % m - b % m) from ⟨1, by omega⟩).trans h1
  · exact h1.eq (by omega) (by omega) rc.1 rc.2

end Go.Proofs.Yticopomchoahnaa
/-
  Contracts of modular.euclid, Inv.
-/
namespace Go.Proofs.Yticopomchoahnaa
open Go.RowKit
set_option linter.unusedVariables false
set_option linter.unusedSimpArgs false

/-- The value v is that number, of at most L digits. -/
def Nm (k : IntKind) (B : Int) (w : World) (v : Value) (n : Int) (L : Nat) : Prop :=
  ∃ ao len cap xs, v = .slice ao len cap ∧ NumIn k B w ao len cap xs ∧ val B xs = n ∧ len ≤ L
theorem Nm.old {k : IntKind} {B : Int} {w w' : World} {v : Value} {n : Int} {L : Nat} (h : Nm k B w v n L) (hb : Below w.heap.size w w') : Nm k B w' v n L := by
  obtain ⟨ao, len, cap, xs, rfl, h1, h2, h3⟩ := h
  exact ⟨ao, len, cap, xs, rfl, h1.old hb, h2, h3⟩
theorem NumOut.nm {k : IntKind} {B : Int} {w w' : World} {v : Value} {n : Int} {L : Nat} (h : NumOut k B w w' v n L) : Nm k B w' v n L := by
  obtain ⟨ao, len, cap, xs, rfl, h1, h2, h3, h4, h5⟩ := h
  exact ⟨ao, len, cap, xs, rfl, h1, h3, h4⟩
theorem NumOut.bl {k : IntKind} {B : Int} {w w' : World} {v : Value} {n : Int} {L : Nat} (h : NumOut k B w w' v n L) : Below w.heap.size w w' := by
  obtain ⟨ao, len, cap, xs, rfl, h1, h2, h3, h4, h5⟩ := h
  exact h5
/-- The number that a slice says, read off the world. -/
def nval (B : Int) (w : World) (v : Value) : Nat :=
  match v with
  | .slice (some ⟨b, off, _⟩) len _ => (val B ((List.range len).map fun i => intOf ((w.cell? ⟨b, off + i, none⟩).getD undef))).toNat
  | _ => 0
theorem Nm.nval {k : IntKind} {B : Int} {w : World} {v : Value} {n : Int} {L : Nat} (h : Nm k B w v n L) : nval B w v = n.toNat := by
  obtain ⟨ao, len, cap, xs, rfl, h1, rfl, h3⟩ := h
  rcases h1.lies.2 with h0 | ⟨b, off, rfl, _, hc⟩
  · have hx : xs = [] := List.eq_nil_of_length_eq_zero (by rw [h1.len]; exact h0)
    subst hx; subst h0
    cases ao <;> simp [Go.Proofs.Yticopomchoahnaa.nval, val]
  · have e : ((List.range len).map fun i => intOf ((w.cell? ⟨b, off + i, none⟩).getD undef)) = xs := by
      apply List.ext_getElem
      · simp [h1.len]
      · intro i g1 g2
        simp only [List.getElem_map, List.getElem_range]
        rw [hc i (by simpa using g1)]
        simp [intOf, List.getD, g2]
    simp only [Go.Proofs.Yticopomchoahnaa.nval]
    rw [e]
theorem lenOf_zero {xs : List Int} (hd : Dg B64 xs) (h : val B64 xs = 0) : lenOf xs = 0 := by rw [lenOf_eq xs hd, h]; rfl
theorem lenOf_pos {xs : List Int} (hd : Dg B64 xs) (h : 0 < val B64 xs) : 0 < lenOf xs := by rw [lenOf_eq xs hd]; exact blen_pos _ (by omega)
theorem lenOf_le {xs : List Int} (hd : Dg B64 xs) (n : Nat) (hn : xs.length ≤ n) : lenOf xs ≤ 64 * n := by
  rw [lenOf_eq xs hd]
  refine blen_le _ _ ?_
  have h0 := val_nonneg B64_pos hd
  have h1 := val_lt B64_pos hd
  have h2 := pow_mono (B := B64) (by decide) hn
  have e : B64 ^ n = ((2 ^ (64 * n) : Nat) : Int) := by
    rw [Nat.pow_mul, Int.natCast_pow]; rfl
  omega

end Go.Proofs.Yticopomchoahnaa
/-
  Cells of the call's own beside numbers; powers bit by bit.
-/
namespace Go.Proofs.Yticopomchoahnaa
open Go.RowKit Go.Shelf
set_option linter.unusedVariables false
set_option linter.unusedSimpArgs false
attribute [local go_sem] Oper.semAt_some

/-- A cell of the call's own, with what it holds. -/
def Kc (W : World) (b : Nat) (v : Value) : Prop := W.cell? ⟨b, 0, none⟩ = some v ∧ W.frozen? ⟨b, 0, none⟩ = false
theorem Kc.lt {W : World} {b : Nat} {v : Value} (h : Kc W b v) : b < W.heap.size := World.block_lt_of_cell? W ⟨b, 0, none⟩ h.1
theorem Kc.kept {W W' : World} {b : Nat} {v : Value} {row : Option Nat} (h : Kc W b v) (hg : W.grownBy W' row) (hr : ∀ r, row = some r → ∃ o : Obj, W.heap[r]? = some o ∧ o.isCells = false) : Kc W' b v :=
  ⟨cell_kept h.1 hg hr, (frozen_kept h.1 hg hr).trans h.2⟩
theorem Kc.new (W : World) (v : Value) (t : TypeId) (b : Nat) (hb : b = W.heap.size) : Kc (W.alloc (.cells #[v] t)) b v := by subst hb; exact new_cell W v t
theorem Kc.alloc {W : World} {b : Nat} {v : Value} (h : Kc W b v) (o : Obj) : Kc (W.alloc o) b v := ⟨more_cell o h.1, more_frozen o h.1 h.2⟩
theorem Kc.set {W : World} {b : Nat} {v : Value} (h : Kc W b v) (u : Value) : Kc (W.setCell ⟨b, 0, none⟩ u) b u := ⟨World.cell?_setCell_same _ _ _ h.1, by rw [World.frozen?_setCell]; exact h.2⟩
theorem Kc.other {W : World} {b c : Nat} {v : Value} (h : Kc W b v) (hne : c ≠ b) (u : Value) : Kc (W.setCell ⟨c, 0, none⟩ u) b v := ⟨(World.cell?_setCell_other _ _ _ _ (by intro e; injection e with e; exact hne e)).trans h.1, by rw [World.frozen?_setCell]; exact h.2⟩
theorem Kc.old {W W' : World} {b : Nat} {v : Value} (h : Kc W b v) (hb : Below W.heap.size W W') : Kc W' b v :=
  ⟨(hb.cell (p := ⟨b, 0, none⟩) h.lt).trans h.1, (hb.frozen (p := ⟨b, 0, none⟩) h.lt).trans h.2⟩
/-- Two cells that hold other things are two. -/
theorem Kc.ne {W : World} {b c : Nat} {u v : Value} (h : Kc W b u) (h' : Kc W c v) (hne : u ≠ v) : b ≠ c := fun e => hne (by
  subst e
  have := h.1.symm.trans h'.1
  exact Option.some.inj this)

theorem NumIn.keptc {k : IntKind} {B : Int} {W W' : World} {ao : Option Addr} {len cap : Nat} {xs : List Int} (h : NumIn k B W ao len cap xs) {row : Option Nat} (hg : W.grownBy W' row) (hr : ∀ r, row = some r → ∃ o : Obj, W.heap[r]? = some o ∧ o.isCells = false) : NumIn k B W' ao len cap xs := by
  refine ⟨⟨h.len, ?_⟩, h.lc, h.cm, h.nn, h.dg, h.sm⟩
  by_cases h0 : len = 0
  · exact .inl h0
  · obtain ⟨b, off, e, hlt, hc⟩ := h.lies.at (by omega)
    have hc0 := cell_kept (hc 0 (by omega)) hg hr
    exact .inr ⟨b, off, e, World.block_lt_of_cell? W' ⟨b, off + 0, none⟩ hc0, fun i hi => cell_kept (hc i hi) hg hr⟩
/-- A store into a cell that holds a slice leaves numbers alone. -/
theorem NumIn.setSlice {k : IntKind} {B : Int} {W : World} {ao : Option Addr} {len cap : Nat} {xs : List Int} (h : NumIn k B W ao len cap xs) {b : Nat} {a : Option Addr} {l c : Nat} (hk : Kc W b (.slice a l c)) (u : Value) : NumIn k B (W.setCell ⟨b, 0, none⟩ u) ao len cap xs := by
  refine ⟨⟨h.len, ?_⟩, h.lc, h.cm, h.nn, h.dg, h.sm⟩
  by_cases h0 : len = 0
  · exact .inl h0
  · obtain ⟨b', off, e, hlt, hc⟩ := h.lies.at (by omega)
    refine .inr ⟨b', off, e, by rw [World.size_setCell]; exact hlt, fun i hi => ?_⟩
    refine (World.cell?_setCell_other _ _ _ _ ?_).trans (hc i hi)
    intro e2
    have h1 := hc i hi
    rw [← e2] at h1
    have h2 := hk.1.symm.trans h1
    cases h2
theorem KeepsOthers.of_below {W W' : World} (hb : Below W.heap.size W W') : KeepsOthers W W' :=
  ⟨hb.size, fun j o hj _ => (hb.block j (Array.getElem?_eq_some_iff.1 hj).1).trans hj⟩

theorem BitsAt.keptc {W W' : World} {g3 g4 : Nat} {V : Int} {L : Nat} (h : BitsAt W g3 g4 V L) {row : Option Nat} (hg : W.grownBy W' row) (hr : ∀ r, row = some r → ∃ o : Obj, W.heap[r]? = some o ∧ o.isCells = false) : BitsAt W' g3 g4 V L := by
  obtain ⟨ao, la, ca, xs, h1, h2, h3, h4, h5, h6, h7⟩ := h
  have c4 := cell_kept h3 hg hr
  have c3 := cell_kept h4 hg hr
  exact ⟨ao, la, ca, xs, World.block_lt_of_cell? W' _ c3, World.block_lt_of_cell? W' _ c4, c4, c3, h5.keptc hg hr, h6, h7⟩
theorem BitsAt.setSlice {W : World} {g3 g4 : Nat} {V : Int} {L : Nat} (h : BitsAt W g3 g4 V L) {b : Nat} {a : Option Addr} {l c : Nat} (hk : Kc W b (.slice a l c)) (hne : b ≠ g3) (u : Value) : BitsAt (W.setCell ⟨b, 0, none⟩ u) g3 g4 V L := by
  obtain ⟨ao, la, ca, xs, h1, h2, h3, h4, h5, h6, h7⟩ := h
  have hne4 : b ≠ g4 := fun e => by
    subst e
    have := hk.1.symm.trans h3
    cases this
  refine ⟨ao, la, ca, xs, by rw [World.size_setCell]; exact h1, by rw [World.size_setCell]; exact h2, ?_, ?_, h5.setSlice hk u, h6, h7⟩
  · exact (World.cell?_setCell_other _ _ _ _ (by intro e; injection e with e; exact hne4 e)).trans h3
  · exact (World.cell?_setCell_other _ _ _ _ (by intro e; injection e with e; exact hne e)).trans h4

/-- The power that the bits that have come give. -/
def pstep (M X : Int) (p : Int) (x : Int × Bool) : Int := bif x.2 then p * p % M * X % M else p * p % M
def pfold (M X : Int) (pre : List (Int × Bool)) : Int := pre.foldl (pstep M X) (1 % M)
theorem pfold_nil (M X : Int) : pfold M X [] = 1 % M := rfl
theorem pfold_snoc (M X : Int) (pre : List (Int × Bool)) (x : Int × Bool) : pfold M X (pre ++ [x]) = pstep M X (pfold M X pre) x := by simp [pfold]
theorem pfold_cg (M X V : Int) (h0 : 0 ≤ V) (L : Nat) (hL : V < 2 ^ L) : ∀ k, k ≤ L → Cg M (pfold M (X % M) (bitsOf V L k)) (pws X V (L - k))
  | 0, _ => by
    rw [Nat.sub_zero, pws_top X V h0 L hL]
    exact Cg.mod M 1
  | k + 1, hk => by
    have ih := pfold_cg M X V h0 L hL k (by omega)
    rw [bitsOf_succ, pfold_snoc]
    have e : L - k = (L - (k + 1)) + 1 := by omega
    have e2 : L - 1 - k = L - (k + 1) := by omega
    rw [e] at ih
    have sq := (Cg.mod M _).trans (ih.mul ih)
    unfold pstep bitOf
    rw [e2]
    simp only
    rcases bitAt_01 V (L - (k + 1)) with hb | hb
    · rw [hb, pws_even X V h0 _ hb]
      exact sq
    · rw [hb, pws_odd X V h0 _ hb]
      exact (Cg.mod M _).trans (sq.mul (Cg.mod M X))
theorem pfold_all (M X V : Int) (h0 : 0 ≤ V) (hM : 0 < M) (L : Nat) (hL : V < 2 ^ L) (h : ∀ ys, 0 ≤ pfold M (X % M) ys ∧ pfold M (X % M) ys < M) : pfold M (X % M) (bitsOf V L L) = X ^ V.toNat % M := by
  have hc := pfold_cg M X V h0 L hL L (Nat.le_refl _)
  rw [Nat.sub_self, pws_zero] at hc
  have r := h (bitsOf V L L)
  rw [← hc.emod, Int.emod_eq_of_lt r.1 r.2]
theorem pfold_range (M X : Int) (hM : 0 < M) (ys : List (Int × Bool)) : 0 ≤ pfold M X ys ∧ pfold M X ys < M := by
  have h : ∀ (l : List (Int × Bool)) (p : Int), 0 ≤ p ∧ p < M → 0 ≤ l.foldl (pstep M X) p ∧ l.foldl (pstep M X) p < M := by
    intro l
    induction l with
    | nil => intro p hp; exact hp
    | cons x l ih =>
      intro p hp
      refine ih _ ?_
      unfold pstep
      cases x.2
      · exact mod_range _ _ (by omega) (by omega)
      · exact mod_range _ _ (by omega) (by omega)
  exact h ys _ (mod_range _ _ (by omega) (by omega))
end Go.Proofs.Yticopomchoahnaa
/-
  Contract of modular.Pow.
-/
namespace Go.Proofs.Yticopomchoahnaa
open Go.RowKit Go.Shelf
set_option linter.unusedVariables false
set_option linter.unusedSimpArgs false
attribute [local go_sem] Oper.semAt_some

/-- Between two rounds: the modulus, the base and the power in their cells. -/
def PGo (w : World) (g5 g8 g : Nat) (mo : Option Addr) (lm cm : Nat) (ms : List Int) (a1 : Option Addr) (l1 c1 : Nat) (zs : List Int) (M X : Int) (pre : List (Int × Bool)) (W : World) : Prop :=
  (Kc W g5 (.slice mo lm cm) ∧ Kc W g8 (.slice a1 l1 c1) ∧ NumIn .u64 B64 W a1 l1 c1 zs ∧ ∃ a l c xs, Kc W g (.slice a l c) ∧ NumIn .u64 B64 W a l c xs ∧ Canon xs ∧ val B64 xs = pfold M X pre ∧ l ≤ lm) ∧ Below w.heap.size w W
theorem PGo.kept {w : World} {g5 g8 g : Nat} {mo : Option Addr} {lm cm : Nat} {ms : List Int} {a1 : Option Addr} {l1 c1 : Nat} {zs : List Int} {M X : Int} {B : Nat} (hB : w.heap.size ≤ B) : OwnFrom B (PGo w g5 g8 g mo lm cm ms a1 l1 c1 zs M X) := by
  rintro pre A A' row ⟨⟨h1, h2, h3, a, l, c, xs, h4, h5, h6⟩, h7⟩ hg hr
  have hr2 := fun r e => (hr r e).2
  exact ⟨⟨h1.kept hg hr2, h2.kept hg hr2, h3.keptc hg hr2, a, l, c, xs, h4.kept hg hr2, h5.keptc hg hr2, h6⟩, ownFrom_below (β := Unit) (Nat.le_refl _) hB () A A' row h7 hg hr⟩

theorem wpIn_noPanic {F : Fence} {n : Nat} {P : Program} {c : Code} {Q : Exit → Act → World → Prop} {a : Act} {w : World} (h : c.wpIn F n P (NoPanic Q) a w) : c.wpIn F n P Q a w :=
  Code.wpIn_mono NoPanic.imp h

end Go.Proofs.Yticopomchoahnaa
/-
  The code's field: sums, differences, products, quotients of numbers in memory.
-/
namespace Go.Proofs.Yticopomchoahnaa
open Go.Shelf Go.RowKit
set_option linter.unusedVariables false
set_option linter.unusedSimpArgs false

/-- A value that is a number in memory. -/
def Nv (w : World) (v : Value) (n : Int) (L : Nat) : Prop := ∃ ao len cap xs, v = .slice ao len cap ∧ NumIn .u64 B64 w ao len cap xs ∧ val B64 xs = n ∧ len ≤ L
theorem Nv.old {w w' : World} {v : Value} {n : Int} {L : Nat} (h : Nv w v n L) (hb : Below w.heap.size w w') : Nv w' v n L := by
  obtain ⟨ao, len, cap, xs, e, h1, h2, h3⟩ := h
  exact ⟨ao, len, cap, xs, e, h1.old hb, h2, h3⟩
theorem Nv.up {w : World} {v : Value} {n : Int} {L L' : Nat} (h : Nv w v n L) (hl : L ≤ L') : Nv w v n L' := by
  obtain ⟨ao, len, cap, xs, e, h1, h2, h3⟩ := h
  exact ⟨ao, len, cap, xs, e, h1, h2, by omega⟩
theorem Nv.nonneg {w : World} {v : Value} {n : Int} {L : Nat} (h : Nv w v n L) : 0 ≤ n := by
  obtain ⟨ao, len, cap, xs, e, h1, h2, h3⟩ := h
  rw [← h2]
  exact val_nonneg B64_pos h1.dg
/-- A number that was answered. -/
def Na (w w' : World) (v : Value) (n : Int) (L : Nat) : Prop := Nv w' v n L ∧ Below w.heap.size w w'
theorem NumOut.na {w w' : World} {v : Value} {n : Int} {L : Nat} (h : NumOut .u64 B64 w w' v n L) : Na w w' v n L := by
  obtain ⟨ao, len, cap, xs, e, h1, _, h2, h3, h4⟩ := h
  exact ⟨⟨ao, len, cap, xs, e, h1, h2, h3⟩, h4⟩
theorem alloc_sz7 (w : World) (o : Obj) : (w.alloc o).heap.size = w.heap.size + 1 := by
  show (w.heap.push o).size = _
  simp
theorem box_cell (w : World) (v : Value) (t : TypeId) : (w.alloc (.cells #[v] t)).cell? ⟨w.heap.size, 0, none⟩ = some v := by
  rw [cell_of_row _ _ _ _ _ _ (heap_alloc_new w _)]
  rfl
theorem box_keep {w W : World} {v : Value} {t : TypeId} (hb : Below (w.alloc (.cells #[v] t)).heap.size (w.alloc (.cells #[v] t)) W) : W.cell? ⟨w.heap.size, 0, none⟩ = some v := (hb.cell (p := ⟨w.heap.size, 0, none⟩) (by rw [alloc_sz7]; show w.heap.size < _; omega)).trans (box_cell w v t)
theorem add_nv (a b m : Value) (x y M : Int) (L Lm : Nat) (w : World) (ha : Nv w a x L) (hb : Nv w b y L) (hm : Nv w m M Lm) (h0 : M ≠ 0) (hs : L + L + Lm < 100000000) :
    Calls Try.prog 122 #[a, b, m] w fun e w' => ∃ v, e = .returned (.tuple #[v, .int .i64 0]) ∧ Na w w' v ((x + y) % M) Lm := by
  obtain ⟨ao, la, ca, xs, rfl, h1, rfl, h2⟩ := ha
  obtain ⟨bo, lb, cb, ys, rfl, k1, rfl, k2⟩ := hb
  obtain ⟨mo, lm, cm, ms, rfl, m1, rfl, m2⟩ := hm
  refine (mAdd_any ao bo mo la ca lb cb lm cm xs ys ms w h1 k1 m1 h0 (by omega)).mono ?_
  rintro e w' ⟨v, rfl, h⟩
  exact ⟨v, rfl, h.na.1.up m2, h.na.2⟩
theorem mul_nv (a b m : Value) (x y M : Int) (L Lm : Nat) (w : World) (ha : Nv w a x L) (hb : Nv w b y L) (hm : Nv w m M Lm) (h0 : M ≠ 0) (hs : L + L + Lm < 100000000) :
    Calls Try.prog 114 #[a, b, m] w fun e w' => ∃ v, e = .returned (.tuple #[v, .int .i64 0]) ∧ Na w w' v ((x * y) % M) Lm := by
  obtain ⟨ao, la, ca, xs, rfl, h1, rfl, h2⟩ := ha
  obtain ⟨bo, lb, cb, ys, rfl, k1, rfl, k2⟩ := hb
  obtain ⟨mo, lm, cm, ms, rfl, m1, rfl, m2⟩ := hm
  refine (mMul_any ao bo mo la ca lb cb lm cm xs ys ms w h1 k1 m1 h0 (by omega)).mono ?_
  rintro e w' ⟨v, rfl, h⟩
  exact ⟨v, rfl, h.na.1.up m2, h.na.2⟩
set_option maxHeartbeats 1000000 in
theorem plus_any (a b m : Value) (x y M : Int) (L Lm : Nat) (w : World) (ha : Nv w a x L) (hb : Nv w b y L) (hm : Nv w m M Lm) (h0 : M ≠ 0) (hs : L + L + Lm < 100000000) :
    Calls Try.prog 115 #[.agg #[m], a, b] w fun e w' => ∃ v, e = .returned v ∧ Na w w' v ((x + y) % M) Lm := by
  have HA := fun W (hW : Below w.heap.size w W) => add_nv a b m x y M L Lm W (ha.old hW) (hb.old hW) (hm.old hW) h0 hs
  obtain ⟨ao, la, ca, xs, rfl, _⟩ := ha
  obtain ⟨bo, lb, cb, ys, rfl, _⟩ := hb
  obtain ⟨mo, lm, cm, ms, rfl, _⟩ := hm
  have b0 := (Below.refl w.heap.size w).alloc (Nat.le_refl _) (.cells #[.slice mo lm cm] 173)
  have HB := HA _ b0
  go_enter Try.func115, Try.ntmps115
  go_wp2_with (go_at_call 122; refine HB.mono ?_; rintro e w1 ⟨v, rfl, h1, h2⟩; obtain ⟨p1, p2, p3, p4, rfl, h3⟩ := h1)
  go_ret
  exact ⟨_, rfl, ⟨p1, p2, p3, p4, rfl, h3⟩, b0.trans (h2.mono b0.size)⟩
set_option maxHeartbeats 1000000 in
theorem product_any (a b m : Value) (x y M : Int) (L Lm : Nat) (w : World) (ha : Nv w a x L) (hb : Nv w b y L) (hm : Nv w m M Lm) (h0 : M ≠ 0) (hs : L + L + Lm < 100000000) :
    Calls Try.prog 96 #[.agg #[m], a, b] w fun e w' => ∃ v, e = .returned v ∧ Na w w' v ((x * y) % M) Lm := by
  have HA := fun W (hW : Below w.heap.size w W) => mul_nv a b m x y M L Lm W (ha.old hW) (hb.old hW) (hm.old hW) h0 hs
  obtain ⟨ao, la, ca, xs, rfl, _⟩ := ha
  obtain ⟨bo, lb, cb, ys, rfl, _⟩ := hb
  obtain ⟨mo, lm, cm, ms, rfl, _⟩ := hm
  have b0 := (Below.refl w.heap.size w).alloc (Nat.le_refl _) (.cells #[.slice mo lm cm] 173)
  have HB := HA _ b0
  go_enter Try.func96, Try.ntmps96
  go_wp2_with (go_at_call 114; refine HB.mono ?_; rintro e w1 ⟨v, rfl, h1, h2⟩; obtain ⟨p1, p2, p3, p4, rfl, h3⟩ := h1)
  go_ret
  exact ⟨_, rfl, ⟨p1, p2, p3, p4, rfl, h3⟩, b0.trans (h2.mono b0.size)⟩
theorem drew7 (w : World) : ∀ k, Below w.heap.size w (w.drewN k)
  | 0 => Below.refl _ _
  | k + 1 => (drew7 w k).drew
set_option maxHeartbeats 1000000 in
theorem isZero_any (a : Value) (x : Int) (L : Nat) (w : World) (ha : Nv w a x L) :
    Calls Try.prog 94 #[a] w fun e w' => e = .returned (.bool (decide (x = 0))) ∧ w' = w := by
  obtain ⟨ao, la, ca, xs, rfl, h1, h2, h3⟩ := ha
  have HL := Len_any ao la ca xs w h1
  have hn := val_nonneg B64_pos h1.dg
  obtain ⟨ln, hln⟩ : ∃ ln, lenOf xs = ln := ⟨_, rfl⟩
  have hz : decide ((ln : Int) = 0) = decide (x = 0) := by
    by_cases h0 : x = 0
    · rw [← hln, lenOf_zero h1.dg (by omega)]; simp [h0]
    · have := lenOf_pos h1.dg (by omega)
      simp [h0]; omega
  rw [hln] at HL
  rw [← hz]
  go_enter Try.func94, Try.ntmps94
  go_wp2_with (go_at_call 73; refine HL.mono ?_; rintro e w1 ⟨rfl, rfl⟩)
  go_ret
  exact ⟨by first | rfl | simp, rfl⟩
set_option maxHeartbeats 1000000 in
theorem isBelow_any (a b : Value) (x y : Int) (L : Nat) (w : World) (ha : Nv w a x L) (hb : Nv w b y L) :
    Calls Try.prog 95 #[a, b] w fun e w' => e = .returned (.bool (decide (x < y))) ∧ Below w.heap.size w w' := by
  obtain ⟨ao, la, ca, xs, rfl, h1, h2, h3⟩ := ha
  obtain ⟨bo, lb, cb, ys, rfl, k1, k2, k3⟩ := hb
  have HC := Cmp_any ao bo la ca lb cb xs ys w h1 k1
  rw [h2, k2] at HC
  obtain ⟨z, hz⟩ : ∃ z, cmpI x y = z := ⟨_, rfl⟩
  rw [hz] at HC
  have hd : decide (z < 0) = decide (x < y) := by
    rw [← hz]
    unfold cmpI
    by_cases q : x < y
    · simp [q]
    · rw [if_neg q]
      split <;> simp [q]
  clear hz
  go_enter Try.func95, Try.ntmps95
  go_wp2_with (go_at_call 89; refine HC.mono ?_; rintro e w1 ⟨rfl, k, rfl⟩)
  go_ret
  exact ⟨rfl, (drew7 _ _)⟩
/-- A curve's numbers; a point's. -/
structure Cz where
  p : Int
  a : Int
  b : Int
  gx : Int
  gy : Int
  n : Int
structure Pz where
  x : Int
  y : Int
  inf : Bool
/-- A curve in memory. -/
def Cu (w : World) (c : Value) (K : Cz) (L : Nat) : Prop := ∃ (g1 g2 : Int) (oo : Option Addr) (lo co : Nat) (vp va vb vx vy vn : Value), c = .agg #[.int .i64 g1, .int .i64 g2, .slice oo lo co, vp, va, vb, vx, vy, vn] ∧ Nv w vp K.p L ∧ Nv w va K.a L ∧ Nv w vb K.b L ∧ Nv w vx K.gx L ∧ Nv w vy K.gy L ∧ Nv w vn K.n L
/-- A point in memory. -/
def Pv (w : World) (c : Value) (p : Pz) (L : Nat) : Prop := ∃ vx vy, c = .agg #[vx, vy, .bool p.inf] ∧ Nv w vx p.x L ∧ Nv w vy p.y L
theorem Cu.old {w w' : World} {c : Value} {K : Cz} {L : Nat} (h : Cu w c K L) (hb : Below w.heap.size w w') : Cu w' c K L := by
  obtain ⟨g1, g2, oo, lo, co, vp, va, vb, vx, vy, vn, e, h1, h2, h3, h4, h5, h6⟩ := h
  exact ⟨g1, g2, oo, lo, co, vp, va, vb, vx, vy, vn, e, h1.old hb, h2.old hb, h3.old hb, h4.old hb, h5.old hb, h6.old hb⟩
theorem Pv.old {w w' : World} {c : Value} {p : Pz} {L : Nat} (h : Pv w c p L) (hb : Below w.heap.size w w') : Pv w' c p L := by
  obtain ⟨vx, vy, e, h1, h2⟩ := h
  exact ⟨vx, vy, e, h1.old hb, h2.old hb⟩
theorem Pv.up {w : World} {c : Value} {p : Pz} {L L' : Nat} (h : Pv w c p L) (hl : L ≤ L') : Pv w c p L' := by
  obtain ⟨vx, vy, e, h1, h2⟩ := h
  exact ⟨vx, vy, e, h1.up hl, h2.up hl⟩
/-- What slope keeps in memory. -/
structure FrS (W : World) (b : Nat) (cv pv qv : Array Value) (m : Value) : Prop where
  c : W.heap[b]? = some (.cells cv 69 (0, 0))
  p : W.heap[b + 1]? = some (.cells pv 31 (0, 0))
  q : W.heap[b + 1 + 1]? = some (.cells qv 31 (0, 0))
  f : W.heap[b + 1 + 1 + 1]? = some (.cells #[m] 173 (0, 0))
theorem heap_new {w : World} {o : Obj} {k : Nat} {x : Option Obj} (h : w.heap[k]? = x) (hx : k < w.heap.size) : (w.alloc o).heap[k]? = x := by
  rw [← h]
  exact heap_alloc_old _ _ hx
theorem frS_new (w : World) (cv pv qv : Array Value) (m : Value) : FrS ((((w.alloc (.cells cv 69)).alloc (.cells pv 31)).alloc (.cells qv 31)).alloc (.cells #[m] 173)) w.heap.size cv pv qv m ∧ Below w.heap.size w ((((w.alloc (.cells cv 69)).alloc (.cells pv 31)).alloc (.cells qv 31)).alloc (.cells #[m] 173)) := by
  have z1 := alloc_sz7 w (.cells cv 69)
  have z2 := alloc_sz7 (w.alloc (.cells cv 69)) (.cells pv 31)
  have z3 := alloc_sz7 ((w.alloc (.cells cv 69)).alloc (.cells pv 31)) (.cells qv 31)
  have n1 := heap_alloc_new w (.cells cv 69)
  have n2 := heap_alloc_new (w.alloc (.cells cv 69)) (.cells pv 31)
  have n3 := heap_alloc_new ((w.alloc (.cells cv 69)).alloc (.cells pv 31)) (.cells qv 31)
  have n4 := heap_alloc_new (((w.alloc (.cells cv 69)).alloc (.cells pv 31)).alloc (.cells qv 31)) (.cells #[m] 173)
  rw [z1] at n2
  rw [z2, z1] at n3
  rw [z3, z2, z1] at n4
  refine ⟨⟨heap_new (heap_new (heap_new n1 (by omega)) (by omega)) (by omega), heap_new (heap_new n2 (by omega)) (by omega), heap_new n3 (by omega), n4⟩, ?_⟩
  exact ((((Below.refl w.heap.size w).alloc (Nat.le_refl _) _).alloc (by omega) _).alloc (by omega) _).alloc (by omega) _
theorem FrS.keep {W W' : World} {b : Nat} {cv pv qv : Array Value} {m : Value} (h : FrS W b cv pv qv m) (hb : Below W.heap.size W W') : FrS W' b cv pv qv m :=
  ⟨(hb.block _ (Array.getElem?_eq_some_iff.1 h.c).1).trans h.c, (hb.block _ (Array.getElem?_eq_some_iff.1 h.p).1).trans h.p, (hb.block _ (Array.getElem?_eq_some_iff.1 h.q).1).trans h.q, (hb.block _ (Array.getElem?_eq_some_iff.1 h.f).1).trans h.f⟩
theorem FrS.cells {W : World} {b : Nat} {y0 y1 y2 y3 y4 y5 y6 y7 y8 p0 p1 p2 q0 q1 q2 m : Value} (h : FrS W b #[y0, y1, y2, y3, y4, y5, y6, y7, y8] #[p0, p1, p2] #[q0, q1, q2] m) : W.cell? ⟨b, 3, none⟩ = some y3 ∧ W.cell? ⟨b, 4, none⟩ = some y4 ∧ W.cell? ⟨b + 1, 0, none⟩ = some p0 ∧ W.cell? ⟨b + 1, 1, none⟩ = some p1 ∧ W.cell? ⟨b + 1 + 1, 0, none⟩ = some q0 ∧ W.cell? ⟨b + 1 + 1, 1, none⟩ = some q1 ∧ W.cell? ⟨b + 1 + 1 + 1, 0, none⟩ = some m := by
  refine ⟨?_, ?_, ?_, ?_, ?_, ?_, ?_⟩
  · rw [cell_of_row _ _ _ _ _ _ h.c]; rfl
  · rw [cell_of_row _ _ _ _ _ _ h.c]; rfl
  · rw [cell_of_row _ _ _ _ _ _ h.p]; rfl
  · rw [cell_of_row _ _ _ _ _ _ h.p]; rfl
  · rw [cell_of_row _ _ _ _ _ _ h.q]; rfl
  · rw [cell_of_row _ _ _ _ _ _ h.q]; rfl
  · rw [cell_of_row _ _ _ _ _ _ h.f]; rfl
/-- What is divided by what. -/
def riseZ (K : Cz) (p q : Pz) : Int := if (q.x - p.x) % K.p ≠ 0 then (q.y - p.y) % K.p else ((3 * ((p.x * p.x) % K.p)) % K.p + K.a) % K.p
def runZ (K : Cz) (p q : Pz) : Int := if (q.x - p.x) % K.p ≠ 0 then (q.x - p.x) % K.p else (p.y + q.y) % K.p
end Go.Proofs.Yticopomchoahnaa
/-
  Numbers of the document's as values.
-/
namespace Go.Proofs.Yticopomchoahnaa
open Go.Shelf Go.RowKit
set_option linter.unusedVariables false
set_option linter.unusedSimpArgs false

/-- A number of the document's. -/
def Rv (w : World) (v : Value) (n : Int) (L : Nat) : Prop := ∃ ao l c xs, v = .slice ao l c ∧ NumIn .i64 D16 w ao l c xs ∧ Canon xs ∧ val D16 xs = n ∧ l ≤ L
theorem Rv.old {w w' : World} {v : Value} {n : Int} {L : Nat} (h : Rv w v n L) (hb : Below w.heap.size w w') : Rv w' v n L := by
  obtain ⟨ao, l, c, xs, rfl, h1, h2⟩ := h
  exact ⟨ao, l, c, xs, rfl, h1.old hb, h2⟩
theorem rv_of {w w' : World} {v : Value} {n : Int} {L : Nat} (h : NumOut .i64 D16 w w' v n L) : Rv w' v n L ∧ Below w.heap.size w w' := by
  obtain ⟨ao, l, c, xs, rfl, h1, h2, h3, h4, h5⟩ := h
  exact ⟨⟨ao, l, c, xs, rfl, h1, h2, h3, h4⟩, h5⟩
theorem val_full (B : Int) : ∀ d : Nat, val B (List.replicate d (B - 1)) = B ^ d - 1
  | 0 => by simp [val]
  | d + 1 => by
    rw [List.replicate_succ, val_cons, val_full B d, Int.pow_succ]
    generalize B ^ d = q
    grind
theorem fit_len {B : Int} (hB : 1 < B) {xs : List Int} (hd : Dg B xs) (hc : Canon xs) {d : Nat} (h : val B xs < B ^ d) : xs.length ≤ d := by
  have h1 := len_fit (B := B) hB hd hc (ys := List.replicate d (B - 1)) (fun x hx => by rw [(List.mem_replicate.1 hx).2]; omega) (by rw [val_full]; omega)
  rwa [List.length_replicate] at h1
theorem Rv.fit {w : World} {v : Value} {n : Int} {L d : Nat} (h : Rv w v n L) (hn : n < D16 ^ d) : Rv w v n d := by
  obtain ⟨ao, l, c, xs, rfl, h1, h2, h3, h4⟩ := h
  exact ⟨ao, l, c, xs, rfl, h1, h2, h3, by have := fit_len D16_one h1.dg h2 (by rw [h3]; exact hn); rw [h1.len] at this; exact this⟩
theorem rv_eq {w w' : World} {v : Value} {n n' : Int} {L d : Nat} (h : NumOut .i64 D16 w w' v n L) (e : n = n') (hd : n' < D16 ^ d) : Rv w' v n' d ∧ Below w.heap.size w w' := by
  subst e
  exact ⟨(rv_of h).1.fit hd, (rv_of h).2⟩
theorem rNat_nv (v : Value) (n : Int) (L d : Nat) (w : World) (h : Rv w v n L) (hL : L ≤ 1000) (hd : n < B64 ^ d) :
    Calls Try.prog 19 #[v] w fun e w' => ∃ r, e = .returned r ∧ Nv w' r n d ∧ Below w.heap.size w w' := by
  obtain ⟨a1, a2, a3, a4, rfl, a5, a6, a7, a8⟩ := h
  refine (rNat_any a1 a2 a3 a4 w a5 a6 (by omega)).mono ?_
  rintro e w' ⟨v, rfl, q1, q2, q3, q4, rfl, h1, h2, h3, h4, h5⟩
  rw [a7] at h3
  exact ⟨_, rfl, ⟨q1, q2, q3, q4, rfl, h1, h3, by have := fit_len B64_one h1.dg h2 (by rw [h3]; exact hd); rw [h1.len] at this; exact this⟩, h5⟩
theorem rCmp_rv (a b : Value) (x y : Int) (L L' : Nat) (w : World) (ha : Rv w a x L) (hb : Rv w b y L') (hL : L ≤ 1000000) (hL' : L' ≤ 1000000) :
    Calls Try.prog 102 #[a, b] w fun e w' => e = .returned (.int .i64 (cmpI x y)) ∧ Below w.heap.size w w' := by
  obtain ⟨a1, a2, a3, a4, rfl, a5, a6, a7, a8⟩ := ha
  obtain ⟨b1, b2, b3, b4, rfl, b5, b6, b7, b8⟩ := hb
  refine (rCmp_any a1 b1 a2 a3 b2 b3 a4 b4 w a5 b5 a6 b6 (by omega) (by omega)).mono ?_
  rintro e w' ⟨rfl, hd⟩
  rw [a7, b7]
  exact ⟨rfl, hd.below _⟩
theorem rlen_rv (v : Value) (n : Int) (L : Nat) (w : World) (h : Rv w v n L) (hL : L ≤ 1000000) :
    Calls Try.prog 34 #[v] w fun e w' => e = .returned (.int .i64 (blen n.toNat)) ∧ w' = w := by
  obtain ⟨a1, a2, a3, a4, rfl, a5, a6, a7, a8⟩ := h
  have := rLen_any a1 a2 a3 a4 w a5 a6 (by omega)
  rwa [a7] at this
theorem rbit_rv (v : Value) (n : Int) (L i : Nat) (w : World) (h : Rv w v n L) (hi : i < 1000000000) :
    Calls Try.prog 47 #[v, .int .i64 i] w fun e w' => e = .returned (.int .i64 (bitAt n i)) ∧ w' = w := by
  obtain ⟨a1, a2, a3, a4, rfl, a5, a6, a7, a8⟩ := h
  have := rBit_any a1 a2 a3 a4 i w a5 hi
  rwa [a7] at this
theorem rsmall_rv (n : Int) (w : World) (h0 : 0 ≤ n) (h1 : n < 9223372036854775808) :
    Calls Try.prog 23 #[.int .i64 n] w fun e w' => ∃ v, e = .returned v ∧ Rv w' v n 4 ∧ Below w.heap.size w w' := by
  refine (rSmall_any n w h0 h1).mono ?_
  rintro e w' ⟨v, rfl, h⟩
  exact ⟨v, rfl, (rv_of h).1, (rv_of h).2⟩
theorem Rv.up {w : World} {v : Value} {n : Int} {L L' : Nat} (h : Rv w v n L) (hl : L ≤ L') : Rv w v n L' := by
  obtain ⟨ao, l, c, xs, rfl, h1, h2, h3, h4⟩ := h
  exact ⟨ao, l, c, xs, rfl, h1, h2, h3, by omega⟩
theorem Rv.nonneg {w : World} {v : Value} {n : Int} {L : Nat} (h : Rv w v n L) : 0 ≤ n := by
  obtain ⟨ao, l, c, xs, rfl, h1, h2, h3, h4⟩ := h
  rw [← h3]
  exact val_nonneg D16_pos h1.dg
end Go.Proofs.Yticopomchoahnaa
/-
  The document's whole and Pair.
-/
namespace Go.Proofs.Yticopomchoahnaa
open Go.Shelf Go.RowKit
set_option linter.unusedVariables false
set_option linter.unusedSimpArgs false

/-- The number of bytes. -/
def nI (x : Bs) : Int := val 256 (intsB x).reverse
/-- What whole answers. -/
def WhPost (w : World) (P : Nat → Prop) (R : Option (Bs × Bs)) (e : Ending) (w' : World) : Prop :=
  Below w.heap.size w w' ∧ ((R = none ∧ e = .returned (.tuple #[.slice none 0 0, .slice none 0 0, .bool false])) ∨ ∃ x r v p2 c2, R = some (x, r) ∧ e = .returned (.tuple #[v, .slice p2 r.length c2, .bool (decide (x.length ≤ 512))]) ∧ Rv w' v (nI x) 1001 ∧ ByV w' P p2 c2 r)
theorem byv_num {w : World} {P : Nat → Prop} {p : Option Addr} {c : Nat} {l : Bs} (h : ByV w P p c l) (hl : l.length ≤ 5000) (h0 : 0 < l.length) : NumIn .u8 256 w p l.length c (intsB l) :=
  numIn_bat h.lies rfl h0 h.cap h.big (by omega)
theorem int_cut {l x : Bs} (h : intL l = some x) : ∃ a xs, l = a :: xs ∧ a.toNat < 128 ∧ ((a.toNat = 0 ∧ nI x = nI xs ∧ decide (x.length ≤ 512) = decide (xs.length ≤ 512) ∧ ¬ (0 < xs.length ∧ (xs.getD 0 0).toNat < 128)) ∨ (a.toNat ≠ 0 ∧ x = a :: xs)) := by
  cases l with
  | nil => cases h
  | cons a xs =>
    rw [intL_cons] at h
    by_cases h1 : 128 ≤ a.toNat
    · rw [if_pos h1] at h; cases h
    rw [if_neg h1] at h
    refine ⟨a, xs, rfl, by omega, ?_⟩
    by_cases h2 : a.toNat = 0 ∧ 0 < xs.length
    · rw [if_pos h2] at h
      by_cases h3 : (xs.getD 0 0).toNat < 128
      · rw [if_pos h3] at h; cases h
      · rw [if_neg h3] at h
        cases h
        exact .inl ⟨h2.1, rfl, rfl, fun h => h3 h.2⟩
    · rw [if_neg h2] at h
      cases h
      by_cases h4 : a.toNat = 0
      · have hx : xs = [] := by
          rcases Nat.eq_zero_or_pos xs.length with h5 | h5
          · exact List.eq_nil_of_length_eq_zero h5
          · exact absurd ⟨h4, h5⟩ h2
        subst hx
        refine .inl ⟨h4, ?_, rfl, fun h => by simp at h⟩
        unfold nI intsB
        simp [val, h4]
      · exact .inr ⟨h4, rfl⟩
theorem int_none {a : UInt8} {xs : Bs} (h : intL (a :: xs) = none) : 128 ≤ a.toNat ∨ (a.toNat < 128 ∧ a.toNat = 0 ∧ 0 < xs.length ∧ (xs.getD 0 0).toNat < 128) := by
  rw [intL_cons] at h
  by_cases h1 : 128 ≤ a.toNat
  · exact .inl h1
  rw [if_neg h1] at h
  by_cases h2 : a.toNat = 0 ∧ 0 < xs.length
  · rw [if_pos h2] at h
    by_cases h3 : (xs.getD 0 0).toNat < 128
    · exact .inr ⟨by omega, h2.1, h2.2, h3⟩
    · rw [if_neg h3] at h; cases h
  · rw [if_neg h2] at h; cases h
set_option maxRecDepth 100000 in
set_option maxHeartbeats 8000000 in
/-- whole. -/
theorem rWhole (p : Option Addr) (n c : Nat) (bs : Bs) (P : Nat → Prop) (w : World) (hn : bs.length = n) (h : ByV w P p c bs) (hn2 : n ≤ 2000) :
    Calls Try.prog 43 #[.slice p n c] w (WhPost w P (wholeR bs)) := by
  have HPI := rPiece p n c bs P 2 (by decide) w hn h
  have hw : wholeR bs = match pieceR bs 2 with
    | none => none
    | some (b, r) => match intL b with
      | none => none
      | some x => some (x, r) := rfl
  obtain ⟨R, hR⟩ : ∃ R, wholeR bs = R := ⟨_, rfl⟩
  rw [hR] at hw ⊢
  have hlen : ∀ b r, pieceR bs 2 = some (b, r) → b.length ≤ 2000 := fun b r he => by
    unfold pieceR at he
    cases hr : readD bs with
    | error k => rw [hr] at he; cases he
    | ok q =>
      obtain ⟨⟨t, b'⟩, r'⟩ := q
      have := read_len hr
      rw [hr] at he
      simp only [] at he
      by_cases ht : t.toNat = 2
      · rw [if_pos ht] at he
        cases he
        omega
      · rw [if_neg ht] at he; cases he
  have HBAD : Hid (R = none → ∀ W, Below w.heap.size w W → WhPost w P R (.returned (.tuple #[.slice none 0 0, .slice none 0 0, .bool false])) W) := fun hk W hW => ⟨hW, .inl ⟨hk, rfl⟩⟩
  cases hp : pieceR bs 2 with
  | none =>
    rw [hp] at HPI hw
    have HR : Hid (R = none) := hw
    clear hw hlen hp hR h hn
    go_enter Try.func43, Try.ntmps43
    go_wp2_with (go_at_call 42; refine HPI.mono ?_; intro e w2 hq; obtain ⟨hb2, (⟨_, he⟩ | ⟨_, _, _, _, _, _, hno, _⟩)⟩ := hq; rotate_left; cases hno; subst he; clear HPI)
    go_ret3
    exact HBAD.out HR.out _ hb2
  | some q =>
    obtain ⟨l, r⟩ := q
    rw [hp] at HPI hw
    have hll := hlen l r hp
    simp only [] at hw
    obtain ⟨L, hL⟩ : ∃ L, l.length = L := ⟨_, rfl⟩
    obtain ⟨Lr, hLr⟩ : ∃ L, r.length = L := ⟨_, rfl⟩
    rw [hL] at hll
    clear hlen hp hR h hn
    have HPJ : Calls Try.prog 42 #[.slice p n c, .int .u8 2] w fun e w2 => ∃ p1 c1 p2 c2, e = .returned (.tuple #[.slice p1 L c1, .slice p2 Lr c2, .bool true]) ∧ Below w.heap.size w w2 ∧ ByV w2 P p1 c1 l ∧ ByV w2 P p2 c2 r := by
      refine HPI.mono ?_
      rintro e w2 ⟨hb2, (⟨hno, _⟩ | ⟨b', r', p1, c1, p2, c2, hs, he, hv1, hv2⟩)⟩
      · cases hno
      · cases hs
        rw [hL, hLr] at he
        exact ⟨p1, c1, p2, c2, he, hb2, hv1, hv2⟩
    clear HPI
    cases l with
    | nil =>
      simp at hL
      subst hL
      have HR : Hid (R = none) := hw
      clear hw
      go_enter Try.func43, Try.ntmps43
      go_wp2_with fail
      refine HPJ.mono ?_
      rintro e w2 ⟨p1, c1, p2, c2, rfl, hb2, -, -⟩
      clear HPJ
      go_wp2_with fail
      go_ret3
      exact HBAD.out HR.out _ hb2
    | cons a xs =>
      have ha := a.toNat_lt
      obtain ⟨A, hA⟩ : ∃ A, a.toNat = A := ⟨_, rfl⟩
      obtain ⟨X, hX⟩ : ∃ X, (xs.getD 0 0).toNat = X := ⟨_, rfl⟩
      have hx := (xs.getD 0 0).toNat_lt
      have hxl : xs.length = L - 1 := by simp at hL; omega
      have hL1 : 0 < L := by simp at hL; omega
      rw [hA] at ha
      rw [hX] at hx
      have HL : Hid ((a :: xs).length = L ∧ xs.length = L - 1 ∧ r.length = Lr ∧ a.toNat = A ∧ (xs.getD 0 0).toNat = X) := ⟨hL, hxl, hLr, hA, hX⟩
      have hz : ((L : Int) == 0) = false := by simp; omega
      have HFIN : Hid (∀ (x : Bs) (v p2 : _) (c2 : Nat) (bb : Bool) (w2 w3 : World), R = some (x, r) → decide (x.length ≤ 512) = bb → Below w.heap.size w w2 → ByV w2 P p2 c2 r → NumOut .i64 D16 w2 w3 v (nI x) 1001 → WhPost w P R (.returned (.tuple #[v, .slice p2 Lr c2, .bool bb])) w3) := fun x v p2 c2 bb w2 w3 h1 h2 h3 h4 h5 => by
        obtain ⟨h6, h7⟩ := rv_of h5
        refine ⟨h3.trans (h7.mono h3.size), .inr ⟨x, r, v, p2, c2, h1, ?_, h6, h4.keep (fun g _ hlt => h7.block g hlt)⟩⟩
        rw [h2, HL.out.2.2.1]
      cases hi : intL (a :: xs) with
      | none =>
        rw [hi] at hw
        have HR : Hid (R = none) := hw
        clear hw
        rcases int_none hi with h1 | ⟨h1, h2, h3, h4⟩
        · rw [hA] at h1
          have h1I : (128 : Int) ≤ (A : Int) := by omega
          have hLI : (0 : Int) < (L : Int) := by omega
          clear hi hL hLr hA hX hxl h1
          go_enter Try.func43, Try.ntmps43
          go_wp2_with fail
          refine HPJ.mono ?_
          rintro e w2 ⟨p1, c1, p2, c2, rfl, hb2, hv1, -⟩
          obtain ⟨b, o, rfl, hcl⟩ := hv1.lies (by simp)
          have k0 : w2.cell? ⟨b, o, none⟩ = some (.int .u8 (A : Int)) := by have := hcl 0 (by simp); rw [← HL.out.2.2.2.1]; simpa using this
          clear HPJ hcl hv1
          go_wp2_with fail
          go_ret3
          exact HBAD.out HR.out _ hb2
        · rw [hA] at h1 h2
          rw [hX] at h4
          rw [hxl] at h3
          subst h2
          have hLI : (0 : Int) < (L : Int) := by omega
          have hLJ : (1 : Int) < (L : Int) := by omega
          have h4I : (X : Int) < 128 := by omega
          clear hi hL hLr hA hX hxl h1 h3 h4
          go_enter Try.func43, Try.ntmps43
          go_wp2_with fail
          refine HPJ.mono ?_
          rintro e w2 ⟨p1, c1, p2, c2, rfl, hb2, hv1, -⟩
          obtain ⟨b, o, rfl, hcl⟩ := hv1.lies (by simp)
          have k0 : w2.cell? ⟨b, o, none⟩ = some (.int .u8 0) := by have := hcl 0 (by simp); rw [show ((a :: xs).getD 0 0).toNat = 0 from HL.out.2.2.2.1] at this; simpa using this
          have k1 : w2.cell? ⟨b, o + 1, none⟩ = some (.int .u8 (X : Int)) := by have := hcl 1 (by rw [HL.out.1]; omega); rw [show ((a :: xs).getD 1 0).toNat = X from by rw [← HL.out.2.2.2.2]; rfl] at this; exact this
          clear HPJ hcl hv1
          go_wp2_with fail
          go_ret3
          exact HBAD.out HR.out _ hb2
      | some x =>
        rw [hi] at hw
        have HR : Hid (R = some (x, r)) := hw
        clear hw
        obtain ⟨a', xs', e, hA2, hcase⟩ := int_cut hi
        cases e
        rw [hA] at hA2 hcase
        have hLI : (0 : Int) < (L : Int) := by omega
        have hA3 : ¬ (128 : Int) ≤ (A : Int) := by omega
        rcases hcase with ⟨h0, hn1, hd, hno⟩ | ⟨h0, rfl⟩
        · subst h0
          rw [hX, hxl] at hno
          have HV2 : Hid (nI x = nI xs ∧ decide (x.length ≤ 512) = decide (L - 1 ≤ 512)) := ⟨hn1, by rw [hd, hxl]⟩
          clear hi hn1 hd
          by_cases hL2 : 1 < L
          · have hLJ : (1 : Int) < (L : Int) := by omega
            have hX2 : ¬ (X : Int) < 128 := by omega
            have hLK : (1 : Int) ≤ (L : Int) := by omega
            clear hL hLr hA hX hxl hno hA2
            obtain ⟨bb, hbb⟩ : ∃ bb, decide (L - 1 ≤ 512) = bb := ⟨_, rfl⟩
            have hbI : decide ((L : Int) - 1 ≤ 512) = bb := by rw [← hbb]; exact decide_eq_decide.2 (by omega)
            have hbJ : decide (((L - 1 : Nat) : Int) ≤ 512) = bb := by rw [← hbb]; exact decide_eq_decide.2 (by omega)
            have HBB : Hid (decide (x.length ≤ 512) = bb) := HV2.out.2.trans hbb
            clear hbb
            go_enter Try.func43, Try.ntmps43
            go_wp2_with fail
            refine HPJ.mono ?_
            rintro e w2 ⟨p1, c1, p2, c2, rfl, hb2, hv1, hv2⟩
            have hvd := hv1.drop 1 (by rw [HL.out.1]; omega)
            have hcap := hv1.cap
            rw [HL.out.1] at hcap
            obtain ⟨b, o, rfl, hcl⟩ := hv1.lies (by simp)
            have k0 : w2.cell? ⟨b, o, none⟩ = some (.int .u8 0) := by have := hcl 0 (by simp); rw [show ((a :: xs).getD 0 0).toNat = 0 from HL.out.2.2.2.1] at this; simpa using this
            have k1 : w2.cell? ⟨b, o + 1, none⟩ = some (.int .u8 (X : Int)) := by have := hcl 1 (by rw [HL.out.1]; omega); rw [show ((a :: xs).getD 1 0).toNat = X from by rw [← HL.out.2.2.2.2]; rfl] at this; exact this
            rw [if_neg (by omega), Option.map_some, Addr.add_mid] at hvd
            have hnum := byv_num hvd (by show xs.length ≤ 5000; rw [HL.out.2.1]; omega) (by show 0 < xs.length; rw [HL.out.2.1]; omega)
            have hrd := rRead_any (some ⟨b, o + 1, none⟩) (L - 1) (c1 - 1) (intsB xs) w2 (by have e1 : (List.drop 1 (a :: xs)).length = L - 1 := HL.out.2.1; rw [e1] at hnum; exact hnum) (by omega)
            have HK : Hid (Below w.heap.size w w2 ∧ ByV w2 P p2 c2 r) := ⟨hb2, hv2⟩
            have hc1 : ¬ c1 = 1 := by omega
            have hcI : (1 : Int) ≤ (c1 : Int) := by omega
            have hcJ : (L : Int) ≤ (c1 : Int) := by omega
            clear HPJ hcl hv1 hvd hnum hb2 hv2
            go_wp2_with (go_at_call 32; refine hrd.mono ?_; rintro e w3 ⟨v, rfl, ho⟩; have HO : Hid (NumOut .i64 D16 w2 w3 v (nI x) 1001) := (by rw [HV2.out.1]; exact ho); obtain ⟨o1, o2, o3, o4, rfl, -⟩ := ho; clear hrd)
            all_goals (go_ret3; exact HFIN.out x _ p2 c2 bb w2 w3 HR.out HBB.out HK.out.1 HK.out.2 HO.out)
          · have hL3 : L = 1 := by omega
            subst hL3
            have hxe : xs = [] := List.eq_nil_of_length_eq_zero (by rw [hxl])
            have HBB : Hid (decide (x.length ≤ 512) = true) := by rw [show Hid (decide (x.length ≤ 512) = true) = (decide (x.length ≤ 512) = true) from rfl, HV2.out.2]; rfl
            clear hL hLr hA hX hxl hno hA2 hL2
            go_enter Try.func43, Try.ntmps43
            go_wp2_with fail
            refine HPJ.mono ?_
            rintro e w2 ⟨p1, c1, p2, c2, rfl, hb2, hv1, hv2⟩
            have hcap := hv1.cap
            have hbig := hv1.big
            rw [HL.out.1] at hcap
            obtain ⟨b, o, rfl, hcl⟩ := hv1.lies (by simp)
            have k0 : w2.cell? ⟨b, o, none⟩ = some (.int .u8 0) := by have := hcl 0 (by simp); rw [show ((a :: xs).getD 0 0).toNat = 0 from HL.out.2.2.2.1] at this; simpa using this
            have hrd := fun q d (hd : d ≤ 9223372036854775807) => rRead_any (some q) 0 d (intsB []) w2 ⟨Lies.empty _ _ _, Nat.zero_le _, by unfold maxLen; omega, fun e => (by cases e), Dg.nil _, by omega⟩ (by omega)
            have HK : Hid (Below w.heap.size w w2 ∧ ByV w2 P p2 c2 r ∧ nI x = val 256 (intsB []).reverse) := ⟨hb2, hv2, by rw [HV2.out.1, hxe]; rfl⟩
            have hcI : (1 : Int) ≤ (c1 : Int) := by omega
            clear HPJ hcl hv1 hb2 hv2 hxe
            by_cases hc1 : c1 = 1
            · subst hc1
              go_wp2_with (go_at_call 32; refine (hrd _ _ (by omega)).mono ?_; rintro e w3 ⟨v, rfl, ho⟩; have HO : Hid (NumOut .i64 D16 w2 w3 v (nI x) 1001) := (by rw [HK.out.2.2]; exact ho); obtain ⟨o1, o2, o3, o4, rfl, -⟩ := ho; clear hrd)
              all_goals (go_ret3; exact HFIN.out x _ p2 c2 true w2 w3 HR.out HBB.out HK.out.1 HK.out.2.1 HO.out)
            · go_wp2_with (go_at_call 32; refine (hrd _ _ (by omega)).mono ?_; rintro e w3 ⟨v, rfl, ho⟩; have HO : Hid (NumOut .i64 D16 w2 w3 v (nI x) 1001) := (by rw [HK.out.2.2]; exact ho); obtain ⟨o1, o2, o3, o4, rfl, -⟩ := ho; clear hrd)
              all_goals (go_ret3; exact HFIN.out x _ p2 c2 true w2 w3 HR.out HBB.out HK.out.1 HK.out.2.1 HO.out)
        · have hA0 : ((A : Int) == 0) = false := by simp; omega
          clear hi
          obtain ⟨bb, hbb⟩ : ∃ bb, decide ((a :: xs).length ≤ 512) = bb := ⟨_, rfl⟩
          have hbI : decide ((L : Int) ≤ 512) = bb := by rw [← hbb, hL]; exact decide_eq_decide.2 (by omega)
          have HBB : Hid (decide ((a :: xs).length ≤ 512) = bb) := hbb
          clear hbb hL hLr hA hX hxl hA2
          go_enter Try.func43, Try.ntmps43
          go_wp2_with fail
          refine HPJ.mono ?_
          rintro e w2 ⟨p1, c1, p2, c2, rfl, hb2, hv1, hv2⟩
          have hcap := hv1.cap
          rw [HL.out.1] at hcap
          obtain ⟨b, o, rfl, hcl⟩ := hv1.lies (by simp)
          have k0 : w2.cell? ⟨b, o, none⟩ = some (.int .u8 (A : Int)) := by have := hcl 0 (by simp); rw [← HL.out.2.2.2.1]; simpa using this
          have hnum := byv_num hv1 (by rw [HL.out.1]; omega) (by rw [HL.out.1]; omega)
          have hrd := rRead_any (some ⟨b, o, none⟩) L c1 (intsB (a :: xs)) w2 (by rw [HL.out.1] at hnum; exact hnum) (by omega)
          have HK : Hid (Below w.heap.size w w2 ∧ ByV w2 P p2 c2 r) := ⟨hb2, hv2⟩
          by_cases hL2 : 1 < L
          · have hLJ : (1 : Int) < (L : Int) := by omega
            clear HPJ hcl hv1 hnum hb2 hv2
            go_wp2_with (go_at_call 32; refine hrd.mono ?_; rintro e w3 ⟨v, rfl, ho⟩; have HO : Hid (NumOut .i64 D16 w2 w3 v (nI (a :: xs)) 1001) := ho; obtain ⟨o1, o2, o3, o4, rfl, -⟩ := ho; clear hrd)
            all_goals (go_ret3; exact HFIN.out (a :: xs) _ p2 c2 bb w2 w3 HR.out HBB.out HK.out.1 HK.out.2 HO.out)
          · have hLJ : ¬ (1 : Int) < (L : Int) := by omega
            clear HPJ hcl hv1 hnum hb2 hv2
            go_wp2_with (go_at_call 32; refine hrd.mono ?_; rintro e w3 ⟨v, rfl, ho⟩; have HO : Hid (NumOut .i64 D16 w2 w3 v (nI (a :: xs)) 1001) := ho; obtain ⟨o1, o2, o3, o4, rfl, -⟩ := ho; clear hrd)
            all_goals (go_ret3; exact HFIN.out (a :: xs) _ p2 c2 bb w2 w3 HR.out HBB.out HK.out.1 HK.out.2 HO.out)
end Go.Proofs.Yticopomchoahnaa
/-
  The document's Pair.
-/
namespace Go.Proofs.Yticopomchoahnaa
open Go.Shelf Go.RowKit
set_option linter.unusedVariables false
set_option linter.unusedSimpArgs false

/-- What Pair answers. -/
def PrPost (w : World) (R : Option (Bs × Bs)) (e : Ending) (w' : World) : Prop :=
  Below w.heap.size w w' ∧ ∃ a1 l1 k1 a2 l2 k2 b, e = .returned (.tuple #[.slice a1 l1 k1, .slice a2 l2 k2, .bool b]) ∧ ((R = none ∧ b = false) ∨ ∃ x y, R = some (x, y) ∧ b = true ∧ Rv w' (.slice a1 l1 k1) (nI x) 1001 ∧ Rv w' (.slice a2 l2 k2) (nI y) 1001)
theorem piece_len {bs b r : Bs} {t : Nat} (h : pieceR bs t = some (b, r)) : b.length ≤ bs.length ∧ r.length ≤ bs.length := by
  unfold pieceR at h
  cases hr : readD bs with
  | error k => rw [hr] at h; cases h
  | ok q =>
    obtain ⟨⟨t', b'⟩, r'⟩ := q
    have := read_len hr
    rw [hr] at h
    simp only [] at h
    by_cases ht : t'.toNat = t
    · rw [if_pos ht] at h
      cases h
      omega
    · rw [if_neg ht] at h; cases h
theorem whole_len {bs x r : Bs} (h : wholeR bs = some (x, r)) : r.length ≤ bs.length := by
  unfold wholeR at h
  cases hp : pieceR bs 2 with
  | none => rw [hp] at h; cases h
  | some q =>
    obtain ⟨b, r'⟩ := q
    rw [hp] at h
    simp only [] at h
    have := (piece_len hp).2
    cases hi : intL b with
    | none => rw [hi] at h; cases h
    | some x' =>
      rw [hi] at h
      cases h
      exact this
set_option maxRecDepth 100000 in
set_option maxHeartbeats 8000000 in
/-- Pair. -/
theorem rPair (p : Option Addr) (n c : Nat) (bs : Bs) (P : Nat → Prop) (w : World) (hn : bs.length = n) (h : ByV w P p c bs) (hn2 : n ≤ 2000) :
    Calls Try.prog 17 #[.slice p n c] w (PrPost w (pairR bs)) := by
  have HPI := rPiece p n c bs P 48 (by decide) w hn h
  obtain ⟨R, hR⟩ : ∃ R, pairR bs = R := ⟨_, rfl⟩
  rw [hR]
  unfold pairR at hR
  have HBAD : Hid (R = none → ∀ W a1 l1 k1 a2 l2 k2, Below w.heap.size w W → PrPost w R (.returned (.tuple #[.slice a1 l1 k1, .slice a2 l2 k2, .bool false])) W) := fun hk W a1 l1 k1 a2 l2 k2 hW => ⟨hW, a1, l1, k1, a2, l2, k2, false, rfl, .inl ⟨hk, rfl⟩⟩
  cases hp : pieceR bs 48 with
  | none =>
    rw [hp] at HPI hR
    have HR : Hid (R = none) := hR.symm
    clear hp hR h hn
    go_enter Try.func17, Try.ntmps17
    go_wp2_with fail
    refine HPI.mono ?_
    rintro e w2 ⟨hb2, (⟨_, rfl⟩ | ⟨_, _, _, _, _, _, hno, _⟩)⟩
    rotate_left
    · cases hno
    clear HPI
    go_wp2_with fail
    go_ret3
    exact HBAD.out HR.out _ _ _ _ _ _ _ hb2
  | some q =>
    obtain ⟨l, r⟩ := q
    have hll := piece_len hp
    rw [hp] at HPI hR
    simp only [] at hR
    obtain ⟨L, hL⟩ : ∃ L, l.length = L := ⟨_, rfl⟩
    obtain ⟨Lr, hLr⟩ : ∃ L, r.length = L := ⟨_, rfl⟩
    rw [hn, hL] at hll
    have HPJ : Calls Try.prog 42 #[.slice p n c, .int .u8 48] w fun e w2 => ∃ p1 c1 p2 c2, e = .returned (.tuple #[.slice p1 L c1, .slice p2 Lr c2, .bool true]) ∧ Below w.heap.size w w2 ∧ ByV w2 P p1 c1 l := by
      refine HPI.mono ?_
      rintro e w2 ⟨hb2, (⟨hno, _⟩ | ⟨b', r', p1, c1, p2, c2, hs, he, hv1, hv2⟩)⟩
      · cases hno
      · cases hs
        rw [hL, hLr] at he
        exact ⟨p1, c1, p2, c2, he, hb2, hv1⟩
    clear HPI hp h hn
    by_cases h0 : 0 < r.length
    · rw [if_pos h0] at hR
      have HR : Hid (R = none) := hR.symm
      rw [hLr] at h0
      have h0I : (0 : Int) < (Lr : Int) := by omega
      clear hR h0 hLr hL hll
      go_enter Try.func17, Try.ntmps17
      go_wp2_with fail
      refine HPJ.mono ?_
      rintro e w2 ⟨p1, c1, p2, c2, rfl, hb2, -⟩
      clear HPJ
      go_wp2_with fail
      go_ret3
      exact HBAD.out HR.out _ _ _ _ _ _ _ hb2
    rw [if_neg h0] at hR
    rw [hLr] at h0
    have h0I : ¬ (0 : Int) < (Lr : Int) := by omega
    unfold twoR at hR
    have HLL : Hid (l.length = L ∧ L ≤ 2000) := ⟨hL, by omega⟩
    clear h0 hLr hL hll
    cases hw1 : wholeR l with
    | none =>
      rw [hw1] at hR
      have HR : Hid (R = none) := hR.symm
      clear hR
      go_enter Try.func17, Try.ntmps17
      go_wp2_with fail
      refine HPJ.mono ?_
      rintro e w2 ⟨p1, c1, p2, c2, rfl, hb2, hv1⟩
      have hW := rWhole p1 L c1 l P w2 HLL.out.1 hv1 HLL.out.2
      rw [hw1] at hW
      have HB2 : Hid (Below w.heap.size w w2) := hb2
      clear HPJ hv1 hb2
      go_wp2_with fail
      refine hW.mono ?_
      rintro e w3 ⟨hb3, (⟨_, rfl⟩ | ⟨_, _, _, _, _, hno, _⟩)⟩
      rotate_left
      · cases hno
      clear hW
      go_wp2_with fail
      go_ret3
      exact HBAD.out HR.out _ _ _ _ _ _ _ (HB2.out.trans (hb3.mono HB2.out.size))
    | some q1 =>
      obtain ⟨x, r1⟩ := q1
      have hl1 := whole_len hw1
      rw [hw1] at hR
      simp only [] at hR
      obtain ⟨L1, hL1⟩ : ∃ L, r1.length = L := ⟨_, rfl⟩
      rw [hL1, HLL.out.1] at hl1
      obtain ⟨bx, hbx⟩ : ∃ bx, decide (x.length ≤ 512) = bx := ⟨_, rfl⟩
      have HWH : ∀ p1 c1 w2, ByV w2 P p1 c1 l → Calls Try.prog 43 #[.slice p1 L c1] w2 fun e w3 => ∃ a1 k1 m1 p2 c2, e = .returned (.tuple #[.slice a1 k1 m1, .slice p2 L1 c2, .bool bx]) ∧ Below w2.heap.size w2 w3 ∧ ByV w3 P p2 c2 r1 ∧ Rv w3 (.slice a1 k1 m1) (nI x) 1001 := fun p1 c1 w2 hv1 => by
        have hW := rWhole p1 L c1 l P w2 HLL.out.1 hv1 HLL.out.2
        rw [hw1] at hW
        refine hW.mono ?_
        rintro e w3 ⟨hb3, (⟨hno, _⟩ | ⟨x', r', v, p2, c2, hs, he, hrv, hv⟩)⟩
        · cases hno
        cases hs
        obtain ⟨a1, k1, m1, _, rfl, -⟩ := id hrv
        rw [hL1, hbx] at he
        exact ⟨a1, k1, m1, p2, c2, he, hb3, hv, hrv⟩
      have HL1 : Hid (r1.length = L1 ∧ L1 ≤ 2000) := ⟨hL1, by have := HLL.out.2; omega⟩
      clear hw1 hl1 hL1
      by_cases h5 : 512 < x.length
      · rw [if_pos h5] at hR
        have HR : Hid (R = none) := hR.symm
        obtain rfl : bx = false := by rw [← hbx]; exact decide_eq_false (by omega)
        clear hR hbx h5
        go_enter Try.func17, Try.ntmps17
        go_wp2_with fail
        refine HPJ.mono ?_
        rintro e w2 ⟨p1, c1, p2, c2, rfl, hb2, hv1⟩
        have hW := HWH p1 c1 w2 hv1
        have HB2 : Hid (Below w.heap.size w w2) := hb2
        clear HPJ hv1 hb2 HWH
        go_wp2_with fail
        refine hW.mono ?_
        rintro e w3 ⟨a1, k1, m1, p3, c3, rfl, hb3, -, -⟩
        clear hW
        go_wp2_with fail
        go_ret3
        exact HBAD.out HR.out _ _ _ _ _ _ _ (HB2.out.trans (hb3.mono HB2.out.size))
      rw [if_neg h5] at hR
      obtain rfl : bx = true := by rw [← hbx]; exact decide_eq_true (by omega)
      clear hbx h5
      cases hw2 : wholeR r1 with
      | none =>
        rw [hw2] at hR
        have HR : Hid (R = none) := hR.symm
        clear hR
        go_enter Try.func17, Try.ntmps17
        go_wp2_with fail
        refine HPJ.mono ?_
        rintro e w2 ⟨p1, c1, p2, c2, rfl, hb2, hv1⟩
        have hW := HWH p1 c1 w2 hv1
        have HB2 : Hid (Below w.heap.size w w2) := hb2
        clear HPJ hv1 hb2 HWH
        go_wp2_with fail
        refine hW.mono ?_
        rintro e w3 ⟨a1, k1, m1, p3, c3, rfl, hb3, hv3, -⟩
        clear hW
        have hW := rWhole p3 L1 c3 r1 P w3 HL1.out.1 hv3 HL1.out.2
        rw [hw2] at hW
        have HB3 : Hid (Below w.heap.size w w3) := HB2.out.trans (hb3.mono HB2.out.size)
        clear hv3 hb3 HB2
        go_wp2_with fail
        refine hW.mono ?_
        rintro e w4 ⟨hb4, (⟨_, rfl⟩ | ⟨_, _, _, _, _, hno, _⟩)⟩
        rotate_left
        · cases hno
        clear hW
        go_wp2_with fail
        go_ret3
        exact HBAD.out HR.out _ _ _ _ _ _ _ (HB3.out.trans (hb4.mono HB3.out.size))
      | some q2 =>
        obtain ⟨y, r2⟩ := q2
        rw [hw2] at hR
        simp only [] at hR
        obtain ⟨L2, hL2⟩ : ∃ L, r2.length = L := ⟨_, rfl⟩
        rw [hL2] at hR
        obtain ⟨bY, hby⟩ : ∃ bx, decide (y.length ≤ 512) = bx := ⟨_, rfl⟩
        have HFIN : Hid (∀ W a1 k1 m1 a2 k2 m2 bb, (bb = (bY && ((L2 : Int) == 0))) → Below w.heap.size w W → Rv W (.slice a1 k1 m1) (nI x) 1001 → Rv W (.slice a2 k2 m2) (nI y) 1001 → PrPost w R (.returned (.tuple #[.slice a1 k1 m1, .slice a2 k2 m2, .bool bb])) W) := fun W a1 k1 m1 a2 k2 m2 bb hbb hW h1 h2 => by
          refine ⟨hW, a1, k1, m1, a2, k2, m2, bb, rfl, ?_⟩
          by_cases h7 : 512 < y.length ∨ 0 < L2
          · rw [if_pos h7] at hR
            refine .inl ⟨hR.symm, ?_⟩
            rw [hbb, ← hby]
            rcases h7 with h8 | h8
            · rw [decide_eq_false (by omega)]; rfl
            · rw [show ((L2 : Int) == 0) = false from by simp; omega]; simp
          · rw [if_neg h7] at hR
            refine .inr ⟨x, y, hR.symm, ?_, h1, h2⟩
            rw [hbb, ← hby, decide_eq_true (by omega), show ((L2 : Int) == 0) = true from by simp; omega]; rfl
        have HWI : ∀ p1 c1 w2, ByV w2 P p1 c1 r1 → Calls Try.prog 43 #[.slice p1 L1 c1] w2 fun e w3 => ∃ a1 k1 m1 p2 c2, e = .returned (.tuple #[.slice a1 k1 m1, .slice p2 L2 c2, .bool bY]) ∧ Below w2.heap.size w2 w3 ∧ Rv w3 (.slice a1 k1 m1) (nI y) 1001 := fun p1 c1 w2 hv1 => by
          have hW := rWhole p1 L1 c1 r1 P w2 HL1.out.1 hv1 HL1.out.2
          rw [hw2] at hW
          refine hW.mono ?_
          rintro e w3 ⟨hb3, (⟨hno, _⟩ | ⟨x', r', v, p2, c2, hs, he, hrv, hv⟩)⟩
          · cases hno
          cases hs
          obtain ⟨a1, k1, m1, _, rfl, -⟩ := id hrv
          rw [hL2, hby] at he
          exact ⟨a1, k1, m1, p2, c2, he, hb3, hrv⟩
        clear hw2 hL2 hby hR
        go_enter Try.func17, Try.ntmps17
        go_wp2_with fail
        refine HPJ.mono ?_
        rintro e w2 ⟨p1, c1, p2, c2, rfl, hb2, hv1⟩
        have hW := HWH p1 c1 w2 hv1
        have HB2 : Hid (Below w.heap.size w w2) := hb2
        clear HPJ hv1 hb2 HWH
        go_wp2_with fail
        refine hW.mono ?_
        rintro e w3 ⟨a1, k1, m1, p3, c3, rfl, hb3, hv3, hx3⟩
        clear hW
        have hW := HWI p3 c3 w3 hv3
        have HB3 : Hid (Below w.heap.size w w3 ∧ Rv w3 (.slice a1 k1 m1) (nI x) 1001) := ⟨HB2.out.trans (hb3.mono HB2.out.size), hx3⟩
        clear hv3 hb3 HB2 hx3 HWI
        go_wp2_with fail
        refine hW.mono ?_
        rintro e w4 ⟨a2, k2, m2, p4, c4, rfl, hb4, hy4⟩
        have HB4 : Hid (Below w.heap.size w w4 ∧ Rv w4 (.slice a1 k1 m1) (nI x) 1001 ∧ Rv w4 (.slice a2 k2 m2) (nI y) 1001) := ⟨HB3.out.1.trans (hb4.mono HB3.out.1.size), HB3.out.2.old hb4, hy4⟩
        clear hW hb4 hy4 HB3
        cases bY with
        | false =>
          go_wp2_with fail
          go_ret3
          exact HFIN.out _ _ _ _ _ _ _ _ rfl HB4.out.1 HB4.out.2.1 HB4.out.2.2
        | true =>
          go_wp2_with fail
          go_ret3
          exact HFIN.out _ _ _ _ _ _ _ _ (by simp) HB4.out.1 HB4.out.2.1 HB4.out.2.2
end Go.Proofs.Yticopomchoahnaa
/-
  A range over a function whose elements lie in new memory.
-/
namespace Go.Proofs.Yticopomchoahnaa
open Go.Shelf Go.RowKit
set_option linter.unusedVariables false
set_option linter.unusedSimpArgs false

/-- A range over a function that yields elements in new memory; each round may make memory of its own. -/
theorem range_new {α : Type} {P : Program} {n : Nat} {g : Operand} {ps : Array Tmp} {assign body : Code} {Q : Exit → Act → World → Prop} {a : Act} {w : World} {gf : Nat} {lb : Array Value} (hn : 1 ≤ n) (Gd : List α → α → Prop)
    (hg : a.eval g = .func (.func gf) #[] lb) (eg : ∀ args w, (callFunc gf args).run P w = .ok (.enter gf args) w)
    (E : α → Array Value) (hps : ∀ x, (E x).size = ps.size) (Y : Nat → α → World → Prop) (S Sp : List α → Prop) (I : List α → World → Prop) (Ix : Code → List α → World → Prop)
    (hit : ∀ (l : Nat) (r : Loop) (J Jx : List α → World → Prop), (∀ pre W, J pre W → I pre W) → (∀ pre W W', J pre W → Below W.heap.size W W' → J pre W') →
      (∀ pre x W0 W1, J pre W0 → Gd pre x → Below W0.heap.size W0 W1 → Y W0.heap.size x W1 → YieldAt Fence.wide (n - 1 - 1) P l (E x) W1 fun e W' => (e = .returned (.bool true) ∧ J (pre ++ [x]) W') ∨ (e = .returned (.bool false) ∧ Jx (pre ++ [x]) W')) →
      J [] ((w.alloc (.deferred (some []))).alloc (.loop r)) →
      CallsIn Fence.wide (n - 1) P gf (#[.func (.yield l) #[] #[]] ++ lb) ((w.alloc (.deferred (some []))).alloc (.loop r)) fun e W' => (∃ v, e = .returned v) ∧ ((∃ xs, S xs ∧ J xs W') ∨ (∃ pre, Sp pre ∧ Jx pre W')))
    (hIb : ∀ pre W W', I pre W → Below W.heap.size W W' → I pre W')
    (hIp : ∀ pre W r o o', I pre W → w.heap.size ≤ r → W.heap[r]? = some o → o.isCells = false → I pre (W.putObj r o'))
    (hXp : ∀ c pre W r o o', Ix c pre W → w.heap.size ≤ r → W.heap[r]? = some o → o.isCells = false → Ix c pre (W.putObj r o'))
    (h0 : I [] w)
    (hround : ∀ (l : Nat) (r : Loop) (pre : List α) (x : α) (W0 W : World), Gd pre x → w.heap.size ≤ l → l < W0.heap.size → W.heap[l]? = some (.loop r) → I pre W0 → Below W0.heap.size W0 W → I pre W → Y W0.heap.size x W →
      assign.wpIn (Fence.wide.inRound l) (n - 1 - 1) P (Exit.then (fun a1 W1 => Below W.heap.size W W1 ∧ ∀ o', body.wpIn (Fence.wide.inRound l) (n - 1 - 1) P (ownPostG w.heap.size (fun _ _ => True) I Ix (pre ++ [x]) (W1.putObj l o')) a1 (W1.putObj l o')) (fun _ _ _ => False))
        { tmps := (ps.zip (E x)).foldl (fun t (p, v) => t.setIfInBounds p v) a.tmps, defers := [] } W)
    (hdone : ∀ (D : Nat) (xs : List α) (W : World), w.heap.size ≤ D → S xs → I xs W → W.heap[D]? = some (.deferred (some [])) → Q .normal { a with defers := { target := .collected D, args := #[] } :: a.defers } W)
    (hstop : ∀ (D : Nat) (c : Code) (pre : List α) (W : World), w.heap.size ≤ D → Sp pre → Ix c pre W → W.heap[D]? = some (.deferred (some [])) → c.wpIn Fence.wide n P Q { a with defers := { target := .collected D, args := #[] } :: a.defers } W) :
    (Code.rangeFunc g ps assign body).wpIn Fence.wide n P Q a w := by
  refine wpIn_rangeFunc ?_
  intro fn _
  obtain ⟨st, hst⟩ : ∃ st : LoopState → Option Code → Loop, st = fun s pe => { state := s, pending := pe, fn := fn, tmps := a.tmps, params := ps, assign := assign, body := body, defers := w.heap.size } := ⟨_, rfl⟩
  have hd1 : ((w.alloc (.deferred (some []))).alloc (.loop (st .ready none))).heap[w.heap.size]? = some (.deferred (some [])) := (Below.heap_alloc _ _ _ (by simp)).trans (World.alloc_heap_new w _)
  have hl1 : ((w.alloc (.deferred (some []))).alloc (.loop (st .ready none))).heap[w.heap.size + 1]? = some (.loop (st .ready none)) := by
    have := World.alloc_heap_new (w.alloc (.deferred (some []))) (.loop (st .ready none))
    rwa [World.size_alloc] at this
  have hb1 : Below w.heap.size w ((w.alloc (.deferred (some []))).alloc (.loop (st .ready none))) := ((Below.refl _ w).alloc (Nat.le_refl _) _).alloc (by simp) _
  refine ⟨w.heap.size + 1, [{ target := .collected w.heap.size, args := #[] }], (w.alloc (.deferred (some []))).alloc (.loop (st .ready none)), { target := .fn (.func gf) lb, args := #[.func (.yield (w.heap.size + 1)) #[] #[]] }, (w.alloc (.deferred (some []))).alloc (.loop (st .ready none)), gf, #[.func (.yield (w.heap.size + 1)) #[] #[]] ++ lb, (w.alloc (.deferred (some []))).alloc (.loop (st .ready none)), by rw [hst]; exact run_enterLoop_outer _ _ _ _ _, by simp only [resolve, hg]; simp [go_sem], fun _ _ => trivial, by simp [invoke, go_sem, eg], fun _ => hn, ?_⟩
  refine (hit (w.heap.size + 1) (st .ready none)
    (fun pre W => I pre W ∧ W.heap[w.heap.size + 1]? = some (.loop (st .ready none)) ∧ W.heap[w.heap.size]? = some (.deferred (some [])))
    (fun pre W => ∃ c, Ix c pre W ∧ W.heap[w.heap.size + 1]? = some (.loop (st .done (some c))) ∧ W.heap[w.heap.size]? = some (.deferred (some [])))
    (fun _ _ h => h.1)
    (fun pre W W' h hb => ⟨hIb pre W W' h.1 hb, (hb.block _ (Array.getElem?_eq_some_iff.1 h.2.1).1).trans h.2.1, (hb.block _ (Array.getElem?_eq_some_iff.1 h.2.2).1).trans h.2.2⟩) ?_ ⟨hIb _ _ _ h0 hb1, hl1, hd1⟩).mono ?_
  · rintro pre x W0 W ⟨hi, hl0, hd0⟩ hlen hb hy
    have hlt0 : w.heap.size + 1 < W0.heap.size := (Array.getElem?_eq_some_iff.1 hl0).1
    have hl : W.heap[w.heap.size + 1]? = some (.loop (st .ready none)) := (hb.block _ hlt0).trans hl0
    have hd : W.heap[w.heap.size]? = some (.deferred (some [])) := (hb.block _ (by omega)).trans hd0
    have hlt : w.heap.size + 1 < W.heap.size := (Array.getElem?_eq_some_iff.1 hl).1
    have hyr := run_yield (P := P) (args := E x) hl (by rw [hst]; exact hps x)
    rw [hst] at hyr
    refine ⟨fn, _, assign, body, hyr, roundIn_of_wpIn trivial ?_⟩
    refine wpIn_mono (hround (w.heap.size + 1) (st .ready none) pre x W0 W hlen (by omega) hlt0 hl hi hb (hIb _ _ _ hi hb) hy) ?_
    rintro e a1 W1 hp
    cases e with
    | normal =>
      obtain ⟨hb1, hbody⟩ := hp
      have hl2 : W1.heap[w.heap.size + 1]? = some (.loop (st .ready none)) := (hb1.block _ hlt).trans hl
      have hd2 : W1.heap[w.heap.size]? = some (.deferred (some [])) := (hb1.block _ (by omega)).trans hd
      have hlt2 : w.heap.size + 1 < W1.heap.size := (Array.getElem?_eq_some_iff.1 hl2).1
      refine ⟨_, run_beginRound hl2 (by rw [hst]), ?_⟩
      refine wpIn_mono (hbody _) ?_
      have hl3 : (W1.putObj (w.heap.size + 1) (.loop { st .ready none with state := .busy })).heap[w.heap.size + 1]? = some (.loop { st .ready none with state := .busy }) := World.putObj_heap_same hlt2
      have hd3 : (W1.putObj (w.heap.size + 1) (.loop { st .ready none with state := .busy })).heap[w.heap.size]? = some (.deferred (some [])) := (World.putObj_heap_other (by omega)).trans hd2
      have fin : ∀ (jump : Option Code) (W3 : World), KeepsFrom w.heap.size (W1.putObj (w.heap.size + 1) (.loop { st .ready none with state := .busy })) W3 →
          (Instr.endRound (w.heap.size + 1) jump).run P W3 = .ok (.bool jump.isNone) (W3.putObj (w.heap.size + 1) (.loop (st (if jump.isNone then .ready else .done) jump))) ∧
          W3.heap[w.heap.size + 1]? = some (.loop { st .ready none with state := .busy }) ∧
          (W3.putObj (w.heap.size + 1) (.loop (st (if jump.isNone then .ready else .done) jump))).heap[w.heap.size + 1]? = some (.loop (st (if jump.isNone then .ready else .done) jump)) ∧
          (W3.putObj (w.heap.size + 1) (.loop (st (if jump.isNone then .ready else .done) jump))).heap[w.heap.size]? = some (.deferred (some [])) := fun jump W3 hk3 => by
        have h3 := hk3.same _ _ (by omega) hl3 rfl
        have := run_endRound (P := P) jump h3
        rw [hst] at this ⊢
        exact ⟨this, by rw [hst] at h3; exact h3, World.putObj_heap_same (Array.getElem?_eq_some_iff.1 h3).1, (World.putObj_heap_other (by omega)).trans (hk3.same _ _ (Nat.le_refl _) hd3 rfl)⟩
      rintro e a3 W3 hp
      cases e with
      | normal =>
        obtain ⟨hk3, _, hi3⟩ := hp
        obtain ⟨hr, h3, h4, h5⟩ := fin none W3 hk3
        exact ⟨_, _, hr, .inl ⟨rfl, hIp _ _ _ _ _ hi3 (by omega) h3 rfl, h4, h5⟩⟩
      | ret =>
        obtain ⟨hk3, hi3⟩ := hp
        obtain ⟨hr, h3, h4, h5⟩ := fin (some .ret) W3 hk3
        exact ⟨_, _, hr, .inr ⟨rfl, .ret, hXp _ _ _ _ _ _ hi3 (by omega) h3 rfl, h4, h5⟩⟩
      | exit id =>
        obtain ⟨hk3, hi3⟩ := hp
        obtain ⟨hr, h3, h4, h5⟩ := fin (some (.exit id)) W3 hk3
        exact ⟨_, _, hr, .inr ⟨rfl, .exit id, hXp _ _ _ _ _ _ hi3 (by omega) h3 rfl, h4, h5⟩⟩
      | goto t =>
        obtain ⟨hk3, hi3⟩ := hp
        obtain ⟨hr, h3, h4, h5⟩ := fin (some (.goto t)) W3 hk3
        exact ⟨_, _, hr, .inr ⟨rfl, .goto t, hXp _ _ _ _ _ _ hi3 (by omega) h3 rfl, h4, h5⟩⟩
      | panic ch => exact hp.elim
      | outgrown => exact hp.elim
    | ret => exact hp.elim
    | exit id => exact hp.elim
    | goto t => exact hp.elim
    | panic ch => exact hp.elim
    | outgrown => exact hp.elim
  · rintro e W2 ⟨⟨v, rfl⟩, (⟨xs, hS, hi, hl, hk⟩ | ⟨pre, hSp, c, hi, hl, hk⟩)⟩
    · exact ⟨none, _, by have := run_endLoop (P := P) hl (by rw [hst]; simp); rw [hst] at this; exact this, hdone _ xs _ (Nat.le_refl _) hS (hIp _ _ _ _ _ hi (by omega) hl rfl) ((World.putObj_heap_other (by omega)).trans hk)⟩
    · exact ⟨some c, _, by have := run_endLoop (P := P) hl (by rw [hst]; simp); rw [hst] at this; exact this, hstop _ c pre _ (Nat.le_refl _) hSp (hXp _ _ _ _ _ _ hi (by omega) hl rfl) ((World.putObj_heap_other (by omega)).trans hk)⟩
end Go.Proofs.Yticopomchoahnaa
/-
  The code's pieces gone over.
-/
namespace Go.Proofs.Yticopomchoahnaa
open Go.Shelf Go.RowKit
set_option linter.unusedVariables false
set_option linter.unusedSimpArgs false
attribute [local go_sem] Oper.semAt_some

/-- What is yielded: a piece, or an error. -/
structure Ye where
  pc : Pc
  k : Nat
abbrev encY (y : Ye) : Array Value := #[.agg #[.int .u8 (y.pc.t.toNat : Int), .slice y.pc.p y.pc.b.length y.pc.c], .int .i64 (y.k : Int)]
/-- What is to be yielded. -/
def seqD (bs : Bs) : List ((UInt8 × Bs) × Nat) := (pcsD bs).1.map (fun x => (x, 0)) ++ (if (pcsD bs).2 = 0 then [] else [((0, []), (pcsD bs).2)])
def yOf (l : List Ye) : List ((UInt8 × Bs) × Nat) := l.map fun y => ((y.pc.t, y.pc.b), y.k)
theorem yOf_app (a b : List Ye) : yOf (a ++ b) = yOf a ++ yOf b := by simp [yOf]
theorem seqD_nil : seqD [] = [] := rfl
theorem seqD_err {bs : Bs} {k : Nat} (h0 : bs ≠ []) (h : readD bs = .error k) : seqD bs = [((0, []), k)] := by
  unfold seqD
  rw [pcsD_err h0 h]
  have := read_err h
  simp
  omega
theorem seqD_ok {bs : Bs} {t : UInt8} {b r : Bs} (h : readD bs = .ok ((t, b), r)) : seqD bs = ((t, b), 0) :: seqD r := by
  unfold seqD
  rw [pcsD_ok h]
  rfl
theorem seqD_len : ∀ (bs : Bs), (seqD bs).length ≤ bs.length := by
  intro bs
  induction hn : bs.length using Nat.strongRecOn generalizing bs with
  | _ n ih =>
    by_cases h0 : bs = []
    · subst h0; simp [seqD_nil]
    cases hr : readD bs with
    | error k =>
      rw [seqD_err h0 hr]
      have : bs.length ≠ 0 := fun e => h0 (List.eq_nil_of_length_eq_zero e)
      simp
      omega
    | ok q =>
      obtain ⟨⟨t, b⟩, r⟩ := q
      have hl := read_len hr
      rw [seqD_ok hr]
      have := ih r.length (by omega) r rfl
      simp
      omega
theorem seqD_pos {bs : Bs} (h0 : bs ≠ []) : 0 < (seqD bs).length := by
  cases hr : readD bs with
  | error k => rw [seqD_err h0 hr]; simp
  | ok q =>
    obtain ⟨⟨t, b⟩, r⟩ := q
    rw [seqD_ok hr]
    simp
/-- Where a yielded piece lies: in memory from M on. -/
def Yn (M : Nat) (y : Ye) (W : World) : Prop := ByV W (fun b => M ≤ b) y.pc.p y.pc.c y.pc.b

set_option maxRecDepth 100000 in
set_option maxHeartbeats 4000000 in
theorem all_iter (n : Nat) (hn : 1 ≤ n) (go : Nat) (p : Option Addr) (L c : Nat) (bs : Bs) (B : Nat → Prop) (l : Nat) (J Jx : List Ye → World → Prop) (W : World)
    (hcell : W.cell? ⟨go, 0, none⟩ = some (.slice p L c)) (hL : bs.length = L) (hv : ByV W (B) p c bs) (hL2 : L ≤ 100000)
    (hk : ∀ pre W', J pre W' → ∀ k, B k → W'.heap[k]? = W.heap[k]?) (hBW : ∀ k, B k → k < W.heap.size)
    (hJb : ∀ pre W W', J pre W → Below W.heap.size W W' → J pre W')
    (hY : ∀ pre x W0 W1, J pre W0 → (pre.length < L ∧ yOf (pre ++ [x]) <+: seqD bs) → Below W0.heap.size W0 W1 → Yn W0.heap.size x W1 → YieldAt Fence.wide (n - 1) Try.prog l (encY x) W1 fun e W' => (e = .returned (.bool true) ∧ J (pre ++ [x]) W') ∨ (e = .returned (.bool false) ∧ Jx (pre ++ [x]) W'))
    (h0 : J [] W) :
    CallsIn Fence.wide n Try.prog 106 (#[.func (.yield l) #[] #[]] ++ #[.pointer (some ⟨go, 0, none⟩)]) W fun e W' => (∃ v, e = .returned v) ∧ ((∃ xs, yOf xs = seqD bs ∧ J xs W') ∨ (∃ pre, yOf pre <+: seqD bs ∧ Jx pre W')) := by
  have H : Hid ((∀ pre W', J pre W' → ∀ k, B k → W'.heap[k]? = W.heap[k]?) ∧ (∀ pre W W', J pre W → Below W.heap.size W W' → J pre W') ∧ bs.length = L ∧ ByV W (B) p c bs) := ⟨hk, hJb, hL, hv⟩
  have HY : Hid (∀ pre x W0 W1, J pre W0 → (pre.length < L ∧ yOf (pre ++ [x]) <+: seqD bs) → Below W0.heap.size W0 W1 → Yn W0.heap.size x W1 → YieldAt Fence.wide (n - 1) Try.prog l (encY x) W1 fun e W' => (e = .returned (.bool true) ∧ J (pre ++ [x]) W') ∨ (e = .returned (.bool false) ∧ Jx (pre ++ [x]) W')) := hY
  have HJ0 : Hid (J [] W) := h0
  clear hk hJb hL hv hY h0
  refine callsIn_of_wp Try.func106 rfl trivial ?_ rfl
  simp only [Try.ntmps106, List.size_toArray, List.length_cons, List.length_nil, Nat.reduceAdd, Nat.reduceSub, Array.replicate_succ, Array.replicate_zero, List.push_toArray, List.append_toArray, List.nil_append, List.cons_append]
  gi_wp2
  gi_loopw [3] (fun v3 wr => ∃ (pre : List Ye) (ys : Bs) (K : Nat) (q : Option Addr) (d : Nat), v3 = .slice q K d ∧ ys.length = K ∧ K ≤ L ∧ ByV wr (B) q d ys ∧ J pre wr ∧ yOf pre ++ seqD ys = seqD bs) (fun v3 _ => lenOfS v3)
  case atStart => exact ⟨[], bs, L, p, c, rfl, H.out.2.2.1, Nat.le_refl _, H.out.2.2.2, HJ0.out, rfl⟩
  case round =>
    obtain ⟨pre, ys, K, q, d, rfl, hK, hKL, hv, hJ, hseq⟩ := hrel
    clear hcell HJ0
    by_cases q5 : K = 0
    · have q5I : ¬ (0 : Int) < (K : Int) := by omega
      have hys : ys = [] := List.eq_nil_of_length_eq_zero (by omega)
      have HR : Hid (yOf pre = seqD bs ∧ J pre wr) := by rw [hys, seqD_nil, List.append_nil] at hseq; exact ⟨hseq, hJ⟩
      clear hseq hys hK hv hJ
      gi_wp2
      go_end0
      exact ⟨⟨_, rfl⟩, .inl ⟨pre, HR.out⟩⟩
    have q5I : (0 : Int) < (K : Int) := by omega
    have HSP := derSplit q K d ys (B) wr hK hv
    have hy0 : ys ≠ [] := by intro e; rw [e] at hK; exact q5 hK.symm
    have HI : Hid (J pre wr ∧ yOf pre ++ seqD ys = seqD bs) := ⟨hJ, hseq⟩
    have HN : Hid (pre.length < L) := by
      have h1 := congrArg List.length hseq
      have h2 := seqD_len bs
      have h3 : 0 < (seqD ys).length := seqD_pos hy0
      rw [H.out.2.2.1] at h2
      rw [List.length_append] at h1
      have h4 : (yOf pre).length = pre.length := by simp [yOf]
      show pre.length < L
      omega
    clear hv hJ hseq
    cases hr : readD ys with
    | error k =>
      rw [hr] at HSP
      have hk := read_err hr
      have hkb : ((k : Int) != 0) = true := by simp; omega
      have HR : Hid (yOf (pre ++ [⟨⟨0, [], none, 0⟩, k⟩]) = seqD bs) := by
        show yOf (pre ++ [⟨⟨0, [], none, 0⟩, k⟩]) = seqD bs
        rw [yOf_app, ← HI.out.2, seqD_err hy0 hr]
        rfl
      clear hr hk hK
      gi_wp2_with (refine ⟨trivial, ?_⟩; gi_at_call 70; refine (callsIn_wide.2 HSP).mono ?_; intro e w2 hp; obtain ⟨hb2, he⟩ := hp.errx; subst he; clear hp; have hb3 : Below wr.heap.size wr (w2.alloc (.cells #[.int .u8 0, .slice none 0 0] 103)) := hb2.alloc hb2.size _; obtain ⟨fn, tmps, assign, body, hy, hR⟩ := HY.out pre ⟨⟨0, [], none, 0⟩, k⟩ wr _ HI.out.1 ⟨HN.out, by rw [HR.out]; exact List.prefix_refl _⟩ hb3 (ByV.nil _ _); change (Instr.yield l #[.agg #[.int .u8 0, .slice none 0 0], .int .i64 (k : Int)]).run _ _ = _ at hy; clear hb2 hb3 HSP)
      refine hR.mono ?_
      clear hR hy
      rintro e W3 (⟨rfl, hJ3⟩ | ⟨rfl, hJ3⟩)
      · gi_wp2
        refine bodyPost_ret (results_none rfl _ _ _) rfl ?_
        exact ⟨⟨_, rfl⟩, .inl ⟨_, HR.out, hJ3⟩⟩
      · gi_wp2
        refine bodyPost_ret (results_none rfl _ _ _) rfl ?_
        exact ⟨⟨_, rfl⟩, .inr ⟨_, by rw [HR.out]; exact List.prefix_refl _, hJ3⟩⟩
    | ok x =>
      obtain ⟨⟨t, b⟩, r⟩ := x
      rw [hr] at HSP
      have hlens := read_len hr
      obtain ⟨TN, hTN⟩ : ∃ T, t.toNat = T := ⟨_, rfl⟩
      obtain ⟨LB, hLB⟩ : ∃ T, b.length = T := ⟨_, rfl⟩
      obtain ⟨Lr, hLr⟩ : ∃ T, r.length = T := ⟨_, rfl⟩
      have hLr2 : Lr + 2 ≤ K := by rw [← hLr, ← hK]; exact hlens.1
      have hLB2 : LB ≤ K := by rw [← hLB, ← hK]; omega
      have HR : Hid (t.toNat = TN ∧ b.length = LB ∧ r.length = Lr ∧ ∀ (p' : Option Addr) (c' : Nat), yOf (pre ++ [⟨⟨t, b, p', c'⟩, 0⟩]) ++ seqD r = seqD bs) := ⟨hTN, hLB, hLr, fun p' c' => by rw [yOf_app, ← HI.out.2, seqD_ok hr]; simp [yOf]⟩
      clear hr hlens hK hy0
      gi_wp2_with (first
        | (refine ⟨trivial, ?_⟩; gi_at_call 70; refine (callsIn_wide.2 HSP).mono ?_; intro e w2 hp; obtain ⟨hb2, p1, c1, p2, c2, he, hv1, hv2⟩ := hp.okx; subst he; rw [hTN, hLB, hLr]; have HB2 : Hid (Below wr.heap.size wr w2 ∧ BAt w2 p1 LB b ∧ ByV w2 (B) p2 c2 r) := ⟨hb2, by rw [← hLB]; exact hv1.lies, hv2⟩; clear hp hb2 hv1 hv2 HSP)
        | (refine ⟨trivial, ?_⟩; gi_at_call 107; refine (callsIn_wide.2 (derCopied TN p1 LB c1 b (w2.alloc (.cells #[.int .u8 (TN : Int), .slice p1 LB c1] 103)) hLB (HB2.out.2.1.below ((Below.refl _ _).alloc (Nat.le_refl _) _)) (by omega))).mono ?_; rintro e w4 ⟨hb4, p', c', rfl, hv4⟩; have hb5 : Below wr.heap.size wr w4 := HB2.out.1.trans ((((Below.refl _ w2).alloc (Nat.le_refl _) _).trans (hb4.mono (alloc_le _ _))).mono HB2.out.1.size); obtain ⟨fn, tmps, assign, body, hy, hR⟩ := HY.out pre ⟨⟨t, b, p', c'⟩, 0⟩ wr w4 HI.out.1 ⟨HN.out, by rw [← HR.out.2.2.2 p' c']; exact List.prefix_append _ _⟩ hb5 (hv4.mono (fun k hk _ => Nat.le_trans HB2.out.1.size (Nat.le_trans (alloc_le _ _) hk))); change (Instr.yield l #[.agg #[.int .u8 (t.toNat : Int), .slice p' b.length c'], .int .i64 0]).run _ _ = _ at hy; rw [hTN, hLB] at hy; have HB4 : Hid (Below wr.heap.size wr w4) := hb5; clear hb4 hv4 hb5))
      refine hR.mono ?_
      clear hR hy
      rintro e W3 (⟨rfl, hJ3⟩ | ⟨rfl, hJ3⟩)
      · gi_wp2
        go_roundw
        case rel =>
          refine ⟨_, r, Lr, p2, c2, rfl, HR.out.2.2.1, by omega, ?_, hJ3, HR.out.2.2.2 p' c'⟩
          have hbr := HB2.out.1
          refine HB2.out.2.2.keep (fun g hg hlt => ?_)
          have hwr : g < wr.heap.size := by
            have h1 := H.out.1 pre wr HI.out.1 g hg
            obtain ⟨ob, h2⟩ : ∃ ob, W.heap[g]? = some ob := ⟨_, Array.getElem?_eq_getElem (hBW g hg)⟩
            rw [h2] at h1
            exact (Array.getElem?_eq_some_iff.1 h1).1
          exact (H.out.1 _ _ hJ3 g hg).trans ((H.out.1 pre wr HI.out.1 g hg).symm.trans (hbr.block g hwr).symm)
        case measure => simp only [lenOfS]; omega
      · gi_wp2
        refine bodyPost_ret (results_none rfl _ _ _) rfl ?_
        exact ⟨⟨_, rfl⟩, .inr ⟨_, by rw [← HR.out.2.2.2 p' c']; exact List.prefix_append _ _, hJ3⟩⟩
end Go.Proofs.Yticopomchoahnaa
/-
  The code's All and List.
-/
namespace Go.Proofs.Yticopomchoahnaa
open Go.Shelf Go.RowKit
set_option linter.unusedVariables false
set_option linter.unusedSimpArgs false
attribute [local go_sem] Oper.semAt_some

/-- A cell of the call's own, with what it holds. -/
def Kx (W : World) (b : Nat) (v : Value) : Prop := W.cell? ⟨b, 0, none⟩ = some v ∧ W.frozen? ⟨b, 0, none⟩ = false
theorem kx_new (W : World) (v : Value) (t : TypeId) : Kx (W.alloc (.cells #[v] t)) W.heap.size v := ⟨by simp, by simp⟩
theorem kx_block {W W' : World} {b : Nat} {v : Value} (h : Kx W b v) (hb : W'.heap[b]? = W.heap[b]?) : Kx W' b v := ⟨(World.cell?_of_block (w := W) hb).trans h.1, (World.frozen?_of_block (w := W) hb).trans h.2⟩
theorem kx_lt {W : World} {b : Nat} {v : Value} (h : Kx W b v) : b < W.heap.size := World.block_lt_of_cell? W _ h.1
theorem kx_below {W W' : World} {b : Nat} {v : Value} (h : Kx W b v) (hb : Below W.heap.size W W') : Kx W' b v := kx_block h (hb.block b (kx_lt h))
theorem kx_put {W : World} {b : Nat} {v : Value} (h : Kx W b v) {r : Nat} {o : Obj} (o' : Obj) (hr : W.heap[r]? = some o) (ho : o.isCells = false) : Kx (W.putObj r o') b v :=
  ⟨cell_kept h.1 (grownBy_putObj' W r o') (fun k e => by cases e; exact ⟨o, hr, ho⟩), (frozen_kept h.1 (grownBy_putObj' W r o') (fun k e => by cases e; exact ⟨o, hr, ho⟩)).trans h.2⟩
theorem kx_set {W : World} {b : Nat} {v : Value} (h : Kx W b v) (u : Value) : Kx (W.setCell ⟨b, 0, none⟩ u) b u := ⟨World.cell?_setCell_same _ _ _ h.1, by rw [World.frozen?_setCell]; exact h.2⟩
theorem kx_other {W : World} {b c : Nat} {v : Value} (h : Kx W b v) (hne : c ≠ b) (u : Value) : Kx (W.setCell ⟨c, 0, none⟩ u) b v := kx_block h (Below.heap_setCell _ _ _ _ (fun e => hne e.symm))
theorem ByV.put {W : World} {P : Nat → Prop} {p : Option Addr} {c : Nat} {l : Bs} (h : ByV W P p c l) {r : Nat} {o : Obj} (o' : Obj) (hr : W.heap[r]? = some o) (ho : o.isCells = false) : ByV (W.putObj r o') P p c l :=
  ⟨h.cap, h.big, fun h0 => by
    obtain ⟨b, f, e, hc⟩ := h.lies h0
    exact ⟨b, f, e, fun i hi => cell_kept (hc i hi) (grownBy_putObj' W r o') (fun k e => by cases e; exact ⟨o, hr, ho⟩)⟩, h.ok⟩
theorem owns_put {W : World} {base : Nat} {e : TypeId} {s : Nat} {v : Value} {n : Nat} {xs : List Value} (h : W.ownsRow base e s v n xs) {r : Nat} {o : Obj} (o' : Obj) (hr : W.heap[r]? = some o) (ho : o.isCells = false) : (W.putObj r o').ownsRow base e s v n xs :=
  owns_keep h (fun g hg => by
    have hne : g ≠ r := by
      rintro rfl
      obtain ⟨_, _, cur, hc⟩ := owns_lt h hg
      rw [hc] at hr
      cases hr
      cases ho
    exact (grownBy_putObj' W r o').block g (owns_lt h hg).2.1 (fun e => hne (by injection e)))
theorem seqD_take (bs : Bs) : seqD (bs.take 4097) = seqD bs := by
  by_cases h : bs.length ≤ 4097
  · rw [List.take_of_length_le h]
  have h1 : readD bs = .error 3 := by unfold readD; rw [if_pos (by omega)]
  have h2 : readD (bs.take 4097) = .error 3 := by unfold readD; rw [if_pos (by rw [List.length_take]; omega)]
  rw [seqD_err (by intro e; rw [e] at h; simp at h) h1, seqD_err (by intro e; have := congrArg List.length e; rw [List.length_take] at this; simp at this; rw [this] at h; simp at h) h2]
set_option maxRecDepth 100000 in
set_option maxHeartbeats 2000000 in
/-- All. -/
theorem all_any (p : Option Addr) (n c : Nat) (bs : Bs) (P : Nat → Prop) (w : World) (hn : bs.length = n) (h : ByV w P p c bs) :
    Calls Try.prog 85 #[.slice p n c] w fun e w' => Below w.heap.size w w' ∧ ∃ g p' L c' bs', e = .returned (.func (.func 106) #[] #[.pointer (some ⟨g, 0, none⟩)]) ∧ w'.cell? ⟨g, 0, none⟩ = some (.slice p' L c') ∧ w.heap.size ≤ g ∧ bs'.length = L ∧ L ≤ 4097 ∧ ByV w' (fun b => w.heap.size ≤ b) p' c' bs' ∧ seqD bs' = seqD bs := by
  have hmf : ∀ (fn : Fn) (first cap : Array Value) (w : World), (Instr.makeFunc fn first cap).run Try.prog w = .ok (.func fn first cap) w := fun _ _ _ _ => rfl
  have hcap := h.cap
  have hbig := h.big
  rw [hn] at hcap
  obtain ⟨m, hm⟩ : ∃ m, min n 4097 = m := ⟨_, rfl⟩
  have hmI : min (n : Int) 4097 = (m : Int) := by omega
  have hm1 : m ≤ n := by omega
  have hm2 : m ≤ 4097 := by omega
  have hmc : (m : Int) ≤ (c : Int) := by omega
  have hnI : (n : Int) ≤ 9223372036854775807 := by omega
  have hcI : (c : Int) ≤ 9223372036854775807 := by omega
  have hlen : (bs.take 4097).length = m := by rw [List.length_take, hn]; omega
  have hv : BAt w p m (bs.take 4097) := by
    have h1 := (h.take m (by omega)).lies
    have h2 : bs.take m = bs.take 4097 := by
      rw [List.take_eq_take_iff]
      omega
    rw [h2, hlen] at h1
    exact h1
  have HC := clone_any p m c (bs.take 4097) w hlen hv (by omega)
  have HH : Hid ((bs.take 4097).length = m ∧ m ≤ 4097) := ⟨hlen, hm2⟩
  clear hm hlen hv h hn
  go_enter Try.func85, Try.ntmps85
  go_wp2_with (go_at_call 105; refine HC.mono ?_; rintro e w1 ⟨hb1, p', c', rfl, hv1⟩)
  go_ret
  refine ⟨hb1.alloc hb1.size _, _, p', m, c', bs.take 4097, rfl, (kx_new _ _ _).1, hb1.size, HH.out.1, HH.out.2, hv1.keep (fun k _ hk => ((Below.refl w1.heap.size w1).alloc (Nat.le_refl _) _).block k hk), seqD_take bs⟩
/-- A piece appended, within a fence. -/
theorem wpListIn_append_pc {F : Fence} {nF : Nat} {w : World} {ops : Array Oper} {rest : List Oper} {o : Oper} {a : Act} {Q : Exit → Act → World → Prop} (hgd : o.guard = none) (s x : Operand)
    (ho : o.op = .call { callee := .builtin .append, args := #[s, x], argTypes := #[97, 97] }) (base : Nat) (v : Value) (hs : a.eval s = v) (old : List Pc) (m : Nat) (hown : w.ownsRow base 103 2 v m (cellsP old)) (ad : Addr) (c : Nat) (y : Pc) (hx : a.eval x = .slice (some ad) 1 c) (h0 : w.cell? (ad.add 0) = some (.int .u8 (y.t.toNat : Int))) (h1 : w.cell? (ad.add 1) = some (.slice y.p y.b.length y.c)) (hlen : m + 1 ≤ 1000000) (hbase : base ≤ w.heap.size)
    (h : ∀ v' w', w'.ownsRow base 103 2 v' (m + 1) (cellsP (old ++ [y])) → w.grownBy w' v.ownBlock → (v'.ownBlock = v.ownBlock ∨ v'.ownBlock = some w.heap.size) → wpListIn F nF Try.prog ops Q rest (a.put o.dst v') w') : wpListIn F nF Try.prog ops Q (o :: rest) a w := by
  obtain ⟨z, hz, hzs⟩ := infoTlv
  obtain ⟨i0, hi0, hz0, hz1, hz2⟩ := info_parts hz
  refine wpListIn_append_own_at (w := w) hgd s x _ ho base 103 i0 z 2 32 Try.underlying97 hi0 hz0 hz1 hz2 hzs (by decide) v m (cellsP old) hs hown ad 1 c (cellsP [y]) hx rfl ?_ (by intro u hu; simp [cellsP, Pc.cells] at hu; rcases hu with rfl | rfl <;> rfl) (by unfold maxLen; omega) (by omega) hbase ?_
  · intro j u hj
    match j with
    | 0 => simp [cellsP, Pc.cells] at hj; subst hj; exact h0
    | 1 => simp [cellsP, Pc.cells] at hj; subst hj; exact h1
    | j + 2 => simp [cellsP, Pc.cells] at hj
  · intro v' w' hown' hgr _ hat
    rw [cellsP_app] at hown'
    exact h v' w' hown' hgr hat
/-- Between two rounds of List. -/
structure LIv (w w6 : World) (pre : List Ye) (v : Value) (W : World) : Prop where
  r0 : Kx W w.heap.size (.slice none 0 0)
  r1 : Kx W (w.heap.size + 1) (.int .i64 0)
  r2 : Kx W (w.heap.size + 1 + 1) v
  own : W.ownsRow w6.heap.size 103 2 v pre.length (cellsP (pre.map Ye.pc))
  at_ : ∀ y ∈ pre, y.k = 0 ∧ ByV W (fun b => w6.heap.size ≤ b ∧ v.ownBlock ≠ some b) y.pc.p y.pc.c y.pc.b
  low : Below w.heap.size w W
  sz : w6.heap.size ≤ W.heap.size
  mid : ∀ k, w.heap.size + 1 + 1 + 1 ≤ k → k < w6.heap.size → W.heap[k]? = w6.heap[k]?
theorem LIv.below {w w6 : World} {pre : List Ye} {v : Value} {W W' : World} (h : LIv w w6 pre v W) (hb : Below W.heap.size W W') : LIv w w6 pre v W' :=
  ⟨kx_below h.r0 hb, kx_below h.r1 hb, kx_below h.r2 hb, owns_keep h.own (fun g hg => hb.block g (owns_lt h.own hg).2.1), fun y hy => ⟨(h.at_ y hy).1, (h.at_ y hy).2.keep (fun g _ hlt => hb.block g hlt)⟩, h.low.trans (hb.mono h.low.size), Nat.le_trans h.sz hb.size, fun k h1 h2 => (hb.block k (Nat.lt_of_lt_of_le h2 h.sz)).trans (h.mid k h1 h2)⟩
theorem LIv.put {w w6 : World} {pre : List Ye} {v : Value} {W : World} (h : LIv w w6 pre v W) {r : Nat} {o : Obj} (o' : Obj) (h6 : w.heap.size ≤ w6.heap.size) (hr6 : w6.heap.size ≤ r) (hr : W.heap[r]? = some o) (ho : o.isCells = false) : LIv w w6 pre v (W.putObj r o') :=
  ⟨kx_put h.r0 o' hr ho, kx_put h.r1 o' hr ho, kx_put h.r2 o' hr ho, owns_put h.own o' hr ho, fun y hy => ⟨(h.at_ y hy).1, (h.at_ y hy).2.put o' hr ho⟩,
    h.low.trans ⟨rfl, rfl, rfl, (grownBy_putObj' W r o').size, fun k hk => (grownBy_putObj' W r o').block k (by have := h.low.size; omega) (fun e => by injection e with e; omega)⟩, Nat.le_trans h.sz (grownBy_putObj' W r o').size, fun k h1 h2 => ((grownBy_putObj' W r o').block k (by have := h.sz; omega) (fun e => by injection e with e; omega)).trans (h.mid k h1 h2)⟩
theorem LIv.app {w w6 : World} {pre : List Ye} {v : Value} {W2 W3 : World} (h : LIv w w6 pre v W2) (o : Obj) (gr : (W2.alloc o).grownBy W3 v.ownBlock) {v3 : Value} {y : Ye} (o3 : W3.ownsRow w6.heap.size 103 2 v3 (pre.length + 1) (cellsP (pre.map Ye.pc ++ [y.pc]))) (hk : y.k = 0) (hy : ByV W2 (fun b => w6.heap.size ≤ b ∧ v.ownBlock ≠ some b) y.pc.p y.pc.c y.pc.b) (hv3 : v3.ownBlock = v.ownBlock ∨ v3.ownBlock = some (W2.alloc o).heap.size) (h6 : w.heap.size + 1 + 1 + 1 ≤ w6.heap.size) : LIv w w6 (pre ++ [y]) v3 (W3.setCell ⟨w.heap.size + 1 + 1, 0, none⟩ v3) := by
  have hsz := h.sz
  have haz := alloc_sz W2 o
  have low : ∀ k, k < W2.heap.size → v.ownBlock ≠ some k → W3.heap[k]? = W2.heap[k]? := fun k hk hne => (gr.block k (by omega) (fun e => hne e.symm)).trans (Below.heap_alloc _ _ _ hk)
  have hob : ∀ k, k < w6.heap.size → v.ownBlock ≠ some k := fun k hk e => by have := (owns_lt h.own e).1; omega
  have hgz := gr.size
  have st : ∀ k, k ≠ w.heap.size + 1 + 1 → (W3.setCell ⟨w.heap.size + 1 + 1, 0, none⟩ v3).heap[k]? = W3.heap[k]? := fun k hk => Below.heap_setCell _ _ _ _ hk
  have kz : ∀ u : Ye, ByV W2 (fun b => w6.heap.size ≤ b ∧ v.ownBlock ≠ some b) u.pc.p u.pc.c u.pc.b → ByV (W3.setCell ⟨w.heap.size + 1 + 1, 0, none⟩ v3) (fun b => w6.heap.size ≤ b ∧ v3.ownBlock ≠ some b) u.pc.p u.pc.c u.pc.b := fun u hu => by
    have h1 : ByV W2 (fun b => (w6.heap.size ≤ b ∧ v.ownBlock ≠ some b) ∧ b < W2.heap.size) u.pc.p u.pc.c u.pc.b := hu.mono (fun g hg hlt => ⟨hg, hlt⟩)
    refine (h1.keep (fun g hg hlt => (st g (by omega)).trans (low g hlt hg.1.2))).mono (fun g hg _ => ⟨hg.1.1, fun e => ?_⟩)
    rcases hv3 with e3 | e3
    · exact hg.1.2 (e3 ▸ e)
    · rw [e3] at e
      injection e with e
      omega
  refine ⟨kx_other (kx_block h.r0 (low _ (kx_lt h.r0) (hob _ (by omega)))) (by omega) _, kx_other (kx_block h.r1 (low _ (kx_lt h.r1) (hob _ (by omega)))) (by omega) _, kx_set (kx_block h.r2 (low _ (kx_lt h.r2) (hob _ (by omega)))) _, ?_, ?_, ?_, ?_, ?_⟩
  · rw [List.length_append, List.map_append]
    exact owns_keep o3 (fun g hg => st g (by have := (owns_lt o3 hg).1; omega))
  · intro u hu
    rcases List.mem_append.1 hu with hu | hu
    · exact ⟨(h.at_ u hu).1, kz u (h.at_ u hu).2⟩
    · simp at hu
      subst hu
      exact ⟨hk, kz u hy⟩
  · have hl := h.low.size
    exact h.low.trans ⟨gr.os, gr.tape, gr.output, by show _ ≤ (W3.heap.modify _ _).size; rw [Array.size_modify]; omega, fun k hk => (st k (by omega)).trans (low k (by omega) (hob k (by omega)))⟩
  · show _ ≤ (W3.heap.modify _ _).size
    rw [Array.size_modify]
    omega
  · intro k h1 h2
    exact (st k (by omega)).trans ((low k (by omega) (hob k h2)).trans (h.mid k h1 h2))
end Go.Proofs.Yticopomchoahnaa
