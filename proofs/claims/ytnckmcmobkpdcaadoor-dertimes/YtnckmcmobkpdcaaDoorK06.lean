import Derived.Test.YtnckmcmobkpdcaaDoorK05
import Derived.Test.YtnckmcmobkpdcaaDoorK03
import Derived.Test.YtnckmcmobkpdcaaDoorK02
import Derived.Lib.LaidU8
import Derived.RangeFuncNested
import Derived.RangeFuncBound
import Derived.RangeFuncCalls
import Derived.RangeFuncLeaves
import Derived.Shelf.Abstract
import Derived.Shelf.RegionOpen
import Derived.OwnWalkIn
import Derived.TacticsInMore
import Derived.LoopNIn
import Derived.LoopIn
import Derived.Stop.RegionWithIn
import Derived.Deep.RegionHeld3
/-
  The code's Int.
-/
namespace Go.Proofs.YtnckmcmobkpdcaaDoor
open Go.Shelf Go.RowKit
set_option linter.unusedVariables false
set_option linter.unusedSimpArgs false

/-- Bytes as numbers. -/
def intsB (l : Bs) : List Int := l.map fun b => (b.toNat : Int)
theorem intsB_len (l : Bs) : (intsB l).length = l.length := by simp [intsB]
theorem intsB_dg (l : Bs) : Dg 256 (intsB l) := by
  intro x hx
  simp only [intsB, List.mem_map] at hx
  obtain ⟨b, _, rfl⟩ := hx
  have := b.toNat_lt
  omega
theorem intsB_get (l : Bs) (i : Nat) (hi : i < l.length) : (intsB l).getD i 0 = ((l.getD i 0).toNat : Int) := by simp [intsB, List.getD, hi]
/-- Bytes that are there, as a number's digits. -/
theorem numIn_bat {w : World} {p : Option Addr} {n c : Nat} {l : Bs} (h : BAt w p n l) (hl : l.length = n) (h0 : 0 < n) (hc : n ≤ c) (hc2 : c ≤ 9223372036854775807) (hn : n ≤ 1000000) : NumIn .u8 256 w p n c (intsB l) := by
  obtain ⟨b, o, rfl, hcl⟩ := h h0
  refine ⟨⟨(by rw [intsB_len, hl]), .inr ⟨b, o, rfl, ?_, fun i hi => (by rw [hcl i hi, intsB_get l i (by omega)])⟩⟩, hc, (by unfold maxLen; omega), (fun e => by cases e), intsB_dg l, (by omega)⟩
  exact World.block_lt_of_cell? w ⟨b, o + 0, none⟩ (hcl 0 h0)
/-- A number's digits as they stand. -/
def intL : Bs → Option Bs
  | [] => none
  | a :: xs => if 128 ≤ a.toNat then none else if a.toNat = 0 ∧ 0 < xs.length then (if (xs.getD 0 0).toNat < 128 then none else some xs) else some (a :: xs)
theorem intL_cons (a : UInt8) (xs : Bs) : intL (a :: xs) = if 128 ≤ a.toNat then none else if a.toNat = 0 ∧ 0 < xs.length then (if (xs.getD 0 0).toNat < 128 then none else some xs) else some (a :: xs) := rfl
/-- What Int answers. -/
def IntPost (w : World) (t : Nat) (b : Bs) (e : Ending) (w' : World) : Prop :=
  Below w.heap.size w w' ∧ (((t ≠ 2 ∨ intL b = none) ∧ e = .returned (.tuple #[.slice none 0 0, .int .i64 30])) ∨
    ∃ l, t = 2 ∧ intL b = some l ∧ ((512 < l.length ∧ e = .returned (.tuple #[.slice none 0 0, .int .i64 3])) ∨ (l.length ≤ 512 ∧ ∃ v, e = .returned (.tuple #[v, .int .i64 0]) ∧ NumOut .u64 B64 w w' v (val 256 (intsB l).reverse) 64)))
theorem NumOut.later {w w1 w' : World} {v : Value} {n : Int} {L : Nat} (hb : Below w.heap.size w w1) (h : NumOut .u64 B64 w1 w' v n L) : NumOut .u64 B64 w w' v n L := by
  obtain ⟨ao, len, cap, xs, e, h1, h2, h3, h4, h5⟩ := h
  exact ⟨ao, len, cap, xs, e, h1, h2, h3, h4, hb.trans (h5.mono hb.size)⟩
set_option maxRecDepth 100000 in
set_option maxHeartbeats 4000000 in
/-- Int. -/
theorem derInt (t : Nat) (ht : t < 256) (p : Option Addr) (n c : Nat) (l : Bs) (P : Nat → Prop) (w : World) (hl : l.length = n) (h : ByV w P p c l) (hn : n ≤ 1000000) :
    Calls Tryd.prog 14 #[.agg #[.int .u8 (t : Int), .slice p n c]] w (IntPost w t l) := by
  have hcap := h.cap
  have hbig := h.big
  rw [hl] at hcap
  obtain ⟨W1, hW1⟩ : ∃ W1, w.alloc (.cells #[.int .u8 (t : Int), .slice p n c] 24) = W1 := ⟨_, rfl⟩
  have b1 : Below w.heap.size w W1 := by rw [← hW1]; exact (Below.refl _ _).alloc (Nat.le_refl _) _
  have s1 : Tl W1 w.heap.size (.int .u8 (t : Int)) (.slice p n c) := by rw [← hW1]; exact Tl.new w _ _
  obtain ⟨g0, g1, g2, g3⟩ := s1.facts
  have HB : Hid (Below w.heap.size w W1) := b1
  have HBAD : Hid (t ≠ 2 ∨ intL l = none → IntPost w t l (.returned (.tuple #[.slice none 0 0, .int .i64 30])) W1) := fun hh => ⟨b1, .inl ⟨hh, rfl⟩⟩
  have HRD : Hid (∀ (q : Option Addr) (m d : Nat) (l' : Bs), t = 2 → intL l = some l' → l'.length = m → 0 < m → m ≤ d → d ≤ 9223372036854775807 → m ≤ 1000000 → BAt W1 q m l' → Calls Tryd.prog 27 #[.slice q m d] W1 fun e w' => ∃ v k, e = .returned (.tuple #[v, k]) ∧ IntPost w t l e w') := by
    intro q m d l' h2 hi hm h0 hd hd2 hm2 hb
    by_cases hbg : 512 < m
    · refine (Read_no q m d W1 hbg (by unfold maxLen; omega)).mono ?_
      rintro e w' ⟨rfl, rfl⟩
      exact ⟨_, _, rfl, b1, .inr ⟨l', h2, hi, .inl ⟨by omega, rfl⟩⟩⟩
    · refine (Read_yes q m d (intsB l') W1 (numIn_bat hb hm h0 hd hd2 hm2) (by omega)).mono ?_
      rintro e w' ⟨v, rfl, hv⟩
      have hv' := hv.later b1
      exact ⟨_, _, rfl, by obtain ⟨_, _, _, _, _, _, _, _, _, h5⟩ := hv'; exact h5, .inr ⟨l', h2, hi, .inr ⟨by omega, v, rfl, hv'⟩⟩⟩
  clear b1 s1
  by_cases q2 : t = 2
  rotate_left
  · have e2 : ((t : Int) == 2) = false := by simp; omega
    have e3 : ((t : Int) != 2) = true := by simp; omega
    go_enter Tryd.func14, Tryd.ntmps14
    go_wp2_with fail
    go_ret2
    exact HBAD.out (.inl q2)
  have e2 : ((t : Int) == 2) = true := by simp; omega
  have e3 : ((t : Int) != 2) = false := by simp; omega
  have HT2 : Hid (t = 2) := q2
  clear q2
  cases l with
  | nil =>
    simp at hl
    subst hl
    go_enter Tryd.func14, Tryd.ntmps14
    go_wp2_with fail
    go_ret2
    exact HBAD.out (.inr rfl)
  | cons a xs =>
    obtain ⟨b, o, rfl, hcl⟩ := h.lies (by simp)
    have HCL : Hid (∀ i, i < (a :: xs).length → W1.cell? ⟨b, o + i, none⟩ = some (.int .u8 (((a :: xs).getD i 0).toNat : Int))) := fun i hi => (HB.out.cell (p := ⟨b, o + i, none⟩) (World.block_lt_of_cell? w _ (hcl i hi))).trans (hcl i hi)
    have c0 : W1.cell? ⟨b, o, none⟩ = some (.int .u8 (a.toNat : Int)) := by simpa using HCL.out 0 (by simp)
    have ha := a.toNat_lt
    have hn0 : 0 < n := by simp at hl; omega
    have hz : ((n : Int) == 0) = false := by simp; omega
    have hnI : (0 : Int) < (n : Int) := by omega
    have hcI : (n : Int) ≤ (c : Int) := by omega
    obtain ⟨A, hA⟩ : ∃ A, a.toNat = A := ⟨_, rfl⟩
    have HL : Hid ((a :: xs).length = n ∧ a.toNat = A ∧ xs.length = n - 1) := ⟨hl, hA, by simp at hl; omega⟩
    rw [hA] at c0 ha
    clear hl hcl h hA
    by_cases q3 : 128 ≤ A
    · have q3I : (128 : Int) ≤ (A : Int) := by omega
      go_enter Tryd.func14, Tryd.ntmps14
      go_wp2_with fail
      go_ret2
      exact HBAD.out (.inr (by rw [intL_cons, if_pos (by rw [HL.out.2.1]; exact q3)]))
    have q3I : ¬ (128 : Int) ≤ (A : Int) := by omega
    have HWH : Hid (BAt W1 (some ⟨b, o, none⟩) n (a :: xs)) := fun _ => ⟨b, o, rfl, fun i hi => HCL.out i (by rw [HL.out.1]; exact hi)⟩
    by_cases q4 : A = 0
    · subst q4
      by_cases q5 : 1 < n
      · have q5I : (1 : Int) < (n : Int) := by omega
        have q6I : (1 : Int) ≤ (n : Int) := by omega
        have q7I : (1 : Int) ≤ (c : Int) := by omega
        have hc1 : ¬ c = 1 := by omega
        have hn1 : (0 : Int) < (n : Int) - 1 := by omega
        have c1 : W1.cell? ⟨b, o + 1, none⟩ = some (.int .u8 ((xs.getD 0 0).toNat : Int)) := by simpa using HCL.out 1 (by rw [HL.out.1]; omega)
        obtain ⟨X, hX⟩ : ∃ X, (xs.getD 0 0).toNat = X := ⟨_, rfl⟩
        have hx := (xs.getD 0 0).toNat_lt
        rw [hX] at c1 hx
        have HX : Hid ((xs.getD 0 0).toNat = X) := hX
        clear hX
        by_cases q8 : X < 128
        · have q8I : (X : Int) < 128 := by omega
          go_enter Tryd.func14, Tryd.ntmps14
          go_wp2_with fail
          go_ret2
          exact HBAD.out (.inr (by rw [intL_cons, if_neg (by rw [HL.out.2.1]; omega), if_pos ⟨HL.out.2.1, by rw [HL.out.2.2]; omega⟩, if_pos (by rw [HX.out]; exact q8)]))
        · have q8I : ¬ (X : Int) < 128 := by omega
          have HR := HRD.out (some ⟨b, o + 1, none⟩) (n - 1) (c - 1) xs HT2.out (by rw [intL_cons, if_neg (by rw [HL.out.2.1]; omega), if_pos ⟨HL.out.2.1, by rw [HL.out.2.2]; omega⟩, if_neg (by rw [HX.out]; exact q8)]) HL.out.2.2 (by omega) (by omega) (by omega) (by omega) (fun _ => ⟨b, o + 1, rfl, fun i hi => by have := HCL.out (i + 1) (by rw [HL.out.1]; omega); rw [show o + 1 + i = o + (i + 1) by omega]; simpa using this⟩)
          go_enter Tryd.func14, Tryd.ntmps14
          go_wp2_with (go_at_call 27; refine HR.mono ?_; rintro e w' ⟨v, k, rfl, hp⟩; have HP : Hid (IntPost w t (a :: xs) (.returned (.tuple #[v, k])) w') := hp; clear hp)
          go_ret2
          exact HP.out
      · have q5I : ¬ (1 : Int) < (n : Int) := by omega
        have HR := HRD.out (some ⟨b, o, none⟩) n c (a :: xs) HT2.out (by rw [intL_cons, if_neg (by rw [HL.out.2.1]; omega), if_neg (by rw [HL.out.2.2]; omega)]) HL.out.1 (by omega) (by omega) (by omega) (by omega) HWH.out
        go_enter Tryd.func14, Tryd.ntmps14
        go_wp2_with (go_at_call 27; refine HR.mono ?_; rintro e w' ⟨v, k, rfl, hp⟩; have HP : Hid (IntPost w t (a :: xs) (.returned (.tuple #[v, k])) w') := hp; clear hp)
        go_ret2
        exact HP.out
    have q4I : ((A : Int) == 0) = false := by simp; omega
    have HR := HRD.out (some ⟨b, o, none⟩) n c (a :: xs) HT2.out (by rw [intL_cons, if_neg (by rw [HL.out.2.1]; omega), if_neg (by rw [HL.out.2.1]; omega)]) HL.out.1 (by omega) (by omega) (by omega) (by omega) HWH.out
    go_enter Tryd.func14, Tryd.ntmps14
    go_wp2_with (go_at_call 27; refine HR.mono ?_; rintro e w' ⟨v, k, rfl, hp⟩; have HP : Hid (IntPost w t (a :: xs) (.returned (.tuple #[v, k])) w') := hp; clear hp)
    go_ret2
    exact HP.out
end Go.Proofs.YtnckmcmobkpdcaaDoor
/-
  The code's splitRow.
-/
namespace Go.Proofs.YtnckmcmobkpdcaaDoor
open Go.Shelf Go.RowKit
set_option linter.unusedVariables false
set_option linter.unusedSimpArgs false

/-- A row's number, and what is left. -/
def rowGo : Nat → Bool → Bs → Option (Nat × Bs)
  | _, _, [] => none
  | n, first, c :: xs => if (first = true ∧ c.toNat = 128) ∨ 72057594037927935 < n then none else if c.toNat < 128 then some (n * 128 + c.toNat % 128, xs) else rowGo (n * 128 + c.toNat % 128) false xs
def rowD (bs : Bs) : Option (Nat × Bs) := rowGo 0 true bs
theorem rowGo_cons (n : Nat) (f : Bool) (c : UInt8) (xs : Bs) : rowGo n f (c :: xs) = if (f = true ∧ c.toNat = 128) ∨ 72057594037927935 < n then none else if c.toNat < 128 then some (n * 128 + c.toNat % 128, xs) else rowGo (n * 128 + c.toNat % 128) false xs := rfl
theorem rowGo_len : ∀ (bs : Bs) (n : Nat) (f : Bool) (m : Nat) (r : Bs), rowGo n f bs = some (m, r) → r.length < bs.length ∧ m < 9223372036854775808
  | [], n, f, m, r, h => by cases h
  | c :: xs, n, f, m, r, h => by
    rw [rowGo_cons] at h
    split at h
    · cases h
    · split at h
      · cases h
        refine ⟨by simp, ?_⟩
        have := c.toNat_lt
        omega
      · have := rowGo_len xs _ _ _ _ h
        exact ⟨by simp; omega, this.2⟩
theorem u64_or7 (x y : Nat) (hx : x < 72057594037927936) (hy : y < 128) : bits .or .u64 ((x : Int) * 128) (y : Int) = ((x * 128 + y : Nat) : Int) := by
  have h2 : 128 * x ||| y = 128 * x + y := by
    have := Nat.two_pow_add_eq_or_of_lt (i := 7) (b := y) (by omega) x
    rw [show (2 : Nat) ^ 7 = 128 by rfl] at this
    exact this.symm
  have e : (x : Int) * 128 = ((128 * x : Nat) : Int) := by omega
  rw [e]
  show IntKind.u64.wrap ((BitVec.ofInt 64 ((128 * x : Nat) : Int) ||| BitVec.ofInt 64 (y : Int)).toNat : Int) = _
  rw [BitVec.toNat_or, ofInt_u64 (128 * x) (by omega), ofInt_u64 y (by omega), h2, Nat.mul_comm 128 x]
  clear h2 e
  have h3 : x * 128 + y < 18446744073709551616 := by omega
  generalize x * 128 + y = z at h3 ⊢
  simp [IntKind.wrap, IntKind.signed, IntKind.bits]
  omega
theorem u8_low7 : ∀ y : Nat, y < 256 → bits .andNot .u8 (y : Int) 128 = ((y % 128 : Nat) : Int) := by decide +kernel
/-- What splitRow answers. -/
def RwPost (w : World) (P : Nat → Prop) (R : Option (Nat × Bs)) (e : Ending) (w' : World) : Prop :=
  Below w.heap.size w w' ∧ ((∃ m r p c, R = some (m, r) ∧ m < 9223372036854775808 ∧ e = .returned (.tuple #[.int .u64 (m : Int), .slice p r.length c, .bool true]) ∧ ByV w' P p c r) ∨ (R = none ∧ e = .returned (.tuple #[.int .u64 0, .slice none 0 0, .bool false])))
set_option maxRecDepth 100000 in
set_option maxHeartbeats 4000000 in
/-- splitRow. -/
theorem splitRow_any (p : Option Addr) (n c : Nat) (bs : Bs) (P : Nat → Prop) (w : World) (hl : bs.length = n) (h : ByV w P p c bs) :
    Calls Tryd.prog 15 #[.slice p n c] w (RwPost w P (rowD bs)) := by
  have hcap := h.cap
  have hbig := h.big
  rw [hl] at hcap
  obtain ⟨R, hR⟩ : ∃ R, rowD bs = R := ⟨_, rfl⟩
  rw [hR]
  have HNO : Hid (R = none → RwPost w P R (.returned (.tuple #[.int .u64 0, .slice none 0 0, .bool false])) w) := fun hh => ⟨Below.refl _ _, .inr ⟨hh, rfl⟩⟩
  have HV : Hid (ByV w P p c bs ∧ bs.length = n ∧ rowGo 0 true bs = R) := ⟨h, hl, hR⟩
  clear h hl hR
  go_enter Tryd.func15, Tryd.ntmps15
  go_wp2_with fail
  go_loopw [5, 10] (fun v5 v10 wr => ∃ j N : Nat, j ≤ n ∧ v10 = .int .i64 (j : Int) ∧ v5 = .int .u64 (N : Int) ∧ N < 9223372036854775808 ∧ rowGo N (decide (j = 0)) (bs.drop j) = R ∧ wr = w) (fun _ v10 _ => n - (intOf v10).toNat)
  case atStart => exact ⟨0, 0, by omega, rfl, rfl, by omega, by simpa using HV.out.2.2, rfl⟩
  case round =>
    obtain ⟨j, N, hj, rfl, rfl, hN, hRj, rfl⟩ := hrel
    have HR : Hid (rowGo N (decide (j = 0)) (bs.drop j) = R) := hRj
    clear hRj
    rcases Nat.lt_or_eq_of_le hj with hj | rfl
    rotate_left
    · go_wp2_with fail
      go_ret3
      exact HNO.out (by rw [← HR.out, List.drop_of_length_le (by rw [HV.out.2.1]; exact Nat.le_refl _)]; rfl)
    obtain ⟨b, o, rfl, hcl⟩ := HV.out.1.lies (by rw [HV.out.2.1]; omega)
    have hjI : (j : Int) < (n : Int) := by omega
    have hj0 : (0 : Int) ≤ (j : Int) := by omega
    have c0 := hcl j (by rw [HV.out.2.1]; omega)
    obtain ⟨y, hy⟩ : ∃ y, bs.getD j 0 = y := ⟨_, rfl⟩
    have hyl := y.toNat_lt
    have hdr : bs.drop j = y :: bs.drop (j + 1) := by
      have hjl : j < bs.length := by rw [HV.out.2.1]; omega
      rw [List.drop_eq_getElem_cons hjl]
      congr 1
      rw [← hy]
      simp [List.getD, hjl]
    rw [hy] at c0
    obtain ⟨Y, hY⟩ : ∃ Y, y.toNat = Y := ⟨_, rfl⟩
    rw [hY] at c0 hyl
    have HY : Hid (y.toNat = Y ∧ bs.drop j = y :: bs.drop (j + 1)) := ⟨hY, hdr⟩
    clear hY hdr hy hcl
    by_cases q1 : (j = 0 ∧ Y = 128) ∨ 72057594037927935 < N
    · have hRn : R = none := by rw [← HR.out, HY.out.2, rowGo_cons, if_pos (by rw [HY.out.1]; simpa using q1)]
      by_cases q2 : j = 0
      · have q2I : ((j : Int) == 0) = true := by simp; omega
        by_cases q3 : Y = 128
        · have q3I : ((Y : Int) == 128) = true := by simp; omega
          clear q2 q3 q1
          go_wp2_with fail
          go_ret3
          exact HNO.out hRn
        · have q3I : ((Y : Int) == 128) = false := by simp; omega
          have q4I : (72057594037927935 : Int) < (N : Int) := by omega
          clear q2 q3 q1
          go_wp2_with fail
          go_ret3
          exact HNO.out hRn
      · have q2I : ((j : Int) == 0) = false := by simp; omega
        have q4I : (72057594037927935 : Int) < (N : Int) := by omega
        clear q2 q1
        go_wp2_with fail
        go_ret3
        exact HNO.out hRn
    have q4I : ¬ (72057594037927935 : Int) < (N : Int) := by omega
    have HR2 : Hid (R = if Y < 128 then some (N * 128 + Y % 128, bs.drop (j + 1)) else rowGo (N * 128 + Y % 128) false (bs.drop (j + 1))) := by
      show R = _
      rw [← HR.out, HY.out.2, rowGo_cons, if_neg (by rw [HY.out.1]; simpa using q1), HY.out.1]
    have hN2 : N * 128 + Y % 128 < 9223372036854775808 := by omega
    obtain ⟨Z, hZ⟩ : ∃ Z, Y % 128 = Z := ⟨_, rfl⟩
    have hA := u8_low7 Y (by omega)
    rw [hZ] at hA
    have hZ2 : Z < 128 := by omega
    have hO := u64_or7 N Z (by omega) hZ2
    obtain ⟨M, hM⟩ : ∃ M, N * 128 + Z = M := ⟨_, rfl⟩
    rw [hM] at hO
    have HM : Hid (N * 128 + Y % 128 = M) := by show _ = M; rw [hZ, hM]
    have hM2 : M < 9223372036854775808 := by omega
    clear hM hZ hN2
    by_cases q2 : j = 0
    · have q2I : ((j : Int) == 0) = true := by simp; omega
      have q3I : ((Y : Int) == 128) = false := by simp; omega
      clear q2 q1
      by_cases q5 : Y < 128
      · have q5I : (Y : Int) < 128 := by omega
        have HY2 : Hid (R = some (M, bs.drop (j + 1))) := by show R = _; rw [HR2.out, if_pos q5, HM.out]
        have HE : Hid (∀ W p2 c2, Below wr.heap.size wr W → ByV wr P p2 c2 (bs.drop (j + 1)) → RwPost wr P R (.returned (.tuple #[.int .u64 (M : Int), .slice p2 (n - (j + 1)) c2, .bool true])) W) := fun W p2 c2 hW hv2 => ⟨hW, .inl ⟨M, bs.drop (j + 1), p2, c2, HY2.out, hM2, by rw [List.length_drop, HV.out.2.1], hv2.keep (fun g _ hlt => hW.block g hlt)⟩⟩
        have HV3 := HV.out.1.drop (j + 1) (by rw [HV.out.2.1]; omega)
        have k1 : ((j : Int) + 1) ≤ (n : Int) := by omega
        have k2 : ((j : Int) + 1) ≤ (c : Int) := by omega
        have k3 : (n : Int) ≤ (c : Int) := by omega
        have k4 : (c : Int) ≤ 9223372036854775807 := by omega
        have k5 : IntKind.i64.wrap ((j : Int) + 1) = (j : Int) + 1 := Go.IntWalk.i64_in _ (by omega)
        by_cases qc : c = j + 1
        · rw [if_pos qc, show c - (j + 1) = 0 by omega] at HV3
          have HV4 : Hid (ByV wr P (some ⟨b, o, none⟩) 0 (bs.drop (j + 1))) := HV3
          clear HV3 q5
          go_wp2_with fail
          go_region
          go_wp2_with fail
          go_ret3
          exact HE.out _ _ _ (Below.refl _ _).drew HV4.out
        · rw [if_neg qc] at HV3
          have HV4 : Hid (ByV wr P (some ⟨b, o + (j + 1), none⟩) (c - (j + 1)) (bs.drop (j + 1))) := HV3
          clear HV3 q5
          go_wp2_with fail
          go_region
          go_wp2_with fail
          go_ret3
          exact HE.out _ _ _ (Below.refl _ _).drew HV4.out
      · have q5I : ¬ (Y : Int) < 128 := by omega
        have HY2 : Hid (rowGo M false (bs.drop (j + 1)) = R) := by show _ = R; rw [HR2.out, if_neg q5, HM.out]
        clear q5
        go_wp2_with fail
        exact ⟨⟨j + 1, M, by omega, by push_cast; rfl, rfl, hM2, HY2.out, trivial⟩, by simp only [intOf]; omega⟩
    · have q2I : ((j : Int) == 0) = false := by simp; omega
      clear q2 q1
      by_cases q5 : Y < 128
      · have q5I : (Y : Int) < 128 := by omega
        have HY2 : Hid (R = some (M, bs.drop (j + 1))) := by show R = _; rw [HR2.out, if_pos q5, HM.out]
        have HE : Hid (∀ W p2 c2, Below wr.heap.size wr W → ByV wr P p2 c2 (bs.drop (j + 1)) → RwPost wr P R (.returned (.tuple #[.int .u64 (M : Int), .slice p2 (n - (j + 1)) c2, .bool true])) W) := fun W p2 c2 hW hv2 => ⟨hW, .inl ⟨M, bs.drop (j + 1), p2, c2, HY2.out, hM2, by rw [List.length_drop, HV.out.2.1], hv2.keep (fun g _ hlt => hW.block g hlt)⟩⟩
        have HV3 := HV.out.1.drop (j + 1) (by rw [HV.out.2.1]; omega)
        have k1 : ((j : Int) + 1) ≤ (n : Int) := by omega
        have k2 : ((j : Int) + 1) ≤ (c : Int) := by omega
        have k3 : (n : Int) ≤ (c : Int) := by omega
        have k4 : (c : Int) ≤ 9223372036854775807 := by omega
        have k5 : IntKind.i64.wrap ((j : Int) + 1) = (j : Int) + 1 := Go.IntWalk.i64_in _ (by omega)
        by_cases qc : c = j + 1
        · rw [if_pos qc, show c - (j + 1) = 0 by omega] at HV3
          have HV4 : Hid (ByV wr P (some ⟨b, o, none⟩) 0 (bs.drop (j + 1))) := HV3
          clear HV3 q5
          go_wp2_with fail
          go_region
          go_wp2_with fail
          go_ret3
          exact HE.out _ _ _ (Below.refl _ _).drew HV4.out
        · rw [if_neg qc] at HV3
          have HV4 : Hid (ByV wr P (some ⟨b, o + (j + 1), none⟩) (c - (j + 1)) (bs.drop (j + 1))) := HV3
          clear HV3 q5
          go_wp2_with fail
          go_region
          go_wp2_with fail
          go_ret3
          exact HE.out _ _ _ (Below.refl _ _).drew HV4.out
      · have q5I : ¬ (Y : Int) < 128 := by omega
        have HY2 : Hid (rowGo M false (bs.drop (j + 1)) = R) := by show _ = R; rw [HR2.out, if_neg q5, HM.out]
        clear q5
        go_wp2_with fail
        exact ⟨⟨j + 1, M, by omega, by push_cast; rfl, rfl, hM2, HY2.out, trivial⟩, by simp only [intOf]; omega⟩
end Go.Proofs.YtnckmcmobkpdcaaDoor
/-
  The code's appendRow.
-/
namespace Go.Proofs.YtnckmcmobkpdcaaDoor
open Go.Shelf Go.RowKit
set_option linter.unusedVariables false
set_option linter.unusedSimpArgs false

/-- Numbers as cells. -/
def cellsU (l : List Nat) : List Value := l.map fun (x : Nat) => Value.int .u64 (x : Int)
theorem cellsU_len (l : List Nat) : (cellsU l).length = l.length := by simp [cellsU]
theorem infoU64 : (Tryd.prog.info? 34).map (fun i => (i.zero, i.size, i.bytes)) = some (some (.int .u64 0), 1, 8) := by kernel_rfl
/-- Numbers appended to numbers of the call's own. -/
theorem wpList_append_u {w : World} {ops : Array Oper} {rest : List Oper} {o : Oper} {a : Act} {Q : Exit → Act → World → Prop} (hgd : o.guard = none) (s x : Operand)
    (ho : o.op = .call { callee := .builtin .append, args := #[s, x], argTypes := #[25, 25] }) (base : Nat) (v : Value) (hs : a.eval s = v) (old : List Nat) (m : Nat) (hown : w.ownsRow base 34 1 v m (cellsU old)) (ad : Addr) (n c : Nat) (l : List Nat) (hn : l.length = n) (hx : a.eval x = .slice (some ad) n c) (hr : ∀ j u, (cellsU l)[j]? = some u → w.cell? (ad.add j) = some u) (hlen : m + n ≤ 1000000) (hbase : base ≤ w.heap.size)
    (h : ∀ v' w', w'.ownsRow base 34 1 v' (m + n) (cellsU (old ++ l)) → w.grownBy w' v.ownBlock → wpList Tryd.prog ops Q rest (a.put o.dst v') w') : wpList Tryd.prog ops Q (o :: rest) a w := by
  obtain ⟨i0, hi0, hz0, hz1, hz2⟩ := info_parts infoU64
  refine wpList_append_own (w := w) hgd s x _ ho base 34 i0 (.int .u64 0) 1 8 Tryd.underlying25 hi0 hz0 hz1 hz2 rfl (by decide) v m (cellsU old) hs hown ad n c (cellsU l) hx (by rw [cellsU_len, hn, Nat.mul_one]) hr (by intro u hu; simp only [cellsU, List.mem_map] at hu; obtain ⟨x, _, rfl⟩ := hu; rfl) (by unfold maxLen; omega) (by omega) hbase ?_
  intro v' w' hown' hgr _
  rw [show cellsU old ++ cellsU l = cellsU (old ++ l) by simp [cellsU]] at hown'
  exact h v' w' hown' hgr
/-- A row's numbers behind the others. -/
def pushD (xs : List Nat) (row : Nat) : List Nat := if xs.length = 0 then [min (row / 40) 2, row - min (row / 40) 2 * 40] else xs ++ [row]
set_option maxRecDepth 100000 in
set_option maxHeartbeats 4000000 in
/-- appendRow. -/
theorem appendRow_any (B : Nat) (p : Option Addr) (m c : Nat) (xs : List Nat) (row : Nat) (hrow : row < 9223372036854775808) (w : World) (hl : xs.length = m) (hm : m ≤ 100000) (hB : B ≤ w.heap.size) (h : w.ownsRow B 34 1 (.slice p m c) m (cellsU xs)) :
    Calls Tryd.prog 16 #[.slice p m c, .int .u64 (row : Int)] w fun e w' => ∃ v, e = .returned v ∧ w'.ownsRow B 34 1 v (pushD xs row).length (cellsU (pushD xs row)) ∧ w.heap.size ≤ w'.heap.size ∧ (∀ k, k < B → w'.heap[k]? = w.heap[k]?) ∧ Below B w w' := by
  have HB : Hid (B ≤ w.heap.size) := hB
  by_cases q : m = 0
  · subst q
    have hx0 : xs = [] := List.eq_nil_of_length_eq_zero hl
    subst hx0
    obtain ⟨r, hr⟩ : ∃ r, min (row / 40) 2 = r := ⟨_, rfl⟩
    have hmin : min ((row : Int) / 40) 2 = (r : Int) := by omega
    have hr2 : r ≤ 2 := by omega
    have hrr : r * 40 ≤ row := by omega
    have hp : pushD [] row = [r, row - r * 40] := by simp [pushD, hr]
    rw [hp]
    have HH : Hid (w.ownsRow B 34 1 (.slice p 0 c) 0 (cellsU [])) := h
    clear h hp hr
    go_enter Tryd.func16, Tryd.ntmps16
    go_wp2_with (at_builtin; refine wpList_append_u rfl (.tmp 16) (.tmp 22) rfl B (.slice p 0 c) rfl [] 0 (HH.out.alloc _) ⟨w.heap.size, 0, none⟩ 2 2 [r, row - r * 40] rfl rfl (fun j u hj => by match j with | 0 => (simp [cellsU] at hj; subst hj; exact cell_of_row _ w.heap.size 0 _ _ _ (heap_alloc_new w _)) | 1 => (simp [cellsU] at hj; subst hj; rw [show (((row - r * 40 : Nat)) : Int) = (row : Int) - (r : Int) * 40 by omega]; exact cell_of_row _ w.heap.size 1 _ _ _ (heap_alloc_new w _)) | j + 2 => simp [cellsU] at hj) (by omega) (Nat.le_trans hB (alloc_le _ _)) ?_; intro v1 w1 o1 gr1)
    go_ret
    have hb := below_grownT ((Below.refl B w).alloc hB _) hB (HH.out.alloc _) gr1
    exact ⟨v1, rfl, o1, hb.size, hb.block, hb⟩
  · have q0 : (0 : Int) < (m : Int) := by omega
    have hp : pushD xs row = xs ++ [row] := by unfold pushD; rw [if_neg (by omega)]
    rw [hp, List.length_append, hl]
    have HH : Hid (w.ownsRow B 34 1 (.slice p m c) m (cellsU xs)) := h
    clear h hp hl
    go_enter Tryd.func16, Tryd.ntmps16
    go_wp2_with (at_builtin; refine wpList_append_u rfl (.tmp 9) (.tmp 11) rfl B (.slice p m c) rfl xs m (HH.out.alloc _) ⟨w.heap.size, 0, none⟩ 1 1 [row] rfl rfl (fun j u hj => by cases j with | zero => (simp [cellsU] at hj; subst hj; exact cell_of_row _ w.heap.size 0 _ _ _ (heap_alloc_new w _)) | succ j => simp [cellsU] at hj) (by omega) (Nat.le_trans hB (alloc_le _ _)) ?_; intro v1 w1 o1 gr1)
    go_ret
    have hb := below_grownT ((Below.refl B w).alloc hB _) hB (HH.out.alloc _) gr1
    exact ⟨v1, rfl, o1, hb.size, hb.block, hb⟩
end Go.Proofs.YtnckmcmobkpdcaaDoor
/-
  The code's Oid.
-/
namespace Go.Proofs.YtnckmcmobkpdcaaDoor
open Go.Shelf Go.RowKit
set_option linter.unusedVariables false
set_option linter.unusedSimpArgs false

/-- A slice's length. -/
def lenOfV : Value → Nat
  | .slice _ n _ => n
  | _ => 0
/-- All rows' numbers. -/
def rowsD : Nat → Bs → Option (List Nat)
  | 0, _ => some []
  | m + 1, bs => if bs.length = 0 then some [] else match rowD bs with
    | none => none
    | some (r, rest) => match rowsD m rest with
      | none => none
      | some l => some (r :: l)
/-- The numbers of rows. -/
def numsD : List Nat → List Nat
  | [] => []
  | r :: l => [min (r / 40) 2, r - min (r / 40) 2 * 40] ++ l
/-- A row of numbers; an error's number. -/
def oidD (t : Nat) (bs : Bs) : Except Nat (List Nat) :=
  if t ≠ 6 ∨ bs.length = 0 then .error 30 else match rowsD bs.length bs with
    | none => .error 30
    | some l => if 16 < (numsD l).length then .error 14 else .ok (numsD l)
theorem rowsD_more : ∀ (m k : Nat) (bs : Bs), bs.length ≤ m → bs.length ≤ k → rowsD m bs = rowsD k bs
  | 0, k, bs, hm, hk => by
    have : bs = [] := List.eq_nil_of_length_eq_zero (by omega)
    subst this
    cases k with
    | zero => rfl
    | succ k => rfl
  | m + 1, 0, bs, hm, hk => by
    have : bs = [] := List.eq_nil_of_length_eq_zero (by omega)
    subst this
    rfl
  | m + 1, k + 1, bs, hm, hk => by
    simp only [rowsD]
    by_cases h : bs.length = 0
    · rw [if_pos h, if_pos h]
    rw [if_neg h, if_neg h]
    cases hr : rowD bs with
    | none => rfl
    | some q =>
      obtain ⟨r, rest⟩ := q
      have := (rowGo_len bs 0 true r rest hr).1
      simp only []
      rw [rowsD_more m k rest (by omega) (by omega)]
theorem rowsD_step {bs : Bs} (h : bs.length ≠ 0) : rowsD bs.length bs = match rowD bs with
    | none => none
    | some (r, rest) => (rowsD rest.length rest).map (fun l => r :: l) := by
  obtain ⟨m, hm⟩ : ∃ m, bs.length = m + 1 := ⟨bs.length - 1, by omega⟩
  rw [hm]
  simp only [rowsD]
  rw [if_neg h]
  cases hr : rowD bs with
  | none => rfl
  | some q =>
    obtain ⟨r, rest⟩ := q
    have := (rowGo_len bs 0 true r rest hr).1
    simp only []
    rw [rowsD_more m rest.length rest (by omega) (Nat.le_refl _)]
    cases rowsD rest.length rest with
    | none => rfl
    | some l => rfl
theorem numsD_len (l : List Nat) : (numsD l).length = if l.length = 0 then 0 else l.length + 1 := by
  cases l with
  | nil => rfl
  | cons a l => simp [numsD]
theorem push_nums (R : List Nat) (r : Nat) : pushD (numsD R) r = numsD (R ++ [r]) := by
  cases R with
  | nil => simp [pushD, numsD]
  | cons a R => simp [pushD, numsD]
/-- The numbers so far: no more than 17 are kept. -/
theorem push_take (R : List Nat) (r : Nat) : (if ((numsD R).take 17).length ≤ 16 then pushD ((numsD R).take 17) r else (numsD R).take 17) = (numsD (R ++ [r])).take 17 := by
  by_cases h : (numsD R).length ≤ 16
  · have e : (numsD R).take 17 = numsD R := List.take_of_length_le (by omega)
    rw [e, if_pos h, push_nums]
    have h2 := numsD_len (R ++ [r])
    have h1 := numsD_len R
    rw [List.take_of_length_le]
    rw [h2]
    simp
    by_cases h0 : R.length = 0
    · omega
    · rw [if_neg h0] at h1
      omega
  · have h2 : ((numsD R).take 17).length = 17 := by rw [List.length_take]; omega
    rw [h2, if_neg (by omega)]
    cases R with
    | nil => simp [numsD] at h
    | cons a R =>
      simp [numsD] at h ⊢
      rw [List.take_append_of_le_length (by omega)]
/-- What Oid answers. -/
def OidPost (w : World) (R : Except Nat (List Nat)) (e : Ending) (w' : World) : Prop :=
  Below w.heap.size w w' ∧ ((∃ k, R = .error k ∧ e = .returned (.tuple #[.slice none 0 0, .int .i64 (k : Int)])) ∨
    ∃ l v, R = .ok l ∧ l.length ≤ 16 ∧ e = .returned (.tuple #[v, .int .i64 0]) ∧ w'.ownsRow w.heap.size 34 1 v l.length (cellsU l))
set_option maxRecDepth 100000 in
set_option maxHeartbeats 4000000 in
/-- Oid. -/
theorem derOid (t : Nat) (ht : t < 256) (p : Option Addr) (n c : Nat) (bs : Bs) (P : Nat → Prop) (w : World) (hl : bs.length = n) (h : ByV w P p c bs) :
    Calls Tryd.prog 6 #[.agg #[.int .u8 (t : Int), .slice p n c]] w (OidPost w (oidD t bs)) := by
  obtain ⟨W1, hW1⟩ : ∃ W1, w.alloc (.cells #[.int .u8 (t : Int), .slice p n c] 24) = W1 := ⟨_, rfl⟩
  have b1 : Below w.heap.size w W1 := by rw [← hW1]; exact (Below.refl _ _).alloc (Nat.le_refl _) _
  have s1 : Tl W1 w.heap.size (.int .u8 (t : Int)) (.slice p n c) := by rw [← hW1]; exact Tl.new w _ _
  obtain ⟨g0, g1, g2, g3⟩ := s1.facts
  have hbig := h.big
  have hcap := h.cap
  rw [hl] at hcap
  have HS : Hid (Below w.heap.size w W1 ∧ ByV w (fun b => b < w.heap.size) p c bs ∧ bs.length = n) := ⟨b1, h.mono (fun g _ hlt => hlt), hl⟩
  have HBAD : Hid (∀ W k, Below w.heap.size w W → oidD t bs = .error k → OidPost w (oidD t bs) (.returned (.tuple #[.slice none 0 0, .int .i64 (k : Int)])) W) := fun W k hW hk => ⟨hW, .inl ⟨k, hk, rfl⟩⟩
  clear s1 b1 h
  by_cases q2 : t = 6
  rotate_left
  · have e3 : ((t : Int) != 6) = true := by simp; omega
    have e2 : ((t : Int) == 6) = false := by simp; omega
    go_enter Tryd.func6, Tryd.ntmps6
    go_wp2_with fail
    go_ret2
    exact HBAD.out _ 30 HS.out.1 (by unfold oidD; rw [if_pos (.inl q2)])
  have e3 : ((t : Int) != 6) = false := by simp; omega
  have e2 : ((t : Int) == 6) = true := by simp; omega
  by_cases q3 : n = 0
  · have e4 : ((n : Int) == 0) = true := by simp; omega
    have HQ3 : Hid (n = 0) := q3
    clear q2 q3 hcap
    go_enter Tryd.func6, Tryd.ntmps6
    go_wp2_with fail
    go_ret2
    exact HBAD.out _ 30 HS.out.1 (by unfold oidD; rw [if_pos (.inr (by rw [HS.out.2.2]; exact HQ3.out))])
  have e4 : ((n : Int) == 0) = false := by simp; omega
  have HO : Hid (oidD t bs = match rowsD n bs with
    | none => .error 30
    | some l => if 16 < (numsD l).length then .error 14 else .ok (numsD l)) := by
    show oidD t bs = _
    unfold oidD
    rw [if_neg (by rw [HS.out.2.2]; simp [q2, q3]), HS.out.2.2]
  clear q2 hl
  go_enter Tryd.func6, Tryd.ntmps6
  go_wp2_with fail
  go_loopw [4, 5] (fun v4 v5 wr => ∃ (R : List Nat) (ys : Bs) (L : Nat) (q : Option Addr) (d : Nat) (pv : Option Addr) (cv K : Nat), v5 = .slice q L d ∧ ys.length = L ∧ ByV wr (fun b => b < w.heap.size) q d ys ∧ v4 = .slice pv K cv ∧ ((numsD R).take 17).length = K ∧ wr.ownsRow w.heap.size 34 1 (.slice pv K cv) K (cellsU ((numsD R).take 17)) ∧ Below w.heap.size w wr ∧ rowsD n bs = (rowsD L ys).map (fun l => R ++ l)) (fun _ v5 _ => lenOfV v5)
  case atStart => exact ⟨[], bs, n, p, c, none, 0, 0, rfl, HS.out.2.2, HS.out.2.1.keep (fun g _ hlt => HS.out.1.block g hlt), rfl, rfl, World.ownsRow_nil _ _ _ _, HS.out.1, by cases rowsD n bs <;> rfl⟩
  case round =>
    obtain ⟨R, ys, L, q, d, pv, cv, K, rfl, hL, hv, rfl, hK, hown, hb, hrows⟩ := hrel
    have hK17 : K ≤ 17 := by rw [← hK, List.length_take]; omega
    have hBs := hb.size
    have HI : Hid (ys.length = L ∧ ((numsD R).take 17).length = K ∧ Below w.heap.size w wr ∧ rowsD n bs = (rowsD L ys).map (fun l => R ++ l)) := ⟨hL, hK, hb, hrows⟩
    have HV : Hid (ByV wr (fun b => b < w.heap.size) q d ys ∧ wr.ownsRow w.heap.size 34 1 (.slice pv K cv) K (cellsU ((numsD R).take 17))) := ⟨hv, hown⟩
    by_cases q5 : L = 0
    · have q5I : ¬ (0 : Int) < (L : Int) := by omega
      have hys : ys = [] := List.eq_nil_of_length_eq_zero (by omega)
      have hR : rowsD n bs = some R := by rw [hrows, q5]; simp [rowsD]
      have HR : Hid (rowsD n bs = some R) := hR
      clear hR hrows hys hL hown hv hK hb
      by_cases q6 : 16 < K
      · have q6I : (16 : Int) < (K : Int) := by omega
        go_wp2_with fail
        go_ret2
        exact HBAD.out _ 14 HI.out.2.2.1 (by rw [HO.out, HR.out]; simp only []; rw [if_pos (by have := HI.out.2.1; rw [List.length_take] at this; omega)])
      · have q6I : ¬ (16 : Int) < (K : Int) := by omega
        have hnl : (numsD R).length = K := by have := HI.out.2.1; rw [List.length_take] at this; omega
        have HNL : Hid ((numsD R).length = K) := hnl
        clear hnl
        go_wp2_with fail
        go_ret2
        refine ⟨HI.out.2.2.1, .inr ⟨numsD R, _, ?_, by rw [HNL.out]; omega, rfl, ?_⟩⟩
        · rw [HO.out, HR.out]
          simp only []
          rw [if_neg (by rw [HNL.out]; omega)]
        · have h1 := HV.out.2
          rw [List.take_of_length_le (by rw [HNL.out]; omega)] at h1
          rw [HNL.out]
          exact h1
    have q5I : (0 : Int) < (L : Int) := by omega
    have hstep := rowsD_step (bs := ys) (by omega)
    rw [hL] at hstep
    have HSR := splitRow_any q L d ys (fun b => b < w.heap.size) wr hL hv
    clear hown hv hK hb
    cases hrow : rowD ys with
    | none =>
      rw [hrow] at HSR hstep
      have HR : Hid (rowsD n bs = none) := by show rowsD n bs = none; rw [hrows, hstep]; rfl
      clear hrows hstep hL
      go_wp2_with (go_at_call 15; refine HSR.mono ?_; rintro e w2 ⟨hb2, (⟨m, r, p2, c2, hk, _⟩ | ⟨_, rfl⟩)⟩; (try cases hk); have HB2 : Hid (Below wr.heap.size wr w2) := hb2; clear hb2)
      go_ret2
      exact HBAD.out _ 30 (HI.out.2.2.1.trans (HB2.out.mono hBs)) (by rw [HO.out, HR.out])
    | some x =>
      obtain ⟨m, r⟩ := x
      rw [hrow] at HSR hstep
      simp only [] at hstep
      obtain ⟨Lr, hLr⟩ : ∃ Lr, r.length = Lr := ⟨_, rfl⟩
      have hlt := (rowGo_len ys 0 true m r hrow).1
      rw [hL, hLr] at hlt
      have HR : Hid (rowsD n bs = (rowsD Lr r).map (fun l => (R ++ [m]) ++ l) ∧ r.length = Lr) := by
        refine ⟨?_, hLr⟩
        rw [hrows, hstep, hLr]
        cases rowsD Lr r with
        | none => rfl
        | some l => simp
      clear hrows hstep hL
      by_cases q6 : K ≤ 16
      · have q6I : (K : Int) ≤ 16 := by omega
        have HPT := push_take R m
        rw [if_pos (by rw [HI.out.2.1]; exact q6)] at HPT
        have HPT' : Hid (pushD ((numsD R).take 17) m = (numsD (R ++ [m])).take 17) := HPT
        clear HPT
        go_wp2_with (first
          | (go_at_call 15; refine HSR.mono ?_; rintro e w2 ⟨hb2, (⟨m', r', p2, c2, hk, hm', rfl, hv2⟩ | ⟨hk, _⟩)⟩; rotate_left; (cases hk); cases hk; rw [hLr]; have HB2 : Hid (Below w.heap.size w w2 ∧ ByV w2 (fun b => b < w.heap.size) p2 c2 r ∧ w2.ownsRow w.heap.size 34 1 (.slice pv K cv) K (cellsU ((numsD R).take 17))) := ⟨HI.out.2.2.1.trans (hb2.mono hBs), hv2, owns_keep HV.out.2 (fun g hg => hb2.block g (owns_lt HV.out.2 hg).2.1)⟩; clear hb2 hv2)
          | (go_at_call 16; refine (appendRow_any w.heap.size pv K cv ((numsD R).take 17) m hm' w2 HI.out.2.1 (by omega) HB2.out.1.size HB2.out.2.2).mono ?_; rintro e w3 ⟨v3, rfl, ho3, _, _, hb3⟩; have HB3 : Hid (Below w.heap.size w2 w3 ∧ w3.ownsRow w.heap.size 34 1 v3 ((numsD (R ++ [m])).take 17).length (cellsU ((numsD (R ++ [m])).take 17))) := ⟨hb3, by rw [HPT'.out] at ho3; exact ho3⟩; clear hb3 ho3))
        obtain ⟨p3, c3, rfl⟩ := owns_slice HB3.out.2
        exact ⟨⟨R ++ [m], r, Lr, p2, c2, p3, c3, _, rfl, HR.out.2, HB2.out.2.1.keep (fun g hg _ => HB3.out.1.block g hg), rfl, rfl, HB3.out.2, HB2.out.1.trans HB3.out.1, HR.out.1⟩, by simp only [lenOfV]; omega⟩
      · have q6I : ¬ (K : Int) ≤ 16 := by omega
        have HPT := push_take R m
        rw [if_neg (by rw [HI.out.2.1]; exact q6)] at HPT
        have HPT' : Hid ((numsD R).take 17 = (numsD (R ++ [m])).take 17) := HPT
        clear HPT
        go_wp2_with (go_at_call 15; refine HSR.mono ?_; rintro e w2 ⟨hb2, (⟨m', r', p2, c2, hk, hm', rfl, hv2⟩ | ⟨hk, _⟩)⟩; rotate_left; (cases hk); cases hk; rw [hLr]; have HB2 : Hid (Below w.heap.size w w2 ∧ ByV w2 (fun b => b < w.heap.size) p2 c2 r ∧ w2.ownsRow w.heap.size 34 1 (.slice pv K cv) K (cellsU ((numsD R).take 17))) := ⟨HI.out.2.2.1.trans (hb2.mono hBs), hv2, owns_keep HV.out.2 (fun g hg => hb2.block g (owns_lt HV.out.2 hg).2.1)⟩; clear hb2 hv2)
        exact ⟨⟨R ++ [m], r, Lr, p2, c2, pv, cv, K, rfl, HR.out.2, HB2.out.2.1, rfl, by rw [← HPT'.out]; exact HI.out.2.1, by rw [← HPT'.out]; exact HB2.out.2.2, HB2.out.1, HR.out.1⟩, by simp only [lenOfV]; omega⟩
end Go.Proofs.YtnckmcmobkpdcaaDoor
/-
  Layer 10's Awake.
-/
namespace Go.Proofs.YtnckmcmobkpdcaaDoor
open Go.Shelf Go.RowKit
set_option linter.unusedVariables false
set_option linter.unusedSimpArgs false

theorem md_laid {w : World} (h : laidMet Tryd.prog [("latchkey/der.monthDays", Rows.laid_latchkey_der_monthDays)] w) : Md w := by
  obtain ⟨g, t, cs, fuel, p, hg, hty, hvar, hd⟩ := Lib.laidMet.reads h (.head _)
  obtain rfl := Option.some.inj ((show Tryd.prog.globalNamed "latchkey/der.monthDays" = some 0 by kernel_rfl).symm.trans hg)
  obtain rfl := Option.some.inj ((show (Tryd.prog.globals[0]?).map (·.type) = some 74 by kernel_rfl).symm.trans hty)
  rw [show (Rows.laid_latchkey_der_monthDays : DataW Unit) = Lib.tabData .i64 mdL by kernel_rfl] at hd
  have hcs := Lib.cells_of_tab (zs := mdL) Tryd.underlying74 Tryd.underlying3 (by kernel_rfl) (by kernel_rfl) hd
  intro i hi
  rw [World.var?_cell hg hvar i, ← Array.getElem?_toList, hcs]
  have hml : i < mdL.length := hi
  simp [List.getD, hml]
theorem awake_read : readD [48, 3, 2, 1, 5] = .ok ((48, [2, 1, 5]), []) := rfl
theorem awake_int : intL [0, 5] = none := rfl
theorem awake_oid : oidD 6 [42, 134, 72] = .ok [1, 2, 840] := rfl
theorem awake_t1 : timeD 23 [55, 48, 48, 49, 48, 49, 48, 48, 48, 48, 48, 49, 90] = some 1 := by decide +kernel
theorem awake_t2 : timeD 23 [53, 48, 48, 49, 48, 49, 48, 48, 48, 48, 48, 48, 90] = none := by decide +kernel
theorem byv_litF (W : World) (l : Bs) (fz : Nat × Nat) (hl : l.length ≤ 1000) : ByV (W.alloc (.cells (u8sC l) 5 fz)) (fun b => b < (W.alloc (.cells (u8sC l) 5 fz)).heap.size) (some ⟨W.heap.size, 0, none⟩) l.length l := by
  refine ⟨Nat.le_refl _, by omega, fun _ => ⟨W.heap.size, 0, rfl, fun i hi => ?_⟩, fun a ha _ => by cases ha; rw [alloc_sz]; show W.heap.size < W.heap.size + 1; omega⟩
  rw [Nat.zero_add, cell_of_row _ W.heap.size i _ _ _ (heap_alloc_new W _)]
  simp [u8sC, List.getD, hi]
theorem byv_cellsF (W : World) (l : Bs) (cs : Array Value) (n : Nat) (fz : Nat × Nat) (hc : u8sC l = cs) (hn : l.length = n) (hl : n ≤ 1000) : ByV (W.alloc (.cells cs 5 fz)) (fun b => b < (W.alloc (.cells cs 5 fz)).heap.size) (some ⟨W.heap.size, 0, none⟩) n l := by
  subst hc hn
  exact byv_litF W l fz hl
theorem byv_cells (W : World) (l : Bs) (cs : Array Value) (n : Nat) (hc : u8sC l = cs) (hn : l.length = n) (hl : n ≤ 1000) : ByV (W.alloc (.cells cs 5)) (fun b => b < (W.alloc (.cells cs 5)).heap.size) (some ⟨W.heap.size, 0, none⟩) n l := by
  subst hc hn
  exact byv_lit W l hl
theorem conv_litT (cs : Array Value) (n : Nat) (hn : cs.size = n) (w : World) : (convert 22 22 (.slice (some ⟨w.heap.size, 0, none⟩) n n)).run Tryd.prog (w.alloc (.cells cs 5)) = .ok (.slice (some ⟨w.heap.size, 0, none⟩) n n) (w.alloc (.cells cs 5 (n, n + 1))) := by
  have hsh : (w.alloc (.cells cs 5)).shape? w.heap.size = some (5, n) := by
    unfold World.shape?
    rw [heap_alloc_new w]
    simp [hn]
  have hfr : (w.alloc (.cells cs 5)).freeze ⟨w.heap.size, n, none⟩ 1 = w.alloc (.cells cs 5 (n, n + 1)) := by
    simp only [World.freeze, World.alloc]
    simp only [Nat.one_ne_zero, if_false]
    congr 1
    apply Array.ext_getElem?
    intro i
    rw [Array.getElem?_modify]
    by_cases h : w.heap.size = i
    · subst h
      simp
    · have h' : ¬ i = w.heap.size := fun e => h e.symm
      simp [h, h', Array.getElem?_push]
  simp [convert, run_underlying Tryd.underlying22, run_underlying Tryd.underlying5, markStringish, hsh, hfr]
set_option maxRecDepth 100000 in
set_option maxHeartbeats 4000000 in
/-- Awake. -/
theorem DAwake_any (w : World) (hM : Md w) : Calls Tryd.prog 5 #[] w fun e w' => e = .returned (.bool true) ∧ Below w.heap.size w w' := by
  have HM : Hid (Md w) := hM
  clear hM
  go_enter Tryd.func5, Tryd.ntmps5
  go_wp2_with fail
  go_at_call 13
  have v1 := byv_cells w [48, 3, 2, 1, 5] #[.int .u8 48, .int .u8 3, .int .u8 2, .int .u8 1, .int .u8 5] 5 rfl rfl (by omega)
  have b1 : Below w.heap.size w (w.alloc (.cells #[.int .u8 48, .int .u8 3, .int .u8 2, .int .u8 1, .int .u8 5] 5)) := (Below.refl _ _).alloc (Nat.le_refl _) _
  generalize w.alloc (.cells #[.int .u8 48, .int .u8 3, .int .u8 2, .int .u8 1, .int .u8 5] 5) = W1 at v1 b1 ⊢
  refine (derRead _ 5 5 _ _ W1 rfl v1).mono ?_
  rw [awake_read]
  intro e w2 hp
  obtain ⟨b2, p1, c1, p2, c2, he, _, _⟩ := hp.okx
  subst he
  have B2 : Below w.heap.size w w2 := b1.trans (b2.mono b1.size)
  clear hp v1 b1 b2
  simp only [List.length_cons, List.length_nil]
  go_wp2_with fail
  go_at_call 14
  have s3 : Tl (w2.alloc (.cells #[.int .u8 48, .slice p1 3 c1] 24)) w2.heap.size (.int .u8 48) (.slice p1 3 c1) := Tl.new w2 _ _
  have B3 : Below w.heap.size w (w2.alloc (.cells #[.int .u8 48, .slice p1 3 c1] 24)) := B2.alloc B2.size _
  have z3 := alloc_sz w2 (.cells #[.int .u8 48, .slice p1 3 c1] 24)
  obtain ⟨G, hG⟩ : ∃ G, w2.heap.size = G := ⟨_, rfl⟩
  rw [hG] at s3 z3
  generalize w2.alloc (.cells #[.int .u8 48, .slice p1 3 c1] 24) = W3 at s3 B3 z3 ⊢
  rw [hG, ← z3]
  clear hG B2
  have v4 := byv_cells W3 [0, 5] #[.int .u8 0, .int .u8 5] 2 rfl rfl (by omega)
  have b4 : Below W3.heap.size W3 (W3.alloc (.cells #[.int .u8 0, .int .u8 5] 5)) := (Below.refl _ _).alloc (Nat.le_refl _) _
  generalize W3.alloc (.cells #[.int .u8 0, .int .u8 5] 5) = W4 at v4 b4 ⊢
  refine (derInt 2 (by omega) _ 2 2 _ _ W4 rfl v4 (by omega)).mono ?_
  rintro e w5 ⟨b5, (⟨_, rfl⟩ | ⟨l, _, hl, _⟩)⟩
  rotate_left
  · rw [awake_int] at hl
    cases hl
  have s5 : Tl w5 G (.int .u8 48) (.slice p1 3 c1) := (s3.below b4).below b5
  have B5 : Below w.heap.size w w5 := B3.trans ((b4.mono B3.size).trans (b5.mono (Nat.le_trans B3.size b4.size)))
  clear s3 B3 b4 v4 b5 z3
  go_wp2_with fail
  go_at_call 6
  have v6 := byv_cells w5 [42, 134, 72] #[.int .u8 42, .int .u8 134, .int .u8 72] 3 rfl rfl (by omega)
  have b6 : Below w5.heap.size w5 (w5.alloc (.cells #[.int .u8 42, .int .u8 134, .int .u8 72] 5)) := (Below.refl _ _).alloc (Nat.le_refl _) _
  generalize w5.alloc (.cells #[.int .u8 42, .int .u8 134, .int .u8 72] 5) = W6 at v6 b6 ⊢
  refine (derOid 6 (by omega) _ 3 3 _ _ W6 rfl v6).mono ?_
  rw [awake_oid]
  rintro e w7 ⟨b7, (⟨k, hk, _⟩ | ⟨l, v, hl, _, rfl, o7⟩)⟩
  · cases hk
  cases hl
  obtain ⟨g7, c7, rfl⟩ : ∃ g c, v = .slice (some ⟨g, 0, none⟩) 3 c := by
    rcases o7.2 with ⟨_, hh⟩ | ⟨g, cap, cur, e, _⟩
    · cases hh
    · exact ⟨g, cap, e⟩
  have x7 : w7.cell? ⟨g7, 2, none⟩ = some (.int .u64 840) := by rw [owns_cell o7 2 (by decide)]; rfl
  have s7 : Tl w7 G (.int .u8 48) (.slice p1 3 c1) := (s5.below b6).below b7
  have B7 : Below w.heap.size w w7 := B5.trans ((b6.mono B5.size).trans (b7.mono (Nat.le_trans B5.size b6.size)))
  have m7 : Md w7 := HM.out.below B7
  clear s5 B5 b6 v6 b7 o7
  have hcv := conv_litT #[.int .u8 55, .int .u8 48, .int .u8 48, .int .u8 49, .int .u8 48, .int .u8 49, .int .u8 48, .int .u8 48, .int .u8 48, .int .u8 48, .int .u8 48, .int .u8 49, .int .u8 90] 13 rfl w7
  go_wp2_with fail
  clear hcv
  go_at_call 11
  have v8 := byv_cellsF w7 [55, 48, 48, 49, 48, 49, 48, 48, 48, 48, 48, 49, 90] #[.int .u8 55, .int .u8 48, .int .u8 48, .int .u8 49, .int .u8 48, .int .u8 49, .int .u8 48, .int .u8 48, .int .u8 48, .int .u8 48, .int .u8 48, .int .u8 49, .int .u8 90] 13 (13, 14) rfl rfl (by omega)
  have b8 : Below w7.heap.size w7 (w7.alloc (.cells #[.int .u8 55, .int .u8 48, .int .u8 48, .int .u8 49, .int .u8 48, .int .u8 49, .int .u8 48, .int .u8 48, .int .u8 48, .int .u8 48, .int .u8 48, .int .u8 49, .int .u8 90] 5 (13, 14))) := (Below.refl _ _).alloc (Nat.le_refl _) _
  generalize w7.alloc (.cells #[.int .u8 55, .int .u8 48, .int .u8 48, .int .u8 49, .int .u8 48, .int .u8 49, .int .u8 48, .int .u8 48, .int .u8 48, .int .u8 48, .int .u8 48, .int .u8 49, .int .u8 90] 5 (13, 14)) = W8 at v8 b8 ⊢
  refine (derTime 23 (by omega) _ 13 13 _ _ W8 rfl v8 (m7.below b8)).mono ?_
  rw [awake_t1]
  rintro e w9 ⟨rfl, b9⟩
  simp only [timeV]
  have x9 : w9.cell? ⟨g7, 2, none⟩ = some (.int .u64 840) := by
    have h1 := World.block_lt_of_cell? w7 _ x7
    exact (b9.cell (p := ⟨g7, 2, none⟩) (Nat.lt_of_lt_of_le h1 b8.size)).trans ((b8.cell (p := ⟨g7, 2, none⟩) h1).trans x7)
  have s9 : Tl w9 G (.int .u8 48) (.slice p1 3 c1) := (s7.below b8).below b9
  have m9 : Md w9 := (m7.below b8).below b9
  have B9 : Below w.heap.size w w9 := B7.trans ((b8.mono B7.size).trans (b9.mono (Nat.le_trans B7.size b8.size)))
  clear x7 s7 m7 B7 b8 b9 v8
  have hcv := conv_litT #[.int .u8 53, .int .u8 48, .int .u8 48, .int .u8 49, .int .u8 48, .int .u8 49, .int .u8 48, .int .u8 48, .int .u8 48, .int .u8 48, .int .u8 48, .int .u8 48, .int .u8 90] 13 rfl w9
  go_wp2_with fail
  clear hcv
  go_at_call 11
  have v8 := byv_cellsF w9 [53, 48, 48, 49, 48, 49, 48, 48, 48, 48, 48, 48, 90] #[.int .u8 53, .int .u8 48, .int .u8 48, .int .u8 49, .int .u8 48, .int .u8 49, .int .u8 48, .int .u8 48, .int .u8 48, .int .u8 48, .int .u8 48, .int .u8 48, .int .u8 90] 13 (13, 14) rfl rfl (by omega)
  have b8 : Below w9.heap.size w9 (w9.alloc (.cells #[.int .u8 53, .int .u8 48, .int .u8 48, .int .u8 49, .int .u8 48, .int .u8 49, .int .u8 48, .int .u8 48, .int .u8 48, .int .u8 48, .int .u8 48, .int .u8 48, .int .u8 90] 5 (13, 14))) := (Below.refl _ _).alloc (Nat.le_refl _) _
  generalize w9.alloc (.cells #[.int .u8 53, .int .u8 48, .int .u8 48, .int .u8 49, .int .u8 48, .int .u8 49, .int .u8 48, .int .u8 48, .int .u8 48, .int .u8 48, .int .u8 48, .int .u8 48, .int .u8 90] 5 (13, 14)) = W8 at v8 b8 ⊢
  refine (derTime 23 (by omega) _ 13 13 _ _ W8 rfl v8 (m9.below b8)).mono ?_
  rw [awake_t2]
  rintro e wA ⟨rfl, b9⟩
  simp only [timeV]
  have xA : wA.cell? ⟨g7, 2, none⟩ = some (.int .u64 840) := by
    have h1 := World.block_lt_of_cell? w9 _ x9
    exact (b9.cell (p := ⟨g7, 2, none⟩) (Nat.lt_of_lt_of_le h1 b8.size)).trans ((b8.cell (p := ⟨g7, 2, none⟩) h1).trans x9)
  have sA : Tl wA G (.int .u8 48) (.slice p1 3 c1) := (s9.below b8).below b9
  have BA : Below w.heap.size w wA := B9.trans ((b8.mono B9.size).trans (b9.mono (Nat.le_trans B9.size b8.size)))
  obtain ⟨y0, y1, y2, y3⟩ := sA.facts
  clear x9 s9 m9 B9 b8 b9 v8
  go_wp2_with fail
  go_ret
  exact ⟨rfl, BA⟩
end Go.Proofs.YtnckmcmobkpdcaaDoor
/-
  Contracts of the document's answer: a number of digits as limbs (Nat), two numbers as they stand (Same), and the law's own 'is'.
-/
namespace Go.Proofs.YtnckmcmobkpdcaaDoor
open Go.RowKit
set_option linter.unusedVariables false
set_option linter.unusedSimpArgs false



end Go.Proofs.YtnckmcmobkpdcaaDoor
/-
  Contracts of the document's answer: how many bits (Len), how one number stands to another (Cmp).
-/
namespace Go.Proofs.YtnckmcmobkpdcaaDoor
open Go.RowKit
set_option linter.unusedVariables false
set_option linter.unusedSimpArgs false

theorem blen_split (L e m : Nat) (hL : L < 2 ^ m) (he : e ≠ 0) : blen (L + 2 ^ m * e) = m + blen e := by
  have b1 := blen_lt e
  have b2 := blen_ge e he
  have b3 := blen_pos e he
  have hp := Nat.two_pow_pos m
  obtain ⟨c, hc⟩ : ∃ c, blen e = c + 1 := ⟨blen e - 1, by omega⟩
  rw [hc] at b1 b2
  simp only [Nat.add_sub_cancel] at b2
  have := blen_eq (L + 2 ^ m * e) (m + c) (by
    rw [Nat.pow_add]
    have := Nat.mul_le_mul_left (2 ^ m) b2
    omega) (by
    rw [show m + c + 1 = m + (c + 1) by omega, Nat.pow_add]
    have := Nat.mul_le_mul_left (2 ^ m) (show e + 1 ≤ 2 ^ (c + 1) by omega)
    rw [Nat.mul_add] at this
    omega)
  omega
theorem blen_half (n : Nat) (h : 0 < n) : blen n = 1 + blen (n / 2) := by
  by_cases h1 : n = 1
  · subst h1; decide
  · have := blen_shift n 1 (by omega)
    simpa using this
theorem rlen_eq (ds : List Int) (hd : Dg D16 ds) (hc : Canon ds) (m : Nat) (hm : ds.length = m + 1) : 16 * m + blen (ds.getD m 0).toNat = blen (val D16 ds).toNat := by
  have ht : top ds = m + 1 := by unfold Canon at hc; omega
  have hh := top_hit ds (by omega)
  have hg := hd.getD D16_pos m
  rw [ht] at hh
  simp only [Nat.add_sub_cancel] at hh
  have hv : val D16 ds = low D16 ds m + D16 ^ m * ds.getD m 0 := by rw [← low_succ, ← hm, low_len]
  have l0 : 0 ≤ low D16 ds m := val_nonneg D16_pos (hd.take m)
  have l1 : low D16 ds m < D16 ^ m := by
    have a := val_lt D16_pos (hd.take m)
    have b : (ds.take m).length ≤ m := by simp; omega
    have c := pow_mono (B := D16) (by decide) b
    unfold low; omega
  generalize ds.getD m 0 = d at *
  generalize low D16 ds m = L at *
  obtain ⟨e, rfl⟩ := Int.eq_ofNat_of_zero_le hg.1
  obtain ⟨L, rfl⟩ := Int.eq_ofNat_of_zero_le l0
  have hB : D16 ^ m = ((2 ^ (16 * m) : Nat) : Int) := by rw [Int.natCast_pow, Int.pow_mul]; rfl
  rw [hB] at hv l1
  rw [hv, ← Int.natCast_mul, ← Int.natCast_add, Int.toNat_natCast, Int.toNat_natCast, blen_split L e (16 * m) (by omega) (by intro h0; rw [h0] at hh; exact hh rfl)]


end Go.Proofs.YtnckmcmobkpdcaaDoor
/-
  Contracts for a number's bits: the document's Bit, nat.isSet, nat.Bits.
-/
namespace Go.Proofs.YtnckmcmobkpdcaaDoor
open Go.RowKit
set_option linter.unusedVariables false
set_option linter.unusedSimpArgs false

/-- The bit of that place. -/
def bitAt (V : Int) (p : Nat) : Int := V / 2 ^ p % 2
theorem bitAt_01 (V : Int) (p : Nat) : bitAt V p = 0 ∨ bitAt V p = 1 := by unfold bitAt; omega
theorem bit_of_digit {B : Int} {m : Nat} (hB : B = 2 ^ m) (hm : 0 < m) (xs : List Int) (hd : Dg B xs) (p : Nat) : xs.getD (p / m) 0 / 2 ^ (p % m) % 2 = bitAt (val B xs) p := by
  have hB0 : 0 < B := by rw [hB]; exact Int.pow_pos (by decide)
  unfold bitAt
  rw [digit_at hB0 xs hd (p / m)]
  have hp : (0 : Int) < B ^ (p / m) := Int.pow_pos hB0
  have hq : (0 : Int) < 2 ^ (p % m) := Int.pow_pos (by decide)
  have e0 : (2 : Int) ^ p = B ^ (p / m) * 2 ^ (p % m) := by
    rw [hB, ← Int.pow_mul, ← Int.pow_add, Nat.div_add_mod]
  rw [e0, ← Int.ediv_ediv_of_nonneg (by omega)]
  generalize val B xs / B ^ (p / m) = Y
  have hlt : p % m < m := Nat.mod_lt _ hm
  have e : B = 2 ^ (p % m) * (2 * 2 ^ (m - 1 - p % m)) := by
    rw [Int.mul_comm 2, ← Int.pow_succ, ← Int.pow_add, show p % m + (m - 1 - p % m + 1) = m by omega]; exact hB
  rw [e]
  generalize (2 : Int) ^ (p % m) = q at *
  generalize (2 : Int) ^ (m - 1 - p % m) = s at *
  rw [Int.emod_def Y, show Y - q * (2 * s) * (Y / (q * (2 * s))) = Y + q * (-(2 * s * (Y / (q * (2 * s))))) by grind]
  rw [Int.add_mul_ediv_left _ _ (by omega)]
  rw [show Y / q + -(2 * s * (Y / (q * (2 * s)))) = Y / q + 2 * (-(s * (Y / (q * (2 * s))))) by grind, Int.add_mul_emod_self_left]


theorem low_bit (a : Nat) (ha : a < 18446744073709551616) : bits .and .u64 (a : Int) 1 = ((a % 2 : Nat) : Int) := by
  have h := bits_and_u64_nat a 1 ha (by omega)
  rw [show a &&& 1 = a % 2 from Nat.and_two_pow_sub_one_eq_mod a 1] at h
  exact h

theorem new_cell (W : World) (v : Value) (t : TypeId) : (W.alloc (.cells #[v] t)).cell? ⟨W.heap.size, 0, none⟩ = some v ∧ (W.alloc (.cells #[v] t)).frozen? ⟨W.heap.size, 0, none⟩ = false := ⟨by simp, by simp⟩
theorem more_cell {W : World} {a : Addr} {v : Value} (o : Obj) (h : W.cell? a = some v) : (W.alloc o).cell? a = some v := cell_kept h (World.grownBy_alloc W o none) (fun r e => by cases e)
theorem more_frozen {W : World} {a : Addr} {v : Value} (o : Obj) (h : W.cell? a = some v) (hf : W.frozen? a = false) : (W.alloc o).frozen? a = false := (frozen_kept h (World.grownBy_alloc W o none) (fun r e => by cases e)).trans hf

/-- What nat.Bits hands out: a closure over two cells: how many bits there are, and the limbs. -/
def BitsAt (w : World) (g3 g4 : Nat) (V : Int) (L : Nat) : Prop :=
  ∃ ao la ca xs, g3 < w.heap.size ∧ g4 < w.heap.size ∧ w.cell? ⟨g4, 0, none⟩ = some (.int .i64 L) ∧ w.cell? ⟨g3, 0, none⟩ = some (.slice ao la ca) ∧ NumIn .u64 B64 w ao la ca xs ∧ val B64 xs = V ∧ L ≤ 4480
theorem BitsAt.old {w w' : World} {g3 g4 : Nat} {V : Int} {L : Nat} (h : BitsAt w g3 g4 V L) (hb : Below w.heap.size w w') : BitsAt w' g3 g4 V L := by
  obtain ⟨ao, la, ca, xs, h1, h2, h3, h4, h5, h6, h7⟩ := h
  exact ⟨ao, la, ca, xs, Nat.lt_of_lt_of_le h1 hb.size, Nat.lt_of_lt_of_le h2 hb.size, (hb.cell (p := ⟨g4, 0, none⟩) h2).trans h3, (hb.cell (p := ⟨g3, 0, none⟩) h1).trans h4, h5.old hb, h6, h7⟩

end Go.Proofs.YtnckmcmobkpdcaaDoor
/-
  The iterator that nat.Bits hands out: what it yields.
-/
namespace Go.Proofs.YtnckmcmobkpdcaaDoor
open Go.RowKit Go.Shelf
set_option linter.unusedVariables false
set_option linter.unusedSimpArgs false
attribute [local go_sem] Oper.semAt_some

abbrev encB (p : Int × Bool) : Array Value := #[.int .i64 p.1, .bool p.2]
/-- A number's bits, from the greatest one on. -/
def bitOf (V : Int) (L i : Nat) : Int × Bool := (((L - 1 - i : Nat) : Int), bitAt V (L - 1 - i) == 1)
def bitsOf (V : Int) (L k : Nat) : List (Int × Bool) := (List.range k).map (bitOf V L)
theorem bitsOf_succ (V : Int) (L k : Nat) : bitsOf V L (k + 1) = bitsOf V L k ++ [bitOf V L k] := by simp [bitsOf, List.range_succ]
theorem bitsOf_len (V : Int) (L k : Nat) : (bitsOf V L k).length = k := by simp [bitsOf]
theorem bitsOf_pre (V : Int) (L k m : Nat) (h : k ≤ m) : bitsOf V L k <+: bitsOf V L m := by
  obtain ⟨d, rfl⟩ := Nat.le.dest h
  clear h
  induction d with
  | zero => exact List.prefix_refl _
  | succ d ih => rw [← Nat.add_assoc, bitsOf_succ]; exact ih.trans (List.prefix_append _ _)
theorem bitsOf_take (V : Int) (L : Nat) (pre : List (Int × Bool)) (x : Int × Bool) (h : pre ++ [x] <+: bitsOf V L L) : x = bitOf V L pre.length := by
  obtain ⟨t, ht⟩ := h
  have h1 : (bitsOf V L L)[pre.length]? = some x := by rw [← ht]; simp
  have h2 : pre.length < L := by
    have := congrArg List.length ht
    rw [bitsOf_len] at this
    simp at this
    omega
  rw [bitsOf, List.getElem?_map, List.getElem?_range h2] at h1
  simpa using h1.symm

end Go.Proofs.YtnckmcmobkpdcaaDoor
/-
  Plain mathematics below a modulus: the same up to multiples, powers by bits, the greatest common divisor, inverses by Euclid's steps. No program in sight.
-/
namespace Go.Proofs.YtnckmcmobkpdcaaDoor
set_option linter.unusedVariables false

/-- The same up to multiples of M. -/
def Cg (M a b : Int) : Prop := ∃ k, a - b = M * k
theorem Cg.refl (M a : Int) : Cg M a a := ⟨0, by simp⟩
theorem Cg.of_eq {M a b : Int} (h : a = b) : Cg M a b := h ▸ Cg.refl M a
theorem Cg.symm {M a b : Int} (h : Cg M a b) : Cg M b a := by obtain ⟨k, hk⟩ := h; exact ⟨-k, by grind⟩
theorem Cg.trans {M a b c : Int} (h : Cg M a b) (h' : Cg M b c) : Cg M a c := by obtain ⟨k, hk⟩ := h; obtain ⟨l, hl⟩ := h'; exact ⟨k + l, by grind⟩
theorem Cg.add {M a b c d : Int} (h : Cg M a b) (h' : Cg M c d) : Cg M (a + c) (b + d) := by obtain ⟨k, hk⟩ := h; obtain ⟨l, hl⟩ := h'; exact ⟨k + l, by grind⟩
theorem Cg.sub {M a b c d : Int} (h : Cg M a b) (h' : Cg M c d) : Cg M (a - c) (b - d) := by obtain ⟨k, hk⟩ := h; obtain ⟨l, hl⟩ := h'; exact ⟨k - l, by grind⟩
theorem Cg.mul {M a b c d : Int} (h : Cg M a b) (h' : Cg M c d) : Cg M (a * c) (b * d) := by
  obtain ⟨k, hk⟩ := h; obtain ⟨l, hl⟩ := h'
  exact ⟨a * l + k * d, by
    have e : a * c - b * d = a * (c - d) + (a - b) * d := by grind
    rw [e, hk, hl]; grind⟩
theorem Cg.neg {M a b : Int} (h : Cg M a b) : Cg M (-a) (-b) := by obtain ⟨k, hk⟩ := h; exact ⟨-k, by grind⟩
theorem Cg.pow {M a b : Int} (h : Cg M a b) : ∀ n : Nat, Cg M (a ^ n) (b ^ n)
  | 0 => by rw [Int.pow_zero, Int.pow_zero]; exact Cg.refl _ _
  | n + 1 => by rw [Int.pow_succ, Int.pow_succ]; exact (Cg.pow h n).mul h
theorem Cg.mod (M a : Int) : Cg M (a % M) a := ⟨-(a / M), by have := Int.emod_add_mul_ediv a M; grind⟩
theorem Cg.emod {M a b : Int} (h : Cg M a b) : a % M = b % M := by
  obtain ⟨k, hk⟩ := h
  rw [show a = b + M * k by omega, Int.add_mul_emod_self_left]
theorem Cg.eq {M a b : Int} (h : Cg M a b) (ha : 0 ≤ a) (ha' : a < M) (hb : 0 ≤ b) (hb' : b < M) : a = b := by
  have := h.emod
  rwa [Int.emod_eq_of_lt ha ha', Int.emod_eq_of_lt hb hb'] at this
theorem cg_of_emod {M a b : Int} (h : a % M = b % M) : Cg M a b := (Cg.mod M a).symm.trans (h ▸ Cg.mod M b)
theorem cg_mult (M a k : Int) : Cg M (a + k * M) a := ⟨k, by grind⟩

/-- The half of a number, and its last bit. -/
theorem half_step (V : Int) (p : Nat) : V / 2 ^ p = 2 * (V / 2 ^ (p + 1)) + V / 2 ^ p % 2 := by
  have hp : (0 : Int) < 2 ^ p := Int.pow_pos (by decide)
  rw [Int.pow_succ, ← Int.ediv_ediv_of_nonneg (by omega)]
  omega
/-- The power by the exponent's bits from p on. -/
def pws (X V : Int) (p : Nat) : Int := X ^ (V / 2 ^ p).toNat
theorem pws_zero (X V : Int) : pws X V 0 = X ^ V.toNat := by simp [pws]
theorem pws_top (X V : Int) (h0 : 0 ≤ V) (L : Nat) (h : V < 2 ^ L) : pws X V L = 1 := by
  unfold pws
  rw [Int.ediv_eq_zero_of_lt h0 h]; exact Int.pow_zero X
theorem pws_even (X V : Int) (h0 : 0 ≤ V) (p : Nat) (h : V / 2 ^ p % 2 = 0) : pws X V p = pws X V (p + 1) * pws X V (p + 1) := by
  have hp : (0 : Int) < 2 ^ (p + 1) := Int.pow_pos (by decide)
  have hq : 0 ≤ V / 2 ^ (p + 1) := Int.ediv_nonneg h0 (by omega)
  have hs := half_step V p
  unfold pws
  rw [← Int.pow_add]
  congr 1
  omega
theorem pws_odd (X V : Int) (h0 : 0 ≤ V) (p : Nat) (h : V / 2 ^ p % 2 = 1) : pws X V p = pws X V (p + 1) * pws X V (p + 1) * X := by
  have hp : (0 : Int) < 2 ^ (p + 1) := Int.pow_pos (by decide)
  have hq : 0 ≤ V / 2 ^ (p + 1) := Int.ediv_nonneg h0 (by omega)
  have hs := half_step V p
  unfold pws
  rw [← Int.pow_add, ← Int.pow_succ]
  congr 1
  omega

/-- The greatest common divisor. -/
def gd (a b : Int) : Int := (Nat.gcd a.toNat b.toNat : Nat)
theorem gd_step (a b : Int) (ha : 0 ≤ a) (hb : 0 ≤ b) : gd a b = gd b (a % b) := by
  unfold gd
  rw [Int.toNat_emod ha hb, Nat.gcd_comm a.toNat b.toNat, Nat.gcd_rec b.toNat a.toNat, Nat.gcd_comm]
theorem gd_zero (a : Int) (ha : 0 ≤ a) : gd a 0 = a := by unfold gd; simp; omega
theorem gd_dvd_left (a b : Int) (ha : 0 ≤ a) : ∃ k, a = gd a b * k := by
  obtain ⟨k, hk⟩ := Nat.gcd_dvd_left a.toNat b.toNat
  exact ⟨k, by unfold gd; rw [← Int.natCast_mul, ← hk]; omega⟩
theorem gd_dvd_right (a b : Int) (hb : 0 ≤ b) : ∃ k, b = gd a b * k := by
  obtain ⟨k, hk⟩ := Nat.gcd_dvd_right a.toNat b.toNat
  exact ⟨k, by unfold gd; rw [← Int.natCast_mul, ← hk]; omega⟩
theorem gd_nonneg (a b : Int) : 0 ≤ gd a b := by unfold gd; omega

/-- Between two of Euclid's steps: left, next, how often each; which of the two stands below 0. -/
def Euc (M A l n t m : Int) (b : Bool) : Prop :=
  0 < l ∧ l ≤ M ∧ 0 ≤ n ∧ n ≤ M ∧ 0 ≤ t ∧ t ≤ M ∧ 0 ≤ m ∧ m ≤ M ∧ t * n + m * l = M ∧ gd l n = gd M A ∧
    Cg M l (bif b then -(t * A) else t * A) ∧ Cg M n (bif b then m * A else -(m * A))
theorem Euc.start (M A : Int) (hM : 0 < M) (h0 : 0 ≤ A) (h1 : A < M) : Euc M A M A 0 1 true :=
  ⟨hM, by omega, h0, by omega, by omega, by omega, by omega, by omega, by omega, rfl, ⟨1, by simp⟩, Cg.of_eq (by simp)⟩
theorem Euc.step {M A l n t m : Int} {b : Bool} (h : Euc M A l n t m b) (hn : 0 < n) : Euc M A n (l % n) m (t + l / n * m) (!b) := by
  obtain ⟨h1, h2, h3, h4, h5, h6, h7, h8, h9, h10, h11, h12⟩ := h
  have r0 := Int.emod_nonneg l (show n ≠ 0 by omega)
  have r1 := Int.emod_lt_of_pos l hn
  have q0 : 0 ≤ l / n := Int.ediv_nonneg (by omega) (by omega)
  have hd := Int.emod_add_mul_ediv l n
  generalize l % n = r at *
  generalize l / n = q at *
  have m0 : 0 ≤ q * m := Int.mul_nonneg q0 h7
  have e : m * r + (t + q * m) * n = M := by rw [← h9, ← hd]; grind
  have p0 : 0 ≤ m * r := Int.mul_nonneg h7 r0
  have p1 : (t + q * m) * 1 ≤ (t + q * m) * n := Int.mul_le_mul_of_nonneg_left (by omega) (by omega)
  refine ⟨hn, h4, r0, by omega, h7, h8, by omega, by omega, e, ?_, ?_, ?_⟩
  · rw [← h10, gd_step l n (by omega) h3]
    congr 1
    rw [← hd, Int.add_mul_emod_self_left, Int.emod_eq_of_lt r0 r1]
  · cases b
    · exact h12
    · exact h12
  · have e2 : r = l - q * n := by rw [← hd]; grind
    rw [e2]
    have h13 := h11.sub ((Cg.refl M q).mul h12)
    cases b
    · exact h13.trans (Cg.of_eq (by simp only [cond_false, cond_true, Bool.not_false]; grind))
    · exact h13.trans (Cg.of_eq (by simp only [cond_false, cond_true, Bool.not_true]; grind))
theorem Euc.done {M A l t m : Int} {b : Bool} (h : Euc M A l 0 t m b) : l = gd M A ∧ Cg M (gd M A) (bif b then -(t * A) else t * A) := by
  obtain ⟨h1, h2, h3, h4, h5, h6, h7, h8, h9, h10, h11, h12⟩ := h
  rw [gd_zero l (by omega)] at h10
  exact ⟨h10, h10 ▸ h11⟩

/-- There is but one inverse. -/
theorem inv_one {M X i j : Int} (hi : Cg M (i * X) 1) (hj : Cg M (j * X) 1) : Cg M i j := by
  have a : Cg M (i * (j * X)) (i * 1) := (Cg.refl M i).mul hj
  have b : Cg M (j * (i * X)) (j * 1) := (Cg.refl M j).mul hi
  have e : i * (j * X) = j * (i * X) := by grind
  rw [e] at a
  exact (Cg.of_eq (by simp)).trans (a.symm.trans (b.trans (Cg.of_eq (by simp))))
/-- What has an inverse has no divisor above 1 together with the modulus. -/
theorem gd_of_inv {M A i : Int} (hM : 0 < M) (hA : 0 ≤ A) (h : Cg M (i * A) 1) : gd M A = 1 := by
  obtain ⟨k, hk⟩ := h
  obtain ⟨x, hx⟩ := gd_dvd_left M A (by omega)
  obtain ⟨y, hy⟩ := gd_dvd_right M A hA
  have h0 := gd_nonneg M A
  generalize gd M A = g at *
  have e : g * (i * y - x * k) = 1 := by
    have e1 : i * (g * y) - g * x * k = 1 := by rw [← hx, ← hy]; omega
    rw [← e1]; grind
  exact Int.eq_one_of_mul_eq_one_right h0 e
end Go.Proofs.YtnckmcmobkpdcaaDoor
/-
  Contracts of modular.Of, Add, Mul, Sub.
-/
namespace Go.Proofs.YtnckmcmobkpdcaaDoor
open Go.RowKit
set_option linter.unusedVariables false
set_option linter.unusedSimpArgs false

/-- A number that is no greater has no more digits. -/
theorem len_fit {B : Int} (hB : 1 < B) {xs ys : List Int} (hx : Dg B xs) (cx : Canon xs) (hy : Dg B ys) (h : val B xs ≤ val B ys) : xs.length ≤ ys.length := by
  have h1 := top_mono hB hx hy h
  have h2 := top_le ys
  unfold Canon at cx
  omega
theorem NumOut.fit {k : IntKind} {B : Int} {w w' : World} {v : Value} {n : Int} {L : Nat} (h : NumOut k B w w' v n L) (hB : 1 < B) {ys : List Int} (hy : Dg B ys) (hn : n ≤ val B ys) : NumOut k B w w' v n ys.length := by
  obtain ⟨ao, len, cap, xs, rfl, h1, h2, h3, h4, h5⟩ := h
  exact ⟨ao, len, cap, xs, rfl, h1, h2, h3, by rw [← h1.len]; exact len_fit hB h1.dg h2 hy (by omega), h5⟩
theorem NumOut.from {k : IntKind} {B : Int} {w0 w w' : World} {v : Value} {n : Int} {L : Nat} (h : NumOut k B w w' v n L) (hb : Below w0.heap.size w0 w) : NumOut k B w0 w' v n L := by
  obtain ⟨ao, len, cap, xs, rfl, h1, h2, h3, h4, h5⟩ := h
  exact ⟨ao, len, cap, xs, rfl, h1, h2, h3, h4, hb.trans (h5.mono hb.size)⟩
theorem mod_range (x m : Int) (hm : 0 ≤ m) (h0 : m ≠ 0) : 0 ≤ x % m ∧ x % m < m := ⟨Int.emod_nonneg x h0, Int.emod_lt_of_pos x (by omega)⟩

theorem sub_mod (a b m : Int) (h0 : 0 < m) : (a % m < b % m → a % m + m - b % m = (a - b) % m) ∧ (b % m ≤ a % m → a % m - b % m = (a - b) % m) := by
  have ra := mod_range a m (by omega) (by omega)
  have rb := mod_range b m (by omega) (by omega)
  have rc := mod_range (a - b) m (by omega) (by omega)
  have h1 : Cg m (a % m - b % m) ((a - b) % m) := ((Cg.mod m a).sub (Cg.mod m b)).trans (Cg.mod m (a - b)).symm
  refine ⟨fun hl => ?_, fun hl => ?_⟩
  · refine Cg.eq (M := m) ?_ (by omega) (by omega) rc.1 rc.2
    exact (show Cg m (a % m + m - b % m) (a % m - b % m) from ⟨1, by omega⟩).trans h1
  · exact h1.eq (by omega) (by omega) rc.1 rc.2

end Go.Proofs.YtnckmcmobkpdcaaDoor
/-
  Contracts of modular.euclid, Inv.
-/
namespace Go.Proofs.YtnckmcmobkpdcaaDoor
open Go.RowKit
set_option linter.unusedVariables false
set_option linter.unusedSimpArgs false

/-- The value v is that number, of at most L digits. -/
def Nm (k : IntKind) (B : Int) (w : World) (v : Value) (n : Int) (L : Nat) : Prop :=
  ∃ ao len cap xs, v = .slice ao len cap ∧ NumIn k B w ao len cap xs ∧ val B xs = n ∧ len ≤ L
theorem Nm.old {k : IntKind} {B : Int} {w w' : World} {v : Value} {n : Int} {L : Nat} (h : Nm k B w v n L) (hb : Below w.heap.size w w') : Nm k B w' v n L := by
  obtain ⟨ao, len, cap, xs, rfl, h1, h2, h3⟩ := h
  exact ⟨ao, len, cap, xs, rfl, h1.old hb, h2, h3⟩
theorem NumOut.nm {k : IntKind} {B : Int} {w w' : World} {v : Value} {n : Int} {L : Nat} (h : NumOut k B w w' v n L) : Nm k B w' v n L := by
  obtain ⟨ao, len, cap, xs, rfl, h1, h2, h3, h4, h5⟩ := h
  exact ⟨ao, len, cap, xs, rfl, h1, h3, h4⟩
theorem NumOut.bl {k : IntKind} {B : Int} {w w' : World} {v : Value} {n : Int} {L : Nat} (h : NumOut k B w w' v n L) : Below w.heap.size w w' := by
  obtain ⟨ao, len, cap, xs, rfl, h1, h2, h3, h4, h5⟩ := h
  exact h5
/-- The number that a slice says, read off the world. -/
def nval (B : Int) (w : World) (v : Value) : Nat :=
  match v with
  | .slice (some ⟨b, off, _⟩) len _ => (val B ((List.range len).map fun i => intOf ((w.cell? ⟨b, off + i, none⟩).getD undef))).toNat
  | _ => 0
theorem Nm.nval {k : IntKind} {B : Int} {w : World} {v : Value} {n : Int} {L : Nat} (h : Nm k B w v n L) : nval B w v = n.toNat := by
  obtain ⟨ao, len, cap, xs, rfl, h1, rfl, h3⟩ := h
  rcases h1.lies.2 with h0 | ⟨b, off, rfl, _, hc⟩
  · have hx : xs = [] := List.eq_nil_of_length_eq_zero (by rw [h1.len]; exact h0)
    subst hx; subst h0
    cases ao <;> simp [Go.Proofs.YtnckmcmobkpdcaaDoor.nval, val]
  · have e : ((List.range len).map fun i => intOf ((w.cell? ⟨b, off + i, none⟩).getD undef)) = xs := by
      apply List.ext_getElem
      · simp [h1.len]
      · intro i g1 g2
        simp only [List.getElem_map, List.getElem_range]
        rw [hc i (by simpa using g1)]
        simp [intOf, List.getD, g2]
    simp only [Go.Proofs.YtnckmcmobkpdcaaDoor.nval]
    rw [e]
theorem lenOf_zero {xs : List Int} (hd : Dg B64 xs) (h : val B64 xs = 0) : lenOf xs = 0 := by rw [lenOf_eq xs hd, h]; rfl
theorem lenOf_pos {xs : List Int} (hd : Dg B64 xs) (h : 0 < val B64 xs) : 0 < lenOf xs := by rw [lenOf_eq xs hd]; exact blen_pos _ (by omega)
theorem lenOf_le {xs : List Int} (hd : Dg B64 xs) (n : Nat) (hn : xs.length ≤ n) : lenOf xs ≤ 64 * n := by
  rw [lenOf_eq xs hd]
  refine blen_le _ _ ?_
  have h0 := val_nonneg B64_pos hd
  have h1 := val_lt B64_pos hd
  have h2 := pow_mono (B := B64) (by decide) hn
  have e : B64 ^ n = ((2 ^ (64 * n) : Nat) : Int) := by
    rw [Nat.pow_mul, Int.natCast_pow]; rfl
  omega

end Go.Proofs.YtnckmcmobkpdcaaDoor
/-
  Cells of the call's own beside numbers; powers bit by bit.
-/
namespace Go.Proofs.YtnckmcmobkpdcaaDoor
open Go.RowKit Go.Shelf
set_option linter.unusedVariables false
set_option linter.unusedSimpArgs false
attribute [local go_sem] Oper.semAt_some

/-- A cell of the call's own, with what it holds. -/
def Kc (W : World) (b : Nat) (v : Value) : Prop := W.cell? ⟨b, 0, none⟩ = some v ∧ W.frozen? ⟨b, 0, none⟩ = false
theorem Kc.lt {W : World} {b : Nat} {v : Value} (h : Kc W b v) : b < W.heap.size := World.block_lt_of_cell? W ⟨b, 0, none⟩ h.1
theorem Kc.kept {W W' : World} {b : Nat} {v : Value} {row : Option Nat} (h : Kc W b v) (hg : W.grownBy W' row) (hr : ∀ r, row = some r → ∃ o : Obj, W.heap[r]? = some o ∧ o.isCells = false) : Kc W' b v :=
  ⟨cell_kept h.1 hg hr, (frozen_kept h.1 hg hr).trans h.2⟩
theorem Kc.new (W : World) (v : Value) (t : TypeId) (b : Nat) (hb : b = W.heap.size) : Kc (W.alloc (.cells #[v] t)) b v := by subst hb; exact new_cell W v t
theorem Kc.alloc {W : World} {b : Nat} {v : Value} (h : Kc W b v) (o : Obj) : Kc (W.alloc o) b v := ⟨more_cell o h.1, more_frozen o h.1 h.2⟩
theorem Kc.set {W : World} {b : Nat} {v : Value} (h : Kc W b v) (u : Value) : Kc (W.setCell ⟨b, 0, none⟩ u) b u := ⟨World.cell?_setCell_same _ _ _ h.1, by rw [World.frozen?_setCell]; exact h.2⟩
theorem Kc.other {W : World} {b c : Nat} {v : Value} (h : Kc W b v) (hne : c ≠ b) (u : Value) : Kc (W.setCell ⟨c, 0, none⟩ u) b v := ⟨(World.cell?_setCell_other _ _ _ _ (by intro e; injection e with e; exact hne e)).trans h.1, by rw [World.frozen?_setCell]; exact h.2⟩
theorem Kc.old {W W' : World} {b : Nat} {v : Value} (h : Kc W b v) (hb : Below W.heap.size W W') : Kc W' b v :=
  ⟨(hb.cell (p := ⟨b, 0, none⟩) h.lt).trans h.1, (hb.frozen (p := ⟨b, 0, none⟩) h.lt).trans h.2⟩
/-- Two cells that hold other things are two. -/
theorem Kc.ne {W : World} {b c : Nat} {u v : Value} (h : Kc W b u) (h' : Kc W c v) (hne : u ≠ v) : b ≠ c := fun e => hne (by
  subst e
  have := h.1.symm.trans h'.1
  exact Option.some.inj this)

theorem NumIn.keptc {k : IntKind} {B : Int} {W W' : World} {ao : Option Addr} {len cap : Nat} {xs : List Int} (h : NumIn k B W ao len cap xs) {row : Option Nat} (hg : W.grownBy W' row) (hr : ∀ r, row = some r → ∃ o : Obj, W.heap[r]? = some o ∧ o.isCells = false) : NumIn k B W' ao len cap xs := by
  refine ⟨⟨h.len, ?_⟩, h.lc, h.cm, h.nn, h.dg, h.sm⟩
  by_cases h0 : len = 0
  · exact .inl h0
  · obtain ⟨b, off, e, hlt, hc⟩ := h.lies.at (by omega)
    have hc0 := cell_kept (hc 0 (by omega)) hg hr
    exact .inr ⟨b, off, e, World.block_lt_of_cell? W' ⟨b, off + 0, none⟩ hc0, fun i hi => cell_kept (hc i hi) hg hr⟩
/-- A store into a cell that holds a slice leaves numbers alone. -/
theorem NumIn.setSlice {k : IntKind} {B : Int} {W : World} {ao : Option Addr} {len cap : Nat} {xs : List Int} (h : NumIn k B W ao len cap xs) {b : Nat} {a : Option Addr} {l c : Nat} (hk : Kc W b (.slice a l c)) (u : Value) : NumIn k B (W.setCell ⟨b, 0, none⟩ u) ao len cap xs := by
  refine ⟨⟨h.len, ?_⟩, h.lc, h.cm, h.nn, h.dg, h.sm⟩
  by_cases h0 : len = 0
  · exact .inl h0
  · obtain ⟨b', off, e, hlt, hc⟩ := h.lies.at (by omega)
    refine .inr ⟨b', off, e, by rw [World.size_setCell]; exact hlt, fun i hi => ?_⟩
    refine (World.cell?_setCell_other _ _ _ _ ?_).trans (hc i hi)
    intro e2
    have h1 := hc i hi
    rw [← e2] at h1
    have h2 := hk.1.symm.trans h1
    cases h2
theorem KeepsOthers.of_below {W W' : World} (hb : Below W.heap.size W W') : KeepsOthers W W' :=
  ⟨hb.size, fun j o hj _ => (hb.block j (Array.getElem?_eq_some_iff.1 hj).1).trans hj⟩

theorem BitsAt.keptc {W W' : World} {g3 g4 : Nat} {V : Int} {L : Nat} (h : BitsAt W g3 g4 V L) {row : Option Nat} (hg : W.grownBy W' row) (hr : ∀ r, row = some r → ∃ o : Obj, W.heap[r]? = some o ∧ o.isCells = false) : BitsAt W' g3 g4 V L := by
  obtain ⟨ao, la, ca, xs, h1, h2, h3, h4, h5, h6, h7⟩ := h
  have c4 := cell_kept h3 hg hr
  have c3 := cell_kept h4 hg hr
  exact ⟨ao, la, ca, xs, World.block_lt_of_cell? W' _ c3, World.block_lt_of_cell? W' _ c4, c4, c3, h5.keptc hg hr, h6, h7⟩
theorem BitsAt.setSlice {W : World} {g3 g4 : Nat} {V : Int} {L : Nat} (h : BitsAt W g3 g4 V L) {b : Nat} {a : Option Addr} {l c : Nat} (hk : Kc W b (.slice a l c)) (hne : b ≠ g3) (u : Value) : BitsAt (W.setCell ⟨b, 0, none⟩ u) g3 g4 V L := by
  obtain ⟨ao, la, ca, xs, h1, h2, h3, h4, h5, h6, h7⟩ := h
  have hne4 : b ≠ g4 := fun e => by
    subst e
    have := hk.1.symm.trans h3
    cases this
  refine ⟨ao, la, ca, xs, by rw [World.size_setCell]; exact h1, by rw [World.size_setCell]; exact h2, ?_, ?_, h5.setSlice hk u, h6, h7⟩
  · exact (World.cell?_setCell_other _ _ _ _ (by intro e; injection e with e; exact hne4 e)).trans h3
  · exact (World.cell?_setCell_other _ _ _ _ (by intro e; injection e with e; exact hne e)).trans h4

/-- The power that the bits that have come give. -/
def pstep (M X : Int) (p : Int) (x : Int × Bool) : Int := bif x.2 then p * p % M * X % M else p * p % M
def pfold (M X : Int) (pre : List (Int × Bool)) : Int := pre.foldl (pstep M X) (1 % M)
theorem pfold_nil (M X : Int) : pfold M X [] = 1 % M := rfl
theorem pfold_snoc (M X : Int) (pre : List (Int × Bool)) (x : Int × Bool) : pfold M X (pre ++ [x]) = pstep M X (pfold M X pre) x := by simp [pfold]
theorem pfold_cg (M X V : Int) (h0 : 0 ≤ V) (L : Nat) (hL : V < 2 ^ L) : ∀ k, k ≤ L → Cg M (pfold M (X % M) (bitsOf V L k)) (pws X V (L - k))
  | 0, _ => by
    rw [Nat.sub_zero, pws_top X V h0 L hL]
    exact Cg.mod M 1
  | k + 1, hk => by
    have ih := pfold_cg M X V h0 L hL k (by omega)
    rw [bitsOf_succ, pfold_snoc]
    have e : L - k = (L - (k + 1)) + 1 := by omega
    have e2 : L - 1 - k = L - (k + 1) := by omega
    rw [e] at ih
    have sq := (Cg.mod M _).trans (ih.mul ih)
    unfold pstep bitOf
    rw [e2]
    simp only
    rcases bitAt_01 V (L - (k + 1)) with hb | hb
    · rw [hb, pws_even X V h0 _ hb]
      exact sq
    · rw [hb, pws_odd X V h0 _ hb]
      exact (Cg.mod M _).trans (sq.mul (Cg.mod M X))
theorem pfold_all (M X V : Int) (h0 : 0 ≤ V) (hM : 0 < M) (L : Nat) (hL : V < 2 ^ L) (h : ∀ ys, 0 ≤ pfold M (X % M) ys ∧ pfold M (X % M) ys < M) : pfold M (X % M) (bitsOf V L L) = X ^ V.toNat % M := by
  have hc := pfold_cg M X V h0 L hL L (Nat.le_refl _)
  rw [Nat.sub_self, pws_zero] at hc
  have r := h (bitsOf V L L)
  rw [← hc.emod, Int.emod_eq_of_lt r.1 r.2]
theorem pfold_range (M X : Int) (hM : 0 < M) (ys : List (Int × Bool)) : 0 ≤ pfold M X ys ∧ pfold M X ys < M := by
  have h : ∀ (l : List (Int × Bool)) (p : Int), 0 ≤ p ∧ p < M → 0 ≤ l.foldl (pstep M X) p ∧ l.foldl (pstep M X) p < M := by
    intro l
    induction l with
    | nil => intro p hp; exact hp
    | cons x l ih =>
      intro p hp
      refine ih _ ?_
      unfold pstep
      cases x.2
      · exact mod_range _ _ (by omega) (by omega)
      · exact mod_range _ _ (by omega) (by omega)
  exact h ys _ (mod_range _ _ (by omega) (by omega))
end Go.Proofs.YtnckmcmobkpdcaaDoor
/-
  Contract of modular.Pow.
-/
namespace Go.Proofs.YtnckmcmobkpdcaaDoor
open Go.RowKit Go.Shelf
set_option linter.unusedVariables false
set_option linter.unusedSimpArgs false
attribute [local go_sem] Oper.semAt_some

/-- Between two rounds: the modulus, the base and the power in their cells. -/
def PGo (w : World) (g5 g8 g : Nat) (mo : Option Addr) (lm cm : Nat) (ms : List Int) (a1 : Option Addr) (l1 c1 : Nat) (zs : List Int) (M X : Int) (pre : List (Int × Bool)) (W : World) : Prop :=
  (Kc W g5 (.slice mo lm cm) ∧ Kc W g8 (.slice a1 l1 c1) ∧ NumIn .u64 B64 W a1 l1 c1 zs ∧ ∃ a l c xs, Kc W g (.slice a l c) ∧ NumIn .u64 B64 W a l c xs ∧ Canon xs ∧ val B64 xs = pfold M X pre ∧ l ≤ lm) ∧ Below w.heap.size w W
theorem PGo.kept {w : World} {g5 g8 g : Nat} {mo : Option Addr} {lm cm : Nat} {ms : List Int} {a1 : Option Addr} {l1 c1 : Nat} {zs : List Int} {M X : Int} {B : Nat} (hB : w.heap.size ≤ B) : OwnFrom B (PGo w g5 g8 g mo lm cm ms a1 l1 c1 zs M X) := by
  rintro pre A A' row ⟨⟨h1, h2, h3, a, l, c, xs, h4, h5, h6⟩, h7⟩ hg hr
  have hr2 := fun r e => (hr r e).2
  exact ⟨⟨h1.kept hg hr2, h2.kept hg hr2, h3.keptc hg hr2, a, l, c, xs, h4.kept hg hr2, h5.keptc hg hr2, h6⟩, ownFrom_below (β := Unit) (Nat.le_refl _) hB () A A' row h7 hg hr⟩

theorem wpIn_noPanic {F : Fence} {n : Nat} {P : Program} {c : Code} {Q : Exit → Act → World → Prop} {a : Act} {w : World} (h : c.wpIn F n P (NoPanic Q) a w) : c.wpIn F n P Q a w :=
  Code.wpIn_mono NoPanic.imp h

end Go.Proofs.YtnckmcmobkpdcaaDoor
/-
  The code's field: sums, differences, products, quotients of numbers in memory.
-/
namespace Go.Proofs.YtnckmcmobkpdcaaDoor
open Go.Shelf Go.RowKit
set_option linter.unusedVariables false
set_option linter.unusedSimpArgs false

/-- A value that is a number in memory. -/
def Nv (w : World) (v : Value) (n : Int) (L : Nat) : Prop := ∃ ao len cap xs, v = .slice ao len cap ∧ NumIn .u64 B64 w ao len cap xs ∧ val B64 xs = n ∧ len ≤ L
theorem Nv.old {w w' : World} {v : Value} {n : Int} {L : Nat} (h : Nv w v n L) (hb : Below w.heap.size w w') : Nv w' v n L := by
  obtain ⟨ao, len, cap, xs, e, h1, h2, h3⟩ := h
  exact ⟨ao, len, cap, xs, e, h1.old hb, h2, h3⟩
theorem Nv.up {w : World} {v : Value} {n : Int} {L L' : Nat} (h : Nv w v n L) (hl : L ≤ L') : Nv w v n L' := by
  obtain ⟨ao, len, cap, xs, e, h1, h2, h3⟩ := h
  exact ⟨ao, len, cap, xs, e, h1, h2, by omega⟩
theorem Nv.nonneg {w : World} {v : Value} {n : Int} {L : Nat} (h : Nv w v n L) : 0 ≤ n := by
  obtain ⟨ao, len, cap, xs, e, h1, h2, h3⟩ := h
  rw [← h2]
  exact val_nonneg B64_pos h1.dg
/-- A number that was answered. -/
def Na (w w' : World) (v : Value) (n : Int) (L : Nat) : Prop := Nv w' v n L ∧ Below w.heap.size w w'
theorem NumOut.na {w w' : World} {v : Value} {n : Int} {L : Nat} (h : NumOut .u64 B64 w w' v n L) : Na w w' v n L := by
  obtain ⟨ao, len, cap, xs, e, h1, _, h2, h3, h4⟩ := h
  exact ⟨⟨ao, len, cap, xs, e, h1, h2, h3⟩, h4⟩
theorem alloc_sz7 (w : World) (o : Obj) : (w.alloc o).heap.size = w.heap.size + 1 := by
  show (w.heap.push o).size = _
  simp
theorem box_cell (w : World) (v : Value) (t : TypeId) : (w.alloc (.cells #[v] t)).cell? ⟨w.heap.size, 0, none⟩ = some v := by
  rw [cell_of_row _ _ _ _ _ _ (heap_alloc_new w _)]
  rfl
theorem box_keep {w W : World} {v : Value} {t : TypeId} (hb : Below (w.alloc (.cells #[v] t)).heap.size (w.alloc (.cells #[v] t)) W) : W.cell? ⟨w.heap.size, 0, none⟩ = some v := (hb.cell (p := ⟨w.heap.size, 0, none⟩) (by rw [alloc_sz7]; show w.heap.size < _; omega)).trans (box_cell w v t)
theorem drew7 (w : World) : ∀ k, Below w.heap.size w (w.drewN k)
  | 0 => Below.refl _ _
  | k + 1 => (drew7 w k).drew
/-- A curve's numbers; a point's. -/
structure Cz where
  p : Int
  a : Int
  b : Int
  gx : Int
  gy : Int
  n : Int
structure Pz where
  x : Int
  y : Int
  inf : Bool
/-- A curve in memory. -/
def Cu (w : World) (c : Value) (K : Cz) (L : Nat) : Prop := ∃ (g1 g2 : Int) (oo : Option Addr) (lo co : Nat) (vp va vb vx vy vn : Value), c = .agg #[.int .i64 g1, .int .i64 g2, .slice oo lo co, vp, va, vb, vx, vy, vn] ∧ Nv w vp K.p L ∧ Nv w va K.a L ∧ Nv w vb K.b L ∧ Nv w vx K.gx L ∧ Nv w vy K.gy L ∧ Nv w vn K.n L
/-- A point in memory. -/
def Pv (w : World) (c : Value) (p : Pz) (L : Nat) : Prop := ∃ vx vy, c = .agg #[vx, vy, .bool p.inf] ∧ Nv w vx p.x L ∧ Nv w vy p.y L
theorem Cu.old {w w' : World} {c : Value} {K : Cz} {L : Nat} (h : Cu w c K L) (hb : Below w.heap.size w w') : Cu w' c K L := by
  obtain ⟨g1, g2, oo, lo, co, vp, va, vb, vx, vy, vn, e, h1, h2, h3, h4, h5, h6⟩ := h
  exact ⟨g1, g2, oo, lo, co, vp, va, vb, vx, vy, vn, e, h1.old hb, h2.old hb, h3.old hb, h4.old hb, h5.old hb, h6.old hb⟩
theorem Pv.old {w w' : World} {c : Value} {p : Pz} {L : Nat} (h : Pv w c p L) (hb : Below w.heap.size w w') : Pv w' c p L := by
  obtain ⟨vx, vy, e, h1, h2⟩ := h
  exact ⟨vx, vy, e, h1.old hb, h2.old hb⟩
theorem Pv.up {w : World} {c : Value} {p : Pz} {L L' : Nat} (h : Pv w c p L) (hl : L ≤ L') : Pv w c p L' := by
  obtain ⟨vx, vy, e, h1, h2⟩ := h
  exact ⟨vx, vy, e, h1.up hl, h2.up hl⟩
theorem heap_new {w : World} {o : Obj} {k : Nat} {x : Option Obj} (h : w.heap[k]? = x) (hx : k < w.heap.size) : (w.alloc o).heap[k]? = x := by
  rw [← h]
  exact heap_alloc_old _ _ hx
/-- What is divided by what. -/
def riseZ (K : Cz) (p q : Pz) : Int := if (q.x - p.x) % K.p ≠ 0 then (q.y - p.y) % K.p else ((3 * ((p.x * p.x) % K.p)) % K.p + K.a) % K.p
def runZ (K : Cz) (p q : Pz) : Int := if (q.x - p.x) % K.p ≠ 0 then (q.x - p.x) % K.p else (p.y + q.y) % K.p
end Go.Proofs.YtnckmcmobkpdcaaDoor
/-
  A region that draws its order and makes memory: facts, one an operation, told once for all orders. No program in sight.
-/
namespace Go.Proofs.YtnckmcmobkpdcaaDoor
open Go.Shelf Go.RowKit
set_option linter.unusedVariables false
set_option linter.unusedSimpArgs false

/-- Where operation i puts what it yields. -/
def dstOf (ops : Array Oper) (i : Nat) : Nat := ((ops[i]?).bind (·.dst)).getD 0
def depsOf (ops : Array Oper) (i : Nat) : List Nat := ((ops[i]?).map (fun o => o.after.toList.map (·.on))).getD []
def reachL (ops : Array Oper) : Nat → List Nat → List Nat
  | 0, S => S
  | n + 1, S => reachL ops n (S ++ S.flatMap (depsOf ops))
/-- What is asked of the text of such a region: of the operations below m, and of those behind. -/
def opOk (md : Region.Mode) (ops : Array Oper) (i : Nat) : Bool :=
  match ops[i]? with
  | some o => o.dst.isSome && o.guard.isNone && o.after.all (fun e => Region.binds md e && decide (e.on < i))
  | none => false
def lateOk (md : Region.Mode) (ops : Array Oper) (m n i : Nat) : Bool :=
  match ops[i]? with
  | some o => o.after.all (fun e => Region.binds md e) && (o.after.any (fun e => decide (m ≤ e.on)) || (List.range m).all (fun j => (reachL ops n (depsOf ops i)).contains j))
  | none => false
def factsOk (md : Region.Mode) (ops : Array Oper) (m n : Nat) : Bool :=
  decide (m ≤ ops.size) && (List.range m).all (opOk md ops) && (List.range m).all (fun i => (List.range m).all fun j => decide (i = j) || !(dstOf ops i == dstOf ops j)) && (List.range ops.size).all (fun i => decide (i < m) || lateOk md ops m n i)
theorem put_get (a : Act) (d s : Nat) (v : Value) (h : d ≠ s) : (a.put (some d) v).tmps.getD s undef = a.tmps.getD s undef := by
  simp only [Act.put, Array.getD_eq_getD_getElem?]
  rw [Array.getElem?_setIfInBounds_ne h]
theorem put_self (a : Act) (d : Nat) (v : Value) (h : d < a.tmps.size) : (a.put (some d) v).tmps.getD d undef = v := by
  simp only [Act.put, Array.getD_eq_getD_getElem?]
  rw [Array.getElem?_setIfInBounds_self_of_lt h]
  rfl
section
variable {P : Program} {ops : Array Oper} {Q : Exit → Act → World → Prop} {md : Region.Mode}
theorem reach_sound {T : Nat → Prop} (dc : ∀ i, T i → ∀ j ∈ depsOf ops i, T j) : ∀ (n : Nat) (S : List Nat), (∀ i ∈ S, T i) → ∀ i ∈ reachL ops n S, T i
  | 0, S, h, i, hi => h i hi
  | n + 1, S, h, i, hi => by
    refine reach_sound dc n _ ?_ i hi
    intro j hj
    rcases List.mem_append.1 hj with hj | hj
    · exact h j hj
    · obtain ⟨k, hk, hj⟩ := List.mem_flatMap.1 hj
      exact dc k (h k hk) j hj
/-- What holds while operations below m have come, those that are listed. -/
structure FInv (ops : Array Oper) (m : Nat) (F : Nat → Value → World → Prop) (a0 : Act) (w0 : World) (listed : Array Bool) (a : Act) (w : World) : Prop where
  size : listed.size = ops.size
  defers : a.defers = a0.defers
  slots : a.tmps.size = a0.tmps.size
  old : ∀ s, (∀ j, j < m → dstOf ops j ≠ s) → a.tmps.getD s undef = a0.tmps.getD s undef
  below : Below w0.heap.size w0 w
  facts : ∀ i, i < m → listed.getD i false = true → F i (a.tmps.getD (dstOf ops i) undef) w
  none : ∀ i, m ≤ i → listed.getD i false = false
  down : ∀ i, i < m → listed.getD i false = true → ∀ j ∈ depsOf ops i, listed.getD j false = true
theorem lget_set (l : Array Bool) (i j : Nat) (hi : i < l.size) : (l.setIfInBounds i true).getD j false = if i = j then true else l.getD j false := by
  simp only [Array.getD_eq_getD_getElem?]
  by_cases h : i = j
  · subst h
    rw [if_pos rfl, Array.getElem?_setIfInBounds_self_of_lt hi]
    rfl
  · rw [if_neg h, Array.getElem?_setIfInBounds_ne h]
theorem ready_mem {listed : Array Bool} {i : Nat} (h : i ∈ Region.ready md ops listed) : i < ops.size ∧ listed.getD i true = false ∧ ∃ o, ops[i]? = some o ∧ ∀ e ∈ o.after, Region.binds md e = true → listed.getD e.on false = true := by
  unfold Region.ready at h
  rw [List.mem_filter, List.mem_range] at h
  obtain ⟨h1, h2⟩ := h
  rw [Bool.and_eq_true] at h2
  obtain ⟨h2, h3⟩ := h2
  refine ⟨h1, by simpa using h2, ops[i], Array.getElem?_eq_getElem h1, ?_⟩
  rw [Array.getElem?_eq_getElem h1] at h3
  simp only [Option.map_some, Option.getD_some] at h3
  intro e he hb
  rw [Array.all_eq_true'] at h3
  have := h3 e he
  rw [hb] at this
  simpa using this
/-- How many of the first m have not come. -/
def unl (m : Nat) (listed : Array Bool) : Nat := ((List.range m).filter (fun j => !listed.getD j false)).length
theorem filter_drop (l : List Nat) (p q : Nat → Bool) (i : Nat) (hn : l.Nodup) (hi : i ∈ l) (hp : p i = true) (hq : ∀ j, q j = if i = j then false else p j) : (l.filter q).length + 1 = (l.filter p).length := by
  induction l with
  | nil => cases hi
  | cons x l ih =>
    rw [List.nodup_cons] at hn
    by_cases hx : x = i
    · subst hx
      have hqx : q x = false := by rw [hq, if_pos rfl]
      rw [List.filter_cons, List.filter_cons, hqx, hp]
      simp only [if_true, List.length_cons]
      have : l.filter q = l.filter p := by
        apply List.filter_congr
        intro j hj
        rw [hq, if_neg (by rintro rfl; exact hn.1 hj)]
      simp [this]
    · have hi' : i ∈ l := by
        rcases List.mem_cons.1 hi with h | h
        · exact absurd h.symm hx
        · exact h
      have hqx : q x = p x := by rw [hq, if_neg (fun h => hx h.symm)]
      rw [List.filter_cons, List.filter_cons, hqx]
      have := ih hn.2 hi'
      by_cases hpx : p x = true
      · rw [if_pos hpx, if_pos hpx, List.length_cons, List.length_cons]; omega
      · rw [if_neg hpx, if_neg hpx]; exact this
theorem unl_set (m : Nat) (listed : Array Bool) (i : Nat) (hi : i < m) (hs : i < listed.size) (h : listed.getD i false = false) : unl m (listed.setIfInBounds i true) + 1 = unl m listed := by
  unfold unl
  apply filter_drop (i := i)
  · exact List.nodup_range
  · exact List.mem_range.2 hi
  · rw [h]; rfl
  · intro j
    rw [lget_set _ _ _ hs]
    by_cases hj : i = j
    · rw [if_pos hj, if_pos hj]; rfl
    · rw [if_neg hj, if_neg hj]
theorem getD_or (l : Array Bool) (i : Nat) (hi : i < l.size) : l.getD i true = l.getD i false := by
  simp only [Array.getD_eq_getD_getElem?]
  rw [Array.getElem?_eq_getElem hi]
  rfl
/-- The rule. -/
theorem wpAny_facts (m n : Nat) (F : Nat → Value → World → Prop) (a0 : Act) (w0 : World) (hok : factsOk md ops m n = true) (hsl : ∀ i, i < m → dstOf ops i < a0.tmps.size)
    (keep : ∀ i v w w', i < m → F i v w → Below w.heap.size w w' → F i v w')
    (step : ∀ i o, i < m → ops[i]? = some o → ∀ a w, a.defers = a0.defers → a.tmps.size = a0.tmps.size → Below w0.heap.size w0 w → (∀ s, (∀ j, j < m → dstOf ops j ≠ s) → a.tmps.getD s undef = a0.tmps.getD s undef) → (∀ j ∈ depsOf ops i, F j (a.tmps.getD (dstOf ops j) undef) w) →
      ∀ KK : Act → World → Prop, (∀ v w', Below w.heap.size w w' → F i v w' → KK (a.put o.dst v) w') → o.wp P a w KK Q)
    (rest : ∀ listed a w, FInv ops m F a0 w0 listed a w → (∀ i, i < m → listed.getD i false = true) → wpAny P md ops Q (ops.size - m) listed a w) :
    ∀ k listed a w, FInv ops m F a0 w0 listed a w → unl m listed = k → wpAny P md ops Q (k + (ops.size - m)) listed a w
  | 0, listed, a, w, h, hk => by
    rw [Nat.zero_add]
    refine rest listed a w h fun i hi => ?_
    have h1 : (List.range m).filter (fun j => !listed.getD j false) = [] := List.length_eq_zero_iff.1 hk
    rw [List.filter_eq_nil_iff] at h1
    have := h1 i (List.mem_range.2 hi)
    simpa using this
  | k + 1, listed, a, w, h, hk => by
    unfold factsOk at hok
    simp only [Bool.and_eq_true, decide_eq_true_eq, List.all_eq_true, List.mem_range, Bool.or_eq_true] at hok
    obtain ⟨⟨⟨hm, h1⟩, h2⟩, h3⟩ := hok
    have hop : ∀ i, i < m → ∃ o, ops[i]? = some o ∧ o.dst = some (dstOf ops i) ∧ o.guard = none ∧ ∀ e ∈ o.after, Region.binds md e = true ∧ e.on < i := by
      intro i hi
      have h4 := h1 i hi
      unfold opOk at h4
      rw [Array.getElem?_eq_getElem (show i < ops.size by omega)] at h4
      simp only [Bool.and_eq_true, Array.all_eq_true', decide_eq_true_eq] at h4
      refine ⟨_, Array.getElem?_eq_getElem (show i < ops.size by omega), ?_, ?_, h4.2⟩
      · unfold dstOf
        rw [Array.getElem?_eq_getElem (show i < ops.size by omega)]
        have := h4.1.1
        show (ops[i]).dst = some (((ops[i]).dst).getD 0)
        revert this
        cases (ops[i]).dst with
        | none => intro h; cases h
        | some d => intro _; rfl
      · have := h4.1.2
        revert this
        cases (ops[i]).guard with
        | none => intro _; rfl
        | some d => intro h; cases h
    have hdep : ∀ i o, ops[i]? = some o → ∀ j, j ∈ depsOf ops i ↔ ∃ e ∈ o.after, e.on = j := by
      intro i o ho j
      unfold depsOf
      rw [ho]
      simp
    -- one of them has not come
    obtain ⟨u, hu, hun, hul⟩ : ∃ u, u < m ∧ listed.getD u false = false ∧ ∀ v, v < u → listed.getD v false = true := by
      have hex : ∃ u, u < m ∧ listed.getD u false = false := by
        have h4 : 0 < unl m listed := by omega
        obtain ⟨x, hx⟩ := List.exists_mem_of_length_pos h4
        rw [List.mem_filter, List.mem_range] at hx
        exact ⟨x, hx.1, by simpa using hx.2⟩
      obtain ⟨u, hu⟩ := hex
      induction u using Nat.strongRecOn with
      | ind u ih =>
        by_cases hv : ∃ v, v < u ∧ listed.getD v false = false
        · obtain ⟨v, hv1, hv2⟩ := hv
          exact ih v hv1 ⟨by omega, hv2⟩
        · refine ⟨u, hu.1, hu.2, fun v hvu => ?_⟩
          cases hq : listed.getD v false with
          | true => rfl
          | false => exact absurd ⟨v, hvu, hq⟩ hv
    rw [show k + 1 + (ops.size - m) = (k + (ops.size - m)) + 1 by omega]
    refine ⟨fun hr => ?_, fun i hi => ?_⟩
    · -- the least of them is ready
      exfalso
      have hmem : u ∈ Region.ready md ops listed := by
        unfold Region.ready
        rw [List.mem_filter, List.mem_range]
        obtain ⟨o, ho, _, _, hd⟩ := hop u hu
        refine ⟨by omega, ?_⟩
        rw [Bool.and_eq_true]
        refine ⟨by rw [getD_or _ _ (by rw [h.size]; omega), hun]; rfl, ?_⟩
        rw [ho]
        simp only [Option.map_some, Option.getD_some]
        rw [Array.all_eq_true']
        intro e he
        rw [hul _ (hd e he).2]
        simp
      rw [hr] at hmem
      cases hmem
    · obtain ⟨hi1, hi2, o, ho, hd⟩ := ready_mem hi
      rw [getD_or _ _ (by rw [h.size]; omega)] at hi2
      by_cases him : i < m
      · obtain ⟨o', ho', hdst, hg, hb⟩ := hop i him
        rw [ho] at ho'
        cases ho'
        unfold wpOp
        rw [ho]
        simp only
        rw [if_pos (by unfold Region.wanted; rw [hg])]
        refine .inl (Oper.wp_mono ?_ (step i o him ho a w h.defers h.slots h.below h.old ?_ (fun a' w' => ∃ v, a' = a.put o.dst v ∧ Below w.heap.size w w' ∧ F i v w') (fun v w' h1 h2 => ⟨v, rfl, h1, h2⟩)))
        · rintro a' w' ⟨v, rfl, hbw, hv⟩
          refine wpAny_facts m n F a0 w0 (by unfold factsOk; simp only [Bool.and_eq_true, decide_eq_true_eq, List.all_eq_true, List.mem_range, Bool.or_eq_true]; exact ⟨⟨⟨hm, h1⟩, h2⟩, h3⟩) hsl keep step rest k _ _ _ ?_ ?_
          · rw [hdst]
            refine ⟨by simp [h.size], h.defers, by simp [Act.put, h.slots], ?_, h.below.trans (hbw.mono h.below.size), ?_, ?_, ?_⟩
            · intro s hs
              rw [put_get _ _ _ _ (hs i him)]
              exact h.old s hs
            · intro j hj hl
              rw [lget_set _ _ _ (by rw [h.size]; omega)] at hl
              by_cases hij : i = j
              · subst hij
                rw [put_self _ _ _ (by rw [h.slots]; exact hsl i him)]
                exact hv
              · rw [if_neg hij] at hl
                have h5 := h2 i him j hj
                rcases h5 with h5 | h5
                · exact absurd h5 hij
                · rw [put_get _ _ _ _ (by intro e; rw [e] at h5; simp at h5)]
                  exact keep j _ _ _ hj (h.facts j hj hl) hbw
            · intro j hj
              rw [lget_set _ _ _ (by rw [h.size]; omega), if_neg (by omega)]
              exact h.none j hj
            · intro j hj hl x hx
              rw [lget_set _ _ _ (by rw [h.size]; omega)] at hl ⊢
              by_cases hix : i = x
              · rw [if_pos hix]
              · rw [if_neg hix]
                by_cases hij : i = j
                · subst hij
                  obtain ⟨e, he, rfl⟩ := (hdep i o ho x).1 hx
                  exact hd e he (hb e he).1
                · rw [if_neg hij] at hl
                  exact h.down j hj hl x hx
          · have := unl_set m listed i him (by rw [h.size]; omega) hi2
            omega
        · intro j hj
          obtain ⟨e, he, rfl⟩ := (hdep i o ho j).1 hj
          exact h.facts _ (by have := (hb e he).2; omega) (hd e he (hb e he).1)
      · exfalso
        have h4 := h3 i hi1
        rcases h4 with h4 | h4
        · omega
        · unfold lateOk at h4
          rw [ho] at h4
          simp only [Bool.and_eq_true, Array.all_eq_true', Bool.or_eq_true, Array.any_eq_true', decide_eq_true_eq, List.all_eq_true, List.mem_range] at h4
          obtain ⟨hbi, h4⟩ := h4
          rcases h4 with ⟨e, he, hem⟩ | h4
          · have h5 := hd e he (hbi e he)
            rw [h.none _ hem] at h5
            cases h5
          · have h5 := h4 u hu
            have h6 : u ∈ reachL ops n (depsOf ops i) := by simpa using h5
            have h7 := reach_sound (ops := ops) (T := fun j => listed.getD j false = true) (by
              intro x hx j hj
              by_cases hxm : x < m
              · exact h.down x hxm hx j hj
              · rw [h.none x (by omega)] at hx; cases hx) n (depsOf ops i) (by
              intro j hj
              obtain ⟨e, he, rfl⟩ := (hdep i o ho j).1 hj
              exact hd e he (hbi e he)) u h6
            rw [hun] at h7
            cases h7
theorem FInv.list {m : Nat} {F : Nat → Value → World → Prop} {a0 : Act} {w0 : World} {listed : Array Bool} {a : Act} {w : World} (h : FInv ops m F a0 w0 listed a w) (hm : m ≤ ops.size) (hall : ∀ i, i < m → listed.getD i false = true) : listed = (List.replicate m true ++ List.replicate (ops.size - m) false).toArray := by
  apply Array.ext
  · simp [h.size]; omega
  · intro i h1 h2
    have h3 : listed.getD i false = listed[i] := by
      simp only [Array.getD_eq_getD_getElem?]
      rw [Array.getElem?_eq_getElem h1]
      rfl
    rw [← h3]
    by_cases hi : i < m
    · rw [hall i hi]
      simp [List.getElem_append, hi]
    · rw [h.none i (by omega)]
      simp [List.getElem_append, hi]
/-- An array as it stands. -/
theorem arr_of (t : Array Value) (n : Nat) (h : t.size = n) : t = ((List.range n).map fun i => t.getD i undef).toArray := by
  apply Array.ext
  · simp [h]
  · intro i h1 h2
    simp [Array.getD_eq_getD_getElem?, h1]
/-- The rule, from the region's beginning on. -/
theorem wp_region_facts {id : Nat} {a0 : Act} {w0 : World} (m n : Nat) (F : Nat → Value → World → Prop) (hmx : P.follows .mixedOrders = true) (hok : factsOk .any ops m n = true) (hsa : (List.range m).all (fun i => decide (dstOf ops i < a0.tmps.size)) = true)
    (keep : ∀ i v w w', i < m → F i v w → Below w.heap.size w w' → F i v w')
    (step : ∀ i o, i < m → ops[i]? = some o → ∀ a w, a.defers = a0.defers → a.tmps.size = a0.tmps.size → Below w0.heap.size w0 w → (∀ s, (∀ j, j < m → dstOf ops j ≠ s) → a.tmps.getD s undef = a0.tmps.getD s undef) → (∀ j ∈ depsOf ops i, F j (a.tmps.getD (dstOf ops j) undef) w) →
      ∀ KK : Act → World → Prop, (∀ v w', Below w.heap.size w w' → F i v w' → KK (a.put o.dst v) w') → o.wp P a w KK Q)
    (rest : ∀ listed a w, FInv ops m F a0 w0.drew listed a w → (∀ i, i < m → listed.getD i false = true) → wpAny P .any ops Q (ops.size - m) listed a w) : (Code.region id ops true).wp P Q a0 w0 := by
  have hm : m ≤ ops.size := by
    unfold factsOk at hok
    simp only [Bool.and_eq_true, decide_eq_true_eq] at hok
    exact hok.1.1.1
  have hrep : ∀ i, (Array.replicate ops.size false).getD i false = false := fun i => by
    simp only [Array.getD_eq_getD_getElem?]
    by_cases h : i < ops.size
    · rw [Array.getElem?_eq_getElem (by simpa using h)]; simp
    · rw [Array.getElem?_eq_none (by simpa using Nat.le_of_not_lt h)]; rfl
  have hsl : ∀ i, i < m → dstOf ops i < a0.tmps.size := fun i hi => by
    rw [List.all_eq_true] at hsa
    simpa using hsa i (List.mem_range.2 hi)
  refine wp_region_any hmx ?_
  have hu : unl m (Array.replicate ops.size false) = m := by
    unfold unl
    have : (List.range m).filter (fun j => !(Array.replicate ops.size false).getD j false) = List.range m := by
      rw [List.filter_eq_self]
      intro j _
      rw [hrep]
      rfl
    rw [this, List.length_range]
  have h := wpAny_facts (P := P) (Q := Q) (md := .any) m n F a0 w0.drew hok hsl keep (fun i o hi ho a w h1 h2 h3 => step i o hi ho a w h1 h2 ((Below.refl _ _).drew.trans h3)) rest m (Array.replicate ops.size false) a0 w0.drew ⟨by simp, rfl, rfl, fun _ _ => rfl, Below.refl _ _, fun i _ hl => (by rw [hrep] at hl; cases hl), fun i _ => hrep i, fun i _ hl => (by rw [hrep] at hl; cases hl)⟩ hu
  rw [show m + (ops.size - m) = ops.size by omega] at h
  exact h
end
end Go.Proofs.YtnckmcmobkpdcaaDoor
