import Derived.Test.YtnckmcmobkpdcaaDoorK03
import Derived.Test.YtnckmcmobkpdcaaDoorK02
import Derived.Lib.LaidIn
import Derived.LaidMore
import Derived.WalkKit
import Derived.Test.YtnckmcmobkpdcaaDoorRows
import Derived.WalkSpells
import Derived.WalkLawsBesides
import Derived.Lib.Walk
import Derived.Lib.BitFns
import Derived.Lib.Mul64
import Derived.Laws.Bits64b
import Derived.Laws.Externs
import Derived.Deep.Light
import Derived.Shelf.Spec.BitsCarry
/-
  The code's splitRow.
-/
namespace Go.Proofs.YtnckmcmobkpdcaaDoor
open Go.Shelf Go.RowKit
set_option linter.unusedVariables false
set_option linter.unusedSimpArgs false

/-- A row's number, and what is left. -/
def rowGo : Nat → Bool → Bs → Option (Nat × Bs)
  | _, _, [] => none
  | n, first, c :: xs => if (first = true ∧ c.toNat = 128) ∨ 72057594037927935 < n then none else if c.toNat < 128 then some (n * 128 + c.toNat % 128, xs) else rowGo (n * 128 + c.toNat % 128) false xs
def rowD (bs : Bs) : Option (Nat × Bs) := rowGo 0 true bs
theorem rowGo_cons (n : Nat) (f : Bool) (c : UInt8) (xs : Bs) : rowGo n f (c :: xs) = if (f = true ∧ c.toNat = 128) ∨ 72057594037927935 < n then none else if c.toNat < 128 then some (n * 128 + c.toNat % 128, xs) else rowGo (n * 128 + c.toNat % 128) false xs := rfl
theorem rowGo_len : ∀ (bs : Bs) (n : Nat) (f : Bool) (m : Nat) (r : Bs), rowGo n f bs = some (m, r) → r.length < bs.length ∧ m < 9223372036854775808
  | [], n, f, m, r, h => by cases h
  | c :: xs, n, f, m, r, h => by
    rw [rowGo_cons] at h
    split at h
    · cases h
    · split at h
      · cases h
        refine ⟨by simp, ?_⟩
        have := c.toNat_lt
        omega
      · have := rowGo_len xs _ _ _ _ h
        exact ⟨by simp; omega, this.2⟩
theorem u64_or7 (x y : Nat) (hx : x < 72057594037927936) (hy : y < 128) : bits .or .u64 ((x : Int) * 128) (y : Int) = ((x * 128 + y : Nat) : Int) := by
  have h2 : 128 * x ||| y = 128 * x + y := by
    have := Nat.two_pow_add_eq_or_of_lt (i := 7) (b := y) (by omega) x
    rw [show (2 : Nat) ^ 7 = 128 by rfl] at this
    exact this.symm
  have e : (x : Int) * 128 = ((128 * x : Nat) : Int) := by omega
  rw [e]
  show IntKind.u64.wrap ((BitVec.ofInt 64 ((128 * x : Nat) : Int) ||| BitVec.ofInt 64 (y : Int)).toNat : Int) = _
  rw [BitVec.toNat_or, ofInt_u64 (128 * x) (by omega), ofInt_u64 y (by omega), h2, Nat.mul_comm 128 x]
  clear h2 e
  have h3 : x * 128 + y < 18446744073709551616 := by omega
  generalize x * 128 + y = z at h3 ⊢
  simp [IntKind.wrap, IntKind.signed, IntKind.bits]
  omega
theorem u8_low7 : ∀ y : Nat, y < 256 → bits .andNot .u8 (y : Int) 128 = ((y % 128 : Nat) : Int) := by decide +kernel
/-- What splitRow answers. -/
def RwPost (w : World) (P : Nat → Prop) (R : Option (Nat × Bs)) (e : Ending) (w' : World) : Prop :=
  Below w.heap.size w w' ∧ ((∃ m r p c, R = some (m, r) ∧ m < 9223372036854775808 ∧ e = .returned (.tuple #[.int .u64 (m : Int), .slice p r.length c, .bool true]) ∧ ByV w' P p c r) ∨ (R = none ∧ e = .returned (.tuple #[.int .u64 0, .slice none 0 0, .bool false])))
set_option maxRecDepth 100000 in
set_option maxHeartbeats 4000000 in
/-- splitRow. -/
theorem splitRow_any (p : Option Addr) (n c : Nat) (bs : Bs) (P : Nat → Prop) (w : World) (hl : bs.length = n) (h : ByV w P p c bs) :
    Calls Tryd.prog 15 #[.slice p n c] w (RwPost w P (rowD bs)) := by
  have hcap := h.cap
  have hbig := h.big
  rw [hl] at hcap
  obtain ⟨R, hR⟩ : ∃ R, rowD bs = R := ⟨_, rfl⟩
  rw [hR]
  have HNO : Hid (R = none → RwPost w P R (.returned (.tuple #[.int .u64 0, .slice none 0 0, .bool false])) w) := fun hh => ⟨Below.refl _ _, .inr ⟨hh, rfl⟩⟩
  have HV : Hid (ByV w P p c bs ∧ bs.length = n ∧ rowGo 0 true bs = R) := ⟨h, hl, hR⟩
  clear h hl hR
  go_enter Tryd.func15, Tryd.ntmps15
  go_wp2_with fail
  go_loopw [5, 10] (fun v5 v10 wr => ∃ j N : Nat, j ≤ n ∧ v10 = .int .i64 (j : Int) ∧ v5 = .int .u64 (N : Int) ∧ N < 9223372036854775808 ∧ rowGo N (decide (j = 0)) (bs.drop j) = R ∧ wr = w) (fun _ v10 _ => n - (intOf v10).toNat)
  case atStart => exact ⟨0, 0, by omega, rfl, rfl, by omega, by simpa using HV.out.2.2, rfl⟩
  case round =>
    obtain ⟨j, N, hj, rfl, rfl, hN, hRj, rfl⟩ := hrel
    have HR : Hid (rowGo N (decide (j = 0)) (bs.drop j) = R) := hRj
    clear hRj
    rcases Nat.lt_or_eq_of_le hj with hj | rfl
    rotate_left
    · go_wp2_with fail
      go_ret3
      exact HNO.out (by rw [← HR.out, List.drop_of_length_le (by rw [HV.out.2.1]; exact Nat.le_refl _)]; rfl)
    obtain ⟨b, o, rfl, hcl⟩ := HV.out.1.lies (by rw [HV.out.2.1]; omega)
    have hjI : (j : Int) < (n : Int) := by omega
    have hj0 : (0 : Int) ≤ (j : Int) := by omega
    have c0 := hcl j (by rw [HV.out.2.1]; omega)
    obtain ⟨y, hy⟩ : ∃ y, bs.getD j 0 = y := ⟨_, rfl⟩
    have hyl := y.toNat_lt
    have hdr : bs.drop j = y :: bs.drop (j + 1) := by
      have hjl : j < bs.length := by rw [HV.out.2.1]; omega
      rw [List.drop_eq_getElem_cons hjl]
      congr 1
      rw [← hy]
      simp [List.getD, hjl]
    rw [hy] at c0
    obtain ⟨Y, hY⟩ : ∃ Y, y.toNat = Y := ⟨_, rfl⟩
    rw [hY] at c0 hyl
    have HY : Hid (y.toNat = Y ∧ bs.drop j = y :: bs.drop (j + 1)) := ⟨hY, hdr⟩
    clear hY hdr hy hcl
    by_cases q1 : (j = 0 ∧ Y = 128) ∨ 72057594037927935 < N
    · have hRn : R = none := by rw [← HR.out, HY.out.2, rowGo_cons, if_pos (by rw [HY.out.1]; simpa using q1)]
      by_cases q2 : j = 0
      · have q2I : ((j : Int) == 0) = true := by simp; omega
        by_cases q3 : Y = 128
        · have q3I : ((Y : Int) == 128) = true := by simp; omega
          clear q2 q3 q1
          go_wp2_with fail
          go_ret3
          exact HNO.out hRn
        · have q3I : ((Y : Int) == 128) = false := by simp; omega
          have q4I : (72057594037927935 : Int) < (N : Int) := by omega
          clear q2 q3 q1
          go_wp2_with fail
          go_ret3
          exact HNO.out hRn
      · have q2I : ((j : Int) == 0) = false := by simp; omega
        have q4I : (72057594037927935 : Int) < (N : Int) := by omega
        clear q2 q1
        go_wp2_with fail
        go_ret3
        exact HNO.out hRn
    have q4I : ¬ (72057594037927935 : Int) < (N : Int) := by omega
    have HR2 : Hid (R = if Y < 128 then some (N * 128 + Y % 128, bs.drop (j + 1)) else rowGo (N * 128 + Y % 128) false (bs.drop (j + 1))) := by
      show R = _
      rw [← HR.out, HY.out.2, rowGo_cons, if_neg (by rw [HY.out.1]; simpa using q1), HY.out.1]
    have hN2 : N * 128 + Y % 128 < 9223372036854775808 := by omega
    obtain ⟨Z, hZ⟩ : ∃ Z, Y % 128 = Z := ⟨_, rfl⟩
    have hA := u8_low7 Y (by omega)
    rw [hZ] at hA
    have hZ2 : Z < 128 := by omega
    have hO := u64_or7 N Z (by omega) hZ2
    obtain ⟨M, hM⟩ : ∃ M, N * 128 + Z = M := ⟨_, rfl⟩
    rw [hM] at hO
    have HM : Hid (N * 128 + Y % 128 = M) := by show _ = M; rw [hZ, hM]
    have hM2 : M < 9223372036854775808 := by omega
    clear hM hZ hN2
    by_cases q2 : j = 0
    · have q2I : ((j : Int) == 0) = true := by simp; omega
      have q3I : ((Y : Int) == 128) = false := by simp; omega
      clear q2 q1
      by_cases q5 : Y < 128
      · have q5I : (Y : Int) < 128 := by omega
        have HY2 : Hid (R = some (M, bs.drop (j + 1))) := by show R = _; rw [HR2.out, if_pos q5, HM.out]
        have HE : Hid (∀ W p2 c2, Below wr.heap.size wr W → ByV wr P p2 c2 (bs.drop (j + 1)) → RwPost wr P R (.returned (.tuple #[.int .u64 (M : Int), .slice p2 (n - (j + 1)) c2, .bool true])) W) := fun W p2 c2 hW hv2 => ⟨hW, .inl ⟨M, bs.drop (j + 1), p2, c2, HY2.out, hM2, by rw [List.length_drop, HV.out.2.1], hv2.keep (fun g _ hlt => hW.block g hlt)⟩⟩
        have HV3 := HV.out.1.drop (j + 1) (by rw [HV.out.2.1]; omega)
        have k1 : ((j : Int) + 1) ≤ (n : Int) := by omega
        have k2 : ((j : Int) + 1) ≤ (c : Int) := by omega
        have k3 : (n : Int) ≤ (c : Int) := by omega
        have k4 : (c : Int) ≤ 9223372036854775807 := by omega
        have k5 : IntKind.i64.wrap ((j : Int) + 1) = (j : Int) + 1 := Go.IntWalk.i64_in _ (by omega)
        by_cases qc : c = j + 1
        · rw [if_pos qc, show c - (j + 1) = 0 by omega] at HV3
          have HV4 : Hid (ByV wr P (some ⟨b, o, none⟩) 0 (bs.drop (j + 1))) := HV3
          clear HV3 q5
          go_wp2_with fail
          go_region
          go_wp2_with fail
          go_ret3
          exact HE.out _ _ _ (Below.refl _ _).drew HV4.out
        · rw [if_neg qc] at HV3
          have HV4 : Hid (ByV wr P (some ⟨b, o + (j + 1), none⟩) (c - (j + 1)) (bs.drop (j + 1))) := HV3
          clear HV3 q5
          go_wp2_with fail
          go_region
          go_wp2_with fail
          go_ret3
          exact HE.out _ _ _ (Below.refl _ _).drew HV4.out
      · have q5I : ¬ (Y : Int) < 128 := by omega
        have HY2 : Hid (rowGo M false (bs.drop (j + 1)) = R) := by show _ = R; rw [HR2.out, if_neg q5, HM.out]
        clear q5
        go_wp2_with fail
        exact ⟨⟨j + 1, M, by omega, by push_cast; rfl, rfl, hM2, HY2.out, trivial⟩, by simp only [intOf]; omega⟩
    · have q2I : ((j : Int) == 0) = false := by simp; omega
      clear q2 q1
      by_cases q5 : Y < 128
      · have q5I : (Y : Int) < 128 := by omega
        have HY2 : Hid (R = some (M, bs.drop (j + 1))) := by show R = _; rw [HR2.out, if_pos q5, HM.out]
        have HE : Hid (∀ W p2 c2, Below wr.heap.size wr W → ByV wr P p2 c2 (bs.drop (j + 1)) → RwPost wr P R (.returned (.tuple #[.int .u64 (M : Int), .slice p2 (n - (j + 1)) c2, .bool true])) W) := fun W p2 c2 hW hv2 => ⟨hW, .inl ⟨M, bs.drop (j + 1), p2, c2, HY2.out, hM2, by rw [List.length_drop, HV.out.2.1], hv2.keep (fun g _ hlt => hW.block g hlt)⟩⟩
        have HV3 := HV.out.1.drop (j + 1) (by rw [HV.out.2.1]; omega)
        have k1 : ((j : Int) + 1) ≤ (n : Int) := by omega
        have k2 : ((j : Int) + 1) ≤ (c : Int) := by omega
        have k3 : (n : Int) ≤ (c : Int) := by omega
        have k4 : (c : Int) ≤ 9223372036854775807 := by omega
        have k5 : IntKind.i64.wrap ((j : Int) + 1) = (j : Int) + 1 := Go.IntWalk.i64_in _ (by omega)
        by_cases qc : c = j + 1
        · rw [if_pos qc, show c - (j + 1) = 0 by omega] at HV3
          have HV4 : Hid (ByV wr P (some ⟨b, o, none⟩) 0 (bs.drop (j + 1))) := HV3
          clear HV3 q5
          go_wp2_with fail
          go_region
          go_wp2_with fail
          go_ret3
          exact HE.out _ _ _ (Below.refl _ _).drew HV4.out
        · rw [if_neg qc] at HV3
          have HV4 : Hid (ByV wr P (some ⟨b, o + (j + 1), none⟩) (c - (j + 1)) (bs.drop (j + 1))) := HV3
          clear HV3 q5
          go_wp2_with fail
          go_region
          go_wp2_with fail
          go_ret3
          exact HE.out _ _ _ (Below.refl _ _).drew HV4.out
      · have q5I : ¬ (Y : Int) < 128 := by omega
        have HY2 : Hid (rowGo M false (bs.drop (j + 1)) = R) := by show _ = R; rw [HR2.out, if_neg q5, HM.out]
        clear q5
        go_wp2_with fail
        exact ⟨⟨j + 1, M, by omega, by push_cast; rfl, rfl, hM2, HY2.out, trivial⟩, by simp only [intOf]; omega⟩
end Go.Proofs.YtnckmcmobkpdcaaDoor
/-
  The code's appendRow.
-/
namespace Go.Proofs.YtnckmcmobkpdcaaDoor
open Go.Shelf Go.RowKit
set_option linter.unusedVariables false
set_option linter.unusedSimpArgs false

/-- Numbers as cells. -/
def cellsU (l : List Nat) : List Value := l.map fun (x : Nat) => Value.int .u64 (x : Int)
theorem cellsU_len (l : List Nat) : (cellsU l).length = l.length := by simp [cellsU]
theorem infoU64 : (Tryd.prog.info? 34).map (fun i => (i.zero, i.size, i.bytes)) = some (some (.int .u64 0), 1, 8) := by kernel_rfl
/-- Numbers appended to numbers of the call's own. -/
theorem wpList_append_u {w : World} {ops : Array Oper} {rest : List Oper} {o : Oper} {a : Act} {Q : Exit → Act → World → Prop} (hgd : o.guard = none) (s x : Operand)
    (ho : o.op = .call { callee := .builtin .append, args := #[s, x], argTypes := #[25, 25] }) (base : Nat) (v : Value) (hs : a.eval s = v) (old : List Nat) (m : Nat) (hown : w.ownsRow base 34 1 v m (cellsU old)) (ad : Addr) (n c : Nat) (l : List Nat) (hn : l.length = n) (hx : a.eval x = .slice (some ad) n c) (hr : ∀ j u, (cellsU l)[j]? = some u → w.cell? (ad.add j) = some u) (hlen : m + n ≤ 1000000) (hbase : base ≤ w.heap.size)
    (h : ∀ v' w', w'.ownsRow base 34 1 v' (m + n) (cellsU (old ++ l)) → w.grownBy w' v.ownBlock → wpList Tryd.prog ops Q rest (a.put o.dst v') w') : wpList Tryd.prog ops Q (o :: rest) a w := by
  obtain ⟨i0, hi0, hz0, hz1, hz2⟩ := info_parts infoU64
  refine wpList_append_own (w := w) hgd s x _ ho base 34 i0 (.int .u64 0) 1 8 Tryd.underlying25 hi0 hz0 hz1 hz2 rfl (by decide) v m (cellsU old) hs hown ad n c (cellsU l) hx (by rw [cellsU_len, hn, Nat.mul_one]) hr (by intro u hu; simp only [cellsU, List.mem_map] at hu; obtain ⟨x, _, rfl⟩ := hu; rfl) (by unfold maxLen; omega) (by omega) hbase ?_
  intro v' w' hown' hgr _
  rw [show cellsU old ++ cellsU l = cellsU (old ++ l) by simp [cellsU]] at hown'
  exact h v' w' hown' hgr
/-- A row's numbers behind the others. -/
def pushD (xs : List Nat) (row : Nat) : List Nat := if xs.length = 0 then [min (row / 40) 2, row - min (row / 40) 2 * 40] else xs ++ [row]
set_option maxRecDepth 100000 in
set_option maxHeartbeats 4000000 in
/-- appendRow. -/
theorem appendRow_any (B : Nat) (p : Option Addr) (m c : Nat) (xs : List Nat) (row : Nat) (hrow : row < 9223372036854775808) (w : World) (hl : xs.length = m) (hm : m ≤ 100000) (hB : B ≤ w.heap.size) (h : w.ownsRow B 34 1 (.slice p m c) m (cellsU xs)) :
    Calls Tryd.prog 16 #[.slice p m c, .int .u64 (row : Int)] w fun e w' => ∃ v, e = .returned v ∧ w'.ownsRow B 34 1 v (pushD xs row).length (cellsU (pushD xs row)) ∧ w.heap.size ≤ w'.heap.size ∧ (∀ k, k < B → w'.heap[k]? = w.heap[k]?) ∧ Below B w w' := by
  have HB : Hid (B ≤ w.heap.size) := hB
  by_cases q : m = 0
  · subst q
    have hx0 : xs = [] := List.eq_nil_of_length_eq_zero hl
    subst hx0
    obtain ⟨r, hr⟩ : ∃ r, min (row / 40) 2 = r := ⟨_, rfl⟩
    have hmin : min ((row : Int) / 40) 2 = (r : Int) := by omega
    have hr2 : r ≤ 2 := by omega
    have hrr : r * 40 ≤ row := by omega
    have hp : pushD [] row = [r, row - r * 40] := by simp [pushD, hr]
    rw [hp]
    have HH : Hid (w.ownsRow B 34 1 (.slice p 0 c) 0 (cellsU [])) := h
    clear h hp hr
    go_enter Tryd.func16, Tryd.ntmps16
    go_wp2_with (at_builtin; refine wpList_append_u rfl (.tmp 16) (.tmp 22) rfl B (.slice p 0 c) rfl [] 0 (HH.out.alloc _) ⟨w.heap.size, 0, none⟩ 2 2 [r, row - r * 40] rfl rfl (fun j u hj => by match j with | 0 => (simp [cellsU] at hj; subst hj; exact cell_of_row _ w.heap.size 0 _ _ _ (heap_alloc_new w _)) | 1 => (simp [cellsU] at hj; subst hj; rw [show (((row - r * 40 : Nat)) : Int) = (row : Int) - (r : Int) * 40 by omega]; exact cell_of_row _ w.heap.size 1 _ _ _ (heap_alloc_new w _)) | j + 2 => simp [cellsU] at hj) (by omega) (Nat.le_trans hB (alloc_le _ _)) ?_; intro v1 w1 o1 gr1)
    go_ret
    have hb := below_grownT ((Below.refl B w).alloc hB _) hB (HH.out.alloc _) gr1
    exact ⟨v1, rfl, o1, hb.size, hb.block, hb⟩
  · have q0 : (0 : Int) < (m : Int) := by omega
    have hp : pushD xs row = xs ++ [row] := by unfold pushD; rw [if_neg (by omega)]
    rw [hp, List.length_append, hl]
    have HH : Hid (w.ownsRow B 34 1 (.slice p m c) m (cellsU xs)) := h
    clear h hp hl
    go_enter Tryd.func16, Tryd.ntmps16
    go_wp2_with (at_builtin; refine wpList_append_u rfl (.tmp 9) (.tmp 11) rfl B (.slice p m c) rfl xs m (HH.out.alloc _) ⟨w.heap.size, 0, none⟩ 1 1 [row] rfl rfl (fun j u hj => by cases j with | zero => (simp [cellsU] at hj; subst hj; exact cell_of_row _ w.heap.size 0 _ _ _ (heap_alloc_new w _)) | succ j => simp [cellsU] at hj) (by omega) (Nat.le_trans hB (alloc_le _ _)) ?_; intro v1 w1 o1 gr1)
    go_ret
    have hb := below_grownT ((Below.refl B w).alloc hB _) hB (HH.out.alloc _) gr1
    exact ⟨v1, rfl, o1, hb.size, hb.block, hb⟩
end Go.Proofs.YtnckmcmobkpdcaaDoor
/-
  The code's Oid.
-/
namespace Go.Proofs.YtnckmcmobkpdcaaDoor
open Go.Shelf Go.RowKit
set_option linter.unusedVariables false
set_option linter.unusedSimpArgs false

/-- A slice's length. -/
def lenOfV : Value → Nat
  | .slice _ n _ => n
  | _ => 0
/-- All rows' numbers. -/
def rowsD : Nat → Bs → Option (List Nat)
  | 0, _ => some []
  | m + 1, bs => if bs.length = 0 then some [] else match rowD bs with
    | none => none
    | some (r, rest) => match rowsD m rest with
      | none => none
      | some l => some (r :: l)
/-- The numbers of rows. -/
def numsD : List Nat → List Nat
  | [] => []
  | r :: l => [min (r / 40) 2, r - min (r / 40) 2 * 40] ++ l
/-- A row of numbers; an error's number. -/
def oidD (t : Nat) (bs : Bs) : Except Nat (List Nat) :=
  if t ≠ 6 ∨ bs.length = 0 then .error 30 else match rowsD bs.length bs with
    | none => .error 30
    | some l => if 16 < (numsD l).length then .error 14 else .ok (numsD l)
theorem rowsD_more : ∀ (m k : Nat) (bs : Bs), bs.length ≤ m → bs.length ≤ k → rowsD m bs = rowsD k bs
  | 0, k, bs, hm, hk => by
    have : bs = [] := List.eq_nil_of_length_eq_zero (by omega)
    subst this
    cases k with
    | zero => rfl
    | succ k => rfl
  | m + 1, 0, bs, hm, hk => by
    have : bs = [] := List.eq_nil_of_length_eq_zero (by omega)
    subst this
    rfl
  | m + 1, k + 1, bs, hm, hk => by
    simp only [rowsD]
    by_cases h : bs.length = 0
    · rw [if_pos h, if_pos h]
    rw [if_neg h, if_neg h]
    cases hr : rowD bs with
    | none => rfl
    | some q =>
      obtain ⟨r, rest⟩ := q
      have := (rowGo_len bs 0 true r rest hr).1
      simp only []
      rw [rowsD_more m k rest (by omega) (by omega)]
theorem rowsD_step {bs : Bs} (h : bs.length ≠ 0) : rowsD bs.length bs = match rowD bs with
    | none => none
    | some (r, rest) => (rowsD rest.length rest).map (fun l => r :: l) := by
  obtain ⟨m, hm⟩ : ∃ m, bs.length = m + 1 := ⟨bs.length - 1, by omega⟩
  rw [hm]
  simp only [rowsD]
  rw [if_neg h]
  cases hr : rowD bs with
  | none => rfl
  | some q =>
    obtain ⟨r, rest⟩ := q
    have := (rowGo_len bs 0 true r rest hr).1
    simp only []
    rw [rowsD_more m rest.length rest (by omega) (Nat.le_refl _)]
    cases rowsD rest.length rest with
    | none => rfl
    | some l => rfl
theorem numsD_len (l : List Nat) : (numsD l).length = if l.length = 0 then 0 else l.length + 1 := by
  cases l with
  | nil => rfl
  | cons a l => simp [numsD]
theorem push_nums (R : List Nat) (r : Nat) : pushD (numsD R) r = numsD (R ++ [r]) := by
  cases R with
  | nil => simp [pushD, numsD]
  | cons a R => simp [pushD, numsD]
/-- The numbers so far: no more than 17 are kept. -/
theorem push_take (R : List Nat) (r : Nat) : (if ((numsD R).take 17).length ≤ 16 then pushD ((numsD R).take 17) r else (numsD R).take 17) = (numsD (R ++ [r])).take 17 := by
  by_cases h : (numsD R).length ≤ 16
  · have e : (numsD R).take 17 = numsD R := List.take_of_length_le (by omega)
    rw [e, if_pos h, push_nums]
    have h2 := numsD_len (R ++ [r])
    have h1 := numsD_len R
    rw [List.take_of_length_le]
    rw [h2]
    simp
    by_cases h0 : R.length = 0
    · omega
    · rw [if_neg h0] at h1
      omega
  · have h2 : ((numsD R).take 17).length = 17 := by rw [List.length_take]; omega
    rw [h2, if_neg (by omega)]
    cases R with
    | nil => simp [numsD] at h
    | cons a R =>
      simp [numsD] at h ⊢
      rw [List.take_append_of_le_length (by omega)]
/-- What Oid answers. -/
def OidPost (w : World) (R : Except Nat (List Nat)) (e : Ending) (w' : World) : Prop :=
  Below w.heap.size w w' ∧ ((∃ k, R = .error k ∧ e = .returned (.tuple #[.slice none 0 0, .int .i64 (k : Int)])) ∨
    ∃ l v, R = .ok l ∧ l.length ≤ 16 ∧ e = .returned (.tuple #[v, .int .i64 0]) ∧ w'.ownsRow w.heap.size 34 1 v l.length (cellsU l))
set_option maxRecDepth 100000 in
set_option maxHeartbeats 4000000 in
/-- Oid. -/
theorem derOid (t : Nat) (ht : t < 256) (p : Option Addr) (n c : Nat) (bs : Bs) (P : Nat → Prop) (w : World) (hl : bs.length = n) (h : ByV w P p c bs) :
    Calls Tryd.prog 6 #[.agg #[.int .u8 (t : Int), .slice p n c]] w (OidPost w (oidD t bs)) := by
  obtain ⟨W1, hW1⟩ : ∃ W1, w.alloc (.cells #[.int .u8 (t : Int), .slice p n c] 24) = W1 := ⟨_, rfl⟩
  have b1 : Below w.heap.size w W1 := by rw [← hW1]; exact (Below.refl _ _).alloc (Nat.le_refl _) _
  have s1 : Tl W1 w.heap.size (.int .u8 (t : Int)) (.slice p n c) := by rw [← hW1]; exact Tl.new w _ _
  obtain ⟨g0, g1, g2, g3⟩ := s1.facts
  have hbig := h.big
  have hcap := h.cap
  rw [hl] at hcap
  have HS : Hid (Below w.heap.size w W1 ∧ ByV w (fun b => b < w.heap.size) p c bs ∧ bs.length = n) := ⟨b1, h.mono (fun g _ hlt => hlt), hl⟩
  have HBAD : Hid (∀ W k, Below w.heap.size w W → oidD t bs = .error k → OidPost w (oidD t bs) (.returned (.tuple #[.slice none 0 0, .int .i64 (k : Int)])) W) := fun W k hW hk => ⟨hW, .inl ⟨k, hk, rfl⟩⟩
  clear s1 b1 h
  by_cases q2 : t = 6
  rotate_left
  · have e3 : ((t : Int) != 6) = true := by simp; omega
    have e2 : ((t : Int) == 6) = false := by simp; omega
    go_enter Tryd.func6, Tryd.ntmps6
    go_wp2_with fail
    go_ret2
    exact HBAD.out _ 30 HS.out.1 (by unfold oidD; rw [if_pos (.inl q2)])
  have e3 : ((t : Int) != 6) = false := by simp; omega
  have e2 : ((t : Int) == 6) = true := by simp; omega
  by_cases q3 : n = 0
  · have e4 : ((n : Int) == 0) = true := by simp; omega
    have HQ3 : Hid (n = 0) := q3
    clear q2 q3 hcap
    go_enter Tryd.func6, Tryd.ntmps6
    go_wp2_with fail
    go_ret2
    exact HBAD.out _ 30 HS.out.1 (by unfold oidD; rw [if_pos (.inr (by rw [HS.out.2.2]; exact HQ3.out))])
  have e4 : ((n : Int) == 0) = false := by simp; omega
  have HO : Hid (oidD t bs = match rowsD n bs with
    | none => .error 30
    | some l => if 16 < (numsD l).length then .error 14 else .ok (numsD l)) := by
    show oidD t bs = _
    unfold oidD
    rw [if_neg (by rw [HS.out.2.2]; simp [q2, q3]), HS.out.2.2]
  clear q2 hl
  go_enter Tryd.func6, Tryd.ntmps6
  go_wp2_with fail
  go_loopw [4, 5] (fun v4 v5 wr => ∃ (R : List Nat) (ys : Bs) (L : Nat) (q : Option Addr) (d : Nat) (pv : Option Addr) (cv K : Nat), v5 = .slice q L d ∧ ys.length = L ∧ ByV wr (fun b => b < w.heap.size) q d ys ∧ v4 = .slice pv K cv ∧ ((numsD R).take 17).length = K ∧ wr.ownsRow w.heap.size 34 1 (.slice pv K cv) K (cellsU ((numsD R).take 17)) ∧ Below w.heap.size w wr ∧ rowsD n bs = (rowsD L ys).map (fun l => R ++ l)) (fun _ v5 _ => lenOfV v5)
  case atStart => exact ⟨[], bs, n, p, c, none, 0, 0, rfl, HS.out.2.2, HS.out.2.1.keep (fun g _ hlt => HS.out.1.block g hlt), rfl, rfl, World.ownsRow_nil _ _ _ _, HS.out.1, by cases rowsD n bs <;> rfl⟩
  case round =>
    obtain ⟨R, ys, L, q, d, pv, cv, K, rfl, hL, hv, rfl, hK, hown, hb, hrows⟩ := hrel
    have hK17 : K ≤ 17 := by rw [← hK, List.length_take]; omega
    have hBs := hb.size
    have HI : Hid (ys.length = L ∧ ((numsD R).take 17).length = K ∧ Below w.heap.size w wr ∧ rowsD n bs = (rowsD L ys).map (fun l => R ++ l)) := ⟨hL, hK, hb, hrows⟩
    have HV : Hid (ByV wr (fun b => b < w.heap.size) q d ys ∧ wr.ownsRow w.heap.size 34 1 (.slice pv K cv) K (cellsU ((numsD R).take 17))) := ⟨hv, hown⟩
    by_cases q5 : L = 0
    · have q5I : ¬ (0 : Int) < (L : Int) := by omega
      have hys : ys = [] := List.eq_nil_of_length_eq_zero (by omega)
      have hR : rowsD n bs = some R := by rw [hrows, q5]; simp [rowsD]
      have HR : Hid (rowsD n bs = some R) := hR
      clear hR hrows hys hL hown hv hK hb
      by_cases q6 : 16 < K
      · have q6I : (16 : Int) < (K : Int) := by omega
        go_wp2_with fail
        go_ret2
        exact HBAD.out _ 14 HI.out.2.2.1 (by rw [HO.out, HR.out]; simp only []; rw [if_pos (by have := HI.out.2.1; rw [List.length_take] at this; omega)])
      · have q6I : ¬ (16 : Int) < (K : Int) := by omega
        have hnl : (numsD R).length = K := by have := HI.out.2.1; rw [List.length_take] at this; omega
        have HNL : Hid ((numsD R).length = K) := hnl
        clear hnl
        go_wp2_with fail
        go_ret2
        refine ⟨HI.out.2.2.1, .inr ⟨numsD R, _, ?_, by rw [HNL.out]; omega, rfl, ?_⟩⟩
        · rw [HO.out, HR.out]
          simp only []
          rw [if_neg (by rw [HNL.out]; omega)]
        · have h1 := HV.out.2
          rw [List.take_of_length_le (by rw [HNL.out]; omega)] at h1
          rw [HNL.out]
          exact h1
    have q5I : (0 : Int) < (L : Int) := by omega
    have hstep := rowsD_step (bs := ys) (by omega)
    rw [hL] at hstep
    have HSR := splitRow_any q L d ys (fun b => b < w.heap.size) wr hL hv
    clear hown hv hK hb
    cases hrow : rowD ys with
    | none =>
      rw [hrow] at HSR hstep
      have HR : Hid (rowsD n bs = none) := by show rowsD n bs = none; rw [hrows, hstep]; rfl
      clear hrows hstep hL
      go_wp2_with (go_at_call 15; refine HSR.mono ?_; rintro e w2 ⟨hb2, (⟨m, r, p2, c2, hk, _⟩ | ⟨_, rfl⟩)⟩; (try cases hk); have HB2 : Hid (Below wr.heap.size wr w2) := hb2; clear hb2)
      go_ret2
      exact HBAD.out _ 30 (HI.out.2.2.1.trans (HB2.out.mono hBs)) (by rw [HO.out, HR.out])
    | some x =>
      obtain ⟨m, r⟩ := x
      rw [hrow] at HSR hstep
      simp only [] at hstep
      obtain ⟨Lr, hLr⟩ : ∃ Lr, r.length = Lr := ⟨_, rfl⟩
      have hlt := (rowGo_len ys 0 true m r hrow).1
      rw [hL, hLr] at hlt
      have HR : Hid (rowsD n bs = (rowsD Lr r).map (fun l => (R ++ [m]) ++ l) ∧ r.length = Lr) := by
        refine ⟨?_, hLr⟩
        rw [hrows, hstep, hLr]
        cases rowsD Lr r with
        | none => rfl
        | some l => simp
      clear hrows hstep hL
      by_cases q6 : K ≤ 16
      · have q6I : (K : Int) ≤ 16 := by omega
        have HPT := push_take R m
        rw [if_pos (by rw [HI.out.2.1]; exact q6)] at HPT
        have HPT' : Hid (pushD ((numsD R).take 17) m = (numsD (R ++ [m])).take 17) := HPT
        clear HPT
        go_wp2_with (first
          | (go_at_call 15; refine HSR.mono ?_; rintro e w2 ⟨hb2, (⟨m', r', p2, c2, hk, hm', rfl, hv2⟩ | ⟨hk, _⟩)⟩; rotate_left; (cases hk); cases hk; rw [hLr]; have HB2 : Hid (Below w.heap.size w w2 ∧ ByV w2 (fun b => b < w.heap.size) p2 c2 r ∧ w2.ownsRow w.heap.size 34 1 (.slice pv K cv) K (cellsU ((numsD R).take 17))) := ⟨HI.out.2.2.1.trans (hb2.mono hBs), hv2, owns_keep HV.out.2 (fun g hg => hb2.block g (owns_lt HV.out.2 hg).2.1)⟩; clear hb2 hv2)
          | (go_at_call 16; refine (appendRow_any w.heap.size pv K cv ((numsD R).take 17) m hm' w2 HI.out.2.1 (by omega) HB2.out.1.size HB2.out.2.2).mono ?_; rintro e w3 ⟨v3, rfl, ho3, _, _, hb3⟩; have HB3 : Hid (Below w.heap.size w2 w3 ∧ w3.ownsRow w.heap.size 34 1 v3 ((numsD (R ++ [m])).take 17).length (cellsU ((numsD (R ++ [m])).take 17))) := ⟨hb3, by rw [HPT'.out] at ho3; exact ho3⟩; clear hb3 ho3))
        obtain ⟨p3, c3, rfl⟩ := owns_slice HB3.out.2
        exact ⟨⟨R ++ [m], r, Lr, p2, c2, p3, c3, _, rfl, HR.out.2, HB2.out.2.1.keep (fun g hg _ => HB3.out.1.block g hg), rfl, rfl, HB3.out.2, HB2.out.1.trans HB3.out.1, HR.out.1⟩, by simp only [lenOfV]; omega⟩
      · have q6I : ¬ (K : Int) ≤ 16 := by omega
        have HPT := push_take R m
        rw [if_neg (by rw [HI.out.2.1]; exact q6)] at HPT
        have HPT' : Hid ((numsD R).take 17 = (numsD (R ++ [m])).take 17) := HPT
        clear HPT
        go_wp2_with (go_at_call 15; refine HSR.mono ?_; rintro e w2 ⟨hb2, (⟨m', r', p2, c2, hk, hm', rfl, hv2⟩ | ⟨hk, _⟩)⟩; rotate_left; (cases hk); cases hk; rw [hLr]; have HB2 : Hid (Below w.heap.size w w2 ∧ ByV w2 (fun b => b < w.heap.size) p2 c2 r ∧ w2.ownsRow w.heap.size 34 1 (.slice pv K cv) K (cellsU ((numsD R).take 17))) := ⟨HI.out.2.2.1.trans (hb2.mono hBs), hv2, owns_keep HV.out.2 (fun g hg => hb2.block g (owns_lt HV.out.2 hg).2.1)⟩; clear hb2 hv2)
        exact ⟨⟨R ++ [m], r, Lr, p2, c2, pv, cv, K, rfl, HR.out.2, HB2.out.2.1, rfl, by rw [← HPT'.out]; exact HI.out.2.1, by rw [← HPT'.out]; exact HB2.out.2.2, HB2.out.1, HR.out.1⟩, by simp only [lenOfV]; omega⟩
end Go.Proofs.YtnckmcmobkpdcaaDoor
/-
  Times: years and months.
-/
namespace Go.Proofs.YtnckmcmobkpdcaaDoor
open Go.Shelf Go.RowKit
set_option linter.unusedVariables false
set_option linter.unusedSimpArgs false

def mdL : List Int := [31, 28, 31, 30, 31, 30, 31, 31, 30, 31, 30, 31]
/-- The months' days as they are laid. -/
def Md (w : World) : Prop := ∀ i, i < 12 → w.cell? ⟨0, i, none⟩ = some (.int .i64 (mdL.getD i 0))
theorem Md.lt {w : World} (h : Md w) : 0 < w.heap.size := World.block_lt_of_cell? _ _ (h 0 (by decide))
theorem Md.below {w w' : World} (h : Md w) (hb : Below w.heap.size w w') : Md w' := fun i hi => (World.cell?_of_block (w := w) (hb.block _ h.lt)).trans (h i hi)
/-- Has a year 366 days? -/
def leapD (y : Nat) : Bool := (y % 4 == 0 && y % 100 != 0) || y % 400 == 0
/-- A month's days. -/
def monD (y m : Nat) : Nat := (mdL.getD (m - 1) 0).toNat + (if m = 2 ∧ leapD y = true then 1 else 0)
set_option maxRecDepth 100000 in
set_option maxHeartbeats 1000000 in
/-- isLong. -/
theorem isLong_any (y : Nat) (hy : y ≤ 99999) (w : World) : Calls Tryd.prog 35 #[.int .i64 (y : Int)] w fun e w' => e = .returned (.bool (leapD y)) ∧ w' = w := by
  obtain ⟨B, hB⟩ : ∃ B, leapD y = B := ⟨_, rfl⟩
  rw [hB]
  have HB : Hid (leapD y = B) := hB
  clear hB
  by_cases h4 : y % 4 = 0
  · have k4 : (((y : Int) % 4) == 0) = true := by simp; omega
    by_cases h1 : y % 100 = 0
    · have k1 : (((y : Int) % 100) != 0) = false := by simp; omega
      by_cases h5 : y % 400 = 0
      · have k5 : (((y : Int) % 400) == 0) = true := by simp; omega
        have hb : B = true := by rw [← HB.out]; simp [leapD, h4, h1, h5]
        subst hb
        clear h4 h1 h5
        go_enter Tryd.func35, Tryd.ntmps35
        go_wp2_with fail
        go_ret
        exact ⟨rfl, rfl⟩
      · have k5 : (((y : Int) % 400) == 0) = false := by simp; omega
        have hb : B = false := by rw [← HB.out]; simp [leapD, h4, h1, h5]
        subst hb
        clear h4 h1 h5
        go_enter Tryd.func35, Tryd.ntmps35
        go_wp2_with fail
        go_ret
        exact ⟨rfl, rfl⟩
    · have k1 : (((y : Int) % 100) != 0) = true := by simp; omega
      have hb : B = true := by rw [← HB.out]; simp [leapD, h4, h1]
      subst hb
      clear h4 h1
      go_enter Tryd.func35, Tryd.ntmps35
      go_wp2_with fail
      go_ret
      exact ⟨rfl, rfl⟩
  · have k4 : (((y : Int) % 4) == 0) = false := by simp; omega
    have h5 : ¬ y % 400 = 0 := by omega
    have k5 : (((y : Int) % 400) == 0) = false := by simp; omega
    have hb : B = false := by rw [← HB.out]; simp [leapD, h4, h5]
    subst hb
    clear h4 h5
    go_enter Tryd.func35, Tryd.ntmps35
    go_wp2_with fail
    go_ret
    exact ⟨rfl, rfl⟩
set_option maxRecDepth 100000 in
set_option maxHeartbeats 1000000 in
/-- longYears. -/
theorem longYears_any (y : Nat) (h1 : 1 ≤ y) (hy : y ≤ 99999) (w : World) : Calls Tryd.prog 31 #[.int .i64 (y : Int)] w fun e w' => e = .returned (.int .i64 (((y - 1) / 4 - (y - 1) / 100 + (y - 1) / 400 : Nat) : Int)) ∧ w' = w := by
  obtain ⟨k, rfl⟩ : ∃ k, y = k + 1 := ⟨y - 1, by omega⟩
  go_enter Tryd.func31, Tryd.ntmps31
  go_wp2_with fail
  go_ret
  refine ⟨?_, rfl⟩
  have e : (((k + 1 - 1) / 4 - (k + 1 - 1) / 100 + (k + 1 - 1) / 400 : Nat) : Int) = (k : Int) / 4 - (k : Int) / 100 + (k : Int) / 400 := by omega
  rw [e]
  rfl
set_option maxRecDepth 100000 in
set_option maxHeartbeats 1000000 in
/-- withCentury. -/
theorem withCentury_any (d : Nat) (hd : d ≤ 99) (w : World) : Calls Tryd.prog 29 #[.int .i64 (d : Int)] w fun e w' => e = .returned (.int .i64 ((if d < 50 then 2000 + d else 1900 + d : Nat) : Int)) ∧ w' = w := by
  by_cases q : d < 50
  · have qI : (2000 : Int) + (d : Int) < 2050 := by omega
    rw [if_pos q]
    go_enter Tryd.func29, Tryd.ntmps29
    go_wp2_with fail
    go_ret
    exact ⟨by push_cast; rfl, rfl⟩
  · have qI : ¬ (2000 : Int) + (d : Int) < 2050 := by omega
    rw [if_neg q]
    go_enter Tryd.func29, Tryd.ntmps29
    go_wp2_with fail
    go_ret
    exact ⟨by push_cast; rfl, rfl⟩
set_option maxRecDepth 100000 in
set_option maxHeartbeats 1000000 in
/-- daysOf. -/
theorem daysOf_any (y m : Nat) (hy : y ≤ 99999) (h1 : 1 ≤ m) (h2 : m ≤ 12) (w : World) (hM : Md w) : Calls Tryd.prog 30 #[.int .i64 (y : Int), .int .i64 (m : Int)] w fun e w' => e = .returned (.int .i64 (monD y m : Int)) ∧ w' = w := by
  have HL := isLong_any y hy
  obtain ⟨k, rfl⟩ : ∃ k, m = k + 1 := ⟨m - 1, by omega⟩
  have hc := hM k (by omega)
  obtain ⟨D, hD⟩ : ∃ D, mdL.getD k 0 = D := ⟨_, rfl⟩
  have hD2 : 28 ≤ D ∧ D ≤ 31 := by
    rw [← hD]
    have : ∀ k, k < 12 → 28 ≤ mdL.getD k 0 ∧ mdL.getD k 0 ≤ 31 := by decide
    exact this k (by omega)
  rw [hD] at hc
  have HV : Hid ((monD y (k + 1) : Int) = D + (if k = 1 ∧ leapD y = true then 1 else 0)) := by
    show (monD y (k + 1) : Int) = _
    unfold monD
    rw [Nat.add_sub_cancel, hD]
    by_cases hh : k + 1 = 2 ∧ leapD y = true
    · rw [if_pos hh, if_pos ⟨by omega, hh.2⟩]
      omega
    · rw [if_neg hh, if_neg (by intro h; exact hh ⟨by omega, h.2⟩)]
      omega
  obtain ⟨V, hV⟩ : ∃ V : Nat, monD y (k + 1) = V := ⟨_, rfl⟩
  rw [hV] at HV ⊢
  clear hD hV
  obtain ⟨hD3, hD4⟩ := hD2
  by_cases q : k = 1
  · have qI : ((k : Int) + 1 == 2) = true := by simp; omega
    cases hlp : leapD y with
    | true =>
      rw [hlp] at HL HV
      have hv : (V : Int) = D + 1 := by rw [HV.out, if_pos ⟨q, rfl⟩]
      clear HV q
      go_enter Tryd.func30, Tryd.ntmps30
      go_wp2_with (go_at_call 35; refine (HL _).mono ?_; rintro e w1 ⟨rfl, rfl⟩)
      go_ret
      exact ⟨by rw [hv]; rfl, rfl⟩
    | false =>
      rw [hlp] at HL HV
      have hv : (V : Int) = D := by rw [HV.out, if_neg (by simp)]; omega
      clear HV q
      go_enter Tryd.func30, Tryd.ntmps30
      go_wp2_with (go_at_call 35; refine (HL _).mono ?_; rintro e w1 ⟨rfl, rfl⟩)
      go_ret
      exact ⟨by rw [hv]; rfl, rfl⟩
  · have qI : ((k : Int) + 1 == 2) = false := by simp; omega
    have hv : (V : Int) = D := by rw [HV.out, if_neg (by intro h; exact q h.1)]; omega
    clear HV q
    go_enter Tryd.func30, Tryd.ntmps30
    go_wp2_with fail
    go_ret
    exact ⟨by rw [hv]; rfl, rfl⟩
/-- A number of digits. -/
def numGo : Nat → Bs → Option Nat
  | n, [] => some n
  | n, c :: xs => if c.toNat < 48 ∨ 57 < c.toNat then none else numGo (10 * n + (c.toNat - 48)) xs
theorem numGo_cons (n : Nat) (c : UInt8) (xs : Bs) : numGo n (c :: xs) = if c.toNat < 48 ∨ 57 < c.toNat then none else numGo (10 * n + (c.toNat - 48)) xs := rfl
/-- What numberOf answers. -/
def numV : Option Nat → Value
  | some n => .tuple #[.int .i64 (n : Int), .bool true]
  | none => .tuple #[.int .i64 0, .bool false]
set_option maxRecDepth 100000 in
set_option maxHeartbeats 4000000 in
/-- numberOf. -/
theorem numberOf_any (p : Option Addr) (n c : Nat) (bs : Bs) (w : World) (hl : bs.length = n) (hn : n ≤ 4) (h : BAt w p n bs) :
    Calls Tryd.prog 28 #[.slice p n c] w fun e w' => e = .returned (numV (numGo 0 bs)) ∧ w' = w := by
  obtain ⟨R, hR⟩ : ∃ R, numGo 0 bs = R := ⟨_, rfl⟩
  rw [hR]
  have HV : Hid (BAt w p n bs ∧ bs.length = n ∧ numGo 0 bs = R) := ⟨h, hl, hR⟩
  clear h hl hR
  go_enter Tryd.func28, Tryd.ntmps28
  go_wp2_with fail
  go_loopw [4, 9] (fun v4 v9 wr => ∃ j N : Nat, j ≤ n ∧ v9 = .int .i64 (j : Int) ∧ v4 = .int .i64 (N : Int) ∧ N < 10 ^ j ∧ numGo N (bs.drop j) = R ∧ wr = w) (fun _ v9 _ => n - (intOf v9).toNat)
  case atStart => exact ⟨0, 0, by omega, rfl, rfl, by decide, by simpa using HV.out.2.2, rfl⟩
  case round =>
    obtain ⟨j, N, hj, rfl, rfl, hN, hRj, rfl⟩ := hrel
    have HR : Hid (numGo N (bs.drop j) = R ∧ N < 10 ^ j) := ⟨hRj, hN⟩
    have hNb : N ≤ 10000 := Nat.le_of_lt (Nat.lt_of_lt_of_le hN (Nat.le_trans (Nat.pow_le_pow_right (by decide) (show j ≤ 4 by omega)) (by decide)))
    clear hRj hN
    rcases Nat.lt_or_eq_of_le hj with hj | rfl
    rotate_left
    · have hRs : R = some N := by rw [← HR.out.1, List.drop_of_length_le (by rw [HV.out.2.1]; exact Nat.le_refl _)]; rfl
      have HRs : Hid (R = some N) := hRs
      clear hRs
      go_wp2_with fail
      go_ret2
      exact ⟨by rw [HRs.out]; rfl, rfl⟩
    obtain ⟨b, o, rfl, hcl⟩ := HV.out.1 (by omega)
    have hjI : (j : Int) < (n : Int) := by omega
    have hj0 : (0 : Int) ≤ (j : Int) := by omega
    have c0 := hcl j (by omega)
    obtain ⟨y, hy⟩ : ∃ y, bs.getD j 0 = y := ⟨_, rfl⟩
    have hyl := y.toNat_lt
    have hdr : bs.drop j = y :: bs.drop (j + 1) := by
      have hjl : j < bs.length := by rw [HV.out.2.1]; omega
      rw [List.drop_eq_getElem_cons hjl]
      congr 1
      rw [← hy]
      simp [List.getD, hjl]
    rw [hy] at c0
    obtain ⟨Y, hY⟩ : ∃ Y, y.toNat = Y := ⟨_, rfl⟩
    rw [hY] at c0 hyl
    have HR2 : Hid (R = if Y < 48 ∨ 57 < Y then none else numGo (10 * N + (Y - 48)) (bs.drop (j + 1))) := by
      show R = _
      rw [← HR.out.1, hdr, numGo_cons, hY]
    clear hY hdr hy hcl
    by_cases q1 : Y < 48
    · have q1I : (Y : Int) < 48 := by omega
      have HRs : Hid (R = none) := by show R = none; rw [HR2.out, if_pos (.inl q1)]
      go_wp2_with fail
      go_ret2
      exact ⟨by rw [HRs.out]; rfl, rfl⟩
    have q1I : ¬ (Y : Int) < 48 := by omega
    by_cases q2 : 57 < Y
    · have q2I : (57 : Int) < (Y : Int) := by omega
      have HRs : Hid (R = none) := by show R = none; rw [HR2.out, if_pos (.inr q2)]
      go_wp2_with fail
      go_ret2
      exact ⟨by rw [HRs.out]; rfl, rfl⟩
    have q2I : ¬ (57 : Int) < (Y : Int) := by omega
    have HRs : Hid (numGo (10 * N + (Y - 48)) (bs.drop (j + 1)) = R ∧ 10 * N + (Y - 48) < 10 ^ (j + 1)) := ⟨by rw [HR2.out, if_neg (by omega)], by have := HR.out.2; rw [Nat.pow_succ]; omega⟩
    go_wp2_with fail
    exact ⟨⟨j + 1, 10 * N + (Y - 48), by omega, by push_cast; rfl, by congr 1; omega, HRs.out.2, HRs.out.1, trivial⟩, by simp only [intOf]; omega⟩
end Go.Proofs.YtnckmcmobkpdcaaDoor
/-
  Plain mathematics of numbers written as digits, the least first: values, the place of the greatest digit that isn't 0, uniqueness. No program in sight.
-/
namespace Go.Proofs.YtnckmcmobkpdcaaDoor
open Go.RowKit
set_option linter.unusedVariables false

/-- The number that digits say, in base B, the least first. -/
def val (B : Int) : List Int → Int
  | [] => 0
  | x :: xs => x + B * val B xs

/-- How many digits there are up to the greatest that isn't 0. -/
def top : List Int → Nat
  | [] => 0
  | x :: xs => if top xs = 0 then (if x = 0 then 0 else 1) else top xs + 1

/-- Each is a digit of base B. -/
def Dg (B : Int) (xs : List Int) : Prop := ∀ x ∈ xs, 0 ≤ x ∧ x < B

theorem top_le (xs : List Int) : top xs ≤ xs.length := by
  induction xs with
  | nil => simp [top]
  | cons x xs ih => simp only [top, List.length_cons]; split <;> (try split) <;> omega

theorem top_above : ∀ (xs : List Int) (j : Nat), top xs ≤ j → xs.getD j 0 = 0
  | [], j, _ => by simp
  | x :: xs, j, h => by
    simp only [top] at h
    split at h
    · rename_i h0
      split at h
      · rename_i hx
        cases j with
        | zero => simpa using hx
        | succ j => simpa using top_above xs j (by omega)
      · cases j with
        | zero => omega
        | succ j => simpa using top_above xs j (by omega)
    · cases j with
      | zero => omega
      | succ j => simpa using top_above xs j (by omega)

theorem top_hit : ∀ (xs : List Int) (h : 0 < top xs), xs.getD (top xs - 1) 0 ≠ 0
  | [], h => by simp [top] at h
  | x :: xs, h => by
    simp only [top] at h ⊢
    split
    · rename_i h0
      rw [if_pos h0] at h
      split
      · rename_i hx; rw [if_pos hx] at h; omega
      · simpa
    · rename_i h0
      have := top_hit xs (by omega)
      obtain ⟨m, hm⟩ : ∃ m, top xs = m + 1 := ⟨top xs - 1, by omega⟩
      rw [hm] at this ⊢
      simpa using this

/-- The place is told by what stands there and above. -/
theorem top_eq (xs : List Int) (n : Nat) (h1 : ∀ j, n ≤ j → j < xs.length → xs.getD j 0 = 0) (h2 : n = 0 ∨ xs.getD (n - 1) 0 ≠ 0) : top xs = n := by
  rcases Nat.lt_trichotomy (top xs) n with h | h | h
  · rcases h2 with h2 | h2
    · omega
    · exact absurd (top_above xs (n - 1) (by omega)) h2
  · exact h
  · have hl := top_le xs
    exact absurd (h1 (top xs - 1) (by omega) (by omega)) (top_hit xs (by omega))

theorem val_nil (B : Int) : val B [] = 0 := rfl
theorem val_cons (B x : Int) (xs : List Int) : val B (x :: xs) = x + B * val B xs := rfl
theorem val_append (B : Int) (xs ys : List Int) : val B (xs ++ ys) = val B xs + B ^ xs.length * val B ys := by
  induction xs with
  | nil => simp [val]
  | cons x xs ih => simp only [List.cons_append, val, ih, List.length_cons, Int.pow_succ]; grind
theorem val_zeros (B : Int) : ∀ (xs : List Int), (∀ j, xs.getD j 0 = 0) → val B xs = 0
  | [], _ => rfl
  | x :: xs, h => by
    have h0 := h 0
    simp at h0
    rw [val, h0, val_zeros B xs (fun j => by simpa using h (j + 1))]
    simp
theorem val_replicate (B : Int) (n : Nat) : val B (List.replicate n 0) = 0 := val_zeros B _ (fun j => by simp [List.getD, List.getElem?_replicate]; split <;> rfl)
theorem val_take_top (B : Int) (xs : List Int) : val B (xs.take (top xs)) = val B xs := by
  have h : val B (xs.drop (top xs)) = 0 := val_zeros B _ (fun j => by
    have := top_above xs (top xs + j) (by omega)
    simpa [List.getD, List.getElem?_drop] using this)
  have h2 := val_append B (xs.take (top xs)) (xs.drop (top xs))
  rw [List.take_append_drop, h] at h2
  rw [h2]; simp
theorem top_take_top (xs : List Int) : top (xs.take (top xs)) = (xs.take (top xs)).length := by
  have hl := top_le xs
  have hlen : (xs.take (top xs)).length = top xs := by simp; omega
  rw [hlen]
  refine top_eq _ _ (fun j h1 h2 => by omega) ?_
  by_cases h : top xs = 0
  · exact .inl h
  · right
    have := top_hit xs (by omega)
    simp only [List.getD, List.getElem?_take] at this ⊢
    rw [if_pos (by omega)]
    exact this

theorem Dg.nil (B : Int) : Dg B [] := fun x h => by simp at h
theorem Dg.cons {B x : Int} {xs : List Int} (h : 0 ≤ x ∧ x < B) (t : Dg B xs) : Dg B (x :: xs) := fun y hy => by
  rcases List.mem_cons.1 hy with rfl | hy
  · exact h
  · exact t y hy
theorem Dg.head {B x : Int} {xs : List Int} (h : Dg B (x :: xs)) : 0 ≤ x ∧ x < B := h x (by simp)
theorem Dg.tail {B x : Int} {xs : List Int} (h : Dg B (x :: xs)) : Dg B xs := fun y hy => h y (by simp [hy])
theorem Dg.append {B : Int} {xs ys : List Int} (h : Dg B xs) (k : Dg B ys) : Dg B (xs ++ ys) := fun y hy => by
  rcases List.mem_append.1 hy with hy | hy
  · exact h y hy
  · exact k y hy
theorem Dg.take {B : Int} {xs : List Int} (h : Dg B xs) (n : Nat) : Dg B (xs.take n) := fun y hy => h y (List.mem_of_mem_take hy)
theorem Dg.drop {B : Int} {xs : List Int} (h : Dg B xs) (n : Nat) : Dg B (xs.drop n) := fun y hy => h y (List.mem_of_mem_drop hy)
theorem Dg.set {B : Int} {xs : List Int} (h : Dg B xs) (n : Nat) {y : Int} (hy : 0 ≤ y ∧ y < B) : Dg B (xs.set n y) := fun z hz => by
  rcases List.mem_or_eq_of_mem_set hz with hz | rfl
  · exact h z hz
  · exact hy
theorem Dg.zeros {B : Int} (hB : 0 < B) (n : Nat) : Dg B (List.replicate n 0) := fun y hy => by
  rw [List.eq_of_mem_replicate hy]; omega
theorem Dg.getD {B : Int} {xs : List Int} (hB : 0 < B) (h : Dg B xs) (i : Nat) : 0 ≤ xs.getD i 0 ∧ xs.getD i 0 < B := by
  by_cases hi : i < xs.length
  · have : xs.getD i 0 = xs[i] := by simp [List.getD, hi]
    rw [this]; exact h _ (List.getElem_mem hi)
  · have : xs.getD i 0 = 0 := by simp [List.getD, List.getElem?_eq_none (by omega : xs.length ≤ i)]
    rw [this]; omega

theorem val_nonneg {B : Int} (hB : 0 < B) : ∀ {xs : List Int}, Dg B xs → 0 ≤ val B xs
  | [], _ => by simp [val]
  | x :: xs, h => by
    have h1 := h.head
    have h2 := val_nonneg hB h.tail
    have h3 : 0 ≤ B * val B xs := Int.mul_nonneg (by omega) h2
    rw [val]; omega
theorem val_lt {B : Int} (hB : 0 < B) : ∀ {xs : List Int}, Dg B xs → val B xs < B ^ xs.length
  | [], _ => by simp [val]
  | x :: xs, h => by
    have h1 := h.head
    have h2 := val_lt hB h.tail
    have h3 : B * (val B xs + 1) ≤ B * B ^ xs.length := Int.mul_le_mul_of_nonneg_left (by omega) (by omega)
    rw [val, List.length_cons, Int.pow_succ, Int.mul_comm (B ^ xs.length) B]
    rw [Int.mul_add] at h3
    omega

/-- Two digits' lists of one length that say one number are one. -/
theorem val_inj {B : Int} (hB : 0 < B) : ∀ {xs ys : List Int}, xs.length = ys.length → Dg B xs → Dg B ys → val B xs = val B ys → xs = ys
  | [], [], _, _, _, _ => rfl
  | [], y :: ys, h, _, _, _ => by simp at h
  | x :: xs, [], h, _, _, _ => by simp at h
  | x :: xs, y :: ys, hl, hx, hy, hv => by
    rw [val, val] at hv
    have h1 := hx.head
    have h2 := hy.head
    have e1 : x = y := by
      have a : (x + B * val B xs) % B = x := by rw [Int.add_mul_emod_self_left]; exact Int.emod_eq_of_lt h1.1 h1.2
      have b : (y + B * val B ys) % B = y := by rw [Int.add_mul_emod_self_left]; exact Int.emod_eq_of_lt h2.1 h2.2
      rw [← a, hv, b]
    have e2 : val B xs = val B ys := by
      have : B * val B xs = B * val B ys := by omega
      exact Int.eq_of_mul_eq_mul_left (by omega) this
    rw [e1, val_inj hB (by simpa using hl) hx.tail hy.tail e2]

/-- Digits without zeros above the greatest say a number that fills them. -/
theorem val_ge {B : Int} (hB : 0 < B) {xs : List Int} (hd : Dg B xs) (n : Nat) (h : top xs = n + 1) : B ^ n ≤ val B xs := by
  have h0 := val_take_top B xs
  have hl := top_le xs
  have ht := top_hit xs (by omega)
  rw [h] at h0 ht
  have e : xs.take (n + 1) = xs.take n ++ [xs.getD n 0] := by
    rw [List.take_succ_eq_append_getElem (by omega)]
    congr 2
    simp [List.getD, List.getElem?_eq_getElem (show n < xs.length by omega)]
  rw [e, val_append] at h0
  have hn : (xs.take n).length = n := by simp; omega
  have hg := hd.getD hB n
  have hv := val_nonneg hB (hd.take n)
  rw [← h0, hn]
  simp only [Nat.add_sub_cancel] at ht
  have hp : 0 < B ^ n := Int.pow_pos hB
  have : B ^ n * 1 ≤ B ^ n * val B [xs.getD n 0] := Int.mul_le_mul_of_nonneg_left (by simp only [val]; omega) (by omega)
  omega

theorem pow_mono {B : Int} (hB : 1 ≤ B) {m n : Nat} (h : m ≤ n) : B ^ m ≤ B ^ n := by
  obtain ⟨k, rfl⟩ := Nat.le.dest h
  rw [Int.pow_add]
  have h1 : 0 < B ^ m := Int.pow_pos (by omega)
  have h2 : 0 < B ^ k := Int.pow_pos (by omega)
  have := Int.mul_le_mul_of_nonneg_left (show 1 ≤ B ^ k by omega) (show 0 ≤ B ^ m by omega)
  omega

/-- How many digits a number fills is told by the number. -/
theorem top_mono {B : Int} (hB : 1 < B) {xs ys : List Int} (hx : Dg B xs) (hy : Dg B ys) (h : val B xs ≤ val B ys) : top xs ≤ top ys := by
  by_cases h1 : top xs ≤ top ys
  · exact h1
  · exfalso
    obtain ⟨n, hn⟩ : ∃ n, top xs = n + 1 := ⟨top xs - 1, by omega⟩
    have a := val_ge (by omega) hx n hn
    have b := val_lt (by omega) (hy.take (top ys))
    rw [val_take_top] at b
    have hl := top_le ys
    have c : (ys.take (top ys)).length = top ys := by simp; omega
    rw [c] at b
    have d := pow_mono (B := B) (by omega) (show top ys ≤ n by omega)
    omega

/-- No zeros above the greatest digit. -/
def Canon (xs : List Int) : Prop := top xs = xs.length
theorem Canon.nil : Canon [] := rfl
theorem canon_take_top (xs : List Int) : Canon (xs.take (top xs)) := top_take_top xs

/-- One number has one form. -/
theorem canon_inj {B : Int} (hB : 1 < B) {xs ys : List Int} (hx : Dg B xs) (hy : Dg B ys) (cx : Canon xs) (cy : Canon ys) (h : val B xs = val B ys) : xs = ys := by
  have a := top_mono hB hx hy (by omega)
  have b := top_mono hB hy hx (by omega)
  unfold Canon at cx cy
  exact val_inj (by omega) (by omega) hx hy h

/-! ### Numbers in memory -/
/-- The slice at that address, of that length, holds the numbers xs (of that kind). -/
def Lies (k : IntKind) (w : World) (ao : Option Addr) (len : Nat) (xs : List Int) : Prop :=
  xs.length = len ∧ (len = 0 ∨ ∃ b off, ao = some ⟨b, off, none⟩ ∧ b < w.heap.size ∧ ∀ i, i < len → w.cell? ⟨b, off + i, none⟩ = some (.int k (xs.getD i 0)))

theorem Lies.len {k : IntKind} {w : World} {ao : Option Addr} {len : Nat} {xs : List Int} (h : Lies k w ao len xs) : xs.length = len := h.1
theorem Lies.at {k : IntKind} {w : World} {ao : Option Addr} {len : Nat} {xs : List Int} (h : Lies k w ao len xs) (hl : 0 < len) :
    ∃ b off, ao = some ⟨b, off, none⟩ ∧ b < w.heap.size ∧ ∀ i, i < len → w.cell? ⟨b, off + i, none⟩ = some (.int k (xs.getD i 0)) := by
  rcases h.2 with h | h
  · omega
  · exact h
theorem Lies.below {k : IntKind} {w w' : World} {ao : Option Addr} {len : Nat} {xs : List Int} (h : Lies k w ao len xs) {B : Nat} (hb : Below B w w') (hB : ∀ b off s, ao = some ⟨b, off, s⟩ → b < w.heap.size → b < B) : Lies k w' ao len xs := by
  refine ⟨h.1, ?_⟩
  rcases h.2 with h0 | ⟨b, off, e, hlt, hc⟩
  · exact .inl h0
  · exact .inr ⟨b, off, e, Nat.lt_of_lt_of_le hlt hb.size, fun i hi => (hb.cell (p := ⟨b, off + i, none⟩) (hB b off none e hlt)).trans (hc i hi)⟩
theorem Lies.old {k : IntKind} {w w' : World} {ao : Option Addr} {len : Nat} {xs : List Int} (h : Lies k w ao len xs) (hb : Below w.heap.size w w') : Lies k w' ao len xs :=
  h.below hb fun _ _ _ _ h => h
theorem Lies.take {k : IntKind} {w : World} {ao : Option Addr} {len : Nat} {xs : List Int} (h : Lies k w ao len xs) (n : Nat) (hn : n ≤ len) : Lies k w ao n (xs.take n) := by
  refine ⟨by rw [List.length_take, h.1]; omega, ?_⟩
  rcases h.2 with h0 | ⟨b, off, e, hlt, hc⟩
  · exact .inl (by omega)
  · refine .inr ⟨b, off, e, hlt, fun i hi => ?_⟩
    rw [hc i (by omega)]
    simp only [List.getD, List.getElem?_take]
    rw [if_pos hi]
theorem Lies.empty (k : IntKind) (w : World) (ao : Option Addr) : Lies k w ao 0 [] := ⟨rfl, .inl rfl⟩

end Go.Proofs.YtnckmcmobkpdcaaDoor
/-
  Contracts of nat's small functions: limbs, trim, limb.
-/
namespace Go.Proofs.YtnckmcmobkpdcaaDoor
open Go.RowKit
set_option linter.unusedVariables false

theorem ret_int {k : IntKind} {a b : Int} (h : a = b) : Ending.returned (.int k a) = .returned (.int k b) := by rw [h]

theorem ret_slice {ao : Option Addr} {a b c d : Nat} (h : a = b) (h' : c = d) : Ending.returned (.slice ao a c) = .returned (.slice ao b d) := by rw [h, h']

set_option maxHeartbeats 400000 in
/-- nat.limbs. -/
theorem limbs_any (ao : Option Addr) (len cap : Nat) (xs : List Int) (w : World) (h : Lies .u64 w ao len xs) (hm : len ≤ maxLen) :
    Calls Tryd.prog 37 #[.slice ao len cap] w fun e w' => e = .returned (.int .i64 (top xs)) ∧ w' = w := by
  have hl := h.len
  unfold maxLen at hm
  go_enter Tryd.func37, Tryd.ntmps37
  go_wp2
  go_loop [7] (fun i => ∃ k : Nat, k ≤ len ∧ i = .int .i64 k ∧ ∀ j, len - k ≤ j → j < len → xs.getD j 0 = 0) (fun i => len - (intOf i).toNat)
  case atStart => exact ⟨0, Nat.zero_le _, rfl, fun j h1 h2 => by omega⟩
  case round =>
    obtain ⟨k, hk, rfl, hz⟩ := hrel
    by_cases hlt : k < len
    · obtain ⟨b, off, rfl, hb, hc⟩ := h.at (by omega)
      have hcell := hc (len - k - 1) (by omega)
      go_wp2
      · have hne : (xs[len - k - 1]?.getD 0 != 0) = true := by assumption
        go_ret
        refine ⟨ret_int ?_, rfl⟩
        rw [top_eq xs (len - k) (fun j h1 h2 => hz j h1 (by omega)) (.inr (by simpa [List.getD] using hne))]
        omega
      · have hne : (xs[len - k - 1]?.getD 0 != 0) = false := by assumption
        go_round
        case rel =>
          refine ⟨k + 1, by omega, by go_num, fun j h1 h2 => ?_⟩
          by_cases hj : j = len - k - 1
          · subst hj; simpa [List.getD] using hne
          · exact hz j (by omega) h2
        case measure => simp [intOf]; omega
    · go_wp2
      go_ret
      refine ⟨ret_int ?_, rfl⟩
      rw [top_eq xs 0 (fun j h1 h2 => hz j (by omega) (by omega)) (.inl rfl)]
      rfl

set_option maxHeartbeats 400000 in
/-- nat.trim. -/
theorem trim_any (ao : Option Addr) (len cap : Nat) (xs : List Int) (w : World) (h : Lies .u64 w ao len xs) (hlc : len ≤ cap) (hm : cap ≤ maxLen) (hn : ao = none → cap = 0) :
    Calls Tryd.prog 34 #[.slice ao len cap] w fun e w' => e = .returned (.slice ao (top xs) cap) ∧ w' = w := by
  have hl := h.len
  have ht := top_le xs
  have hm' := hm
  unfold maxLen at hm
  go_enter Tryd.func34, Tryd.ntmps34
  go_wp2_with fail
  refine (limbs_any ao len cap xs w h (by unfold maxLen; omega)).mono ?_
  rintro e w' ⟨rfl, rfl⟩
  cases ao with
  | none =>
    obtain rfl := hn rfl
    obtain rfl : len = 0 := by omega
    have ht0 : top xs = 0 := by omega
    rw [ht0]
    go_wp2
    go_ret
    exact ⟨ret_slice (by omega) rfl, rfl⟩
  | some a =>
    go_wp2
    go_ret
    exact ⟨rfl, rfl⟩

end Go.Proofs.YtnckmcmobkpdcaaDoor
/-
  Contracts of math/bits and cmp as nat calls them: Len64, LeadingZeros64, Compare, Mul64, Add64, Sub64.
-/
namespace Go.Proofs.YtnckmcmobkpdcaaDoor
open Go.RowKit Go.Lib
set_option linter.unusedVariables false
set_option linter.unusedSimpArgs false

/-- -1, 0, 1: how a number stands to another one. -/
def cmpI (a b : Int) : Int := if a < b then -1 else if b < a then 1 else 0

/-- How many bits a number has. -/
def blen (n : Nat) : Nat := if n = 0 then 0 else n.log2 + 1
theorem blen_zero : blen 0 = 0 := rfl
theorem blen_lt (n : Nat) : n < 2 ^ blen n := by
  unfold blen
  split
  · subst n; decide
  · exact Nat.lt_log2_self
theorem blen_ge (n : Nat) (h : n ≠ 0) : 2 ^ (blen n - 1) ≤ n := by
  unfold blen
  rw [if_neg h]
  exact Nat.log2_self_le h
theorem blen_pos (n : Nat) (h : n ≠ 0) : 0 < blen n := by unfold blen; rw [if_neg h]; omega
theorem blen_eq (n k : Nat) (h1 : 2 ^ k ≤ n) (h2 : n < 2 ^ (k + 1)) : blen n = k + 1 := by
  have hn : n ≠ 0 := by have := Nat.two_pow_pos k; omega
  have a := blen_lt n
  have b := blen_ge n hn
  have c := blen_pos n hn
  have d : k < blen n := (Nat.pow_lt_pow_iff_right (by decide)).1 (Nat.lt_of_le_of_lt h1 a)
  have e : blen n - 1 < k + 1 := (Nat.pow_lt_pow_iff_right (by decide)).1 (Nat.lt_of_le_of_lt b h2)
  omega
theorem blen_le (n k : Nat) (h : n < 2 ^ k) : blen n ≤ k := by
  by_cases hn : n = 0
  · subst hn; simp [blen]
  · have b := blen_ge n hn
    have e : blen n - 1 < k := (Nat.pow_lt_pow_iff_right (by decide)).1 (Nat.lt_of_le_of_lt b h)
    omega
theorem blen_shift (n k : Nat) (h : 2 ^ k ≤ n) : blen n = k + blen (n / 2 ^ k) := by
  have hp := Nat.two_pow_pos k
  have hq : n / 2 ^ k ≠ 0 := by
    have := (Nat.le_div_iff_mul_le hp).2 (show 1 * 2 ^ k ≤ n by omega)
    omega
  have a := blen_lt (n / 2 ^ k)
  have b := blen_ge (n / 2 ^ k) hq
  have c := blen_pos (n / 2 ^ k) hq
  obtain ⟨m, hm⟩ : ∃ m, blen (n / 2 ^ k) = m + 1 := ⟨blen (n / 2 ^ k) - 1, by omega⟩
  rw [hm] at a b ⊢
  simp only [Nat.add_sub_cancel] at b
  have := blen_eq n (k + m) (by
    rw [Nat.pow_add, Nat.mul_comm]
    exact (Nat.le_div_iff_mul_le hp).1 b) (by
    rw [show k + m + 1 = (m + 1) + k by omega, Nat.pow_add]
    exact (Nat.div_lt_iff_lt_mul hp).1 a)
  omega

set_option maxRecDepth 100000 in
theorem tab_all : ∀ n : Fin 256, len8tab[n.val]? = some (UInt8.ofNat (blen n.val)) ∧ blen n.val ≤ 8 := by decide +kernel
set_option maxRecDepth 100000 in
theorem tab_size : (len8tab.size : Int) = 256 := by
  have : len8tab.size = 256 := by decide +kernel
  omega
/-- The table's byte and the count before it. -/
theorem tab_step (k : Nat) (y : Int) (x : Nat) (hs : y.toNat < len8tab.size) (h0 : 0 ≤ y) (h1 : y ≤ 255) (hy : y.toNat = x / 2 ^ k) (hk : k = 0 ∨ 2 ^ k ≤ x) (hk2 : k ≤ 56) :
    wrap64 ((k : Int) + wrap64 ((len8tab[y.toNat]'hs).toNat : Int)) = (blen x : Int) := by
  obtain ⟨a, b⟩ := tab_all ⟨y.toNat, by omega⟩
  simp only at a b
  rw [getElem?_pos len8tab y.toNat hs] at a
  injection a with a
  rw [a]
  have e : (UInt8.ofNat (blen y.toNat)).toNat = blen y.toNat := by
    rw [UInt8.toNat_ofNat']; omega
  rw [e]
  have f : blen x = k + blen y.toNat := by
    rcases hk with rfl | hk
    · rw [hy]; simp
    · rw [hy]; exact blen_shift x k hk
  rw [f]
  unfold wrap64
  omega

/-! ### Add64, Sub64, which run at once -/
/-- What Sub64 borrows. -/
def bor (x y : Int) : Int := if x < y then 1 else 0
theorem bor_01 (x y : Int) : 0 ≤ bor x y ∧ bor x y ≤ 1 := by unfold bor; split <;> omega
end Go.Proofs.YtnckmcmobkpdcaaDoor
/-
  Contracts of math/bits.Mul64 and nat.mulAdd.
-/
namespace Go.Proofs.YtnckmcmobkpdcaaDoor
open Go.RowKit Go.Lib
set_option linter.unusedVariables false
set_option linter.unusedSimpArgs false

theorem low_half (a : Nat) (ha : a < 18446744073709551616) : bits .and .u64 (a : Int) 4294967295 = ((a % 4294967296 : Nat) : Int) := by
  have h := bits_and_u64_nat a 4294967295 ha (by omega)
  rw [show a &&& 4294967295 = a % 4294967296 from Nat.and_two_pow_sub_one_eq_mod a 32] at h
  exact h
theorem cast_div32 (a : Nat) : (a : Int) / 4294967296 = ((a / 4294967296 : Nat) : Int) := by omega
theorem cast_mul (a b : Nat) : (a : Int) * (b : Int) = ((a * b : Nat) : Int) := (Int.natCast_mul a b).symm
theorem cast_add (a b : Nat) : (a : Int) + (b : Int) = ((a + b : Nat) : Int) := (Int.natCast_add a b).symm
theorem wrap_fit (a : Nat) (ha : a < 18446744073709551616) : IntKind.u64.wrap (a : Int) = (a : Int) := by rw [IntKind.wrap_u64]; omega
theorem wrap_mod (a : Nat) : IntKind.u64.wrap (a : Int) = ((a % 18446744073709551616 : Nat) : Int) := by rw [IntKind.wrap_u64]; omega

theorem ret_two {k l : IntKind} {a b c d : Int} (h : a = b) (h' : c = d) : Ending.returned (.tuple #[.int k a, .int l c]) = .returned (.tuple #[.int k b, .int l d]) := by rw [h, h']

theorem prod_lt (a b more : Int) (ha0 : 0 ≤ a) (ha : a < 18446744073709551616) (hb0 : 0 ≤ b) (hb : b < 18446744073709551616) (hm : more < 18446744073709551616) :
    a * b + more < 18446744073709551616 * 18446744073709551616 - 18446744073709551616 + 1 := by
  have h1 : a * b ≤ 18446744073709551615 * 18446744073709551615 := Int.mul_le_mul (by omega) (by omega) hb0 (by omega)
  omega

/-! ### A row of the program's own memory -/
/-- Block g is a row of numbers that may be written. -/
def Row (e : TypeId) (k : IntKind) (w : World) (g : Nat) (xs : List Int) : Prop := w.heap[g]? = some (.cells ((xs.map (Value.int k)).toArray) e (0, 0))
theorem Row.lt {e : TypeId} {k : IntKind} {w : World} {g : Nat} {xs : List Int} (h : Row e k w g xs) : g < w.heap.size := by
  unfold Row at h
  exact (Array.getElem?_eq_some_iff.1 h).1
theorem Row.cell {e : TypeId} {k : IntKind} {w : World} {g : Nat} {xs : List Int} (h : Row e k w g xs) (j : Nat) (hj : j < xs.length) : w.cell? ⟨g, j, none⟩ = some (.int k (xs.getD j 0)) := by
  rw [cell_of_row w g j _ e (0, 0) h]
  simp [hj]
theorem Row.frozen {e : TypeId} {k : IntKind} {w : World} {g : Nat} {xs : List Int} (h : Row e k w g xs) (j : Nat) : w.frozen? ⟨g, j, none⟩ = false := frozen_of_row w g j _ e h
theorem Row.set {e : TypeId} {k : IntKind} {w : World} {g : Nat} {xs : List Int} (h : Row e k w g xs) (j : Nat) (y : Int) : Row e k (w.setCell ⟨g, j, none⟩ (.int k y)) g (xs.set j y) := by
  unfold Row
  rw [heap_setCell_same w g j _ e _ h]
  simp [List.map_set]
theorem Row.kept {e : TypeId} {k : IntKind} {w w' : World} {g : Nat} {xs : List Int} (h : Row e k w g xs) {row : Option Nat} (hg : w.grownBy w' row) (hne : some g ≠ row) : Row e k w' g xs := by
  unfold Row
  rw [hg.block g h.lt hne]; exact h
theorem Row.below {e : TypeId} {k : IntKind} {w w' : World} {g : Nat} {xs : List Int} (h : Row e k w g xs) {B : Nat} (hg : Below B w w') (hne : g < B) : Row e k w' g xs := by
  unfold Row
  rw [hg.block g hne]; exact h
theorem Row.lies {e : TypeId} {k : IntKind} {w : World} {g : Nat} {xs : List Int} (h : Row e k w g xs) (off len : Nat) (hl : off + len ≤ xs.length) : Lies k w (some ⟨g, off, none⟩) len ((xs.drop off).take len) := by
  refine ⟨by simp; omega, .inr ⟨g, off, rfl, h.lt, fun i hi => ?_⟩⟩
  rw [h.cell (off + i) (by omega)]
  simp only [List.getD, List.getElem?_take, List.getElem?_drop]
  rw [if_pos hi]
theorem grown_set (w : World) (g j : Nat) (u : Value) : w.grownBy (w.setCell ⟨g, j, none⟩ u) (some g) :=
  ⟨rfl, rfl, rfl, by simp, fun k _ hk => heap_setCell_other w ⟨g, j, none⟩ k u (fun e => hk (by simp [e]))⟩
theorem grown_trans {a b c : World} {row : Option Nat} (h : a.grownBy b row) (k : b.grownBy c row) : a.grownBy c row :=
  ⟨k.os.trans h.os, k.tape.trans h.tape, k.output.trans h.output, Nat.le_trans h.size k.size, fun i hi hne => (k.block i (Nat.lt_of_lt_of_le hi h.size) hne).trans (h.block i hi hne)⟩
theorem Lies.kept {k : IntKind} {w w' : World} {ao : Option Addr} {len : Nat} {xs : List Int} (h : Lies k w ao len xs) {row : Option Nat} (hg : w.grownBy w' row) (hne : ∀ b off s, ao = some ⟨b, off, s⟩ → some b ≠ row) : Lies k w' ao len xs := by
  refine ⟨h.1, ?_⟩
  rcases h.2 with h0 | ⟨b, off, e, hlt, hc⟩
  · exact .inl h0
  · exact .inr ⟨b, off, e, Nat.lt_of_lt_of_le hlt hg.size, fun i hi => hg.cell (hc i hi) (hne b off none e)⟩
end Go.Proofs.YtnckmcmobkpdcaaDoor
/-
  Times: a year, the seconds.
-/
namespace Go.Proofs.YtnckmcmobkpdcaaDoor
open Go.Shelf Go.RowKit
set_option linter.unusedVariables false
set_option linter.unusedSimpArgs false

/-- A moment is one. -/
def existB (y m d h mi s : Nat) : Bool := decide (1 ≤ m ∧ m ≤ 12 ∧ 1 ≤ d ∧ d ≤ monD y m ∧ h < 24 ∧ mi < 60 ∧ s < 60)
/-- Years with a 29th of February ahead of one. -/
def lyD (y : Nat) : Nat := (y - 1) / 4 - (y - 1) / 100 + (y - 1) / 400
/-- The days of so many months. -/
def monsD (y : Nat) : Nat → Nat
  | 0 => 0
  | k + 1 => monsD y k + monD y (k + 1)
/-- A moment's seconds. -/
def secsD (y m d h mi s : Nat) : Nat := (((365 * (y - 1970) + lyD y - 477 + monsD y (m - 1) + (d - 1)) * 24 + h) * 60 + mi) * 60 + s
theorem monD_le (y m : Nat) : monD y m ≤ 32 := by
  unfold monD
  have h1 : ∀ k, k < 12 → (mdL.getD k 0).toNat ≤ 31 := by decide
  have h2 : (mdL.getD (m - 1) 0).toNat ≤ 31 := by
    by_cases h : m - 1 < 12
    · exact h1 _ h
    · simp only [List.getD]
      rw [List.getElem?_eq_none (by simp [mdL]; omega)]
      decide
  split <;> omega
theorem monsD_le (y : Nat) : ∀ k, monsD y k ≤ 32 * k
  | 0 => Nat.le_refl _
  | k + 1 => by
    have := monsD_le y k
    have := monD_le y (k + 1)
    simp only [monsD]
    omega
theorem row_moment (w : World) (y m d h mi s : Nat) : Row 56 .i64 (w.alloc (.cells #[.int .i64 (y : Int), .int .i64 (m : Int), .int .i64 (d : Int), .int .i64 (h : Int), .int .i64 (mi : Int), .int .i64 (s : Int)] 56)) w.heap.size [(y : Int), (m : Int), (d : Int), (h : Int), (mi : Int), (s : Int)] := heap_alloc_new w _
set_option maxRecDepth 100000 in
set_option maxHeartbeats 4000000 in
/-- exists. -/
theorem exists_any (y m d h mi s : Nat) (hy : y ≤ 99999) (hm : m ≤ 99999) (hd : d ≤ 99999) (hh : h ≤ 99999) (hmi : mi ≤ 99999) (hs : s ≤ 99999) (w : World) (hM : Md w) :
    Calls Tryd.prog 20 #[.agg #[.int .i64 (y : Int), .int .i64 (m : Int), .int .i64 (d : Int), .int .i64 (h : Int), .int .i64 (mi : Int), .int .i64 (s : Int)]] w fun e w' => e = .returned (.bool (existB y m d h mi s)) ∧ Below w.heap.size w w' := by
  obtain ⟨B, hB⟩ : ∃ B, existB y m d h mi s = B := ⟨_, rfl⟩
  rw [hB]
  have HB : Hid (existB y m d h mi s = B) := hB
  have R1 := row_moment w y m d h mi s
  have b1 : Below w.heap.size w (w.alloc (.cells #[.int .i64 (y : Int), .int .i64 (m : Int), .int .i64 (d : Int), .int .i64 (h : Int), .int .i64 (mi : Int), .int .i64 (s : Int)] 56)) := (Below.refl _ _).alloc (Nat.le_refl _) _
  generalize hW1 : w.alloc (.cells #[.int .i64 (y : Int), .int .i64 (m : Int), .int .i64 (d : Int), .int .i64 (h : Int), .int .i64 (mi : Int), .int .i64 (s : Int)] 56) = W1 at R1 b1
  have c0 := R1.cell 0 (by simp)
  have c1 := R1.cell 1 (by simp)
  have c2 := R1.cell 2 (by simp)
  have c3 := R1.cell 3 (by simp)
  have c4 := R1.cell 4 (by simp)
  have c5 := R1.cell 5 (by simp)
  simp only [List.getD, List.getElem?_cons_zero, List.getElem?_cons_succ, Option.getD_some] at c0 c1 c2 c3 c4 c5
  have HW : Hid (Below w.heap.size w W1) := b1
  have hM1 := hM.below b1
  clear R1 b1 hB hM
  have HNO : Hid (¬ (1 ≤ m ∧ m ≤ 12 ∧ 1 ≤ d ∧ d ≤ monD y m ∧ h < 24 ∧ mi < 60 ∧ s < 60) → B = false) := fun hn => by rw [← HB.out]; unfold existB; exact decide_eq_false hn
  have HYES : Hid ((1 ≤ m ∧ m ≤ 12 ∧ 1 ≤ d ∧ d ≤ monD y m ∧ h < 24 ∧ mi < 60 ∧ s < 60) → B = true) := fun hn => by rw [← HB.out]; unfold existB; exact decide_eq_true hn
  by_cases q1 : m < 1
  · have q1I : (m : Int) < 1 := by omega
    obtain rfl := HNO.out (by omega)
    clear q1
    go_enter Tryd.func20, Tryd.ntmps20
    go_wp2_with fail
    go_ret
    exact ⟨rfl, HW.out⟩
  have q1I : ¬ (m : Int) < 1 := by omega
  by_cases q2 : 12 < m
  · have q2I : (12 : Int) < (m : Int) := by omega
    obtain rfl := HNO.out (by omega)
    go_enter Tryd.func20, Tryd.ntmps20
    go_wp2_with fail
    go_ret
    exact ⟨rfl, HW.out⟩
  have q2I : ¬ (12 : Int) < (m : Int) := by omega
  have HDY := fun W (hW : Md W) => daysOf_any y m hy (by omega) (by omega) W hW
  have hDb := monD_le y m
  obtain ⟨D, hD⟩ : ∃ D, monD y m = D := ⟨_, rfl⟩
  rw [hD] at HDY hDb
  have HD : Hid (monD y m = D) := hD
  clear hD
  by_cases q3 : d < 1
  · have q3I : (d : Int) < 1 := by omega
    obtain rfl := HNO.out (by omega)
    go_enter Tryd.func20, Tryd.ntmps20
    go_wp2_with fail
    go_quiet (fail)
    go_wp2_with fail
    go_ret
    exact ⟨rfl, below_drews HW.out _⟩
  have q3I : ¬ (d : Int) < 1 := by omega
  by_cases q4 : D < d
  · have q4I : (D : Int) < (d : Int) := by omega
    obtain rfl := HNO.out (by rw [HD.out]; omega)
    go_enter Tryd.func20, Tryd.ntmps20
    go_wp2_with fail
    go_quiet ((go_at_call 30; exact Calls.quiet_of_same (HDY _ hM1)))
    go_wp2_with fail
    go_ret
    exact ⟨rfl, below_drews HW.out _⟩
  have q4I : ¬ (D : Int) < (d : Int) := by omega
  by_cases q5 : h < 24
  · have q5I : (h : Int) < 24 := by omega
    by_cases q6 : mi < 60
    · have q6I : (mi : Int) < 60 := by omega
      by_cases q7 : s < 60
      · have q7I : (s : Int) < 60 := by omega
        obtain rfl := HYES.out (by rw [HD.out]; omega)
        go_enter Tryd.func20, Tryd.ntmps20
        go_wp2_with fail
        go_quiet ((go_at_call 30; exact Calls.quiet_of_same (HDY _ hM1)))
        go_wp2_with fail
        go_ret
        exact ⟨rfl, below_drews HW.out _⟩
      · have q7I : ¬ (s : Int) < 60 := by omega
        obtain rfl := HNO.out (by omega)
        go_enter Tryd.func20, Tryd.ntmps20
        go_wp2_with fail
        go_quiet ((go_at_call 30; exact Calls.quiet_of_same (HDY _ hM1)))
        go_wp2_with fail
        go_ret
        exact ⟨by show Ending.returned (.bool (decide ((s : Int) < 60))) = _; rw [decide_eq_false (show ¬ ((s : Int) < 60) by omega)], below_drews HW.out _⟩
    · have q6I : ¬ (mi : Int) < 60 := by omega
      obtain rfl := HNO.out (by omega)
      go_enter Tryd.func20, Tryd.ntmps20
      go_wp2_with fail
      go_quiet ((go_at_call 30; exact Calls.quiet_of_same (HDY _ hM1)))
      go_wp2_with fail
      go_ret
      exact ⟨rfl, below_drews HW.out _⟩
  · have q5I : ¬ (h : Int) < 24 := by omega
    obtain rfl := HNO.out (by omega)
    go_enter Tryd.func20, Tryd.ntmps20
    go_wp2_with fail
    go_quiet ((go_at_call 30; exact Calls.quiet_of_same (HDY _ hM1)))
    go_wp2_with fail
    go_ret
    exact ⟨rfl, below_drews HW.out _⟩
end Go.Proofs.YtnckmcmobkpdcaaDoor
/-
  Times: the seconds, a year.
-/
namespace Go.Proofs.YtnckmcmobkpdcaaDoor
open Go.Shelf Go.RowKit
set_option linter.unusedVariables false
set_option linter.unusedSimpArgs false

set_option maxRecDepth 100000 in
set_option maxHeartbeats 4000000 in
/-- seconds. -/
theorem seconds_any (y m d h mi s : Nat) (hy1 : 1970 ≤ y) (hy : y ≤ 9999) (hm1 : 1 ≤ m) (hm : m ≤ 12) (hd1 : 1 ≤ d) (hd : d ≤ 99) (hh : h ≤ 99) (hmi : mi ≤ 99) (hs : s ≤ 99) (w : World) (hM : Md w) :
    Calls Tryd.prog 21 #[.agg #[.int .i64 (y : Int), .int .i64 (m : Int), .int .i64 (d : Int), .int .i64 (h : Int), .int .i64 (mi : Int), .int .i64 (s : Int)]] w fun e w' => e = .returned (.int .i64 (secsD y m d h mi s : Int)) ∧ Below w.heap.size w w' := by
  have R1 := row_moment w y m d h mi s
  have b1 : Below w.heap.size w (w.alloc (.cells #[.int .i64 (y : Int), .int .i64 (m : Int), .int .i64 (d : Int), .int .i64 (h : Int), .int .i64 (mi : Int), .int .i64 (s : Int)] 56)) := (Below.refl _ _).alloc (Nat.le_refl _) _
  generalize hW1 : w.alloc (.cells #[.int .i64 (y : Int), .int .i64 (m : Int), .int .i64 (d : Int), .int .i64 (h : Int), .int .i64 (mi : Int), .int .i64 (s : Int)] 56) = W1 at R1 b1
  have c0 := R1.cell 0 (by simp)
  have c1 := R1.cell 1 (by simp)
  have c2 := R1.cell 2 (by simp)
  have c3 := R1.cell 3 (by simp)
  have c4 := R1.cell 4 (by simp)
  have c5 := R1.cell 5 (by simp)
  simp only [List.getD, List.getElem?_cons_zero, List.getElem?_cons_succ, Option.getD_some] at c0 c1 c2 c3 c4 c5
  have HW : Hid (Below w.heap.size w W1) := b1
  have hM1 := hM.below b1
  clear R1 b1 hM
  have HL := longYears_any y (by omega) (by omega)
  have HL0 : ∀ w : World, Calls Tryd.prog 31 #[.int .i64 1970] w fun e w' => e = .returned (.int .i64 477) ∧ w' = w := longYears_any 1970 (by omega) (by omega)
  obtain ⟨LY, hLY⟩ : ∃ LY : Nat, (y - 1) / 4 - (y - 1) / 100 + (y - 1) / 400 = LY := ⟨_, rfl⟩
  rw [hLY] at HL
  have hLY2 : LY ≤ 10000 ∧ 477 ≤ LY := by omega
  have HLY : Hid (lyD y = LY) := hLY
  clear hLY
  obtain ⟨hLY3, hLY4⟩ := hLY2
  go_enter Tryd.func21, Tryd.ntmps21
  go_wp2_with fail
  go_quiet ((go_at_call 31; first | (go_at_call_of 31 (Value.int .i64 1970); with_reducible exact Calls.quiet_of_same (HL0 _)) | with_reducible exact Calls.quiet_of_same (HL _)))
  obtain ⟨A, hA⟩ : ∃ A : Nat, 365 * (y - 1970) + LY - 477 = A := ⟨_, rfl⟩
  have hAI : (365 : Int) * ((y : Int) - 1970) + (LY : Int) - 477 = (A : Int) := by omega
  have hAb : A ≤ 4000000 := by omega
  rw [hAI]
  generalize hwq : World.drewN W1 nq = wq
  have hbq : Below w.heap.size w wq := by rw [← hwq]; exact below_drews HW.out _
  replace c0 : wq.cell? ⟨w.heap.size, 0, none⟩ = some (.int .i64 (y : Int)) := by rw [← hwq]; exact c0
  replace c1 : wq.cell? ⟨w.heap.size, 1, none⟩ = some (.int .i64 (m : Int)) := by rw [← hwq]; exact c1
  replace c2 : wq.cell? ⟨w.heap.size, 2, none⟩ = some (.int .i64 (d : Int)) := by rw [← hwq]; exact c2
  replace c3 : wq.cell? ⟨w.heap.size, 3, none⟩ = some (.int .i64 (h : Int)) := by rw [← hwq]; exact c3
  replace c4 : wq.cell? ⟨w.heap.size, 4, none⟩ = some (.int .i64 (mi : Int)) := by rw [← hwq]; exact c4
  replace c5 : wq.cell? ⟨w.heap.size, 5, none⟩ = some (.int .i64 (s : Int)) := by rw [← hwq]; exact c5
  have hMq : Hid (Md wq) := by show Md wq; rw [← hwq]; exact hM1
  have HA : Hid (365 * (y - 1970) + lyD y - 477 = A ∧ Below w.heap.size w wq) := ⟨by rw [HLY.out]; exact hA, hbq⟩
  clear hwq hbq hM1 HW hW1 hA hAI HL HL0 hLY3 hLY4 HLY
  obtain ⟨k0, hk0⟩ : ∃ k0, m = k0 + 1 := ⟨m - 1, by omega⟩
  have hk0I : (m : Int) - 1 = (k0 : Int) := by omega
  have HK0 : Hid (m = k0 + 1) := hk0
  have hk12 : k0 ≤ 11 := by omega
  clear hk0 hm1 hm
  go_wp2_with fail
  go_loopw [3, 18] (fun v3 v18 wr => ∃ k : Nat, k ≤ k0 ∧ v18 = .int .i64 (k : Int) ∧ v3 = .int .i64 ((A + monsD y k : Nat) : Int) ∧ wr = wq) (fun _ v18 _ => k0 - (intOf v18).toNat)
  case atStart => exact ⟨0, by omega, rfl, by simp [monsD], rfl⟩
  case round =>
    obtain ⟨k, hk, rfl, rfl, rfl⟩ := hrel
    have hmb := monsD_le y k
    obtain ⟨MS, hMS⟩ : ∃ MS, A + monsD y k = MS := ⟨_, rfl⟩
    have hMSb : MS ≤ 4001000 := by omega
    have HMS : Hid (A + monsD y k = MS) := hMS
    rw [hMS]
    clear hMS hmb
    rcases Nat.lt_or_eq_of_le hk with hk | rfl
    · have hkI : (k : Int) < (k0 : Int) := by omega
      have HDY := daysOf_any y (k + 1) (by omega) (by omega) (by omega) wr hMq.out
      have hDb := monD_le y (k + 1)
      obtain ⟨D, hD⟩ : ∃ D, monD y (k + 1) = D := ⟨_, rfl⟩
      rw [hD] at HDY hDb
      have HD : Hid (monD y (k + 1) = D) := hD
      clear hD
      rw [show ((k + 1 : Nat) : Int) = (k : Int) + 1 by omega] at HDY
      go_wp2_with (go_at_call 30; refine HDY.mono ?_; rintro e w2 ⟨rfl, rfl⟩)
      exact ⟨⟨k + 1, by omega, by push_cast; rfl, by congr 1; simp only [monsD]; rw [HD.out]; have := HMS.out; omega, trivial⟩, by simp only [intOf]; omega⟩
    · have hfin : Hid (((((MS + (d - 1)) * 24 + h) * 60 + mi) * 60 + s) = secsD y m d h mi s) := by
        show _ = secsD y m d h mi s
        unfold secsD
        rw [HA.out.1, HK0.out, Nat.add_sub_cancel, HMS.out]
      go_wp2_with fail
      go_ret
      refine ⟨?_, HA.out.2⟩
      rw [← hfin.out]
      show Ending.returned (Value.int .i64 _) = _
      congr 2
      omega
end Go.Proofs.YtnckmcmobkpdcaaDoor
/-
  Times: a year.
-/
namespace Go.Proofs.YtnckmcmobkpdcaaDoor
open Go.Shelf Go.RowKit
set_option linter.unusedVariables false
set_option linter.unusedSimpArgs false

/-- The year of two digits. -/
def centD (d : Nat) : Nat := if d < 50 then 2000 + d else 1900 + d
/-- A time's year, and what stands behind it. -/
def yearD (t : Nat) (bs : Bs) : Option (Nat × Bs) :=
  if t = 23 ∧ bs.length = 13 then (match numGo 0 (bs.take 2) with
    | none => none
    | some d => if 1970 ≤ centD d then some (centD d, bs.drop 2) else none)
  else if t = 24 ∧ bs.length = 15 then (match numGo 0 (bs.take 4) with
    | none => none
    | some d => if 2050 ≤ d then some (d, bs.drop 4) else none)
  else none
theorem numGo_lt : ∀ (bs : Bs) (n m : Nat), numGo n bs = some m → m < (n + 1) * 10 ^ bs.length
  | [], n, m, h => by cases h; simp
  | c :: xs, n, m, h => by
    rw [numGo_cons] at h
    split at h
    · cases h
    · rename_i hq
      have h1 := numGo_lt xs _ _ h
      refine Nat.lt_of_lt_of_le h1 ?_
      rw [List.length_cons, Nat.pow_succ, Nat.mul_comm (10 ^ xs.length) 10, ← Nat.mul_assoc]
      exact Nat.mul_le_mul_right _ (by omega)
/-- What splitYear answers. -/
def YrPost (w : World) (P : Nat → Prop) (R : Option (Nat × Bs)) (e : Ending) (w' : World) : Prop :=
  Below w.heap.size w w' ∧ ((∃ y r p c, R = some (y, r) ∧ 1970 ≤ y ∧ y ≤ 9999 ∧ r.length = 11 ∧ e = .returned (.tuple #[.int .i64 (y : Int), .slice p 11 c, .bool true]) ∧ ByV w' P p c r) ∨ (R = none ∧ ∃ a b, e = .returned (.tuple #[a, b, .bool false])))
theorem YrPost.no {w w' : World} {P : Nat → Prop} {R : Option (Nat × Bs)} {a b : Value} (hR : R = none) (hb : Below w.heap.size w w') : YrPost w P R (.returned (.tuple #[a, b, .bool false])) w' := ⟨hb, .inr ⟨hR, a, b, rfl⟩⟩
theorem YrPost.nob {w w' : World} {P : Nat → Prop} {R : Option (Nat × Bs)} {a b : Value} {B : Bool} (hB : B = false) (hR : R = none) (hb : Below w.heap.size w w') : YrPost w P R (.returned (.tuple #[a, b, .bool B])) w' := by subst hB; exact YrPost.no hR hb
set_option maxRecDepth 100000 in
set_option maxHeartbeats 4000000 in
/-- splitYear. -/
theorem splitYear_any (t : Nat) (ht : t < 256) (p : Option Addr) (n c : Nat) (bs : Bs) (P : Nat → Prop) (w : World) (hl : bs.length = n) (h : ByV w P p c bs) :
    Calls Tryd.prog 18 #[.agg #[.int .u8 (t : Int), .slice p n c]] w (YrPost w P (yearD t bs)) := by
  obtain ⟨W1, hW1⟩ : ∃ W1, w.alloc (.cells #[.int .u8 (t : Int), .slice p n c] 24) = W1 := ⟨_, rfl⟩
  have b1 : Below w.heap.size w W1 := by rw [← hW1]; exact (Below.refl _ _).alloc (Nat.le_refl _) _
  have s1 : Tl W1 w.heap.size (.int .u8 (t : Int)) (.slice p n c) := by rw [← hW1]; exact Tl.new w _ _
  obtain ⟨g0, g1, g2, g3⟩ := s1.facts
  have hbig := h.big
  have hcap := h.cap
  rw [hl] at hcap
  have HS : Hid (Below w.heap.size w W1 ∧ ByV w P p c bs ∧ bs.length = n) := ⟨b1, h, hl⟩
  clear s1 b1 h
  obtain ⟨R, hR⟩ : ∃ R, yearD t bs = R := ⟨_, rfl⟩
  rw [hR]
  unfold yearD at hR
  rw [hl] at hR
  clear hl
  by_cases q1 : t = 23 ∧ n = 13
  · rw [if_pos q1] at hR
    obtain ⟨q2, q3⟩ := q1
    subst q3
    have e1 : ((t : Int) == 23) = true := by simp; omega
    have HN := numberOf_any p 2 c (bs.take 2) W1 (by rw [List.length_take, HS.out.2.2]; rfl) (by omega) (by have := (HS.out.2.1.take 2 (by rw [HS.out.2.2]; omega)).lies; rw [List.length_take, HS.out.2.2] at this; exact this.below HS.out.1)
    obtain ⟨b, o, rfl, _⟩ := HS.out.2.1.lies (by rw [HS.out.2.2]; omega)
    have hc2 : ¬ c = 2 := by omega
    have k1 : (2 : Int) ≤ (c : Int) := by omega
    have k2 : (13 : Int) ≤ (c : Int) := by omega
    have k3 : (c : Int) ≤ 9223372036854775807 := by omega
    have HD : Hid (ByV w P (some ⟨b, o + 2, none⟩) (c - 2) (bs.drop 2)) := by
      have := HS.out.2.1.drop 2 (by rw [HS.out.2.2]; omega)
      rw [if_neg hc2] at this
      exact this
    clear q2
    cases hnum : numGo 0 (bs.take 2) with
    | none =>
      rw [hnum] at HN hR
      have HR : Hid (R = none) := hR.symm
      have HC : ∀ w : World, Calls Tryd.prog 29 #[.int .i64 0] w fun e w' => e = .returned (.int .i64 2000) ∧ w' = w := withCentury_any 0 (by omega)
      clear hR hnum
      go_enter Tryd.func18, Tryd.ntmps18
      go_wp2_with (first | (go_at_call 28; refine HN.mono ?_; rintro e w2 ⟨rfl, rfl⟩; simp only [numV]) | (go_at_call 29; refine (HC _).mono ?_; rintro e w2 ⟨rfl, rfl⟩))
      go_quiet (fail)
      go_wp2_with fail
      go_ret3
      exact YrPost.no HR.out (below_drews HS.out.1 _)
    | some d =>
      rw [hnum] at HN hR
      have hd := numGo_lt _ _ _ hnum
      rw [List.length_take, HS.out.2.2] at hd
      have hd2 : d ≤ 99 := by have : d < (0 + 1) * 10 ^ min 2 13 := hd; have e : (0 + 1) * 10 ^ min 2 13 = 100 := (by decide); omega
      have HC := withCentury_any d hd2
      have HC' : Hid ((if d < 50 then 2000 + d else 1900 + d : Nat) = centD d) := rfl
      rw [HC'.out] at HC
      have hcb : centD d ≤ 2049 ∧ 1900 ≤ centD d := by unfold centD; split <;> omega
      simp only [] at hR
      obtain ⟨Y, hY⟩ : ∃ Y, centD d = Y := ⟨_, rfl⟩
      rw [hY] at HC hcb hR
      obtain ⟨hY1, hY2⟩ := hcb
      clear hnum hd hY HC'
      by_cases q5 : 1970 ≤ Y
      · have q5I : (1970 : Int) ≤ (Y : Int) := by omega
        have HR : Hid (R = some (Y, bs.drop 2)) := by show R = _; rw [← hR, if_pos q5]
        clear hR
        go_enter Tryd.func18, Tryd.ntmps18
        go_wp2_with (first | (go_at_call 28; refine HN.mono ?_; rintro e w2 ⟨rfl, rfl⟩; simp only [numV]) | (go_at_call 29; refine (HC _).mono ?_; rintro e w2 ⟨rfl, rfl⟩))
        go_quiet (fail)
        go_wp2_with fail
        go_ret3
        exact ⟨below_drews HS.out.1 _, .inl ⟨Y, bs.drop 2, _, _, HR.out, q5, by omega, by rw [List.length_drop, HS.out.2.2], rfl, HD.out.keep (fun g _ hlt => (below_drews HS.out.1 _).block g hlt)⟩⟩
      · have q5I : ¬ (1970 : Int) ≤ (Y : Int) := by omega
        have HR : Hid (R = none) := by show R = _; rw [← hR, if_neg q5]
        clear hR
        go_enter Tryd.func18, Tryd.ntmps18
        go_wp2_with (first | (go_at_call 28; refine HN.mono ?_; rintro e w2 ⟨rfl, rfl⟩; simp only [numV]) | (go_at_call 29; refine (HC _).mono ?_; rintro e w2 ⟨rfl, rfl⟩))
        go_quiet (fail)
        go_wp2_with fail
        go_ret3
        exact YrPost.nob (decide_eq_false (show ¬ ((1970 : Int) ≤ (Y : Int)) by omega)) HR.out (below_drews HS.out.1 _)
  rw [if_neg q1] at hR
  by_cases q2 : t = 24 ∧ n = 15
  · rw [if_pos q2] at hR
    obtain ⟨q3, q4⟩ := q2
    subst q4
    have e1 : ((t : Int) == 24) = true := by simp; omega
    have e0 : ((t : Int) == 23) = false := by simp; omega
    have HN := numberOf_any p 4 c (bs.take 4) W1 (by rw [List.length_take, HS.out.2.2]; rfl) (by omega) (by have := (HS.out.2.1.take 4 (by rw [HS.out.2.2]; omega)).lies; rw [List.length_take, HS.out.2.2] at this; exact this.below HS.out.1)
    obtain ⟨b, o, rfl, _⟩ := HS.out.2.1.lies (by rw [HS.out.2.2]; omega)
    have hc2 : ¬ c = 4 := by omega
    have k1 : (4 : Int) ≤ (c : Int) := by omega
    have k2 : (15 : Int) ≤ (c : Int) := by omega
    have k3 : (c : Int) ≤ 9223372036854775807 := by omega
    have HD : Hid (ByV w P (some ⟨b, o + 4, none⟩) (c - 4) (bs.drop 4)) := by
      have := HS.out.2.1.drop 4 (by rw [HS.out.2.2]; omega)
      rw [if_neg hc2] at this
      exact this
    clear q3 q1
    cases hnum : numGo 0 (bs.take 4) with
    | none =>
      rw [hnum] at HN hR
      have HR : Hid (R = none) := hR.symm
      clear hR hnum
      go_enter Tryd.func18, Tryd.ntmps18
      go_wp2_with (go_at_call 28; refine HN.mono ?_; rintro e w2 ⟨rfl, rfl⟩; simp only [numV])
      go_quiet (fail)
      go_wp2_with fail
      go_ret3
      exact YrPost.no HR.out (below_drews HS.out.1 _)
    | some d =>
      rw [hnum] at HN hR
      have hd := numGo_lt _ _ _ hnum
      rw [List.length_take, HS.out.2.2] at hd
      have hd2 : d ≤ 9999 := by have : d < (0 + 1) * 10 ^ min 4 15 := hd; have e : (0 + 1) * 10 ^ min 4 15 = 10000 := (by decide); omega
      simp only [] at hR
      clear hnum hd
      by_cases q5 : 2050 ≤ d
      · have q5I : (2050 : Int) ≤ (d : Int) := by omega
        have HR : Hid (R = some (d, bs.drop 4)) := by show R = _; rw [← hR, if_pos q5]
        clear hR
        go_enter Tryd.func18, Tryd.ntmps18
        go_wp2_with (go_at_call 28; refine HN.mono ?_; rintro e w2 ⟨rfl, rfl⟩; simp only [numV])
        go_quiet (fail)
        go_wp2_with fail
        go_ret3
        exact ⟨below_drews HS.out.1 _, .inl ⟨d, bs.drop 4, _, _, HR.out, by omega, by omega, by rw [List.length_drop, HS.out.2.2], rfl, HD.out.keep (fun g _ hlt => (below_drews HS.out.1 _).block g hlt)⟩⟩
      · have q5I : ¬ (2050 : Int) ≤ (d : Int) := by omega
        have HR : Hid (R = none) := by show R = _; rw [← hR, if_neg q5]
        clear hR
        go_enter Tryd.func18, Tryd.ntmps18
        go_wp2_with (go_at_call 28; refine HN.mono ?_; rintro e w2 ⟨rfl, rfl⟩; simp only [numV])
        go_quiet (fail)
        go_wp2_with fail
        go_ret3
        exact YrPost.nob (decide_eq_false (show ¬ ((2050 : Int) ≤ (d : Int)) by omega)) HR.out (below_drews HS.out.1 _)
  rw [if_neg q2] at hR
  have HR : Hid (R = none) := hR.symm
  clear hR
  by_cases q3 : t = 23
  · have e0 : ((t : Int) == 23) = true := by simp; omega
    have e1 : ((t : Int) == 24) = false := by simp; omega
    have e2 : ((n : Int) == 13) = false := by simp; omega
    clear q1 q2 q3
    go_enter Tryd.func18, Tryd.ntmps18
    go_wp2_with fail
    go_ret3
    exact YrPost.no HR.out HS.out.1
  have e0 : ((t : Int) == 23) = false := by simp; omega
  by_cases q4 : t = 24
  · have e1 : ((t : Int) == 24) = true := by simp; omega
    have e2 : ((n : Int) == 15) = false := by simp; omega
    clear q1 q2 q3 q4
    go_enter Tryd.func18, Tryd.ntmps18
    go_wp2_with fail
    go_ret3
    exact YrPost.no HR.out HS.out.1
  have e1 : ((t : Int) == 24) = false := by simp; omega
  clear q1 q2 q3 q4
  go_enter Tryd.func18, Tryd.ntmps18
  go_wp2_with fail
  go_ret3
  exact YrPost.no HR.out HS.out.1
end Go.Proofs.YtnckmcmobkpdcaaDoor
/-
  Times: a moment.
-/
namespace Go.Proofs.YtnckmcmobkpdcaaDoor
open Go.Shelf Go.RowKit
set_option linter.unusedVariables false
set_option linter.unusedSimpArgs false

/-- The two digits at place i. -/
def twoD (r : Bs) (i : Nat) : Option Nat := numGo 0 ((r.drop (2 * i)).take 2)
/-- So many numbers of two digits. -/
def twosD (r : Bs) : Nat → Option (List Nat)
  | 0 => some []
  | k + 1 => match twosD r k with
    | none => none
    | some l => match twoD r k with
      | none => none
      | some x => some (l ++ [x])
theorem twosD_none (r : Bs) (k : Nat) (h : twosD r k = none) : ∀ j, twosD r (k + j) = none
  | 0 => h
  | j + 1 => by
    have := twosD_none r k h j
    show twosD r (k + j + 1) = none
    simp only [twosD, this]
theorem twosD_len (r : Bs) : ∀ (k : Nat) (l : List Nat), twosD r k = some l → l.length = k ∧ ∀ x ∈ l, x ≤ 99
  | 0, l, h => by cases h; exact ⟨rfl, fun x hx => by cases hx⟩
  | k + 1, l, h => by
    simp only [twosD] at h
    cases h1 : twosD r k with
    | none => rw [h1] at h; cases h
    | some l' =>
      rw [h1] at h
      simp only [] at h
      cases h2 : twoD r k with
      | none => rw [h2] at h; cases h
      | some x =>
        rw [h2] at h
        cases h
        obtain ⟨h3, h4⟩ := twosD_len r k l' h1
        refine ⟨by simp [h3], fun z hz => ?_⟩
        rcases List.mem_append.1 hz with hz | hz
        · exact h4 z hz
        · simp at hz
          subst hz
          have h5 := numGo_lt _ _ _ h2
          have h6 : ((r.drop (2 * k)).take 2).length ≤ 2 := by rw [List.length_take]; omega
          have h7 : (0 + 1) * 10 ^ ((r.drop (2 * k)).take 2).length ≤ 100 := by
            rw [Nat.zero_add, Nat.one_mul]
            exact Nat.le_trans (Nat.pow_le_pow_right (by decide) h6) (by decide)
          omega
/-- A moment's values. -/
abbrev momV (y m d h mi s : Nat) : Value := .agg #[.int .i64 (y : Int), .int .i64 (m : Int), .int .i64 (d : Int), .int .i64 (h : Int), .int .i64 (mi : Int), .int .i64 (s : Int)]
/-- What momentOf answers. -/
def MoPost (w : World) (y : Nat) (r : Bs) (e : Ending) (w' : World) : Prop :=
  Below w.heap.size w w' ∧ ((∃ m d h mi s, twosD r 5 = some [m, d, h, mi, s] ∧ (r.getD 10 0).toNat = 90 ∧ e = .returned (.tuple #[momV y m d h mi s, .bool true])) ∨ ((twosD r 5 = none ∨ (r.getD 10 0).toNat ≠ 90) ∧ ∃ a b c d e' f : Int, e = .returned (.tuple #[.agg #[.int .i64 a, .int .i64 b, .int .i64 c, .int .i64 d, .int .i64 e', .int .i64 f], .bool false])))
theorem sizeMom : (Tryd.prog.info? 56).map (·.size) = some 6 := by kernel_rfl
theorem ret_mom {fn : Func} {p u : Tmp} (h : fn.results = #[.cell p 56, .tmp u]) (tmps : Array Value) (w : World) (g : Nat) (x0 x1 x2 x3 x4 x5 : Int) (hp : tmps.getD p undef = .pointer (some ⟨g, 0, none⟩)) (hg : Row 56 .i64 w g [x0, x1, x2, x3, x4, x5]) :
    (results fn tmps).run Tryd.prog w = .ok (.tuple #[.agg #[.int .i64 x0, .int .i64 x1, .int .i64 x2, .int .i64 x3, .int .i64 x4, .int .i64 x5], tmps.getD u undef]) w := by
  have hl := run_loadVar_row (P := Tryd.prog) w g 56 56 #[.int .i64 x0, .int .i64 x1, .int .i64 x2, .int .i64 x3, .int .i64 x4, .int .i64 x5] (0, 0) _ hg Tryd.underlying56 rfl (sizeMom)
  have hp' : tmps[p]?.getD undef = .pointer (some ⟨g, 0, none⟩) := by simpa using hp
  simp only [results, h]
  simp [Sem.run_bind, Result.andThen, asAddr, hl, hp']
theorem pad_set (l : List Nat) (k x : Nat) (hl : l.length = k) (hk : k < 5) : (l.map (fun x : Nat => (x : Int)) ++ List.replicate (5 - k) 0).set k (x : Int) = (l ++ [x]).map (fun x : Nat => (x : Int)) ++ List.replicate (5 - (k + 1)) 0 := by
  rw [List.set_append_right _ _ (by simp [hl])]
  rw [show 5 - k = (5 - (k + 1)) + 1 by omega, List.replicate_succ]
  simp [hl]
theorem but_set6 (w : World) (g : Nat) (a b c d e f : Value) : But g w ((((((w.setCell ⟨g, 0, none⟩ a).setCell ⟨g, 1, none⟩ b).setCell ⟨g, 2, none⟩ c).setCell ⟨g, 3, none⟩ d).setCell ⟨g, 4, none⟩ e).setCell ⟨g, 5, none⟩ f) :=
  (But.setCell g w 0 a).trans ((But.setCell g _ 1 b).trans ((But.setCell g _ 2 c).trans ((But.setCell g _ 3 d).trans ((But.setCell g _ 4 e).trans (But.setCell g _ 5 f)))))
theorem Row.set6 {w : World} {g : Nat} {x0 x1 x2 x3 x4 x5 : Int} (h : Row 56 .i64 w g [x0, x1, x2, x3, x4, x5]) (a b c d e f : Int) : Row 56 .i64 ((((((w.setCell ⟨g, 0, none⟩ (.int .i64 a)).setCell ⟨g, 1, none⟩ (.int .i64 b)).setCell ⟨g, 2, none⟩ (.int .i64 c)).setCell ⟨g, 3, none⟩ (.int .i64 d)).setCell ⟨g, 4, none⟩ (.int .i64 e)).setCell ⟨g, 5, none⟩ (.int .i64 f)) g [a, b, c, d, e, f] :=
  (((((h.set 0 a).set 1 b).set 2 c).set 3 d).set 4 e).set 5 f
theorem set6_other {w : World} {r r1 j : Nat} {v a b c d e f : Value} (h : w.cell? ⟨r1, j, none⟩ = some v) (hne : r ≠ r1) : ((((((w.setCell ⟨r, 0, none⟩ a).setCell ⟨r, 1, none⟩ b).setCell ⟨r, 2, none⟩ c).setCell ⟨r, 3, none⟩ d).setCell ⟨r, 4, none⟩ e).setCell ⟨r, 5, none⟩ f).cell? ⟨r1, j, none⟩ = some v :=
  ((but_set6 w r a b c d e f).cell (p := ⟨r1, j, none⟩) (World.block_lt_of_cell? w _ h) (fun e => hne e.symm)).trans h
theorem Row.but {e : TypeId} {k : IntKind} {w w' : World} {g g' : Nat} {xs : List Int} (h : Row e k w g xs) (hb : But g' w w') (hne : g ≠ g') : Row e k w' g xs := by
  show w'.heap[g]? = _
  rw [hb.block g h.lt hne]
  exact h
set_option maxRecDepth 100000 in
set_option maxHeartbeats 4000000 in
/-- momentOf. -/
theorem momentOf_any (y : Nat) (hy : y ≤ 9999) (p : Option Addr) (c : Nat) (r : Bs) (P : Nat → Prop) (w : World) (hl : r.length = 11) (h : ByV w P p c r) :
    Calls Tryd.prog 19 #[.int .i64 (y : Int), .slice p 11 c] w (MoPost w y r) := by
  have hbig := h.big
  have hcap := h.cap
  rw [hl] at hcap
  obtain ⟨b, o, rfl, hcl⟩ := h.lies (by rw [hl]; omega)
  have HV : Hid (ByV w P (some ⟨b, o, none⟩) c r ∧ r.length = 11 ∧ ∀ i, i < 11 → w.cell? ⟨b, o + i, none⟩ = some (.int .u8 ((r.getD i 0).toNat : Int))) := ⟨h, hl, fun i hi => hcl i (by omega)⟩
  clear h hl hcl
  go_enter Tryd.func19, Tryd.ntmps19
  go_wp2_with fail
  have hA0 : Row 56 .i64 (w.alloc (.cells #[.int .i64 0, .int .i64 0, .int .i64 0, .int .i64 0, .int .i64 0, .int .i64 0] 56)) w.heap.size [0, 0, 0, 0, 0, 0] := heap_alloc_new w _
  have hA1 : Row 70 .i64 ((w.alloc (.cells #[.int .i64 0, .int .i64 0, .int .i64 0, .int .i64 0, .int .i64 0, .int .i64 0] 56)).alloc (.cells #[.int .i64 0, .int .i64 0, .int .i64 0, .int .i64 0, .int .i64 0] 70)) (w.heap.size + 1) [0, 0, 0, 0, 0] := by
    have := heap_alloc_new (w.alloc (.cells #[.int .i64 0, .int .i64 0, .int .i64 0, .int .i64 0, .int .i64 0, .int .i64 0] 56)) (.cells #[.int .i64 0, .int .i64 0, .int .i64 0, .int .i64 0, .int .i64 0] 70)
    rw [alloc_sz] at this
    exact this
  have hB0 : Below w.heap.size w ((w.alloc (.cells #[.int .i64 0, .int .i64 0, .int .i64 0, .int .i64 0, .int .i64 0, .int .i64 0] 56)).alloc (.cells #[.int .i64 0, .int .i64 0, .int .i64 0, .int .i64 0, .int .i64 0] 70)) := ((Below.refl _ _).alloc (Nat.le_refl _) _).alloc (alloc_le _ _) _
  have hA2 := hA0.below (w' := (w.alloc (.cells #[.int .i64 0, .int .i64 0, .int .i64 0, .int .i64 0, .int .i64 0, .int .i64 0] 56)).alloc (.cells #[.int .i64 0, .int .i64 0, .int .i64 0, .int .i64 0, .int .i64 0] 70)) ((Below.refl _ _).alloc (Nat.le_refl _) _) hA0.lt
  generalize hW0 : (w.alloc (.cells #[.int .i64 0, .int .i64 0, .int .i64 0, .int .i64 0, .int .i64 0, .int .i64 0] 56)).alloc (.cells #[.int .i64 0, .int .i64 0, .int .i64 0, .int .i64 0, .int .i64 0] 70) = W0 at hA1 hB0 hA2
  have HW0 : Hid (Row 70 .i64 W0 (w.heap.size + 1) [0, 0, 0, 0, 0] ∧ Row 56 .i64 W0 w.heap.size [0, 0, 0, 0, 0, 0] ∧ Below w.heap.size w W0) := ⟨hA1, hA2, hB0⟩
  clear hA0 hA1 hA2 hB0 hW0
  go_loopw [11] (fun v11 wr => ∃ (k : Nat) (l : List Nat), k ≤ 5 ∧ v11 = .int .i64 (k : Int) ∧ twosD r k = some l ∧ Row 70 .i64 wr (w.heap.size + 1) (l.map (fun x : Nat => (x : Int)) ++ List.replicate (5 - k) 0) ∧ Row 56 .i64 wr w.heap.size [0, 0, 0, 0, 0, 0] ∧ Below w.heap.size w wr) (fun v11 _ => 5 - (intOf v11).toNat)
  case atStart => exact ⟨0, [], by omega, rfl, rfl, HW0.out.1, HW0.out.2.1, HW0.out.2.2⟩
  case round =>
    obtain ⟨k, l, hk, rfl, hl, hrow, hres, hb⟩ := hrel
    obtain ⟨hll, hlx⟩ := twosD_len r k l hl
    rcases Nat.lt_or_eq_of_le hk with hk | rfl
    · obtain ⟨K2, hK2⟩ : ∃ K2, 2 * k = K2 := ⟨_, rfl⟩
      have hK2I : (2 : Int) * (k : Int) = (K2 : Int) := by omega
      have hkI : (k : Int) < 5 := by omega
      have k1 : (K2 : Int) + 2 ≤ (c : Int) := by omega
      have k2 : (K2 : Int) ≤ (K2 : Int) + 2 := by omega
      have k3 : (c : Int) ≤ 9223372036854775807 := by omega
      have k4 : (K2 : Int) ≤ 8 := by omega
      have hc2 : ¬ c = K2 := by omega
      have hlen2 : ((r.drop K2).take 2).length = 2 := by rw [List.length_take, List.length_drop, HV.out.2.1]; omega
      have HN := numberOf_any (some ⟨b, o + K2, none⟩) 2 (c - K2) ((r.drop K2).take 2) wr hlen2 (by omega) (fun _ => ⟨b, o + K2, rfl, fun i hi => by
        have h1 := HV.out.2.2 (K2 + i) (by omega)
        rw [Nat.add_assoc, hb.cell (p := ⟨b, o + (K2 + i), none⟩) (World.block_lt_of_cell? w _ h1), h1]
        simp [List.getD, List.getElem?_take, hi]⟩)
      have hfr := hrow.frozen k
      have hlr : (l.map (fun x : Nat => (x : Int)) ++ List.replicate (5 - k) 0).length = 5 := by simp [hll]; omega
      have hck := hrow.cell k (by rw [hlr]; omega)
      have d0 := hres.cell 0 (by simp)
      have d1 := hres.cell 1 (by simp)
      have d2 := hres.cell 2 (by simp)
      have d3 := hres.cell 3 (by simp)
      have d4 := hres.cell 4 (by simp)
      have d5 := hres.cell 5 (by simp)
      simp only [List.getD, List.getElem?_cons_zero, List.getElem?_cons_succ, Option.getD_some] at d0 d1 d2 d3 d4 d5
      have f0 := hres.frozen 0
      have f1 := hres.frozen 1
      have f2 := hres.frozen 2
      have f3 := hres.frozen 3
      have f4 := hres.frozen 4
      have f5 := hres.frozen 5
      obtain ⟨old, hold⟩ : ∃ z, (l.map (fun x : Nat => (x : Int)) ++ List.replicate (5 - k) 0).getD k 0 = z := ⟨_, rfl⟩
      rw [hold] at hck
      have HI : Hid (twosD r k = some l ∧ Row 70 .i64 wr (w.heap.size + 1) (l.map (fun x : Nat => (x : Int)) ++ List.replicate (5 - k) 0) ∧ Row 56 .i64 wr w.heap.size [0, 0, 0, 0, 0, 0] ∧ Below w.heap.size w wr ∧ l.length = k ∧ 2 * k = K2) := ⟨hl, hrow, hres, hb, hll, hK2⟩
      clear hl hrow hres hb hll hlr hold hlen2 hK2 hlx
      cases hnum : numGo 0 ((r.drop K2).take 2) with
      | none =>
        rw [hnum] at HN
        have HNN : Hid (twosD r 5 = none) := by
          have h1 : twosD r (k + 1) = none := by simp only [twosD, HI.out.1, twoD, HI.out.2.2.2.2.2, hnum]
          have h2 := twosD_none r (k + 1) h1 (4 - k)
          rw [show k + 1 + (4 - k) = 5 by omega] at h2
          exact h2
        clear hnum
        go_wp2_with (go_at_call 28; refine HN.mono ?_; rintro e w2 ⟨rfl, rfl⟩; simp only [numV])
        refine bodyPost_ret (ret_mom rfl _ _ w.heap.size _ _ _ _ _ _ rfl (HI.out.2.2.1.set6 0 0 0 0 0 0)) rfl ?_
        exact ⟨HI.out.2.2.2.1.trans ((but_set6 _ w.heap.size _ _ _ _ _ _).below (Nat.le_refl _) HI.out.2.2.2.1.size), .inr ⟨.inl HNN.out, 0, 0, 0, 0, 0, 0, rfl⟩⟩
      | some x =>
        rw [hnum] at HN
        have HX : Hid (twosD r (k + 1) = some (l ++ [x])) := by show twosD r (k + 1) = _; simp only [twosD, HI.out.1, twoD, HI.out.2.2.2.2.2, hnum]
        clear hnum
        go_wp2_with (go_at_call 28; refine HN.mono ?_; rintro e w2 ⟨rfl, rfl⟩; simp only [numV])
        have hbt := But.setCell (w.heap.size + 1) w2 k (.int .i64 (x : Int))
        exact ⟨⟨k + 1, l ++ [x], by omega, by push_cast; rfl, HX.out, by rw [← pad_set l k x HI.out.2.2.2.2.1 hk]; exact HI.out.2.1.set k (x : Int), HI.out.2.2.1.but hbt (by omega), HI.out.2.2.2.1.trans (hbt.below (by omega) HI.out.2.2.2.1.size)⟩, by simp only [intOf]; omega⟩
    · obtain ⟨m, d, h, mi, s, rfl⟩ : ∃ m d h mi s, l = [m, d, h, mi, s] := by
        match l, hll with
        | [m, d, h, mi, s], _ => exact ⟨m, d, h, mi, s, rfl⟩
      have a0 := hrow.cell 0 (by simp)
      have a1 := hrow.cell 1 (by simp)
      have a2 := hrow.cell 2 (by simp)
      have a3 := hrow.cell 3 (by simp)
      have a4 := hrow.cell 4 (by simp)
      simp only [List.getD, List.map_cons, List.map_nil, List.cons_append, List.nil_append, List.getElem?_cons_zero, List.getElem?_cons_succ, Option.getD_some] at a0 a1 a2 a3 a4
      have hz10 := HV.out.2.2 10 (by omega)
      replace hz10 := (hb.cell (p := ⟨b, o + 10, none⟩) (World.block_lt_of_cell? w _ hz10)).trans hz10
      obtain ⟨Z, hZ⟩ : ∃ Z, (r.getD 10 0).toNat = Z := ⟨_, rfl⟩
      have hZl := (r.getD 10 0).toNat_lt
      rw [hZ] at hz10 hZl
      have k3 : (c : Int) ≤ 9223372036854775807 := by omega
      have HI : Hid (twosD r 5 = some [m, d, h, mi, s] ∧ Row 56 .i64 wr w.heap.size [0, 0, 0, 0, 0, 0] ∧ Below w.heap.size w wr ∧ (r.getD 10 0).toNat = Z) := ⟨hl, hres, hb, hZ⟩
      have hbr : b ≠ w.heap.size := by
        have h1 := HV.out.2.2 10 (by omega)
        have h2 := World.block_lt_of_cell? w _ h1
        exact Nat.ne_of_lt h2
      have hlw := hres.lt
      clear hl hrow hb hlx hll hZ
      go_wp2_with fail
      have R2 := row_moment wr y m d h mi s
      have bX : Below wr.heap.size wr (wr.alloc (.cells #[.int .i64 (y : Int), .int .i64 (m : Int), .int .i64 (d : Int), .int .i64 (h : Int), .int .i64 (mi : Int), .int .i64 (s : Int)] 56)) := (Below.refl _ _).alloc (Nat.le_refl _) _
      have hres2 := hres.below bX hlw
      replace hz10 := (bX.cell (p := ⟨b, o + 10, none⟩) (World.block_lt_of_cell? wr _ hz10)).trans hz10
      generalize hX1 : wr.alloc (.cells #[.int .i64 (y : Int), .int .i64 (m : Int), .int .i64 (d : Int), .int .i64 (h : Int), .int .i64 (mi : Int), .int .i64 (s : Int)] 56) = X1 at R2 bX hres2 hz10
      obtain ⟨G, hG⟩ : ∃ G, wr.heap.size = G := ⟨_, rfl⟩
      rw [hG] at R2 ⊢
      have hGne : w.heap.size ≠ G := by omega
      have x0 := R2.cell 0 (by simp)
      have x1 := R2.cell 1 (by simp)
      have x2 := R2.cell 2 (by simp)
      have x3 := R2.cell 3 (by simp)
      have x4 := R2.cell 4 (by simp)
      have x5 := R2.cell 5 (by simp)
      have d0 := hres2.cell 0 (by simp)
      have d1 := hres2.cell 1 (by simp)
      have d2 := hres2.cell 2 (by simp)
      have d3 := hres2.cell 3 (by simp)
      have d4 := hres2.cell 4 (by simp)
      have d5 := hres2.cell 5 (by simp)
      simp only [List.getD, List.getElem?_cons_zero, List.getElem?_cons_succ, Option.getD_some] at x0 x1 x2 x3 x4 x5 d0 d1 d2 d3 d4 d5
      have f0 := hres2.frozen 0
      have f1 := hres2.frozen 1
      have f2 := hres2.frozen 2
      have f3 := hres2.frozen 3
      have f4 := hres2.frozen 4
      have f5 := hres2.frozen 5
      have HX : Hid (Row 56 .i64 X1 w.heap.size [0, 0, 0, 0, 0, 0] ∧ Below w.heap.size w X1) := ⟨hres2, HI.out.2.2.1.trans (bX.mono HI.out.2.2.1.size)⟩
      clear a0 a1 a2 a3 a4 hres hres2 R2 bX hX1 hG
      have hzS : ((((((X1.drew.setCell ⟨w.heap.size, 0, none⟩ (.int .i64 (y : Int))).setCell ⟨w.heap.size, 1, none⟩ (.int .i64 (m : Int))).setCell ⟨w.heap.size, 2, none⟩ (.int .i64 (d : Int))).setCell ⟨w.heap.size, 3, none⟩ (.int .i64 (h : Int))).setCell ⟨w.heap.size, 4, none⟩ (.int .i64 (mi : Int))).setCell ⟨w.heap.size, 5, none⟩ (.int .i64 (s : Int))).cell? ⟨b, o + 10, none⟩ = some (.int .u8 (Z : Int)) := set6_other hz10 hbr.symm
      clear hk hy hbig hcap hbr hlw hGne
      go_region
      go_wp2_with fail
      clear hzS x0 x1 x2 x3 x4 x5 d0 d1 d2 d3 d4 d5 f0 f1 f2 f3 f4 f5 hz10
      have R6 := HX.out.1.set6 (y : Int) (m : Int) (d : Int) (h : Int) (mi : Int) (s : Int)
      have bb := HX.out.2.trans ((but_set6 X1 w.heap.size (.int .i64 (y : Int)) (.int .i64 (m : Int)) (.int .i64 (d : Int)) (.int .i64 (h : Int)) (.int .i64 (mi : Int)) (.int .i64 (s : Int))).below (Nat.le_refl _) HX.out.2.size)
      generalize ((((((X1.setCell ⟨w.heap.size, 0, none⟩ (.int .i64 (y : Int))).setCell ⟨w.heap.size, 1, none⟩ (.int .i64 (m : Int))).setCell ⟨w.heap.size, 2, none⟩ (.int .i64 (d : Int))).setCell ⟨w.heap.size, 3, none⟩ (.int .i64 (h : Int))).setCell ⟨w.heap.size, 4, none⟩ (.int .i64 (mi : Int))).setCell ⟨w.heap.size, 5, none⟩ (.int .i64 (s : Int))) = X6 at R6 bb ⊢
      have R7 : Row 56 .i64 X6.drew w.heap.size [(y : Int), (m : Int), (d : Int), (h : Int), (mi : Int), (s : Int)] := R6
      refine bodyPost_ret (ret_mom rfl _ X6.drew w.heap.size (y : Int) (m : Int) (d : Int) (h : Int) (mi : Int) (s : Int) rfl R7) rfl ?_
      refine ⟨bb.drew, ?_⟩
      by_cases hz : Z = 90
      · have e1 : ((Z : Int) == 90) = true := by simp; omega
        exact .inl ⟨m, d, h, mi, s, HI.out.1, HI.out.2.2.2.trans hz, by show Ending.returned (.tuple #[momV y m d h mi s, .bool ((Z : Int) == 90)]) = _; rw [e1]⟩
      · have e1 : ((Z : Int) == 90) = false := by simp; omega
        exact .inr ⟨.inr (by rw [HI.out.2.2.2]; exact hz), (y : Int), (m : Int), (d : Int), (h : Int), (mi : Int), (s : Int), by show Ending.returned (.tuple #[momV y m d h mi s, .bool ((Z : Int) == 90)]) = _; rw [e1]⟩
end Go.Proofs.YtnckmcmobkpdcaaDoor
/-
  The code's Time.
-/
namespace Go.Proofs.YtnckmcmobkpdcaaDoor
open Go.Shelf Go.RowKit
set_option linter.unusedVariables false
set_option linter.unusedSimpArgs false

/-- A moment's seconds, if it is one. -/
def momD (y : Nat) (r : Bs) : Option Nat := match twosD r 5 with
  | some [m, d, h, mi, s] => if (r.getD 10 0).toNat = 90 ∧ existB y m d h mi s = true then some (secsD y m d h mi s) else none
  | _ => none
/-- A time's seconds. -/
def timeD (t : Nat) (bs : Bs) : Option Nat := match yearD t bs with
  | none => none
  | some (y, r) => momD y r
/-- What Time answers. -/
def timeV : Option Nat → Value
  | some n => .tuple #[.int .u64 (n : Int), .int .i64 0]
  | none => .tuple #[.int .u64 0, .int .i64 31]
theorem secsD_lt (y m d h mi s : Nat) (hy : y ≤ 9999) (hm : m ≤ 12) (hd : d ≤ 99) (hh : h ≤ 99) (hmi : mi ≤ 99) (hs : s ≤ 99) : secsD y m d h mi s < 9223372036854775807 := by
  unfold secsD
  have h1 := monsD_le y (m - 1)
  have h2 : lyD y ≤ 10000 := by unfold lyD; omega
  generalize monsD y (m - 1) = A at *
  generalize lyD y = B at *
  omega
set_option maxRecDepth 100000 in
set_option maxHeartbeats 4000000 in
/-- Time. -/
theorem derTime (t : Nat) (ht : t < 256) (p : Option Addr) (n c : Nat) (bs : Bs) (P : Nat → Prop) (w : World) (hl : bs.length = n) (h : ByV w P p c bs) (hM : Md w) :
    Calls Tryd.prog 11 #[.agg #[.int .u8 (t : Int), .slice p n c]] w fun e w' => e = .returned (timeV (timeD t bs)) ∧ Below w.heap.size w w' := by
  obtain ⟨W1, hW1⟩ : ∃ W1, w.alloc (.cells #[.int .u8 (t : Int), .slice p n c] 24) = W1 := ⟨_, rfl⟩
  have b1 : Below w.heap.size w W1 := by rw [← hW1]; exact (Below.refl _ _).alloc (Nat.le_refl _) _
  have s1 : Tl W1 w.heap.size (.int .u8 (t : Int)) (.slice p n c) := by rw [← hW1]; exact Tl.new w _ _
  obtain ⟨g0, g1, g2, g3⟩ := s1.facts
  have HY := splitYear_any t ht p n c bs (fun b => b < w.heap.size) W1 hl ((h.mono (fun g _ hlt => hlt)).keep (fun g hg _ => b1.block g hg))
  have HS : Hid (Below w.heap.size w W1 ∧ Md W1) := ⟨b1, hM.below b1⟩
  obtain ⟨T, hT⟩ : ∃ T, timeD t bs = T := ⟨_, rfl⟩
  rw [hT]
  unfold timeD at hT
  clear s1 b1 h hM hl
  cases hR : yearD t bs with
  | none =>
    rw [hR] at HY hT
    have HT : Hid (T = none) := hT.symm
    clear hT hR
    go_enter Tryd.func11, Tryd.ntmps11
    go_wp2_with (go_at_call 18; refine HY.mono ?_; rintro e w2 ⟨hb2, (⟨y, r, p2, c2, hk, _⟩ | ⟨_, a, b, rfl⟩)⟩; (try cases hk); have HB2 : Hid (Below W1.heap.size W1 w2) := hb2; clear hb2)
    go_ret2
    exact ⟨by rw [HT.out]; rfl, HS.out.1.trans (HB2.out.mono HS.out.1.size)⟩
  | some q =>
    obtain ⟨y, r⟩ := q
    rw [hR] at HY hT
    simp only [] at hT
    clear hR
    go_enter Tryd.func11, Tryd.ntmps11
    go_wp2_with (go_at_call 18; refine HY.mono ?_; rintro e w2 ⟨hb2, (⟨y', r', p2, c2, hk, hy1, hy2, hr11, rfl, hv2⟩ | ⟨hk, _⟩)⟩; rotate_left; (cases hk); cases hk; have HMO := momentOf_any y hy2 p2 c2 r (fun b => b < w.heap.size) w2 hr11 hv2; have HB2 : Hid (Below w.heap.size w w2 ∧ Md w2) := ⟨HS.out.1.trans (hb2.mono HS.out.1.size), HS.out.2.below hb2⟩; clear hb2 hv2)
    go_at_call 19
    refine HMO.mono ?_
    rintro e w3 ⟨hb3, (⟨m, d, h, mi, s, h5, hz, rfl⟩ | ⟨hno, a1, a2, a3, a4, a5, a6, rfl⟩)⟩
    · obtain ⟨_, hx⟩ := twosD_len r 5 _ h5
      have hm9 := hx m (by simp)
      have hd9 := hx d (by simp)
      have hh9 := hx h (by simp)
      have hmi9 := hx mi (by simp)
      have hs9 := hx s (by simp)
      have hB3 : Below w.heap.size w w3 := HB2.out.1.trans (hb3.mono HB2.out.1.size)
      have hM3 : Md w3 := HB2.out.2.below hb3
      have R4 := row_moment w3 y m d h mi s
      have b4 : Below w3.heap.size w3 (w3.alloc (.cells #[.int .i64 (y : Int), .int .i64 (m : Int), .int .i64 (d : Int), .int .i64 (h : Int), .int .i64 (mi : Int), .int .i64 (s : Int)] 56)) := (Below.refl _ _).alloc (Nat.le_refl _) _
      obtain ⟨W4, hW4⟩ : ∃ W4, w3.alloc (.cells #[.int .i64 (y : Int), .int .i64 (m : Int), .int .i64 (d : Int), .int .i64 (h : Int), .int .i64 (mi : Int), .int .i64 (s : Int)] 56) = W4 := ⟨_, rfl⟩
      rw [hW4] at R4 b4
      obtain ⟨G, hG⟩ : ∃ G, w3.heap.size = G := ⟨_, rfl⟩
      have HW4 : Hid (w3.alloc (.cells #[.int .i64 (y : Int), .int .i64 (m : Int), .int .i64 (d : Int), .int .i64 (h : Int), .int .i64 (mi : Int), .int .i64 (s : Int)] 56) = W4 ∧ w3.heap.size = G) := ⟨hW4, hG⟩
      rw [hG] at R4
      have hM4 := hM3.below b4
      have hB4 : Below w.heap.size w W4 := hB3.trans (b4.mono hB3.size)
      have HE := exists_any y m d h mi s (by omega) (by omega) (by omega) (by omega) (by omega) (by omega) W4 hM4
      have HTT : Hid (T = if existB y m d h mi s = true then some (secsD y m d h mi s) else none) := by
        show T = _
        rw [← hT]
        unfold momD
        rw [h5]
        simp only []
        by_cases hx : existB y m d h mi s = true
        · rw [if_pos ⟨hz, hx⟩, if_pos hx]
        · rw [if_neg (by intro hh; exact hx hh.2), if_neg hx]
      have c0 := R4.cell 0 (by simp)
      have c1 := R4.cell 1 (by simp)
      have c2 := R4.cell 2 (by simp)
      have c3 := R4.cell 3 (by simp)
      have c4 := R4.cell 4 (by simp)
      have c5 := R4.cell 5 (by simp)
      simp only [List.getD, List.getElem?_cons_zero, List.getElem?_cons_succ, Option.getD_some] at c0 c1 c2 c3 c4 c5
      have HX : Hid (Below w.heap.size w W4 ∧ Md W4 ∧ Row 56 .i64 W4 G [(y : Int), (m : Int), (d : Int), (h : Int), (mi : Int), (s : Int)]) := ⟨hB4, hM4, R4⟩
      clear hT h5 hz hx hB3 hM3 b4 hM4 hB4 R4 hb3 hW4 hG HMO
      cases hex : existB y m d h mi s with
      | false =>
        rw [hex] at HE HTT
        clear hex
        have HT0 : Hid (T = none) := HTT.out
        clear HTT
        go_wp2_with fail
        go_at_call 20
        rw [HW4.out.1, HW4.out.2]
        refine HE.mono ?_
        rintro e w5 ⟨rfl, hb5⟩
        have HB5 : Hid (Below W4.heap.size W4 w5) := hb5
        clear hb5
        go_wp2_with fail
        go_ret2
        exact ⟨by rw [HT0.out]; rfl, HX.out.1.trans (HB5.out.mono HX.out.1.size)⟩
      | true =>
        have hex2 := hex
        unfold existB at hex2
        have hq := of_decide_eq_true hex2
        rw [hex] at HE HTT
        have HT0 : Hid (T = some (secsD y m d h mi s)) := HTT.out
        have HSE := fun W (hW : Md W) => seconds_any y m d h mi s hy1 hy2 hq.1 hq.2.1 hq.2.2.1 hd9 hh9 hmi9 hs9 W hW
        have hsl := secsD_lt y m d h mi s hy2 hq.2.1 hd9 hh9 hmi9 hs9
        obtain ⟨SS, hSS⟩ : ∃ SS, secsD y m d h mi s = SS := ⟨_, rfl⟩
        rw [hSS] at HT0 HSE hsl
        have hslI : (SS : Int) < 9223372036854775807 := by omega
        clear HTT hex hex2 hq hSS
        go_wp2_with fail
        go_at_call 20
        rw [HW4.out.1, HW4.out.2]
        refine HE.mono ?_
        rintro e w5 ⟨rfl, hb5⟩
        have R5 := HX.out.2.2.below hb5 HX.out.2.2.lt
        replace c0 := R5.cell 0 (by simp)
        replace c1 := R5.cell 1 (by simp)
        have c2' := R5.cell 2 (by simp)
        replace c3 := R5.cell 3 (by simp)
        replace c4 := R5.cell 4 (by simp)
        replace c5 := R5.cell 5 (by simp)
        simp only [List.getD, List.getElem?_cons_zero, List.getElem?_cons_succ, Option.getD_some] at c0 c1 c2' c3 c4 c5
        have HB5 : Hid (Below w.heap.size w w5 ∧ Md w5) := ⟨HX.out.1.trans (hb5.mono HX.out.1.size), HX.out.2.1.below hb5⟩
        clear hb5 R5
        go_wp2_with (go_at_call 21; refine (HSE w5 HB5.out.2).mono ?_; rintro e w6 ⟨rfl, hb6⟩; have HB6 : Hid (Below w5.heap.size w5 w6) := hb6; clear hb6)
        go_ret2
        exact ⟨by rw [HT0.out]; rfl, HB5.out.1.trans (HB6.out.mono HB5.out.1.size)⟩
    · have HT0 : Hid (T = none) := by
        show T = none
        rw [← hT]
        unfold momD
        rcases hno with hno | hno
        · rw [hno]
        · split
          · rw [if_neg (by intro hh; exact hno hh.1)]
          · rfl
      have HB3 : Hid (Below w.heap.size w w3) := HB2.out.1.trans (hb3.mono HB2.out.1.size)
      clear hT hno hb3 HMO
      go_wp2_with fail
      go_ret2
      exact ⟨by rw [HT0.out]; rfl, HB3.out.alloc HB3.out.size _⟩
end Go.Proofs.YtnckmcmobkpdcaaDoor
