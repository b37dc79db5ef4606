/-
  Numbers handed in and answered; make; contracts of nat.Norm, Of, Len, Cmp.
-/
import Derived.Test.YtbhjidmbihkppaaTimes
import Derived.Laws.CopyOwn
import Derived.BigQuiet
import Derived.Deep.QuietTactic
namespace Go.Proofs.Ytbhjidmbihkppaa
open Go.RowKit
set_option linter.unusedVariables false
set_option linter.unusedSimpArgs false

/-- A number that a slice says. -/
structure NumIn (k : IntKind) (B : Int) (w : World) (ao : Option Addr) (len cap : Nat) (xs : List Int) : Prop where
  lies : Lies k w ao len xs
  lc : len ≤ cap
  cm : cap ≤ maxLen
  nn : ao = none → cap = 0
  dg : Dg B xs
  sm : len ≤ 1073741824

/-- An answer: a number without zeros above, of at most L digits; old memory is as it was. -/
def NumOut (k : IntKind) (B : Int) (w w' : World) (v : Value) (n : Int) (L : Nat) : Prop :=
  ∃ ao len cap xs, v = .slice ao len cap ∧ NumIn k B w' ao len cap xs ∧ Canon xs ∧ val B xs = n ∧ len ≤ L ∧ Below w.heap.size w w'

theorem NumIn.old {k : IntKind} {B : Int} {w w' : World} {ao : Option Addr} {len cap : Nat} {xs : List Int} (h : NumIn k B w ao len cap xs) (hb : Below w.heap.size w w') : NumIn k B w' ao len cap xs :=
  ⟨h.lies.old hb, h.lc, h.cm, h.nn, h.dg, h.sm⟩
theorem NumIn.len {k : IntKind} {B : Int} {w : World} {ao : Option Addr} {len cap : Nat} {xs : List Int} (h : NumIn k B w ao len cap xs) : xs.length = len := h.lies.len
theorem NumIn.take {k : IntKind} {B : Int} {w : World} {ao : Option Addr} {len cap : Nat} {xs : List Int} (h : NumIn k B w ao len cap xs) (n : Nat) (hn : n ≤ len) : NumIn k B w ao n cap (xs.take n) :=
  ⟨h.lies.take n hn, by have := h.lc; omega, h.cm, h.nn, h.dg.take n, by have := h.sm; omega⟩
theorem NumIn.nil {k : IntKind} {B : Int} {w : World} : NumIn k B w none 0 0 [] := ⟨Lies.empty _ _ _, Nat.le_refl _, by simp [maxLen], fun _ => rfl, Dg.nil _, by omega⟩
/-- A row of own memory as a number. -/
theorem Row.num {e : TypeId} {k : IntKind} {B : Int} {w : World} {g : Nat} {xs : List Int} (h : Row e k w g xs) (hd : Dg B xs) (hs : xs.length ≤ 1073741824) : NumIn k B w (some ⟨g, 0, none⟩) xs.length xs.length xs := by
  refine ⟨?_, Nat.le_refl _, by unfold maxLen; omega, fun h => (by cases h), hd, hs⟩
  have := h.lies 0 xs.length (by omega)
  simpa using this
/-- An answer that is the trimmed number. -/
theorem NumIn.out {k : IntKind} {B : Int} {w w' : World} {ao : Option Addr} {len cap : Nat} {xs : List Int} (h : NumIn k B w' ao len cap xs) (hb : Below w.heap.size w w') (n : Int) (hv : val B xs = n) (L : Nat) (hL : len ≤ L) :
    NumOut k B w w' (.slice ao (top xs) cap) n L := by
  have hl := h.len
  have ht := top_le xs
  exact ⟨ao, top xs, cap, xs.take (top xs), rfl, h.take _ (by omega), canon_take_top xs, by rw [val_take_top, hv], by omega, hb⟩

theorem Try.infoI : (Try.prog.info? 3).map (fun i => (i.zero, i.size, i.bytes)) = some (some (.int .i64 0), 1, 8) := by kernel_rfl
theorem Try.infoB : (Try.prog.info? 5).map (fun i => (i.zero, i.size, i.bytes)) = some (some (.int .u8 0), 1, 1) := by kernel_rfl

/-- make: a new row of zeros. -/
theorem wpList_make_row {P : Program} (w : World) {ops : Array Oper} {rest : List Oper} {o : Oper} {a : Act} {Q : Exit → Act → World → Prop}
    (hg : o.guard = none) (l c : Operand) (t : TypeId) (hop : o.op = Op.makeSlice t l c) (e : TypeId) (k : IntKind) (bytes : Nat)
    (h1 : P.underlying t = some (.slice e)) (h2 : (P.info? e).map (fun i => (i.zero, i.size, i.bytes)) = some (some (.int k 0), 1, bytes))
    (kl kc : IntKind) (L C : Int) (n : Nat) (hl : a.eval l = .int kl L) (hc : a.eval c = .int kc C) (hL : L = (n : Int)) (hC : C = (n : Int)) (b2 : bytes * n ≤ 281474976710656) (b3 : n ≤ maxLen)
    (hK : ∀ w', Row e k w' w.heap.size (List.replicate n 0) → Below w.heap.size w w' → wpList P ops Q rest (a.put o.dst (.slice (some ⟨w.heap.size, 0, none⟩) n n)) w') :
    wpList P ops Q (o :: rest) a w := by
  obtain ⟨i, hi, hz0, hz1, hz2⟩ := info_parts h2
  refine wpList_make_full w hg l c t hop w.heap.size e i (.int k 0) 1 h1 hi hz0 hz1 kl kc L C n hl hc hL hC (by rw [hz2]; exact b2) b3 (Nat.le_refl _) ?_
  intro w' hown hgr
  refine hK w' ?_ ((Below.refl _ _).grown hgr (Nat.le_refl _) (fun k h => by cases h))
  rcases hown.2 with ⟨h', _⟩ | ⟨g', cap', cur, h', _, hrow, _, _, hsz, htake⟩
  · simp at h'
  · simp only [Value.slice.injEq, Option.some.injEq, Addr.mk.injEq, and_true, true_and] at h'
    obtain ⟨rfl, rfl⟩ := h'
    unfold Row
    rw [hrow]
    have e1 : cur.toList = (List.replicate n 0).map (Value.int k) := by
      have e2 : cur.toList.take (n * 1) = cur.toList := List.take_of_length_le (by simp [hsz])
      rw [e2] at htake
      rw [htake]
      simp only [Value.cells, Nat.mul_one, toList_madeCells_one, List.map_replicate]
    rw [← e1]

/-- How many bits a number of limbs has. -/
def lenOf (xs : List Int) : Nat := if top xs = 0 then 0 else (top xs - 1) * 64 + blen (xs.getD (top xs - 1) 0).toNat

/-- How one number of limbs stands to another one: where one is greater at a place and above all are the same. -/
theorem cmp_at (B : Int) (hB : 1 < B) (xs ys : List Int) (hx : Dg B xs) (hy : Dg B ys) (n : Nat) (hn : xs.length = n) (hn' : ys.length = n) (p : Nat) (hp : p < n)
    (heq : ∀ j, p < j → j < n → xs.getD j 0 = ys.getD j 0) (hlt : xs.getD p 0 < ys.getD p 0) : val B xs < val B ys := by
  have hd : xs.drop (p + 1) = ys.drop (p + 1) := by
    apply List.ext_getElem
    · simp; omega
    · intro i h1 h2
      have := heq (p + 1 + i) (by omega) (by simp at h1; omega)
      simp only [List.getElem_drop]
      simp only [List.getD] at this
      rw [List.getElem?_eq_getElem (by simp at h1; omega), List.getElem?_eq_getElem (by simp at h2; omega)] at this
      simpa using this
  have ex : xs = xs.take (p + 1) ++ xs.drop (p + 1) := (List.take_append_drop _ _).symm
  have ey : ys = ys.take (p + 1) ++ ys.drop (p + 1) := (List.take_append_drop _ _).symm
  rw [ex, ey, hd, val_append, val_append, take_succ_getD xs p (by omega), take_succ_getD ys p (by omega), val_append, val_append]
  have a1 := val_lt (by omega) (hx.take p)
  have a2 := val_nonneg (by omega) (hy.take p)
  have l1 : (xs.take p).length = p := by simp; omega
  have l2 : (ys.take p).length = p := by simp; omega
  simp only [List.length_append, l1, l2, List.length_cons, List.length_nil, val, Int.mul_zero, Int.add_zero]
  rw [l1] at a1
  have a3 : B ^ p * (xs.getD p 0 + 1) ≤ B ^ p * ys.getD p 0 := Int.mul_le_mul_of_nonneg_left (by omega) (Int.le_of_lt (Int.pow_pos (by omega)))
  rw [Int.mul_add] at a3
  omega

theorem cmpI_lt {a b : Int} (h : a < b) : cmpI a b = -1 := by simp [cmpI, h]
theorem cmpI_gt {a b : Int} (h : b < a) : cmpI a b = 1 := by unfold cmpI; rw [if_neg (by omega), if_pos h]
theorem cmpI_eq {a b : Int} (h : a = b) : cmpI a b = 0 := by unfold cmpI; rw [if_neg (by omega), if_neg (by omega)]

/-- The number of fewer digits is less. -/
theorem top_lt_val {B : Int} (hB : 1 < B) {xs ys : List Int} (hx : Dg B xs) (hy : Dg B ys) (h : top xs < top ys) : val B xs < val B ys := by
  by_cases hv : val B xs < val B ys
  · exact hv
  · have := top_mono hB hy hx (by omega); omega

/-- A world that is as it was, but for draws. -/
def Drew (w w' : World) : Prop := ∃ n, w' = w.drewN n
theorem Drew.refl (w : World) : Drew w w := ⟨0, rfl⟩
theorem Drew.more {w w' : World} (h : Drew w w') (n : Nat) : Drew w (w'.drewN n) := by
  obtain ⟨m, rfl⟩ := h
  exact ⟨m + n, World.drewN_drewN _ _ _⟩
theorem Drew.trans {a b c : World} (h : Drew a b) (k : Drew b c) : Drew a c := by obtain ⟨n, rfl⟩ := k; exact h.more n
theorem Drew.cell {w w' : World} (h : Drew w w') (p : Addr) : w'.cell? p = w.cell? p := by obtain ⟨n, rfl⟩ := h; simp
theorem Drew.below {w w' : World} (h : Drew w w') (B : Nat) : Below B w w' := by obtain ⟨n, rfl⟩ := h; exact below_drewN (Below.refl _ _) n
theorem Drew.size {w w' : World} (h : Drew w w') : w'.heap.size = w.heap.size := by obtain ⟨n, rfl⟩ := h; simp

end Go.Proofs.Ytbhjidmbihkppaa
