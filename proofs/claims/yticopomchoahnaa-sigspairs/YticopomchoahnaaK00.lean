import Derived.WalkKit
import Derived.Lib.MapLaws
import Derived.Lib.ValidU
import Derived.Test.YticopomchoahnaaRows
import Derived.Deep.AppendLies
import Derived.Laws.NewBlocks
import Derived.WalkSpells
import Derived.WalkLawsBesides
import Derived.Lib.ConvBytes
import Derived.Deep.RegionLaw
import Derived.Deep.QuietTactic
import Derived.BigQuiet
import Derived.Shelf.Bytes.SlSmallAll
import Derived.Below
import Derived.Deep.MidRow
import Derived.Deep.RegionHeld3
import Derived.Lib.BytesEntry
import Derived.Laws.Externs
import Derived.Laws.ResultCell
import Derived.Lib.SliceRun
import Derived.Shelf.Bytes.SlEqualAll
import Derived.Maps.AppendAt
/-
  CBOR as the document says it, by plain functions on bytes. No program in sight.
-/
namespace Go.Proofs.Yticopomchoahnaa
open Go.RowKit
set_option linter.unusedVariables false

/-- Bytes. -/
abbrev Bs := List UInt8
/-- An item. -/
structure It where
  kind : Nat
  n : Nat
  b : Bs
  kids : List It
def It.no : It := ⟨0, 0, [], []⟩
/-- So many bytes as a number, the greatest first. -/
def beC : Nat → Nat → Bs → Option (Nat × Bs)
  | 0, a, xs => some (a, xs)
  | _ + 1, _, [] => none
  | k + 1, a, c :: xs => beC k (a * 256 + c.toNat) xs
/-- The least number of each size. -/
def leastC (k : Nat) : Nat := if k = 0 then 24 else if k = 1 then 256 else if k = 2 then 65536 else 4294967296
/-- The number that a head says: low, and what stands behind it; or the fault. -/
def numC (low : Nat) (xs : Bs) : Except Nat (Nat × Bs) :=
  if low < 24 then .ok (low, xs) else if 27 < low then .error 20 else match beC (2 ^ (low - 24)) 0 xs with
    | none => .error 20
    | some (n, ys) => if n < leastC (low - 24) then .error 22 else .ok (n, ys)
/-- May an item be a key? -/
def keyC (i : It) : Bool := decide (1 ≤ i.kind) && decide (i.kind ≤ 4)
/-- One list of bytes ahead of another of the same length. -/
def ltB : Bs → Bs → Bool
  | [], [] => false
  | [], _ :: _ => true
  | _ :: _, [] => false
  | a :: xs, c :: ys => if a = c then ltB xs ys else decide (a.toNat < c.toNat)
/-- Is a key ahead of another one? -/
def aheadC (a c : It) : Bool :=
  if a.kind ≠ c.kind then decide (a.kind < c.kind)
  else if a.kind = 1 ∨ a.kind = 2 then decide (a.n < c.n)
  else if a.b.length ≠ c.b.length then decide (a.b.length < c.b.length) else ltB a.b c.b
/-- Is a key not behind the one ahead of it? -/
def badOrd : Option It → It → Bool
  | some l, k => !aheadC l k
  | none, _ => false
/-- A group's items, one by one: m: so many are left, first: none has been read; t: items so far. -/
def pcsC (item : Nat → Nat → Bs → Except Nat (It × Nat × Bs)) (pairs : Bool) (within : Nat) : Nat → Option It → List It → Nat → Bs → Except Nat (List It × Nat × Bs)
  | 0, _, kids, t, xs => .ok (kids, t, xs)
  | m + 1, last, kids, t, xs => match item within t xs with
    | .error e => .error e
    | .ok (k, t1, ys) => if pairs then
        (if keyC k = false then .error 20 else if badOrd last k then .error 21 else match item within t1 ys with
          | .error e => .error e
          | .ok (v, t2, zs) => pcsC item pairs within m (some k) (kids ++ [k, v]) t2 zs)
      else pcsC item pairs within m none (kids ++ [k]) t1 ys
/-- An item within so many others; t: so many items there were ahead; d: so many more may be within one another. -/
def itemC : Nat → Nat → Nat → Bs → Except Nat (It × Nat × Bs)
  | d, within, t, xs => if 512 ≤ t then .error 14 else match xs with
    | [] => .error 20
    | c :: ys =>
      if c.toNat / 32 = 7 then (if c.toNat % 32 < 20 ∨ 22 < c.toNat % 32 then .error 20 else .ok (⟨c.toNat % 32 - 13, 0, [], []⟩, t + 1, ys))
      else match numC (c.toNat % 32) ys with
        | .error e => .error e
        | .ok (n, zs) =>
          if c.toNat / 32 = 0 then .ok (⟨1, n, [], []⟩, t + 1, zs)
          else if c.toNat / 32 = 1 then .ok (⟨2, n, [], []⟩, t + 1, zs)
          else if c.toNat / 32 = 2 then (if zs.length < n then .error 20 else .ok (⟨3, 0, zs.take n, []⟩, t + 1, zs.drop n))
          else if c.toNat / 32 = 3 then (if zs.length < n then .error 20 else if Lib.validD (zs.take n) then .ok (⟨4, 0, zs.take n, []⟩, t + 1, zs.drop n) else .error 23)
          else if c.toNat / 32 = 6 then .error 20
          else match d with
            | 0 => .error 13
            | d + 1 => match pcsC (itemC d) (decide (c.toNat / 32 = 5)) (within + 1) n none [] (t + 1) zs with
              | .error e => .error e
              | .ok (kids, t2, us) => .ok (⟨c.toNat / 32 + 1, 0, [], kids⟩, t2, us)
/-- Decode: an item, and what is left; or the fault's number. -/
def decC (xs : Bs) : Except Nat (It × Bs) := if 8192 < xs.length then .error 3 else match itemC 8 0 0 xs with
  | .error e => .error e
  | .ok (i, _, ys) => .ok (i, ys)
def wholeC (xs : Bs) : Except Nat It := match decC xs with
  | .error e => .error e
  | .ok (i, ys) => if ys = [] then .ok i else .error 20
theorem awake_c1 : (match wholeC [161, 1, 2] with | .ok i => decide (i.kind = 6) && decide (i.kids.length = 2) | .error _ => false) = true := by decide +kernel
theorem awake_c2 : (match wholeC [24, 23] with | .ok _ => 0 | .error e => e) = 22 := by decide +kernel
theorem awake_c3 : (match wholeC [162, 2, 0, 1, 0] with | .ok _ => 0 | .error e => e) = 21 := by decide +kernel
theorem awake_c4 : (match wholeC [247] with | .ok _ => 0 | .error e => e) = 20 := by decide +kernel
end Go.Proofs.Yticopomchoahnaa
/-
  DER as the document says it, by plain functions on bytes. No program in sight.
-/
namespace Go.Proofs.Yticopomchoahnaa
open Go.RowKit
set_option linter.unusedVariables false

/-- A length of one byte, of two. -/
def len1 : Bs → Option (Nat × Bs)
  | [] => none
  | a :: ys => if a.toNat < 128 then none else some (a.toNat, ys)
def len2 : Bs → Option (Nat × Bs)
  | [] => none
  | [_] => none
  | a :: b :: ys => if a.toNat * 256 + b.toNat < 256 then none else some (a.toNat * 256 + b.toNat, ys)
/-- A length, and what is left. -/
def lenD : Bs → Option (Nat × Bs)
  | [] => none
  | f :: xs => if f.toNat < 128 then some (f.toNat, xs) else if f.toNat = 129 then len1 xs else if f.toNat = 130 then len2 xs else none
/-- A piece, and what is left; an error's number. -/
def readD (bs : Bs) : Except Nat ((UInt8 × Bs) × Bs) :=
  if 4096 < bs.length then .error 3 else match bs with
  | [] => .error 30
  | t :: xs => if t.toNat % 32 = 31 then .error 30 else match lenD xs with
    | none => .error 30
    | some (n, ys) => if ys.length < n then .error 30 else .ok ((t, ys.take n), ys.drop n)
/-- A length as bytes. -/
def headD (n : Nat) : Bs := if n < 128 then [UInt8.ofNat n] else if n < 256 then [129, UInt8.ofNat n] else [130, UInt8.ofNat (n / 256), UInt8.ofNat n]
/-- A piece as bytes. -/
def writeD (t : UInt8) (b : Bs) : Bs := t :: (headD b.length ++ b)
theorem headD_len (n : Nat) : (headD n).length = if n < 128 then 1 else if n < 256 then 2 else 3 := by
  unfold headD
  repeat' split
  all_goals rfl
theorem u8_of_toNat (c : UInt8) (n : Nat) (h : n % 256 = c.toNat) : UInt8.ofNat n = c := by
  apply UInt8.toNat_inj.1
  rw [UInt8.toNat_ofNat']
  exact h
theorem lenD_form : ∀ {xs : Bs} {n : Nat} {ys : Bs}, lenD xs = some (n, ys) → xs = headD n ++ ys ∧ n < 65536 := by
  intro xs n ys h
  cases xs with
  | nil => cases h
  | cons f xs =>
    have hf := f.toNat_lt
    simp only [lenD] at h
    by_cases h1 : f.toNat < 128
    · rw [if_pos h1] at h
      cases h
      exact ⟨by unfold headD; rw [if_pos h1, u8_of_toNat f _ (by omega)]; rfl, by omega⟩
    rw [if_neg h1] at h
    by_cases h2 : f.toNat = 129
    · rw [if_pos h2] at h
      cases xs with
      | nil => cases h
      | cons a xs =>
        simp only [len1] at h
        have ha := a.toNat_lt
        by_cases h3 : a.toNat < 128
        · rw [if_pos h3] at h; cases h
        rw [if_neg h3] at h
        cases h
        have e : f = 129 := UInt8.toNat_inj.1 h2
        exact ⟨by unfold headD; rw [if_neg h3, if_pos (by omega), u8_of_toNat a _ (by omega), e]; rfl, by omega⟩
    rw [if_neg h2] at h
    by_cases h3 : f.toNat = 130
    · rw [if_pos h3] at h
      match xs, h with
      | [], h => cases h
      | [_], h => cases h
      | a :: b :: xs, h =>
        simp only [len2] at h
        have ha := a.toNat_lt
        have hb := b.toNat_lt
        by_cases h4 : a.toNat * 256 + b.toNat < 256
        · rw [if_pos h4] at h; cases h
        rw [if_neg h4] at h
        cases h
        have e : f = 130 := UInt8.toNat_inj.1 h3
        exact ⟨by unfold headD; rw [if_neg (by omega), if_neg h4, u8_of_toNat a ((a.toNat * 256 + b.toNat) / 256) (by omega), u8_of_toNat b (a.toNat * 256 + b.toNat) (by omega), e]; rfl, by omega⟩
    rw [if_neg h3] at h
    cases h
theorem lenD_head (n : Nat) (ys : Bs) (hn : n < 65536) : lenD (headD n ++ ys) = some (n, ys) := by
  unfold headD
  by_cases h1 : n < 128
  · rw [if_pos h1]
    have : (UInt8.ofNat n).toNat = n := by rw [UInt8.toNat_ofNat']; omega
    simp [lenD, this, h1]
  rw [if_neg h1]
  by_cases h2 : n < 256
  · rw [if_pos h2]
    have : (UInt8.ofNat n).toNat = n := by rw [UInt8.toNat_ofNat']; omega
    simp [lenD, len1, this, h1]
  rw [if_neg h2]
  have e1 : (UInt8.ofNat (n / 256)).toNat = n / 256 := by rw [UInt8.toNat_ofNat']; omega
  have e2 : (UInt8.ofNat n).toNat = n % 256 := by rw [UInt8.toNat_ofNat']
  have e3 : n / 256 * 256 + n % 256 = n := by omega
  simp only [lenD, len2, List.cons_append, List.nil_append, e1, e2, e3, if_neg h2]
  rfl
/-- What is read is written as the bytes that were read. -/
theorem read_form {bs : Bs} {t : UInt8} {b r : Bs} (h : readD bs = .ok ((t, b), r)) : bs = writeD t b ++ r ∧ t.toNat % 32 ≠ 31 ∧ bs.length ≤ 4096 := by
  unfold readD at h
  by_cases h0 : 4096 < bs.length
  · rw [if_pos h0] at h; cases h
  rw [if_neg h0] at h
  cases bs with
  | nil => cases h
  | cons c xs =>
    simp only [] at h
    by_cases h1 : c.toNat % 32 = 31
    · rw [if_pos h1] at h; cases h
    rw [if_neg h1] at h
    cases hl : lenD xs with
    | none => rw [hl] at h; cases h
    | some q =>
      obtain ⟨n, ys⟩ := q
      rw [hl] at h
      simp only [] at h
      by_cases h2 : ys.length < n
      · rw [if_pos h2] at h; cases h
      rw [if_neg h2] at h
      cases h
      obtain ⟨e, hn⟩ := lenD_form hl
      refine ⟨?_, h1, by omega⟩
      unfold writeD
      rw [List.length_take, Nat.min_eq_left (by omega), e]
      simp
/-- What is written is read. -/
theorem write_read {t : UInt8} {b r : Bs} (ht : t.toNat % 32 ≠ 31) (hl : (writeD t b ++ r).length ≤ 4096) : readD (writeD t b ++ r) = .ok ((t, b), r) := by
  unfold readD
  rw [if_neg (by omega)]
  unfold writeD at hl ⊢
  simp only [List.cons_append, List.append_assoc]
  rw [if_neg ht, lenD_head _ _ (by simp at hl; omega)]
  simp
theorem read_err {bs : Bs} {k : Nat} (h : readD bs = .error k) : k = 3 ∧ 4096 < bs.length ∨ k = 30 ∧ bs.length ≤ 4096 := by
  unfold readD at h
  by_cases h0 : 4096 < bs.length
  · rw [if_pos h0] at h; cases h; exact .inl ⟨rfl, h0⟩
  rw [if_neg h0] at h
  refine .inr ⟨?_, by omega⟩
  cases bs with
  | nil => cases h; rfl
  | cons c xs =>
    simp only [] at h
    by_cases h1 : c.toNat % 32 = 31
    · rw [if_pos h1] at h; cases h; rfl
    rw [if_neg h1] at h
    cases hl : lenD xs with
    | none => rw [hl] at h; cases h; rfl
    | some q =>
      rw [hl] at h
      simp only [] at h
      by_cases h2 : q.2.length < q.1
      · rw [if_pos h2] at h; cases h; rfl
      rw [if_neg h2] at h
      cases h
theorem read_len {bs : Bs} {t : UInt8} {b r : Bs} (h : readD bs = .ok ((t, b), r)) : r.length + 2 ≤ bs.length ∧ b.length + 2 ≤ bs.length ∧ r.length + b.length + 2 ≤ bs.length := by
  obtain ⟨e, _⟩ := read_form h
  have hh := headD_len b.length
  have : 1 ≤ (headD b.length).length := by rw [hh]; (repeat' split) <;> omega
  rw [e]
  simp [writeD]
  omega
/-- All pieces, and the first fault. -/
def allD : Nat → Bs → List (UInt8 × Bs) × Nat
  | 0, _ => ([], 0)
  | m + 1, bs => if bs = [] then ([], 0) else match readD bs with
    | .error k => ([], k)
    | .ok (p, r) => (p :: (allD m r).1, (allD m r).2)
/-- The pieces, or the first fault. -/
def listD (bs : Bs) : Except Nat (List (UInt8 × Bs)) := if (allD bs.length bs).2 = 0 then .ok (allD bs.length bs).1 else .error (allD bs.length bs).2
end Go.Proofs.Yticopomchoahnaa
/-
  What a call owns, and what becomes of the rest of the world.
-/
namespace Go.Proofs.Yticopomchoahnaa
open Go.Shelf Go.RowKit Go.Lib
set_option linter.unusedVariables false
set_option linter.unusedSimpArgs false

theorem owns_keep {w w' : World} {base : Nat} {e : TypeId} {s : Nat} {v : Value} {n : Nat} {xs : List Value} (h : w.ownsRow base e s v n xs) (hb : ∀ g, v.ownBlock = some g → w'.heap[g]? = w.heap[g]?) : w'.ownsRow base e s v n xs := by
  refine ⟨h.1, ?_⟩
  rcases h.2 with h0 | ⟨g, cap, cur, rfl, hg, hrow, r⟩
  · exact .inl h0
  · exact .inr ⟨g, cap, cur, rfl, hg, by rw [hb g rfl]; exact hrow, r⟩
theorem owns_lt {w : World} {base : Nat} {e : TypeId} {s : Nat} {v : Value} {n : Nat} {xs : List Value} (h : w.ownsRow base e s v n xs) {g : Nat} (hg : v.ownBlock = some g) : base ≤ g ∧ g < w.heap.size ∧ ∃ cur, w.heap[g]? = some (.cells cur e (0, 0)) := by
  rcases h.2 with ⟨rfl, _⟩ | ⟨g', cap, cur, rfl, hb, hrow, r⟩
  · cases hg
  · cases hg; exact ⟨hb, (Array.getElem?_eq_some_iff.1 hrow).1, cur, hrow⟩
theorem owns_apart {w : World} {b b' : Nat} {e e' : TypeId} {s s' : Nat} {v v' : Value} {n n' : Nat} {xs xs' : List Value} (h : w.ownsRow b e s v n xs) (h' : w.ownsRow b' e' s' v' n' xs') (he : e ≠ e') {g : Nat} (hg : v.ownBlock = some g) : v'.ownBlock ≠ some g := fun hg' => by
  obtain ⟨_, _, c, hc⟩ := owns_lt h hg
  obtain ⟨_, _, c', hc'⟩ := owns_lt h' hg'
  rw [hc] at hc'
  cases hc'
  exact he rfl
theorem owns_cell {w : World} {base : Nat} {e : TypeId} {s : Nat} {n cap g : Nat} {xs : List Value} (h : w.ownsRow base e s (.slice (some ⟨g, 0, none⟩) n cap) n xs) (j : Nat) (hj : j < n * s) : w.cell? ⟨g, j, none⟩ = xs[j]? := by
  rcases h.2 with ⟨h0, _⟩ | ⟨g', cap', cur, h0, hb, hrow, h1, h2, h3, h4⟩
  · cases h0
  · cases h0
    rw [cell_of_row w g j cur e (0, 0) hrow, ← h4, List.getElem?_take, if_pos hj]
    simp
theorem owns_frozen {w : World} {base : Nat} {e : TypeId} {s : Nat} {n cap g : Nat} {xs : List Value} (h : w.ownsRow base e s (.slice (some ⟨g, 0, none⟩) n cap) n xs) (j : Nat) : w.frozen? ⟨g, j, none⟩ = false := by
  rcases h.2 with ⟨h0, _⟩ | ⟨g', cap', cur, h0, hb, hrow, h1, h2, h3, h4⟩
  · cases h0
  · cases h0; exact frozen_of_row w g j cur e hrow
theorem heap_set_at (w : World) (g j : Nat) (v : Value) (cs : Array Value) (t : TypeId) (fr : Nat × Nat) (h : w.heap[g]? = some (.cells cs t fr)) : (w.setCell ⟨g, j, none⟩ v).heap[g]? = some (.cells (cs.setIfInBounds j v) t fr) := by
  have hlt := (Array.getElem?_eq_some_iff.1 h).1
  have he : w.heap[g] = .cells cs t fr := (Array.getElem?_eq_some_iff.1 h).2
  simp [World.setCell, hlt]
  rw [Array.getElem_modify]
  simp [he]
theorem owns_set {w : World} {base : Nat} {e : TypeId} {s : Nat} {n cap g : Nat} {xs : List Value} (h : w.ownsRow base e s (.slice (some ⟨g, 0, none⟩) n cap) n xs) (j : Nat) (hj : j < n * s) (u : Value) : (w.setCell ⟨g, j, none⟩ u).ownsRow base e s (.slice (some ⟨g, 0, none⟩) n cap) n (xs.set j u) := by
  refine ⟨by rw [List.length_set]; exact h.1, ?_⟩
  rcases h.2 with ⟨h0, _⟩ | ⟨g', cap', cur, h0, hb, hrow, h1, h2, h3, h4⟩
  · cases h0
  · cases h0
    refine .inr ⟨g, cap, cur.setIfInBounds j u, rfl, hb, heap_set_at w g j u cur e (0, 0) hrow, h1, h2, by simp [h3], ?_⟩
    rw [Array.toList_setIfInBounds, List.take_set, h4]
/-- But for block g the world w' is as w was. -/
structure But (g : Nat) (w w' : World) : Prop where
  os : w'.os = w.os
  tape : w'.tape = w.tape
  output : w'.output = w.output
  size : w.heap.size ≤ w'.heap.size
  block : ∀ k, k < w.heap.size → k ≠ g → w'.heap[k]? = w.heap[k]?
theorem But.refl (g : Nat) (w : World) : But g w w := ⟨rfl, rfl, rfl, Nat.le_refl _, fun _ _ _ => rfl⟩
theorem But.trans {g : Nat} {a b c : World} (h : But g a b) (k : But g b c) : But g a c :=
  ⟨k.os.trans h.os, k.tape.trans h.tape, k.output.trans h.output, Nat.le_trans h.size k.size, fun i hi hg => (k.block i (Nat.lt_of_lt_of_le hi h.size) hg).trans (h.block i hi hg)⟩
theorem But.ofBelow {g : Nat} {w w' : World} (h : Below w.heap.size w w') : But g w w' := ⟨h.os, h.tape, h.output, h.size, fun k hk _ => h.block k hk⟩
theorem But.below {g B : Nat} {w w' : World} (h : But g w w') (hB : B ≤ g) (hw : B ≤ w.heap.size) : Below B w w' := ⟨h.os, h.tape, h.output, h.size, fun k hk => h.block k (by omega) (by omega)⟩
theorem But.setCell (g : Nat) (w : World) (j : Nat) (v : Value) : But g w (w.setCell ⟨g, j, none⟩ v) := ⟨rfl, rfl, rfl, by simp [World.setCell], fun k _ hk => Below.heap_setCell w ⟨g, j, none⟩ v k hk⟩
theorem But.cell {g : Nat} {w w' : World} (h : But g w w') {p : Addr} (hp : p.block < w.heap.size) (hg : p.block ≠ g) : w'.cell? p = w.cell? p := World.cell?_of_block (w := w) (h.block p.block hp hg)
theorem But.frozen {g : Nat} {w w' : World} (h : But g w w') {p : Addr} (hp : p.block < w.heap.size) (hg : p.block ≠ g) : w'.frozen? p = w.frozen? p := World.frozen?_of_block (w := w) (h.block p.block hp hg)
/-- Bytes that lie at p. -/
def BAt (w : World) (p : Option Addr) (n : Nat) (bs : Bs) : Prop := 0 < n → ∃ b o, p = some ⟨b, o, none⟩ ∧ ∀ i, i < n → w.cell? ⟨b, o + i, none⟩ = some (.int .u8 ((bs.getD i 0).toNat : Int))
/-- Bytes at p, kept where their block is. -/
theorem bytesAt_keep {w w' : World} {p : Option Addr} {n : Nat} {bs : Bs} (h : BAt w p n bs) {g : Nat} (hg : ∀ a, p = some a → a.block < g) (hb : ∀ k, k < g → w'.heap[k]? = w.heap[k]?) : BAt w' p n bs := fun h0 => by
  obtain ⟨b, o, rfl, hc⟩ := h h0
  exact ⟨b, o, rfl, fun i hi => by rw [← hc i hi]; exact World.cell?_of_block (w := w) (hb b (hg _ rfl))⟩
theorem bytesAt_in {w : World} {p : Option Addr} {n : Nat} {bs : Bs} (h : BAt w p n bs) (hn : bs.length = n) : Lib.BytesIn w p n (bs.map fun b => (b.toNat : Int)) := fun h0 => by
  obtain ⟨b, o, rfl, hc⟩ := h h0
  refine ⟨b, o, rfl, fun i hi => ?_⟩
  rw [hc i hi]
  simp [List.getD, hn, hi]
theorem bytesOf_map (bs : Bs) : Lib.bytesOf (bs.map fun b => (b.toNat : Int)) = bs := by
  simp [Lib.bytesOf, Function.comp_def]
theorem bytesAt_drop {w : World} {p : Option Addr} {n : Nat} {bs : Bs} (h : BAt w p n bs) (hn : bs.length = n) (c j : Nat) (hj : j ≤ n) (hc : n ≤ c) : BAt w (if c = j then p else p.map (fun x => x.add j)) (n - j) (bs.drop j) := fun h0 => by
  obtain ⟨b, o, rfl, hcl⟩ := h (by omega)
  rw [if_neg (by omega)]
  refine ⟨b, o + j, by simp [Addr.add], fun i hi => ?_⟩
  rw [show o + j + i = o + (j + i) by omega, hcl (j + i) (by omega)]
  simp [List.getD]
theorem alloc_sz (w : World) (o : Obj) : (w.alloc o).heap.size = w.heap.size + 1 := by
  show (w.heap.push o).size = _
  simp
theorem alloc2_cells {w w2 : World} {A B : Array Value} {t u : TypeId} (hb : Below ((w.alloc (.cells A t)).alloc (.cells B u)).heap.size ((w.alloc (.cells A t)).alloc (.cells B u)) w2) : (∀ j, w2.cell? ⟨w.heap.size, j, none⟩ = A[j]?) ∧ (∀ j, w2.cell? ⟨w.heap.size + 1, j, none⟩ = B[j]?) ∧ Below w.heap.size w w2 := by
  have hs : ((w.alloc (.cells A t)).alloc (.cells B u)).heap.size = w.heap.size + 2 := by rw [alloc_sz, alloc_sz]
  refine ⟨fun j => ?_, fun j => ?_, ?_⟩
  · refine cell_of_row w2 w.heap.size j A t (0, 0) ?_
    rw [hb.block _ (by omega), heap_alloc_old _ _ (by rw [alloc_sz]; omega)]
    exact heap_alloc_new w _
  · refine cell_of_row w2 (w.heap.size + 1) j B u (0, 0) ?_
    rw [hb.block _ (by omega)]
    exact heap_alloc2_new w _ _
  · exact (((Below.refl _ _).alloc (Nat.le_refl _) _).alloc (by rw [alloc_sz]; omega) _).trans (hb.mono (by omega))
theorem BAt.below {w w' : World} {p : Option Addr} {n : Nat} {l : Bs} (h : BAt w p n l) (hb : Below w.heap.size w w') : BAt w' p n l := fun h0 => by
  obtain ⟨b, o, e, hc⟩ := h h0
  have hlt := World.block_lt_of_cell? w ⟨b, o + 0, none⟩ (hc 0 h0)
  exact ⟨b, o, e, fun i hi => by rw [← hc i hi]; exact hb.cell (p := ⟨b, o + i, none⟩) hlt⟩
end Go.Proofs.Yticopomchoahnaa
/-
  Items in memory.
-/
namespace Go.Proofs.Yticopomchoahnaa
open Go.Shelf Go.RowKit Go.Lib
set_option linter.unusedVariables false
set_option linter.unusedSimpArgs false

/-- Bytes at a slice; P: the blocks where they may lie. -/
structure ByV (w : World) (P : Nat → Prop) (p : Option Addr) (c : Nat) (l : Bs) : Prop where
  cap : l.length ≤ c
  big : c ≤ 9223372036854775807
  lies : BAt w p l.length l
  ok : ∀ a, p = some a → 0 < l.length → P a.block
theorem ByV.lt {w : World} {P : Nat → Prop} {p : Option Addr} {c : Nat} {l : Bs} (h : ByV w P p c l) {a : Addr} (ha : p = some a) (h0 : 0 < l.length) : a.block < w.heap.size ∧ a.spot = none := by
  obtain ⟨b, o, e, hc⟩ := h.lies h0
  rw [ha] at e
  cases e
  exact ⟨World.block_lt_of_cell? w ⟨b, o + 0, none⟩ (hc 0 h0), rfl⟩
theorem ByV.keep {w w' : World} {P : Nat → Prop} {p : Option Addr} {c : Nat} {l : Bs} (h : ByV w P p c l) (hb : ∀ g, P g → g < w.heap.size → w'.heap[g]? = w.heap[g]?) : ByV w' P p c l := by
  refine ⟨h.cap, h.big, fun h0 => ?_, h.ok⟩
  obtain ⟨b, o, e, hc⟩ := h.lies h0
  have hl := h.lt e h0
  exact ⟨b, o, e, fun i hi => by rw [← hc i hi]; exact World.cell?_of_block (w := w) (hb b (h.ok _ e h0) hl.1)⟩
theorem ByV.mono {w : World} {P Q : Nat → Prop} {p : Option Addr} {c : Nat} {l : Bs} (h : ByV w P p c l) (hPQ : ∀ g, P g → g < w.heap.size → Q g) : ByV w Q p c l :=
  ⟨h.cap, h.big, h.lies, fun a ha h0 => hPQ _ (h.ok a ha h0) (h.lt ha h0).1⟩
theorem ByV.nil (w : World) (P : Nat → Prop) : ByV w P none 0 [] := ⟨Nat.le_refl _, by omega, fun h => absurd h (by simp), fun a ha => by cases ha⟩
theorem ByV.drop {w : World} {P : Nat → Prop} {p : Option Addr} {c : Nat} {l : Bs} (h : ByV w P p c l) (j : Nat) (hj : j ≤ l.length) : ByV w P (if c = j then p else p.map (fun x => x.add j)) (c - j) (l.drop j) := by
  have hc := h.cap
  have hb := h.big
  refine ⟨by rw [List.length_drop]; omega, by omega, ?_, ?_⟩
  · rw [List.length_drop]; exact bytesAt_drop h.lies rfl c j hj hc
  · intro a ha h0
    rw [List.length_drop] at h0
    rw [if_neg (by omega)] at ha
    cases p with
    | none => cases ha
    | some q =>
      have h1 := h.ok q rfl (by omega)
      simp at ha
      subst ha
      unfold Addr.add
      split <;> exact h1
theorem ByV.take {w : World} {P : Nat → Prop} {p : Option Addr} {c : Nat} {l : Bs} (h : ByV w P p c l) (j : Nat) (hj : j ≤ l.length) : ByV w P p c (l.take j) := by
  have hc := h.cap
  have hb := h.big
  have hl : (l.take j).length = j := by rw [List.length_take]; omega
  refine ⟨by omega, hb, fun h0 => ?_, fun a ha h0 => h.ok a ha (by omega)⟩
  rw [hl] at h0 ⊢
  obtain ⟨b, o, e, hcl⟩ := h.lies (by omega)
  refine ⟨b, o, e, fun i hi => ?_⟩
  rw [hcl i (by omega)]
  simp [List.getD, List.getElem?_take, hi]
/-- What an item is by itself; q: where its kids lie. -/
def ItHd (w : World) (P : Nat → Prop) (cs : List Value) (i : It) (q : Option Addr) : Prop :=
  ∃ p c c', cs = [.int .u8 (i.kind : Int), .int .u64 (i.n : Int), .slice p i.b.length c, .slice q i.kids.length c'] ∧ i.kind < 256 ∧ i.n < 18446744073709551616 ∧ ByV w P p c i.b ∧ i.kids.length ≤ c' ∧ c' ≤ 9223372036854775807
/-- Kids in memory. -/
def KidsAt (R : List Value → It → Prop) (w : World) (P : Nat → Prop) (q : Option Addr) (kids : List It) : Prop :=
  ∀ (j : Nat) (k : It), kids[j]? = some k → ∃ b o, q = some ⟨b, o, none⟩ ∧ P b ∧ ∃ c0 c1 c2 c3, w.cell? ⟨b, o + j * 4, none⟩ = some c0 ∧ w.cell? ⟨b, o + j * 4 + 1, none⟩ = some c1 ∧ w.cell? ⟨b, o + j * 4 + 2, none⟩ = some c2 ∧ w.cell? ⟨b, o + j * 4 + 3, none⟩ = some c3 ∧ R [c0, c1, c2, c3] k
/-- An item's cells, and what it reaches in memory, so deep. -/
def ItOk (w : World) (P : Nat → Prop) : Nat → List Value → It → Prop
  | 0, cs, i => ∃ q, ItHd w P cs i q
  | d + 1, cs, i => ∃ q, ItHd w P cs i q ∧ KidsAt (ItOk w P d) w P q i.kids
theorem ItOk.head {w : World} {P : Nat → Prop} {d : Nat} {cs : List Value} {i : It} (h : ItOk w P d cs i) : ∃ q, ItHd w P cs i q := by
  cases d with
  | zero => exact h
  | succ d => obtain ⟨q, h1, _⟩ := h; exact ⟨q, h1⟩
theorem ItHd.keep {w w' : World} {P : Nat → Prop} {cs : List Value} {i : It} {q : Option Addr} (h : ItHd w P cs i q) (hb : ∀ g, P g → g < w.heap.size → w'.heap[g]? = w.heap[g]?) : ItHd w' P cs i q := by
  obtain ⟨p, c, c', h1, h2, h3, h4, h5, h6⟩ := h
  exact ⟨p, c, c', h1, h2, h3, h4.keep hb, h5, h6⟩
theorem ItHd.mono {w : World} {P Q : Nat → Prop} {cs : List Value} {i : It} {q : Option Addr} (h : ItHd w P cs i q) (hPQ : ∀ g, P g → g < w.heap.size → Q g) : ItHd w Q cs i q := by
  obtain ⟨p, c, c', h1, h2, h3, h4, h5, h6⟩ := h
  exact ⟨p, c, c', h1, h2, h3, h4.mono hPQ, h5, h6⟩
theorem ItOk.keep {w w' : World} {P : Nat → Prop} (hb : ∀ g, P g → g < w.heap.size → w'.heap[g]? = w.heap[g]?) : ∀ {d : Nat} {cs : List Value} {i : It}, ItOk w P d cs i → ItOk w' P d cs i
  | 0, cs, i, ⟨q, h⟩ => ⟨q, h.keep hb⟩
  | d + 1, cs, i, ⟨q, h, hk⟩ => ⟨q, h.keep hb, fun j k hj => by
    obtain ⟨b, o, e, hp, c0, c1, c2, c3, k0, k1, k2, k3, hr⟩ := hk j k hj
    have hlt := World.block_lt_of_cell? w ⟨b, o + j * 4, none⟩ k0
    have hc : ∀ x v, w.cell? ⟨b, x, none⟩ = some v → w'.cell? ⟨b, x, none⟩ = some v := fun x v hv => by rw [← hv]; exact World.cell?_of_block (w := w) (hb b hp hlt)
    exact ⟨b, o, e, hp, c0, c1, c2, c3, hc _ _ k0, hc _ _ k1, hc _ _ k2, hc _ _ k3, ItOk.keep hb hr⟩⟩
theorem ItOk.mono {w : World} {P Q : Nat → Prop} (hPQ : ∀ g, P g → g < w.heap.size → Q g) : ∀ {d : Nat} {cs : List Value} {i : It}, ItOk w P d cs i → ItOk w Q d cs i
  | 0, cs, i, ⟨q, h⟩ => ⟨q, h.mono hPQ⟩
  | d + 1, cs, i, ⟨q, h, hk⟩ => ⟨q, h.mono hPQ, fun j k hj => by
    obtain ⟨b, o, e, hp, c0, c1, c2, c3, k0, k1, k2, k3, hr⟩ := hk j k hj
    exact ⟨b, o, e, hPQ b hp (World.block_lt_of_cell? w ⟨b, o + j * 4, none⟩ k0), c0, c1, c2, c3, k0, k1, k2, k3, ItOk.mono hPQ hr⟩⟩
theorem ItOk.below {w w' : World} {P : Nat → Prop} {d : Nat} {cs : List Value} {i : It} (h : ItOk w P d cs i) (hb : Below w.heap.size w w') : ItOk w' P d cs i := h.keep (fun g _ hg => hb.block g hg)
/-- An item without kids. -/
theorem ItOk.leaf {w : World} {P : Nat → Prop} (d : Nat) {p : Option Addr} {c : Nat} {i : It} (hk : i.kind < 256) (hn : i.n < 18446744073709551616) (hb : ByV w P p c i.b) (h0 : i.kids = []) : ItOk w P d [.int .u8 (i.kind : Int), .int .u64 (i.n : Int), .slice p i.b.length c, .slice none 0 0] i := by
  have hh : ItHd w P [.int .u8 (i.kind : Int), .int .u64 (i.n : Int), .slice p i.b.length c, .slice none 0 0] i none := ⟨p, c, 0, by rw [h0]; rfl, hk, hn, hb, by rw [h0]; simp, by omega⟩
  cases d with
  | zero => exact ⟨none, hh⟩
  | succ d => exact ⟨none, hh, fun j k hj => by rw [h0] at hj; simp at hj⟩
/-- A list of items, under way: s0: where the call began; g: the reader's block. -/
structure Kl (w : World) (s0 g lo d : Nat) (nv : Value) (css : List (List Value)) (kids : List It) : Prop where
  len : css.length = kids.length
  row : w.ownsRow s0 42 4 nv css.length css.flatten
  rep : ∀ (i : Nat) (cs : List Value) (k : It), css[i]? = some cs → kids[i]? = some k → ItOk w (fun b => (b < lo ∨ s0 ≤ b) ∧ some b ≠ nv.ownBlock) d cs k
theorem Kl.nil (w : World) (s0 g lo d : Nat) : Kl w s0 g lo d (.slice none 0 0) [] [] := ⟨rfl, World.ownsRow_nil w s0 _ 4, fun i cs k hi => by simp at hi⟩
theorem ItOk.four {w : World} {P : Nat → Prop} {d : Nat} {cs : List Value} {i : It} (h : ItOk w P d cs i) : ∃ c0 c1 c2 c3, cs = [c0, c1, c2, c3] := by
  obtain ⟨q, p, c, c', e, _⟩ := h.head
  exact ⟨_, _, _, _, e⟩
theorem Kl.fours {w : World} {s0 g lo d : Nat} {nv : Value} {css : List (List Value)} {kids : List It} (h : Kl w s0 g lo d nv css kids) : ∀ cs ∈ css, cs.length = 4 := fun cs hc => by
  obtain ⟨i, hi⟩ := List.mem_iff_getElem?.1 hc
  have hl := (List.getElem?_eq_some_iff.1 hi).1
  obtain ⟨c0, c1, c2, c3, rfl⟩ := (h.rep i cs _ hi (List.getElem?_eq_getElem (by rw [← h.len]; exact hl))).four
  rfl
theorem flatten_get : ∀ (css : List (List Value)) (i j : Nat) (cs : List Value), (∀ c ∈ css, c.length = 4) → css[i]? = some cs → j < 4 → css.flatten[i * 4 + j]? = cs[j]?
  | [], i, j, cs, _, hi, _ => by simp at hi
  | x :: css, 0, j, cs, h4, hi, hj => by
    simp at hi; subst hi
    rw [Nat.zero_mul, Nat.zero_add, List.flatten_cons, List.getElem?_append_left (by rw [h4 x (by simp)]; exact hj)]
  | x :: css, i + 1, j, cs, h4, hi, hj => by
    simp at hi
    have hx := h4 x (by simp)
    rw [List.flatten_cons, List.getElem?_append_right (by omega), hx, show (i + 1) * 4 + j - 4 = i * 4 + j by omega]
    exact flatten_get css i j cs (fun c hc => h4 c (by simp [hc])) hi hj
theorem Kl.keep {w w' : World} {s0 g lo d : Nat} {nv : Value} {css : List (List Value)} {kids : List It} (h : Kl w s0 g lo d nv css kids) (hb : ∀ b, b ≠ g → b < w.heap.size → w'.heap[b]? = w.heap[b]?) (hg : g < s0) (hlo : lo ≤ g := by omega) : Kl w' s0 g lo d nv css kids :=
  ⟨h.len, owns_keep h.row (fun b hbk => hb b (by have := (owns_lt h.row hbk).1; omega) (owns_lt h.row hbk).2.1), fun i cs k hi hk => (h.rep i cs k hi hk).keep (fun b hP hlt => hb b (by omega) hlt)⟩
theorem Kl.push {w w1 : World} {s0 s1 g lo d : Nat} {nv v' : Value} {css : List (List Value)} {kids : List It} (h : Kl w s0 g lo d nv css kids) (cs : List Value) (k : It) (hg : g < s0) (hs : s0 ≤ s1) (hold : ∀ b, nv.ownBlock = some b → b < s1)
    (hk : ItOk w (fun b => b < lo ∨ s1 ≤ b) d cs k) (hown : w1.ownsRow s0 42 4 v' (css.length + 1) (css.flatten ++ cs)) (hgrow : w.grownBy w1 nv.ownBlock) (hat : v'.ownBlock = nv.ownBlock ∨ v'.ownBlock = some w.heap.size) (hlo : lo ≤ g := by omega) :
    Kl w1 s0 g lo d v' (css ++ [cs]) (kids ++ [k]) := by
  have hl := h.len
  have hne : ∀ b, some b ≠ nv.ownBlock → b < w.heap.size → some b ≠ v'.ownBlock := fun b h1 h2 => by
    rcases hat with e | e
    · rw [e]; exact h1
    · rw [e]; intro e'; cases e'; omega
  have hk1 : ItOk w (fun b => (b < lo ∨ s0 ≤ b) ∧ some b ≠ nv.ownBlock) d cs k := hk.mono (fun b hb _ => ⟨by omega, fun e => by
    have h1 := hold b e.symm
    have h2 := (owns_lt h.row e.symm).1
    omega⟩)
  have all : ∀ {cs : List Value} {k : It}, ItOk w (fun b => (b < lo ∨ s0 ≤ b) ∧ some b ≠ nv.ownBlock) d cs k → ItOk w1 (fun b => (b < lo ∨ s0 ≤ b) ∧ some b ≠ v'.ownBlock) d cs k := fun hh => by
    have h1 : ItOk w (fun b => (b < lo ∨ s0 ≤ b) ∧ some b ≠ nv.ownBlock ∧ some b ≠ v'.ownBlock) d _ _ := hh.mono (fun b hb hlt => ⟨hb.1, hb.2, hne b hb.2 hlt⟩)
    have h2 := h1.keep (w' := w1) (fun b hb hlt => hgrow.block b hlt hb.2.1)
    exact h2.mono (fun b hb _ => ⟨hb.1, hb.2.2⟩)
  refine ⟨by simp [hl], ?_, ?_⟩
  · rw [List.length_append, List.flatten_append]
    simpa using hown
  · intro i xs x hi hx
    rcases Nat.lt_trichotomy i css.length with hlt | rfl | hgt
    · rw [List.getElem?_append_left hlt] at hi
      rw [List.getElem?_append_left (by omega)] at hx
      exact all (h.rep i xs x hi hx)
    · rw [List.getElem?_append_right (Nat.le_refl _)] at hi
      rw [List.getElem?_append_right (by omega)] at hx
      simp at hi
      rw [show css.length - kids.length = 0 by omega] at hx
      simp at hx
      subst hi hx
      exact all hk1
    · rw [List.getElem?_eq_none (by simp; omega)] at hi
      cases hi
/-- A list's slice as an item's kids. -/
theorem Kl.kids {w : World} {s0 g lo d : Nat} {nv : Value} {css : List (List Value)} {kids : List It} (h : Kl w s0 g lo d nv css kids) (hg : g < s0) : ∃ q c, nv = .slice q kids.length c ∧ kids.length ≤ c ∧ c ≤ 9223372036854775807 ∧ KidsAt (ItOk w (fun b => b < lo ∨ s0 ≤ b) d) w (fun b => b < lo ∨ s0 ≤ b) q kids := by
  have hl := h.len
  have hrow := h.row
  rcases hrow.2 with ⟨e, h0⟩ | ⟨b, cap, cur, e, hb, hr, h1, h2, _⟩
  · refine ⟨none, 0, by rw [e, ← hl, h0], by omega, by omega, fun j k hj => ?_⟩
    have := (List.getElem?_eq_some_iff.1 hj).1
    omega
  · refine ⟨some ⟨b, 0, none⟩, cap, by rw [e, hl], by omega, by unfold maxLen at h2; omega, fun j k hj => ⟨b, 0, rfl, Or.inr hb, ?_⟩⟩
    have hj1 := (List.getElem?_eq_some_iff.1 hj).1
    have hx : css[j]? = some css[j] := List.getElem?_eq_getElem (by omega)
    have hr2 := (h.rep j _ k hx hj)
    obtain ⟨c0, c1, c2, c3, e4⟩ := hr2.four
    rw [e4] at hx hr2
    have hc : ∀ x, x < 4 → w.cell? ⟨b, j * 4 + x, none⟩ = [c0, c1, c2, c3][x]? := fun x hx4 => by
      rw [e] at hrow
      rw [owns_cell hrow (j * 4 + x) (by omega), flatten_get css j x _ h.fours hx hx4]
    simp only [Nat.zero_add]
    exact ⟨c0, c1, c2, c3, hc 0 (by decide), hc 1 (by decide), hc 2 (by decide), hc 3 (by decide), hr2.mono (fun b hb _ => hb.1)⟩
/-- An item with kids. -/
theorem Kl.item {w : World} {s0 g lo d : Nat} {nv : Value} {css : List (List Value)} {kids : List It} (h : Kl w s0 g lo d nv css kids) (hg : g < s0) (kind : Nat) (hk : kind < 256) : ItOk w (fun b => b < lo ∨ s0 ≤ b) (d + 1) [.int .u8 (kind : Int), .int .u64 0, .slice none 0 0, nv] ⟨kind, 0, [], kids⟩ := by
  obtain ⟨q, c, e, h1, h2, h3⟩ := h.kids hg
  exact ⟨q, ⟨none, 0, c, by rw [e]; rfl, hk, (by decide : 0 < 18446744073709551616), ByV.nil w _, h1, h2⟩, h3⟩
/-- A kid's cells. -/
theorem Kl.get {w : World} {s0 g lo d : Nat} {q : Option Addr} {n c : Nat} {css : List (List Value)} {kids : List It} (h : Kl w s0 g lo d (.slice q n c) css kids) (hg : g < s0) {j : Nat} {k : It} (hj : kids[j]? = some k) : ∃ b o, q = some ⟨b, o, none⟩ ∧ b < w.heap.size ∧ ∃ c0 c1 c2 c3, w.cell? ⟨b, o + j * 4, none⟩ = some c0 ∧ w.cell? ⟨b, o + j * 4 + 1, none⟩ = some c1 ∧ w.cell? ⟨b, o + j * 4 + 2, none⟩ = some c2 ∧ w.cell? ⟨b, o + j * 4 + 3, none⟩ = some c3 ∧ ItOk w (fun b => b < lo ∨ s0 ≤ b) d [c0, c1, c2, c3] k := by
  obtain ⟨q', c', e, h1, h2, h3⟩ := h.kids hg
  cases e
  obtain ⟨b, o, e, hP, c0, c1, c2, c3, k0, k1, k2, k3, hr⟩ := h3 j k hj
  exact ⟨b, o, e, World.block_lt_of_cell? w ⟨b, o + j * 4, none⟩ k0, c0, c1, c2, c3, k0, k1, k2, k3, hr⟩
/-- So deep an item is at most. -/
def deepC : Nat → It → Prop
  | 0, i => i.kids = []
  | d + 1, i => ∀ k ∈ i.kids, deepC d k
end Go.Proofs.Yticopomchoahnaa
/-
  Bytes of the call's own and bytes that came in: append, bytes.Clone, as a string.
-/
namespace Go.Proofs.Yticopomchoahnaa
open Go.Shelf Go.RowKit
set_option linter.unusedVariables false
set_option linter.unusedSimpArgs false


theorem infoU8 : (Try.prog.info? 5).map (fun i => (i.zero, i.size, i.bytes)) = some (some (.int .u8 0), 1, 1) := by kernel_rfl
theorem byteCells_len (l : Bs) : (Lib.byteCells l).length = l.length := by simp [Lib.byteCells]
theorem byteCells_app (a b : Bs) : Lib.byteCells a ++ Lib.byteCells b = Lib.byteCells (a ++ b) := by simp [Lib.byteCells]
theorem own_byv {w : World} {base : Nat} {v : Value} {l : Bs} (h : w.ownsRow base 5 1 v l.length (Lib.byteCells l)) : ∃ p c, v = .slice p l.length c ∧ ByV w (fun b => base ≤ b) p c l := by
  rcases h.2 with ⟨e, h0⟩ | ⟨g, cap, cur, e, hb, hr, h1, h2, _⟩
  · have : l = [] := List.eq_nil_of_length_eq_zero h0
    subst this
    exact ⟨none, 0, e, ByV.nil w _⟩
  · refine ⟨some ⟨g, 0, none⟩, cap, e, ⟨h1, by unfold maxLen at h2; omega, fun _ => ⟨g, 0, rfl, fun i hi => ?_⟩, fun a ha _ => by cases ha; exact hb⟩⟩
    rw [e] at h
    rw [Nat.zero_add, owns_cell h i (by omega)]
    unfold Lib.byteCells
    rw [List.getElem?_map, List.getElem?_eq_getElem hi]
    simp [List.getD, hi]
/-- Bytes appended to bytes of the call's own. -/
theorem wpList_append_bat {w : World} {ops : Array Oper} {rest : List Oper} {o : Oper} {a : Act} {Q : Exit → Act → World → Prop} (hgd : o.guard = none) (s x : Operand)
    (ho : o.op = .call { callee := .builtin .append, args := #[s, x], argTypes := #[39, 39] }) (base : Nat) (v : Value) (hs : a.eval s = v) (old : Bs) (m : Nat) (hm : old.length = m) (hown : w.ownsRow base 5 1 v m (Lib.byteCells old)) (ad : Addr) (n c : Nat) (l : Bs) (hn : l.length = n) (hx : a.eval x = .slice (some ad) n c) (hr : BAt w (some ad) n l) (hlen : m + n ≤ 100000000) (hbase : base ≤ w.heap.size)
    (h : ∀ v' w', w'.ownsRow base 5 1 v' (m + n) (Lib.byteCells (old ++ l)) → w.grownBy w' v.ownBlock → wpList Try.prog ops Q rest (a.put o.dst v') w') : wpList Try.prog ops Q (o :: rest) a w := by
  obtain ⟨i0, hi0, hz0, hz1, hz2⟩ := info_parts infoU8
  refine wpList_append_own (w := w) hgd s x _ ho base 5 i0 (.int .u8 0) 1 1 Try.underlying39 hi0 hz0 hz1 hz2 rfl (by decide) v m (Lib.byteCells old) hs hown ad n c (Lib.byteCells l) hx (by rw [byteCells_len, hn, Nat.mul_one]) ?_ (by intro u hu; simp only [Lib.byteCells, List.mem_map] at hu; obtain ⟨x, _, rfl⟩ := hu; rfl) (by unfold maxLen; omega) (by omega) hbase ?_
  · intro j u hj
    obtain ⟨hj1, hj2⟩ := List.getElem?_eq_some_iff.1 hj
    have hj3 : j < l.length := by simpa [Lib.byteCells] using hj1
    obtain ⟨b, f, e, hc⟩ := hr (by omega)
    cases e
    rw [Addr.add_mid, hc j (by omega), ← hj2]
    simp [Lib.byteCells, List.getD, hj3]
  · intro v' w' hown' hgr _
    rw [byteCells_app] at hown'
    exact h v' w' hown' hgr
set_option maxRecDepth 100000 in
set_option maxHeartbeats 1000000 in
/-- bytes.Clone. -/
theorem clone_any (p : Option Addr) (n c : Nat) (l : Bs) (w : World) (hl : l.length = n) (h : BAt w p n l) (hn : n ≤ 1000000) :
    Calls Try.prog 105 #[.slice p n c] w fun e w' => Below w.heap.size w w' ∧ ∃ p' c', e = .returned (.slice p' n c') ∧ ByV w' (fun b => w.heap.size ≤ b) p' c' l := by
  have heq := fun (q : Option Addr) (m d : Nat) (W : World) => Lib.run_eql_slice_nil (P := Try.prog) W 39 5 q m d 0 0 Try.underlying39
  cases p with
  | none =>
    have h0 : n = 0 := by
      rcases Nat.eq_zero_or_pos n with h1 | h1
      · exact h1
      · obtain ⟨b, o, e, _⟩ := h h1
        cases e
    subst h0
    have : l = [] := List.eq_nil_of_length_eq_zero hl
    subst this
    have hq := heq none 0 c
    go_enter Try.func105, Try.ntmps105
    go_wp2
    go_ret
    exact ⟨Below.refl _ _, none, 0, rfl, ByV.nil w _⟩
  | some ad =>
    have hq := heq (some ad) n c
    have hown0 : (w.alloc (.cells #[] 5)).ownsRow w.heap.size 5 1 (.slice (some ⟨w.heap.size, 0, none⟩) 0 0) 0 [] := World.ownsRow_lit w #[] 0 (Nat.le_refl _) (Nat.zero_le _) (by simp)
    have hb0 : Below w.heap.size w (w.alloc (.cells #[] 5)) := (Below.refl _ _).alloc (Nat.le_refl _) _
    go_enter Try.func105, Try.ntmps105
    go_wp2_with (at_builtin; refine wpList_append_bat rfl (.tmp 5) (.tmp 6) rfl w.heap.size (.slice (some ⟨w.heap.size, 0, none⟩) 0 0) rfl [] 0 rfl hown0 ad n c l hl rfl (h.below hb0) (by omega) hb0.size ?_; intro v1 w1 o1 gr1)
    go_ret
    have hsz := alloc_sz w (.cells #[] 5)
    subst hl
    rw [Nat.zero_add, List.nil_append] at o1
    obtain ⟨p', c', e, hv⟩ := own_byv o1
    refine ⟨⟨gr1.os.trans hb0.os, gr1.tape.trans hb0.tape, gr1.output.trans hb0.output, Nat.le_trans hb0.size gr1.size, fun k hk => (gr1.block k (by omega) (fun e => by injection e with e; have e' : k = w.heap.size := e; omega)).trans (hb0.block k hk)⟩, p', c', by rw [← e]; rfl, hv⟩
theorem run_append_nilc {w : World} (base : Nat) (ty : TypeId) (v : Value) (n c : Nat) (xs : List Value) (hown : w.ownsRow base 5 1 v n xs) : (Builtin.append_ #[39, 39] ty #[v, .slice none 0 c]).run Try.prog w = .ok v w := by
  obtain ⟨i0, hi0, hz0, hz1, hz2⟩ := info_parts infoU8
  rcases hown.2 with ⟨rfl, rfl⟩ | ⟨g, cap, cur, rfl, _, _, hnc, _⟩
  · simp [Builtin.append_, run_underlying Try.underlying39, sizeOf, typeInfo, hi0, Builtin.lenOf, Builtin.firstCells]
  · simp [Builtin.append_, run_underlying Try.underlying39, sizeOf, typeInfo, hi0, Builtin.lenOf, Builtin.firstCells, hnc, storeCells]
theorem owns_slice {w : World} {base : Nat} {e : TypeId} {s : Nat} {v : Value} {n : Nat} {xs : List Value} (h : w.ownsRow base e s v n xs) : ∃ p c, v = .slice p n c := by
  rcases h.2 with ⟨rfl, rfl⟩ | ⟨g, cap, cur, rfl, _⟩
  · exact ⟨_, _, rfl⟩
  · exact ⟨_, _, rfl⟩
/-- Bytes appended to bytes of the call's own; where they lie then. -/
theorem wp_append_wt {w : World} {o : Oper} {a : Act} {K : Act → World → Prop} {Q : Exit → Act → World → Prop} (s x : Operand)
    (ho : o.op = .call { callee := .builtin .append, args := #[s, x], argTypes := #[39, 39] }) (base : Nat) (v : Value) (hs : a.eval s = v) (old : Bs) (m : Nat) (hm : old.length = m) (hown : w.ownsRow base 5 1 v m (Lib.byteCells old)) (p : Option Addr) (n c : Nat) (l : Bs) (hn : l.length = n) (hx : a.eval x = .slice p n c) (hr : BAt w p n l) (hlen : m + n ≤ 100000000) (hbase : base ≤ w.heap.size)
    (h : ∀ v' w', w'.ownsRow base 5 1 v' (m + n) (Lib.byteCells (old ++ l)) → w.grownBy w' v.ownBlock → (v'.ownBlock = v.ownBlock ∨ v'.ownBlock = some w.heap.size) → K (a.put o.dst v') w') : o.wp Try.prog a w K Q := by
  obtain ⟨i0, hi0, hz0, hz1, hz2⟩ := info_parts infoU8
  cases p with
  | none =>
    have h0 : n = 0 := by
      rcases Nat.eq_zero_or_pos n with h1 | h1
      · exact h1
      · obtain ⟨b, o, e, _⟩ := hr h1
        cases e
    subst h0
    have : l = [] := List.eq_nil_of_length_eq_zero hn
    subst this
    have hrun := run_append_nilc (w := w) base o.type v m c _ hown
    unfold Oper.wp
    simp [execOp, ho, resolve, invoke, builtin, hs, hx, hrun, Result.andThen]
    exact h v w (by simpa using hown) ⟨rfl, rfl, rfl, Nat.le_refl _, fun _ _ _ => rfl⟩ (.inl rfl)
  | some ad =>
    obtain ⟨v', w', hrun, h2, h3, _, h5⟩ := run_append_own_at (P := Try.prog) w base 39 o.type 5 i0 (.int .u8 0) 1 1 Try.underlying39 hi0 hz0 hz1 hz2 rfl (by decide) v m (Lib.byteCells old) hown ad n c (Lib.byteCells l) (by rw [byteCells_len, hn, Nat.mul_one]) (by
      intro j u hj
      obtain ⟨hj1, hj2⟩ := List.getElem?_eq_some_iff.1 hj
      have hj3 : j < l.length := by simpa [Lib.byteCells] using hj1
      obtain ⟨b, f, e, hc⟩ := hr (by omega)
      cases e
      rw [Addr.add_mid, hc j (by omega), ← hj2]
      simp [Lib.byteCells, List.getD, hj3]) (by intro u hu; simp only [Lib.byteCells, List.mem_map] at hu; obtain ⟨x, _, rfl⟩ := hu; rfl) (by unfold maxLen; omega) (by omega) hbase
    rw [byteCells_app] at h2
    unfold Oper.wp
    simp only [execOp, ho, resolve, invoke, builtin, Sem.run_bind, Sem.run_pure, Result.andThen_ok, List.map_toArray, List.map_cons, List.map_nil, hs, hx, hrun]
    exact h v' w' h2 h3 h5
theorem wpList_append_wt {w : World} {ops : Array Oper} {rest : List Oper} {o : Oper} {a : Act} {Q : Exit → Act → World → Prop} (hgd : o.guard = none) (s x : Operand)
    (ho : o.op = .call { callee := .builtin .append, args := #[s, x], argTypes := #[39, 39] }) (base : Nat) (v : Value) (hs : a.eval s = v) (old : Bs) (m : Nat) (hm : old.length = m) (hown : w.ownsRow base 5 1 v m (Lib.byteCells old)) (p : Option Addr) (n c : Nat) (l : Bs) (hn : l.length = n) (hx : a.eval x = .slice p n c) (hr : BAt w p n l) (hlen : m + n ≤ 100000000) (hbase : base ≤ w.heap.size)
    (h : ∀ v' w', w'.ownsRow base 5 1 v' (m + n) (Lib.byteCells (old ++ l)) → w.grownBy w' v.ownBlock → (v'.ownBlock = v.ownBlock ∨ v'.ownBlock = some w.heap.size) → wpList Try.prog ops Q rest (a.put o.dst v') w') : wpList Try.prog ops Q (o :: rest) a w :=
  wpList_plain hgd fun _ hK => wp_append_wt s x ho base v hs old m hm hown p n c l hn hx hr hlen hbase fun v' w' h1 h2 h3 => hK _ _ (h v' w' h1 h2 h3)
/-- The same in a region that draws. -/
theorem step_append_wt {w : World} {ops : Array Oper} {o : Oper} {a : Act} {K : Act → World → Prop} {Q : Exit → Act → World → Prop} {E : Prop} (hw : Region.wanted o (yielded ops a.tmps) = true) (s x : Operand)
    (ho : o.op = .call { callee := .builtin .append, args := #[s, x], argTypes := #[39, 39] }) (base : Nat) (v : Value) (hs : a.eval s = v) (old : Bs) (m : Nat) (hm : old.length = m) (hown : w.ownsRow base 5 1 v m (Lib.byteCells old)) (p : Option Addr) (n c : Nat) (l : Bs) (hn : l.length = n) (hx : a.eval x = .slice p n c) (hr : BAt w p n l) (hlen : m + n ≤ 100000000) (hbase : base ≤ w.heap.size)
    (h : ∀ v' w', w'.ownsRow base 5 1 v' (m + n) (Lib.byteCells (old ++ l)) → w.grownBy w' v.ownBlock → (v'.ownBlock = v.ownBlock ∨ v'.ownBlock = some w.heap.size) → K (a.put o.dst v') w') : if Region.wanted o (yielded ops a.tmps) = true then Oper.wp Try.prog o a w K Q else E := by
  rw [if_pos hw]
  exact wp_append_wt s x ho base v hs old m hm hown p n c l hn hx hr hlen hbase h
/-- Bytes as a string. -/
theorem conv_bat {w : World} {p : Option Addr} {n c : Nat} {l : Bs} (h : BAt w p n l) (hl : l.length = n) : (convert 39 9 (.slice p n c)).run Try.prog w = .ok (.string ⟨l.toArray⟩) w := by
  have h2 := Lib.BytesIn.convert (P := Try.prog) (bytesAt_in h hl) (by simp [hl]) c 39 5 9 Try.underlying39 Try.underlying5 Try.underlying9
  rw [h2, show strOfNums (l.map fun b => (b.toNat : Int)) = ⟨l.toArray⟩ from by
    apply ByteArray.ext
    apply Array.toList_inj.1
    rw [← Lib.toList_data, Lib.strOfNums_toList, bytesOf_map]]

theorem own_conv {w : World} {base n : Nat} {p : Option Addr} {c : Nat} {l : Bs} (h : w.ownsRow base 5 1 (.slice p n c) n (Lib.byteCells l)) (hl : l.length = n) : (convert 39 9 (.slice p n c)).run Try.prog w = .ok (.string ⟨l.toArray⟩) w := by
  subst hl
  obtain ⟨p', c', e, hv⟩ := own_byv h
  cases e
  exact conv_bat hv.lies rfl
/-- A slice of numbers that came in. -/
def CameJ (k : IntKind) (w : World) (a : Option Addr) (len cap : Nat) (zs : List Int) : Prop :=
  (a = none ∧ len = 0 ∧ cap = 0 ∧ zs = []) ∨
  ∃ x, a = some x ∧ len ≤ cap ∧ cap ≤ maxLen ∧ zs.length = cap ∧ (∀ i, i < zs.length → w.cell? (x.add i) = some (.int k (zs.getD i 0))) ∧ ∀ n ∈ zs, (Lit.int k n).wf = true
theorem byte_wf {x : Int} (h : (Lit.int .u8 x).wf = true) : 0 ≤ x ∧ x < 256 := by
  simp [Lit.wf, IntKind.min, IntKind.max, IntKind.signed, IntKind.bits] at h
  exact ⟨by omega, by omega⟩
theorem CameJ.le {k : IntKind} {w : World} {a : Option Addr} {len cap : Nat} {zs : List Int} (h : CameJ k w a len cap zs) : len ≤ maxLen := by
  rcases h with ⟨_, h1, _⟩ | ⟨x, _, h1, h2, _⟩
  · rw [h1]; exact Nat.zero_le _
  · exact Nat.le_trans h1 h2
/-- The bytes that came in. -/
theorem CameJ.byv {w : World} {a : Option Addr} {len cap : Nat} {zs : List Int} (h : CameJ .u8 w a len cap zs) : ∃ bs : Bs, bs.length = len ∧ ByV w (fun b => b < w.heap.size) a cap bs := by
  rcases h with ⟨rfl, rfl, rfl, rfl⟩ | ⟨x, rfl, h1, h2, h3, h4, h5⟩
  · exact ⟨[], rfl, ByV.nil w _⟩
  · obtain ⟨b, off, spot⟩ := x
    have hl : ((zs.take len).map fun z => UInt8.ofNat z.toNat).length = len := by simp; omega
    refine ⟨(zs.take len).map fun z => UInt8.ofNat z.toNat, hl, by rw [hl]; exact h1, by unfold maxLen at h2; omega, fun h0 => ?_, fun y hy h0 => ?_⟩
    · rw [hl] at h0
      have hsp : spot = none := by
        have := h4 0 (by omega)
        simpa [Addr.add] using World.cell?_spot this
      subst hsp
      refine ⟨b, off, rfl, fun i hi => ?_⟩
      rw [hl] at hi
      have hc := h4 i (by omega)
      rw [Addr.add_mid] at hc
      rw [hc]
      have hiz : i < zs.length := by omega
      have hw := byte_wf (h5 zs[i] (List.getElem_mem hiz))
      have e1 : zs.getD i 0 = zs[i] := by simp [List.getD, hiz]
      have e2 : ((zs.take len).map fun z => UInt8.ofNat z.toNat).getD i 0 = UInt8.ofNat (zs[i]).toNat := by
        simp [List.getD, List.getElem?_take, hi, List.getElem?_eq_getElem hiz]
      rw [e1, e2]
      congr 2
      simp [UInt8.toNat_ofNat']
      omega
    · cases hy
      rw [hl] at h0
      have hc := h4 0 (by omega)
      have hsp : spot = none := by simpa [Addr.add] using World.cell?_spot hc
      subst hsp
      rw [Addr.add_mid] at hc
      exact World.block_lt_of_cell? w _ hc

theorem alloc_le (w : World) (o : Obj) : w.heap.size ≤ (w.alloc o).heap.size := by rw [alloc_sz]; omega
/-- Bytes as cells. -/
def u8sC (l : Bs) : Array Value := (l.map fun b => Value.int .u8 (b.toNat : Int)).toArray
theorem byv_lit (W : World) (l : Bs) (hl : l.length ≤ 1000) : ByV (W.alloc (.cells (u8sC l) 5)) (fun b => b < (W.alloc (.cells (u8sC l) 5)).heap.size) (some ⟨W.heap.size, 0, none⟩) l.length l := by
  refine ⟨Nat.le_refl _, by omega, fun _ => ⟨W.heap.size, 0, rfl, fun i hi => ?_⟩, fun a ha _ => by cases ha; rw [alloc_sz]; show W.heap.size < W.heap.size + 1; omega⟩
  rw [Nat.zero_add, cell_of_row _ W.heap.size i _ _ _ (heap_alloc_new W _)]
  simp [u8sC, List.getD, hi]
theorem below_drews {B : Nat} {a w : World} (h : Below B a w) : ∀ q, Below B a (w.drewN q)
  | 0 => h
  | q + 1 => (below_drews h q).drew

/-- Bytes as a number, the greatest first. -/
def bv (l : Bs) : Nat := l.foldl (fun a c => a * 256 + c.toNat) 0
theorem bv_snoc (l : Bs) (c : UInt8) : bv (l ++ [c]) = bv l * 256 + c.toNat := by simp [bv]
theorem fold_lt : ∀ (l : Bs) (a : Nat), l.foldl (fun a c => a * 256 + c.toNat) a < (a + 1) * 256 ^ l.length
  | [], a => by simp
  | c :: l, a => by
    have h := fold_lt l (a * 256 + c.toNat)
    have hc := c.toNat_lt
    rw [List.foldl_cons, List.length_cons, Nat.pow_succ]
    refine Nat.lt_of_lt_of_le h ?_
    rw [Nat.mul_comm (256 ^ l.length) 256, ← Nat.mul_assoc]
    exact Nat.mul_le_mul_right _ (by omega)
theorem bv_lt (l : Bs) : bv l < 256 ^ l.length := by
  have := fold_lt l 0
  simpa [bv] using this
theorem take_snoc {l : Bs} {k : Nat} {c : UInt8} (h : l[k]? = some c) : l.take (k + 1) = l.take k ++ [c] := by
  rw [List.take_add_one, h]
  rfl

end Go.Proofs.Yticopomchoahnaa
