/-
  What a call owns, and what becomes of the rest of the world.
-/
import Derived.Test.YtfmldcibhllpcabDoorCS
import Derived.Test.YtfmldcibhllpcabDoorRows
import Derived.Deep.AppendLies
import Derived.Laws.NewBlocks
import Derived.WalkSpells
import Derived.WalkLawsBesides
import Derived.Lib.ConvBytes
import Derived.Deep.RegionLaw
import Derived.Deep.QuietTactic
import Derived.BigQuiet
import Derived.Shelf.Bytes.SlSmallAll
import Derived.Below
import Derived.Deep.MidRow
namespace Go.Proofs.YtfmldcibhllpcabDoor
open Go.Shelf Go.RowKit Go.Lib
set_option linter.unusedVariables false
set_option linter.unusedSimpArgs false

theorem owns_keep {w w' : World} {base : Nat} {e : TypeId} {s : Nat} {v : Value} {n : Nat} {xs : List Value} (h : w.ownsRow base e s v n xs) (hb : ∀ g, v.ownBlock = some g → w'.heap[g]? = w.heap[g]?) : w'.ownsRow base e s v n xs := by
  refine ⟨h.1, ?_⟩
  rcases h.2 with h0 | ⟨g, cap, cur, rfl, hg, hrow, r⟩
  · exact .inl h0
  · exact .inr ⟨g, cap, cur, rfl, hg, by rw [hb g rfl]; exact hrow, r⟩
theorem owns_lt {w : World} {base : Nat} {e : TypeId} {s : Nat} {v : Value} {n : Nat} {xs : List Value} (h : w.ownsRow base e s v n xs) {g : Nat} (hg : v.ownBlock = some g) : base ≤ g ∧ g < w.heap.size ∧ ∃ cur, w.heap[g]? = some (.cells cur e (0, 0)) := by
  rcases h.2 with ⟨rfl, _⟩ | ⟨g', cap, cur, rfl, hb, hrow, r⟩
  · cases hg
  · cases hg; exact ⟨hb, (Array.getElem?_eq_some_iff.1 hrow).1, cur, hrow⟩
theorem owns_apart {w : World} {b b' : Nat} {e e' : TypeId} {s s' : Nat} {v v' : Value} {n n' : Nat} {xs xs' : List Value} (h : w.ownsRow b e s v n xs) (h' : w.ownsRow b' e' s' v' n' xs') (he : e ≠ e') {g : Nat} (hg : v.ownBlock = some g) : v'.ownBlock ≠ some g := fun hg' => by
  obtain ⟨_, _, c, hc⟩ := owns_lt h hg
  obtain ⟨_, _, c', hc'⟩ := owns_lt h' hg'
  rw [hc] at hc'
  cases hc'
  exact he rfl
theorem owns_cell {w : World} {base : Nat} {e : TypeId} {s : Nat} {n cap g : Nat} {xs : List Value} (h : w.ownsRow base e s (.slice (some ⟨g, 0, none⟩) n cap) n xs) (j : Nat) (hj : j < n * s) : w.cell? ⟨g, j, none⟩ = xs[j]? := by
  rcases h.2 with ⟨h0, _⟩ | ⟨g', cap', cur, h0, hb, hrow, h1, h2, h3, h4⟩
  · cases h0
  · cases h0
    rw [cell_of_row w g j cur e (0, 0) hrow, ← h4, List.getElem?_take, if_pos hj]
    simp
theorem owns_frozen {w : World} {base : Nat} {e : TypeId} {s : Nat} {n cap g : Nat} {xs : List Value} (h : w.ownsRow base e s (.slice (some ⟨g, 0, none⟩) n cap) n xs) (j : Nat) : w.frozen? ⟨g, j, none⟩ = false := by
  rcases h.2 with ⟨h0, _⟩ | ⟨g', cap', cur, h0, hb, hrow, h1, h2, h3, h4⟩
  · cases h0
  · cases h0; exact frozen_of_row w g j cur e hrow
theorem heap_set_at (w : World) (g j : Nat) (v : Value) (cs : Array Value) (t : TypeId) (fr : Nat × Nat) (h : w.heap[g]? = some (.cells cs t fr)) : (w.setCell ⟨g, j, none⟩ v).heap[g]? = some (.cells (cs.setIfInBounds j v) t fr) := by
  have hlt := (Array.getElem?_eq_some_iff.1 h).1
  have he : w.heap[g] = .cells cs t fr := (Array.getElem?_eq_some_iff.1 h).2
  simp [World.setCell, hlt]
  rw [Array.getElem_modify]
  simp [he]
theorem owns_set {w : World} {base : Nat} {e : TypeId} {s : Nat} {n cap g : Nat} {xs : List Value} (h : w.ownsRow base e s (.slice (some ⟨g, 0, none⟩) n cap) n xs) (j : Nat) (hj : j < n * s) (u : Value) : (w.setCell ⟨g, j, none⟩ u).ownsRow base e s (.slice (some ⟨g, 0, none⟩) n cap) n (xs.set j u) := by
  refine ⟨by rw [List.length_set]; exact h.1, ?_⟩
  rcases h.2 with ⟨h0, _⟩ | ⟨g', cap', cur, h0, hb, hrow, h1, h2, h3, h4⟩
  · cases h0
  · cases h0
    refine .inr ⟨g, cap, cur.setIfInBounds j u, rfl, hb, heap_set_at w g j u cur e (0, 0) hrow, h1, h2, by simp [h3], ?_⟩
    rw [Array.toList_setIfInBounds, List.take_set, h4]
/-- But for block g the world w' is as w was. -/
structure But (g : Nat) (w w' : World) : Prop where
  os : w'.os = w.os
  tape : w'.tape = w.tape
  output : w'.output = w.output
  size : w.heap.size ≤ w'.heap.size
  block : ∀ k, k < w.heap.size → k ≠ g → w'.heap[k]? = w.heap[k]?
theorem But.refl (g : Nat) (w : World) : But g w w := ⟨rfl, rfl, rfl, Nat.le_refl _, fun _ _ _ => rfl⟩
theorem But.trans {g : Nat} {a b c : World} (h : But g a b) (k : But g b c) : But g a c :=
  ⟨k.os.trans h.os, k.tape.trans h.tape, k.output.trans h.output, Nat.le_trans h.size k.size, fun i hi hg => (k.block i (Nat.lt_of_lt_of_le hi h.size) hg).trans (h.block i hi hg)⟩
theorem But.ofBelow {g : Nat} {w w' : World} (h : Below w.heap.size w w') : But g w w' := ⟨h.os, h.tape, h.output, h.size, fun k hk _ => h.block k hk⟩
theorem But.below {g B : Nat} {w w' : World} (h : But g w w') (hB : B ≤ g) (hw : B ≤ w.heap.size) : Below B w w' := ⟨h.os, h.tape, h.output, h.size, fun k hk => h.block k (by omega) (by omega)⟩
theorem But.setCell (g : Nat) (w : World) (j : Nat) (v : Value) : But g w (w.setCell ⟨g, j, none⟩ v) := ⟨rfl, rfl, rfl, by simp [World.setCell], fun k _ hk => Below.heap_setCell w ⟨g, j, none⟩ v k hk⟩
theorem But.cell {g : Nat} {w w' : World} (h : But g w w') {p : Addr} (hp : p.block < w.heap.size) (hg : p.block ≠ g) : w'.cell? p = w.cell? p := World.cell?_of_block (w := w) (h.block p.block hp hg)
theorem But.frozen {g : Nat} {w w' : World} (h : But g w w') {p : Addr} (hp : p.block < w.heap.size) (hg : p.block ≠ g) : w'.frozen? p = w.frozen? p := World.frozen?_of_block (w := w) (h.block p.block hp hg)
/-- Bytes that lie at p. -/
def BAt (w : World) (p : Option Addr) (n : Nat) (bs : Bs) : Prop := 0 < n → ∃ b o, p = some ⟨b, o, none⟩ ∧ ∀ i, i < n → w.cell? ⟨b, o + i, none⟩ = some (.int .u8 ((bs.getD i 0).toNat : Int))
/-- Bytes at p, kept where their block is. -/
theorem bytesAt_keep {w w' : World} {p : Option Addr} {n : Nat} {bs : Bs} (h : BAt w p n bs) {g : Nat} (hg : ∀ a, p = some a → a.block < g) (hb : ∀ k, k < g → w'.heap[k]? = w.heap[k]?) : BAt w' p n bs := fun h0 => by
  obtain ⟨b, o, rfl, hc⟩ := h h0
  exact ⟨b, o, rfl, fun i hi => by rw [← hc i hi]; exact World.cell?_of_block (w := w) (hb b (hg _ rfl))⟩
theorem bytesAt_in {w : World} {p : Option Addr} {n : Nat} {bs : Bs} (h : BAt w p n bs) (hn : bs.length = n) : Lib.BytesIn w p n (bs.map fun b => (b.toNat : Int)) := fun h0 => by
  obtain ⟨b, o, rfl, hc⟩ := h h0
  refine ⟨b, o, rfl, fun i hi => ?_⟩
  rw [hc i hi]
  simp [List.getD, hn, hi]
theorem bytesOf_map (bs : Bs) : Lib.bytesOf (bs.map fun b => (b.toNat : Int)) = bs := by
  simp [Lib.bytesOf, Function.comp_def]
theorem bytesAt_drop {w : World} {p : Option Addr} {n : Nat} {bs : Bs} (h : BAt w p n bs) (hn : bs.length = n) (c j : Nat) (hj : j ≤ n) (hc : n ≤ c) : BAt w (if c = j then p else p.map (fun x => x.add j)) (n - j) (bs.drop j) := fun h0 => by
  obtain ⟨b, o, rfl, hcl⟩ := h (by omega)
  rw [if_neg (by omega)]
  refine ⟨b, o + j, by simp [Addr.add], fun i hi => ?_⟩
  rw [show o + j + i = o + (j + i) by omega, hcl (j + i) (by omega)]
  simp [List.getD]
theorem alloc_sz (w : World) (o : Obj) : (w.alloc o).heap.size = w.heap.size + 1 := by
  show (w.heap.push o).size = _
  simp
theorem alloc2_cells {w w2 : World} {A B : Array Value} {t u : TypeId} (hb : Below ((w.alloc (.cells A t)).alloc (.cells B u)).heap.size ((w.alloc (.cells A t)).alloc (.cells B u)) w2) : (∀ j, w2.cell? ⟨w.heap.size, j, none⟩ = A[j]?) ∧ (∀ j, w2.cell? ⟨w.heap.size + 1, j, none⟩ = B[j]?) ∧ Below w.heap.size w w2 := by
  have hs : ((w.alloc (.cells A t)).alloc (.cells B u)).heap.size = w.heap.size + 2 := by rw [alloc_sz, alloc_sz]
  refine ⟨fun j => ?_, fun j => ?_, ?_⟩
  · refine cell_of_row w2 w.heap.size j A t (0, 0) ?_
    rw [hb.block _ (by omega), heap_alloc_old _ _ (by rw [alloc_sz]; omega)]
    exact heap_alloc_new w _
  · refine cell_of_row w2 (w.heap.size + 1) j B u (0, 0) ?_
    rw [hb.block _ (by omega)]
    exact heap_alloc2_new w _ _
  · exact (((Below.refl _ _).alloc (Nat.le_refl _) _).alloc (by rw [alloc_sz]; omega) _).trans (hb.mono (by omega))
theorem BAt.below {w w' : World} {p : Option Addr} {n : Nat} {l : Bs} (h : BAt w p n l) (hb : Below w.heap.size w w') : BAt w' p n l := fun h0 => by
  obtain ⟨b, o, e, hc⟩ := h h0
  have hlt := World.block_lt_of_cell? w ⟨b, o + 0, none⟩ (hc 0 h0)
  exact ⟨b, o, e, fun i hi => by rw [← hc i hi]; exact hb.cell (p := ⟨b, o + i, none⟩) hlt⟩
end Go.Proofs.YtfmldcibhllpcabDoor
