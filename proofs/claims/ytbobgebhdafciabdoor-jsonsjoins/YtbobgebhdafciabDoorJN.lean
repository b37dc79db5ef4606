/-
  Nodes in memory.
-/
import Derived.Test.YtbobgebhdafciabDoorJS
import Derived.Test.YtbobgebhdafciabDoorRows
import Derived.Deep.AppendLies
import Derived.Laws.NewBlocks
import Derived.WalkSpells
import Derived.WalkLawsBesides
namespace Go.Proofs.YtbobgebhdafciabDoor
open Go.RowKit
set_option linter.unusedVariables false
set_option linter.unusedSimpArgs false

/-- What lies of a node: its kind and text, the slices of its names and kids. -/
structure Hd where
  kind : Nat
  text : Bs
  nm : Value
  ks : Value
def Hd.cells (h : Hd) : List Value := [.int .u8 h.kind, .string ⟨h.text.toArray⟩, h.nm, h.ks]
def flat (hs : List Hd) : List Value := hs.flatMap Hd.cells
def strs (l : List Bs) : List Value := l.map fun s => .string ⟨s.toArray⟩
def ints (l : List Nat) : List Value := l.map fun (k : Nat) => Value.int .i64 (k : Int)
theorem strs_length (l : List Bs) : (strs l).length = l.length := by simp [strs]
theorem ints_length (l : List Nat) : (ints l).length = l.length := by simp [ints]
theorem strs_snoc (l : List Bs) (s : Bs) : strs (l ++ [s]) = strs l ++ [.string ⟨s.toArray⟩] := by simp [strs]
theorem ints_snoc (l : List Nat) (k : Nat) : ints (l ++ [k]) = ints l ++ [.int .i64 (k : Int)] := by simp [ints]
theorem flat_length (hs : List Hd) : (flat hs).length = hs.length * 4 := by
  induction hs with
  | nil => rfl
  | cons h hs ih => simp only [flat, List.flatMap_cons, List.length_append, List.length_cons] at *; rw [ih]; simp [Hd.cells]; omega
theorem flat_snoc (hs : List Hd) (h : Hd) : flat (hs ++ [h]) = flat hs ++ h.cells := by simp [flat]
theorem flat_get : ∀ (hs : List Hd) (i j : Nat) (h : Hd), hs[i]? = some h → j < 4 → (flat hs)[i * 4 + j]? = h.cells[j]?
  | [], i, j, h, hi, _ => by simp at hi
  | x :: hs, 0, j, h, hi, hj => by
    simp at hi; subst hi
    rw [Nat.zero_mul, Nat.zero_add]
    simp only [flat, List.flatMap_cons]
    rw [List.getElem?_append_left (by simp [Hd.cells]; omega)]
  | x :: hs, i + 1, j, h, hi, hj => by
    simp at hi
    have := flat_get hs i j h hi hj
    simp only [flat, List.flatMap_cons] at *
    rw [List.getElem?_append_right (by simp [Hd.cells]; omega), ← this]
    congr 1
    simp [Hd.cells]; omega
theorem flat_set : ∀ (hs : List Hd) (i j : Nat) (h h' : Hd) (v : Value), hs[i]? = some h → j < 4 → h'.cells = h.cells.set j v → (flat hs).set (i * 4 + j) v = flat (hs.set i h')
  | [], i, j, h, h', v, hi, _, _ => by simp at hi
  | x :: hs, 0, j, h, h', v, hi, hj, hc => by
    simp at hi; subst hi
    rw [Nat.zero_mul, Nat.zero_add]
    simp only [flat, List.flatMap_cons, List.set_cons_zero, hc]
    rw [List.set_append_left _ _ (by simp [Hd.cells]; omega)]
  | x :: hs, i + 1, j, h, h', v, hi, hj, hc => by
    simp at hi
    have := flat_set hs i j h h' v hi hj hc
    simp only [flat, List.flatMap_cons, List.set_cons_succ] at *
    rw [List.set_append_right _ _ (by simp [Hd.cells]; omega), ← this]
    congr 2
    simp [Hd.cells]; omega

theorem owns_keep {w w' : World} {base : Nat} {e : TypeId} {s : Nat} {v : Value} {n : Nat} {xs : List Value} (h : w.ownsRow base e s v n xs) (hb : ∀ g, v.ownBlock = some g → w'.heap[g]? = w.heap[g]?) : w'.ownsRow base e s v n xs := by
  refine ⟨h.1, ?_⟩
  rcases h.2 with h0 | ⟨g, cap, cur, rfl, hg, hrow, r⟩
  · exact .inl h0
  · exact .inr ⟨g, cap, cur, rfl, hg, by rw [hb g rfl]; exact hrow, r⟩
theorem owns_lt {w : World} {base : Nat} {e : TypeId} {s : Nat} {v : Value} {n : Nat} {xs : List Value} (h : w.ownsRow base e s v n xs) {g : Nat} (hg : v.ownBlock = some g) : base ≤ g ∧ g < w.heap.size ∧ ∃ cur, w.heap[g]? = some (.cells cur e (0, 0)) := by
  rcases h.2 with ⟨rfl, _⟩ | ⟨g', cap, cur, rfl, hb, hrow, r⟩
  · cases hg
  · cases hg; exact ⟨hb, (Array.getElem?_eq_some_iff.1 hrow).1, cur, hrow⟩
theorem owns_apart {w : World} {b b' : Nat} {e e' : TypeId} {s s' : Nat} {v v' : Value} {n n' : Nat} {xs xs' : List Value} (h : w.ownsRow b e s v n xs) (h' : w.ownsRow b' e' s' v' n' xs') (he : e ≠ e') {g : Nat} (hg : v.ownBlock = some g) : v'.ownBlock ≠ some g := fun hg' => by
  obtain ⟨_, _, c, hc⟩ := owns_lt h hg
  obtain ⟨_, _, c', hc'⟩ := owns_lt h' hg'
  rw [hc] at hc'
  cases hc'
  exact he rfl
theorem owns_cell {w : World} {base : Nat} {e : TypeId} {s : Nat} {n cap g : Nat} {xs : List Value} (h : w.ownsRow base e s (.slice (some ⟨g, 0, none⟩) n cap) n xs) (j : Nat) (hj : j < n * s) : w.cell? ⟨g, j, none⟩ = xs[j]? := by
  rcases h.2 with ⟨h0, _⟩ | ⟨g', cap', cur, h0, hb, hrow, h1, h2, h3, h4⟩
  · cases h0
  · cases h0
    rw [cell_of_row w g j cur e (0, 0) hrow, ← h4, List.getElem?_take, if_pos hj]
    simp
theorem owns_frozen {w : World} {base : Nat} {e : TypeId} {s : Nat} {n cap g : Nat} {xs : List Value} (h : w.ownsRow base e s (.slice (some ⟨g, 0, none⟩) n cap) n xs) (j : Nat) : w.frozen? ⟨g, j, none⟩ = false := by
  rcases h.2 with ⟨h0, _⟩ | ⟨g', cap', cur, h0, hb, hrow, h1, h2, h3, h4⟩
  · cases h0
  · cases h0; exact frozen_of_row w g j cur e hrow
theorem heap_set_at (w : World) (g j : Nat) (v : Value) (cs : Array Value) (t : TypeId) (fr : Nat × Nat) (h : w.heap[g]? = some (.cells cs t fr)) : (w.setCell ⟨g, j, none⟩ v).heap[g]? = some (.cells (cs.setIfInBounds j v) t fr) := by
  have hlt := (Array.getElem?_eq_some_iff.1 h).1
  have he : w.heap[g] = .cells cs t fr := (Array.getElem?_eq_some_iff.1 h).2
  simp [World.setCell, hlt]
  rw [Array.getElem_modify]
  simp [he]
theorem owns_set {w : World} {base : Nat} {e : TypeId} {s : Nat} {n cap g : Nat} {xs : List Value} (h : w.ownsRow base e s (.slice (some ⟨g, 0, none⟩) n cap) n xs) (j : Nat) (hj : j < n * s) (u : Value) : (w.setCell ⟨g, j, none⟩ u).ownsRow base e s (.slice (some ⟨g, 0, none⟩) n cap) n (xs.set j u) := by
  refine ⟨by rw [List.length_set]; exact h.1, ?_⟩
  rcases h.2 with ⟨h0, _⟩ | ⟨g', cap', cur, h0, hb, hrow, h1, h2, h3, h4⟩
  · cases h0
  · cases h0
    refine .inr ⟨g, cap, cur.setIfInBounds j u, rfl, hb, heap_set_at w g j u cur e (0, 0) hrow, h1, h2, by simp [h3], ?_⟩
    rw [Array.toList_setIfInBounds, List.take_set, h4]

/-- What lies is this node. -/
structure Rep (w : World) (base : Nat) (h : Hd) (n : Nd) : Prop where
  kind : h.kind = n.kind
  text : h.text = n.text
  names : w.ownsRow base 9 1 h.nm n.names.length (strs n.names)
  kids : w.ownsRow base 3 1 h.ks n.kids.length (ints n.kids)
/-- No two nodes share a slice. -/
def Apart (h k : Hd) : Prop := (∀ b, h.nm.ownBlock = some b → k.nm.ownBlock ≠ some b) ∧ (∀ b, h.ks.ownBlock = some b → k.ks.ownBlock ≠ some b)
/-- A list of nodes. -/
structure Nodes (w : World) (base : Nat) (nv : Value) (hs : List Hd) (ns : List Nd) : Prop where
  len : hs.length = ns.length
  row : w.ownsRow base 38 4 nv hs.length (flat hs)
  rep : ∀ (i : Nat) (h : Hd) (n : Nd), hs[i]? = some h → ns[i]? = some n → Rep w base h n
  apart : ∀ (i j : Nat) (h k : Hd), i ≠ j → hs[i]? = some h → hs[j]? = some k → Apart h k

theorem Nodes.nil (w : World) (base : Nat) : Nodes w base (.slice none 0 0) [] [] := ⟨rfl, World.ownsRow_nil w base _ 4, fun i h n hi => by simp at hi, fun i j h k _ hi => by simp at hi⟩
theorem Rep.keep {w w' : World} {base : Nat} {h : Hd} {n : Nd} (r : Rep w base h n) (hb : ∀ g, base ≤ g → g < w.heap.size → w'.heap[g]? = w.heap[g]?) : Rep w' base h n :=
  ⟨r.kind, r.text, owns_keep r.names (fun g hg => hb g (owns_lt r.names hg).1 (owns_lt r.names hg).2.1), owns_keep r.kids (fun g hg => hb g (owns_lt r.kids hg).1 (owns_lt r.kids hg).2.1)⟩
theorem Nodes.keep {w w' : World} {base : Nat} {nv : Value} {hs : List Hd} {ns : List Nd} (h : Nodes w base nv hs ns) (hb : ∀ g, base ≤ g → g < w.heap.size → w'.heap[g]? = w.heap[g]?) : Nodes w' base nv hs ns :=
  ⟨h.len, owns_keep h.row (fun g hg => hb g (owns_lt h.row hg).1 (owns_lt h.row hg).2.1), fun i x n hi hn => (h.rep i x n hi hn).keep hb, h.apart⟩
theorem Nodes.get {w : World} {base : Nat} {nv : Value} {hs : List Hd} {ns : List Nd} (h : Nodes w base nv hs ns) {i : Nat} (hi : i < ns.length) : ∃ x, hs[i]? = some x ∧ Rep w base x ns[i] := by
  have hl := h.len
  exact ⟨hs[i], List.getElem?_eq_getElem (by omega), h.rep i _ _ (List.getElem?_eq_getElem (by omega)) (List.getElem?_eq_getElem hi)⟩

/-- A node more. -/
theorem Nodes.push {w w1 : World} {base : Nat} {nv v' : Value} {hs : List Hd} {ns : List Nd} (h : Nodes w base nv hs ns) (kind : Nat) (text : Bs)
    (hown : w1.ownsRow base 38 4 v' (hs.length + 1) (flat hs ++ Hd.cells ⟨kind, text, .slice none 0 0, .slice none 0 0⟩)) (hgrow : w.grownBy w1 nv.ownBlock) :
    Nodes w1 base v' (hs ++ [⟨kind, text, .slice none 0 0, .slice none 0 0⟩]) (ns ++ [⟨kind, text, [], []⟩]) := by
  have hl := h.len
  refine ⟨by simp [hl], by rw [flat_snoc, List.length_append]; exact hown, ?_, ?_⟩
  · intro i x n hi hn
    rcases Nat.lt_trichotomy i hs.length with hlt | rfl | hgt
    · rw [List.getElem?_append_left hlt] at hi
      rw [List.getElem?_append_left (by omega)] at hn
      have r := h.rep i x n hi hn
      refine ⟨r.kind, r.text, owns_keep r.names (fun g hg => ?_), owns_keep r.kids (fun g hg => ?_)⟩
      · exact hgrow.block g (owns_lt r.names hg).2.1 (fun e => owns_apart r.names h.row (by decide) hg e.symm)
      · exact hgrow.block g (owns_lt r.kids hg).2.1 (fun e => owns_apart r.kids h.row (by decide) hg e.symm)
    · rw [List.getElem?_append_right (Nat.le_refl _)] at hi
      rw [List.getElem?_append_right (by omega)] at hn
      simp at hi
      rw [show hs.length - ns.length = 0 by omega] at hn
      simp at hn
      subst hi hn
      exact ⟨rfl, rfl, World.ownsRow_nil w1 base _ 1, World.ownsRow_nil w1 base _ 1⟩
    · rw [List.getElem?_eq_none (by simp; omega)] at hi; cases hi
  · intro i j x y hij hi hj
    by_cases h1 : i < hs.length
    · rw [List.getElem?_append_left h1] at hi
      by_cases h2 : j < hs.length
      · rw [List.getElem?_append_left h2] at hj
        exact h.apart i j x y hij hi hj
      · rw [List.getElem?_append_right (by omega)] at hj
        by_cases h3 : j - hs.length = 0
        · rw [h3] at hj; simp at hj; subst hj
          exact ⟨fun b _ e => (by cases e), fun b _ e => (by cases e)⟩
        · rw [List.getElem?_eq_none (by simp; omega)] at hj; cases hj
    · rw [List.getElem?_append_right (by omega)] at hi
      by_cases h3 : i - hs.length = 0
      · rw [h3] at hi; simp at hi; subst hi
        exact ⟨fun b e _ => (by cases e), fun b e _ => (by cases e)⟩
      · rw [List.getElem?_eq_none (by simp; omega)] at hi; cases hi

/-- A node's kids with one more. -/
theorem Nodes.kid {w w1 : World} {base : Nat} {g n cap : Nat} {hs : List Hd} {ns : List Nd} (h : Nodes w base (.slice (some ⟨g, 0, none⟩) n cap) hs ns) (i : Nat) (x : Hd) (nd : Nd) (hi : hs[i]? = some x) (hn : ns[i]? = some nd) (k : Nat) (v' : Value)
    (hown : w1.ownsRow base 3 1 v' (nd.kids.length + 1) (ints nd.kids ++ [.int .i64 (k : Int)])) (hgrow : w.grownBy w1 x.ks.ownBlock) (hat : v'.ownBlock = x.ks.ownBlock ∨ v'.ownBlock = some w.heap.size) :
    Nodes (w1.setCell ⟨g, i * 4 + 3, none⟩ v') base (.slice (some ⟨g, 0, none⟩) n cap) (hs.set i { x with ks := v' }) (ns.set i { nd with kids := nd.kids ++ [k] }) := by
  have hl := h.len
  have r0 := h.rep i x nd hi hn
  have hil : i < hs.length := (List.getElem?_eq_some_iff.1 hi).1
  have hnn : n = hs.length := by
    rcases h.row.2 with ⟨e, _⟩ | ⟨g', c', cur, e, _⟩
    · cases e
    · cases e; rfl
  subst hnn
  have hrow1 : w1.ownsRow base 38 4 (.slice (some ⟨g, 0, none⟩) hs.length cap) hs.length (flat hs) := owns_keep h.row (fun b hb => hgrow.block b (owns_lt h.row hb).2.1 (fun e => owns_apart h.row r0.kids (by decide) hb e.symm))
  have hgs : ∀ b, b ≠ g → (w1.setCell ⟨g, i * 4 + 3, none⟩ v').heap[b]? = w1.heap[b]? := fun b hb => Below.heap_setCell w1 ⟨g, i * 4 + 3, none⟩ v' b hb
  have hgne : ∀ {e : TypeId} {s : Nat} {v : Value} {m : Nat} {xs : List Value}, e ≠ 38 → w1.ownsRow base e s v m xs → ∀ b, v.ownBlock = some b → b ≠ g := fun he ho b hb e => by
    subst e
    exact owns_apart ho hrow1 he hb rfl
  refine ⟨by simp [hl], ?_, ?_, ?_⟩
  · rw [List.length_set, ← flat_set hs i 3 x { x with ks := v' } v' hi (by decide) (by simp [Hd.cells])]
    exact owns_set hrow1 _ (by omega) v'
  · intro j y m hj hm
    rw [List.getElem?_set] at hj hm
    by_cases hij : i = j
    · subst hij
      rw [if_pos rfl, if_pos hil] at hj
      rw [if_pos rfl, if_pos (by omega)] at hm
      cases hj; cases hm
      have hnm : w1.ownsRow base 9 1 x.nm nd.names.length (strs nd.names) := owns_keep r0.names (fun b hb => hgrow.block b (owns_lt r0.names hb).2.1 (fun e => owns_apart r0.names r0.kids (by decide) hb e.symm))
      refine ⟨r0.kind, r0.text, owns_keep hnm (fun b hb => hgs b (hgne (by decide) hnm b hb)), ?_⟩
      simp only [List.length_append, List.length_cons, List.length_nil, ints_snoc]
      exact owns_keep hown (fun b hb => hgs b (hgne (by decide) hown b hb))
    · rw [if_neg hij] at hj hm
      have r := h.rep j y m hj hm
      have hnm : w1.ownsRow base 9 1 y.nm m.names.length (strs m.names) := owns_keep r.names (fun b hb => hgrow.block b (owns_lt r.names hb).2.1 (fun e => owns_apart r.names r0.kids (by decide) hb e.symm))
      have hkd : w1.ownsRow base 3 1 y.ks m.kids.length (ints m.kids) := owns_keep r.kids (fun b hb => hgrow.block b (owns_lt r.kids hb).2.1 (fun e => (h.apart j i y x (fun e' => hij e'.symm) hj hi).2 b hb e.symm))
      exact ⟨r.kind, r.text, owns_keep hnm (fun b hb => hgs b (hgne (by decide) hnm b hb)), owns_keep hkd (fun b hb => hgs b (hgne (by decide) hkd b hb))⟩
  · intro a b y z hab ha hb
    have new : ∀ (j : Nat) (z : Hd), hs[j]? = some z → j ≠ i → ∀ q, v'.ownBlock = some q → z.ks.ownBlock ≠ some q := fun j z hz hji q hq hq' => by
      rcases hat with e | e
      · rw [e] at hq
        exact (h.apart j i z x hji hz hi).2 q hq' hq
      · rw [e] at hq
        cases hq
        have hz' : j < ns.length := by rw [← hl]; exact (List.getElem?_eq_some_iff.1 hz).1
        have := (owns_lt (h.rep j z ns[j] hz (List.getElem?_eq_getElem hz')).kids hq').2.1
        omega
    rw [List.getElem?_set] at ha hb
    by_cases h1 : i = a
    · subst h1
      rw [if_pos rfl, if_pos hil] at ha
      cases ha
      rw [if_neg hab] at hb
      exact ⟨fun q hq => (h.apart i b x z hab hi hb).1 q hq, fun q hq => new b z hb (fun e => hab e.symm) q hq⟩
    · rw [if_neg h1] at ha
      by_cases h2 : i = b
      · subst h2
        rw [if_pos rfl, if_pos hil] at hb
        cases hb
        exact ⟨fun q hq => (h.apart a i y x hab ha hi).1 q hq, fun q hq hq' => new a y ha hab q hq' hq⟩
      · rw [if_neg h2] at hb
        exact h.apart a b y z hab ha hb

/-- A node's names with one more. -/
theorem Nodes.name {w w1 : World} {base : Nat} {g n cap : Nat} {hs : List Hd} {ns : List Nd} (h : Nodes w base (.slice (some ⟨g, 0, none⟩) n cap) hs ns) (i : Nat) (x : Hd) (nd : Nd) (hi : hs[i]? = some x) (hn : ns[i]? = some nd) (k : Bs) (v' : Value)
    (hown : w1.ownsRow base 9 1 v' (nd.names.length + 1) (strs nd.names ++ [.string ⟨k.toArray⟩])) (hgrow : w.grownBy w1 x.nm.ownBlock) (hat : v'.ownBlock = x.nm.ownBlock ∨ v'.ownBlock = some w.heap.size) :
    Nodes (w1.setCell ⟨g, i * 4 + 2, none⟩ v') base (.slice (some ⟨g, 0, none⟩) n cap) (hs.set i { x with nm := v' }) (ns.set i { nd with names := nd.names ++ [k] }) := by
  have hl := h.len
  have r0 := h.rep i x nd hi hn
  have hil : i < hs.length := (List.getElem?_eq_some_iff.1 hi).1
  have hnn : n = hs.length := by
    rcases h.row.2 with ⟨e, _⟩ | ⟨g', c', cur, e, _⟩
    · cases e
    · cases e; rfl
  subst hnn
  have hrow1 : w1.ownsRow base 38 4 (.slice (some ⟨g, 0, none⟩) hs.length cap) hs.length (flat hs) := owns_keep h.row (fun b hb => hgrow.block b (owns_lt h.row hb).2.1 (fun e => owns_apart h.row r0.names (by decide) hb e.symm))
  have hgs : ∀ b, b ≠ g → (w1.setCell ⟨g, i * 4 + 2, none⟩ v').heap[b]? = w1.heap[b]? := fun b hb => Below.heap_setCell w1 ⟨g, i * 4 + 2, none⟩ v' b hb
  have hgne : ∀ {e : TypeId} {s : Nat} {v : Value} {m : Nat} {xs : List Value}, e ≠ 38 → w1.ownsRow base e s v m xs → ∀ b, v.ownBlock = some b → b ≠ g := fun he ho b hb e => by
    subst e
    exact owns_apart ho hrow1 he hb rfl
  refine ⟨by simp [hl], ?_, ?_, ?_⟩
  · rw [List.length_set, ← flat_set hs i 2 x { x with nm := v' } v' hi (by decide) (by simp [Hd.cells])]
    exact owns_set hrow1 _ (by omega) v'
  · intro j y m hj hm
    rw [List.getElem?_set] at hj hm
    by_cases hij : i = j
    · subst hij
      rw [if_pos rfl, if_pos hil] at hj
      rw [if_pos rfl, if_pos (by omega)] at hm
      cases hj; cases hm
      have hkd : w1.ownsRow base 3 1 x.ks nd.kids.length (ints nd.kids) := owns_keep r0.kids (fun b hb => hgrow.block b (owns_lt r0.kids hb).2.1 (fun e => owns_apart r0.kids r0.names (by decide) hb e.symm))
      refine ⟨r0.kind, r0.text, ?_, owns_keep hkd (fun b hb => hgs b (hgne (by decide) hkd b hb))⟩
      simp only [List.length_append, List.length_cons, List.length_nil, strs_snoc]
      exact owns_keep hown (fun b hb => hgs b (hgne (by decide) hown b hb))
    · rw [if_neg hij] at hj hm
      have r := h.rep j y m hj hm
      have hkd : w1.ownsRow base 3 1 y.ks m.kids.length (ints m.kids) := owns_keep r.kids (fun b hb => hgrow.block b (owns_lt r.kids hb).2.1 (fun e => owns_apart r.kids r0.names (by decide) hb e.symm))
      have hnm : w1.ownsRow base 9 1 y.nm m.names.length (strs m.names) := owns_keep r.names (fun b hb => hgrow.block b (owns_lt r.names hb).2.1 (fun e => (h.apart j i y x (fun e' => hij e'.symm) hj hi).1 b hb e.symm))
      exact ⟨r.kind, r.text, owns_keep hnm (fun b hb => hgs b (hgne (by decide) hnm b hb)), owns_keep hkd (fun b hb => hgs b (hgne (by decide) hkd b hb))⟩
  · intro a b y z hab ha hb
    have new : ∀ (j : Nat) (z : Hd), hs[j]? = some z → j ≠ i → ∀ q, v'.ownBlock = some q → z.nm.ownBlock ≠ some q := fun j z hz hji q hq hq' => by
      rcases hat with e | e
      · rw [e] at hq
        exact (h.apart j i z x hji hz hi).1 q hq' hq
      · rw [e] at hq
        cases hq
        have hz' : j < ns.length := by rw [← hl]; exact (List.getElem?_eq_some_iff.1 hz).1
        have := (owns_lt (h.rep j z ns[j] hz (List.getElem?_eq_getElem hz')).names hq').2.1
        omega
    rw [List.getElem?_set] at ha hb
    by_cases h1 : i = a
    · subst h1
      rw [if_pos rfl, if_pos hil] at ha
      cases ha
      rw [if_neg hab] at hb
      exact ⟨fun q hq => new b z hb (fun e => hab e.symm) q hq, fun q hq => (h.apart i b x z hab hi hb).2 q hq⟩
    · rw [if_neg h1] at ha
      by_cases h2 : i = b
      · subst h2
        rw [if_pos rfl, if_pos hil] at hb
        cases hb
        exact ⟨fun q hq hq' => new a y ha hab q hq' hq, fun q hq => (h.apart a i y x hab ha hi).2 q hq⟩
      · rw [if_neg h2] at hb
        exact h.apart a b y z hab ha hb
end Go.Proofs.YtbobgebhdafciabDoor
