/-
  A node under way beside a list of nodes: what the document's value, group and name keep.
-/
import Derived.Test.YtbobgebhdafciabDoorJB
namespace Go.Proofs.YtbobgebhdafciabDoor
open Go.RowKit
set_option linter.unusedVariables false
set_option linter.unusedSimpArgs false

/-- A node's slices are that new. -/
def Fresh (m : Nat) (h : Hd) : Prop := (∀ q, h.nm.ownBlock = some q → m ≤ q) ∧ (∀ q, h.ks.ownBlock = some q → m ≤ q)
/-- A list's heads then: as they were, or new. -/
def Ext (m : Nat) (hs hs' : List Hd) : Prop := ∀ (i : Nat) (k : Hd), hs'[i]? = some k → hs[i]? = some k ∨ Fresh m k
theorem Fresh.mono {m m' : Nat} {h : Hd} (f : Fresh m h) (hm : m' ≤ m) : Fresh m' h := ⟨fun q e => Nat.le_trans hm (f.1 q e), fun q e => Nat.le_trans hm (f.2 q e)⟩
theorem Ext.refl (m : Nat) (hs : List Hd) : Ext m hs hs := fun _ _ h => .inl h
theorem Ext.trans {m m' : Nat} {a b c : List Hd} (h : Ext m a b) (k : Ext m' b c) (hm : m ≤ m') : Ext m a c := fun i x hx => by
  rcases k i x hx with h1 | h1
  · exact h i x h1
  · exact .inr (h1.mono hm)
/-- What value and group keep. -/
structure VK (g : Nat) (w w' : World) (nv nv' : Value) (hs hs' : List Hd) (ns ns' : List Nd) : Prop where
  os : w'.os = w.os
  tape : w'.tape = w.tape
  output : w'.output = w.output
  size : w.heap.size ≤ w'.heap.size
  block : ∀ k, k < w.heap.size → k ≠ g → some k ≠ nv.ownBlock → w'.heap[k]? = w.heap[k]?
  at_ : nv'.ownBlock = nv.ownBlock ∨ ∃ q, nv'.ownBlock = some q ∧ w.heap.size ≤ q
  nodes : Nodes w' (g + 1) nv' hs' ns'
  ext : Ext w.heap.size hs hs'
  len : ns.length ≤ ns'.length
theorem VK.trans {g : Nat} {w w1 w2 : World} {nv nv1 nv2 : Value} {hs hs1 hs2 : List Hd} {ns ns1 ns2 : List Nd} (h : VK g w w1 nv nv1 hs hs1 ns ns1) (k : VK g w1 w2 nv1 nv2 hs1 hs2 ns1 ns2) : VK g w w2 nv nv2 hs hs2 ns ns2 := by
  refine ⟨k.os.trans h.os, k.tape.trans h.tape, k.output.trans h.output, Nat.le_trans h.size k.size, fun b hb hg hn => ?_, ?_, k.nodes, h.ext.trans k.ext h.size, Nat.le_trans h.len k.len⟩
  · refine (k.block b (Nat.lt_of_lt_of_le hb h.size) hg (fun e => ?_)).trans (h.block b hb hg hn)
    rcases h.at_ with e1 | ⟨q, e1, hq⟩
    · exact hn (e.trans e1)
    · rw [e1] at e; cases e; omega
  · rcases k.at_ with e2 | ⟨q, e2, hq⟩
    · rcases h.at_ with e1 | ⟨q, e1, hq⟩
      · exact .inl (e2.trans e1)
      · exact .inr ⟨q, e2.trans e1, hq⟩
    · exact .inr ⟨q, e2, Nat.le_trans h.size hq⟩
theorem Nodes.but' {w w' : World} {g : Nat} {nv : Value} {hs : List Hd} {ns : List Nd} (h : Nodes w (g + 1) nv hs ns) (hb : But g w w') : Nodes w' (g + 1) nv hs ns := h.keep (fun k h1 h2 => hb.block k h2 (by omega))
theorem VK.but {g : Nat} {w w' : World} {nv : Value} {hs : List Hd} {ns : List Nd} (hN : Nodes w (g + 1) nv hs ns) (hb : But g w w') : VK g w w' nv nv hs hs ns ns :=
  ⟨hb.os, hb.tape, hb.output, hb.size, fun k hk hg _ => hb.block k hk hg, .inl rfl, hN.but' hb, Ext.refl _ _, Nat.le_refl _⟩
theorem VK.refl {g : Nat} {w : World} {nv : Value} {hs : List Hd} {ns : List Nd} (hN : Nodes w (g + 1) nv hs ns) : VK g w w nv nv hs hs ns ns := VK.but hN (But.refl _ _)
theorem Nodes.low {w : World} {g : Nat} {nv : Value} {hs : List Hd} {ns : List Nd} (h : Nodes w (g + 1) nv hs ns) {k : Nat} (hk : k ≤ g) : some k ≠ nv.ownBlock := fun e => by have := (owns_lt h.row e.symm).1; omega
/-- All below the reader is as it was. -/
theorem VK.below {g : Nat} {w w' : World} {nv nv' : Value} {hs hs' : List Hd} {ns ns' : List Nd} (h : VK g w w' nv nv' hs hs' ns ns') (hN : Nodes w (g + 1) nv hs ns) (hg : g < w.heap.size) : Below g w w' :=
  ⟨h.os, h.tape, h.output, h.size, fun k hk => h.block k (by omega) (by omega) (hN.low (by omega))⟩

/-- A node under way, in block b. -/
structure NW (w : World) (g : Nat) (nv : Value) (hs : List Hd) (b : Nat) (h : Hd) (n : Nd) : Prop where
  at_ : w.heap[b]? = some (.cells h.cells.toArray 38 (0, 0))
  bg : g < b
  bn : some b ≠ nv.ownBlock
  rep : Rep w (g + 1) h n
  apart : ∀ (i : Nat) (k : Hd), hs[i]? = some k → Apart h k
theorem NW.lt {w : World} {g : Nat} {nv : Value} {hs : List Hd} {b : Nat} {h : Hd} {n : Nd} (r : NW w g nv hs b h n) : b < w.heap.size := (Array.getElem?_eq_some_iff.1 r.at_).1
theorem NW.cell {w : World} {g : Nat} {nv : Value} {hs : List Hd} {b : Nat} {h : Hd} {n : Nd} (r : NW w g nv hs b h n) (j : Nat) : w.cell? ⟨b, j, none⟩ = h.cells[j]? := by rw [cell_of_row w b j _ _ _ r.at_]; simp
theorem NW.frozen {w : World} {g : Nat} {nv : Value} {hs : List Hd} {b : Nat} {h : Hd} {n : Nd} (r : NW w g nv hs b h n) (j : Nat) : w.frozen? ⟨b, j, none⟩ = false := frozen_of_row w b j _ _ r.at_
theorem NW.bnm {w : World} {g : Nat} {nv : Value} {hs : List Hd} {b : Nat} {h : Hd} {n : Nd} (r : NW w g nv hs b h n) : some b ≠ h.nm.ownBlock := fun e => by
  obtain ⟨_, _, c, hc⟩ := owns_lt r.rep.names e.symm
  rw [r.at_] at hc
  injection hc with h1
  injection h1 with _ h2
  exact absurd h2 (by decide)
theorem NW.bks {w : World} {g : Nat} {nv : Value} {hs : List Hd} {b : Nat} {h : Hd} {n : Nd} (r : NW w g nv hs b h n) : some b ≠ h.ks.ownBlock := fun e => by
  obtain ⟨_, _, c, hc⟩ := owns_lt r.rep.kids e.symm
  rw [r.at_] at hc
  injection hc with h1
  injection h1 with _ h2
  exact absurd h2 (by decide)
theorem NW.but {w w' : World} {g : Nat} {nv : Value} {hs : List Hd} {b : Nat} {h : Hd} {n : Nd} (r : NW w g nv hs b h n) (hb : But g w w') : NW w' g nv hs b h n :=
  ⟨(hb.block b r.lt (by have := r.bg; omega)).trans r.at_, r.bg, r.bn, r.rep.keep (fun k h1 h2 => hb.block k h2 (by omega)), r.apart⟩
theorem NW.vk {w w' : World} {g : Nat} {nv nv' : Value} {hs hs' : List Hd} {ns ns' : List Nd} {b : Nat} {h : Hd} {n : Nd} (r : NW w g nv hs b h n) (hN : Nodes w (g + 1) nv hs ns) (hv : VK g w w' nv nv' hs hs' ns ns') : NW w' g nv' hs' b h n := by
  have hr : ∀ {e : TypeId} {v : Value} {m : Nat} {xs : List Value}, e ≠ 38 → w.ownsRow (g + 1) e 1 v m xs → w'.ownsRow (g + 1) e 1 v m xs := fun he ho =>
    owns_keep ho (fun k hk => hv.block k (owns_lt ho hk).2.1 (by have := (owns_lt ho hk).1; omega) (fun e => owns_apart ho hN.row he hk e.symm))
  refine ⟨(hv.block b r.lt (by have := r.bg; omega) r.bn).trans r.at_, r.bg, fun e => ?_, ⟨r.rep.kind, r.rep.text, hr (by decide) r.rep.names, hr (by decide) r.rep.kids⟩, fun i k hk => ?_⟩
  · rcases hv.at_ with e1 | ⟨q, e1, hq⟩
    · exact r.bn (e.trans e1)
    · rw [e1] at e; cases e; have := r.lt; omega
  · rcases hv.ext i k hk with h1 | h1
    · exact r.apart i k h1
    · exact ⟨fun q hq hq' => by have := (owns_lt r.rep.names hq).2.1; have := h1.1 q hq'; omega, fun q hq hq' => by have := (owns_lt r.rep.kids hq).2.1; have := h1.2 q hq'; omega⟩

/-- What a node under way's own changes keep. -/
structure OK1 (b : Nat) (v : Value) (w w' : World) : Prop where
  os : w'.os = w.os
  tape : w'.tape = w.tape
  output : w'.output = w.output
  size : w.heap.size ≤ w'.heap.size
  block : ∀ k, k < w.heap.size → k ≠ b → some k ≠ v.ownBlock → w'.heap[k]? = w.heap[k]?
theorem OK1.of {b j : Nat} {v v' : Value} {w w1 : World} (hg : w.grownBy w1 v.ownBlock) : OK1 b v w (w1.setCell ⟨b, j, none⟩ v') :=
  ⟨hg.os, hg.tape, hg.output, by have := hg.size; simpa [World.setCell] using this, fun k hk hb hv => (Below.heap_setCell w1 ⟨b, j, none⟩ v' k hb).trans (hg.block k hk hv)⟩
/-- The list beside it is as it was. -/
theorem NW.nodes {w w' : World} {g : Nat} {nv : Value} {hs : List Hd} {ns : List Nd} {b : Nat} {h : Hd} {n : Nd} (r : NW w g nv hs b h n) (hN : Nodes w (g + 1) nv hs ns) {v : Value} (hv : v = h.nm ∨ v = h.ks) (ho : OK1 b v w w') : Nodes w' (g + 1) nv hs ns := by
  have hb : ∀ {e : TypeId} {s : Nat} {v : Value} {m : Nat} {xs : List Value}, e ≠ 38 → w.ownsRow (g + 1) e s v m xs → ∀ q, v.ownBlock = some q → q ≠ b := fun he ho q hq e => by
    obtain ⟨_, _, c, hc⟩ := owns_lt ho hq
    rw [e, r.at_] at hc
    injection hc with h1
    injection h1 with _ h2
    exact he h2.symm
  refine ⟨hN.len, owns_keep hN.row (fun q hq => ho.block q (owns_lt hN.row hq).2.1 (fun e => r.bn (by rw [← e]; exact hq.symm)) (fun e => ?_)), fun i x m hi hm => ?_, hN.apart⟩
  · rcases hv with rfl | rfl
    · exact owns_apart r.rep.names hN.row (by decide) e.symm hq
    · exact owns_apart r.rep.kids hN.row (by decide) e.symm hq
  · have rr := hN.rep i x m hi hm
    have ha := r.apart i x hi
    refine ⟨rr.kind, rr.text, owns_keep rr.names (fun q hq => ho.block q (owns_lt rr.names hq).2.1 (hb (by decide) rr.names q hq) (fun e => ?_)), owns_keep rr.kids (fun q hq => ho.block q (owns_lt rr.kids hq).2.1 (hb (by decide) rr.kids q hq) (fun e => ?_))⟩
    · rcases hv with rfl | rfl
      · exact ha.1 q e.symm hq
      · exact owns_apart r.rep.kids rr.names (by decide) e.symm hq
    · rcases hv with rfl | rfl
      · exact owns_apart r.rep.names rr.kids (by decide) e.symm hq
      · exact ha.2 q e.symm hq
theorem NW.name {w w1 : World} {g : Nat} {nv : Value} {hs : List Hd} {ns : List Nd} {b : Nat} {h : Hd} {n : Nd} (r : NW w g nv hs b h n) (hN : Nodes w (g + 1) nv hs ns) (s : Bs) (v' : Value)
    (hown : w1.ownsRow (g + 1) 9 1 v' (n.names.length + 1) (strs n.names ++ [.string ⟨s.toArray⟩])) (hgrow : w.grownBy w1 h.nm.ownBlock) (hat : v'.ownBlock = h.nm.ownBlock ∨ v'.ownBlock = some w.heap.size) :
    NW (w1.setCell ⟨b, 2, none⟩ v') g nv hs b { h with nm := v' } { n with names := n.names ++ [s] } := by
  have hb1 : w1.heap[b]? = some (.cells h.cells.toArray 38 (0, 0)) := (hgrow.block b r.lt r.bnm).trans r.at_
  have hsb : ∀ q, q ≠ b → (w1.setCell ⟨b, 2, none⟩ v').heap[q]? = w1.heap[q]? := fun q hq => Below.heap_setCell w1 ⟨b, 2, none⟩ v' q hq
  have hne : ∀ {e : TypeId} {v : Value} {m : Nat} {xs : List Value}, e ≠ 38 → w1.ownsRow (g + 1) e 1 v m xs → (w1.setCell ⟨b, 2, none⟩ v').ownsRow (g + 1) e 1 v m xs := fun he ho => owns_keep ho (fun q hq => hsb q (fun e => by
    obtain ⟨_, _, c, hc⟩ := owns_lt ho hq
    rw [e, hb1] at hc
    injection hc with h1
    injection h1 with _ h2
    exact he h2.symm))
  have hks : w1.ownsRow (g + 1) 3 1 h.ks n.kids.length (ints n.kids) := owns_keep r.rep.kids (fun q hq => hgrow.block q (owns_lt r.rep.kids hq).2.1 (fun e => owns_apart r.rep.names r.rep.kids (by decide) e.symm hq))
  refine ⟨?_, r.bg, r.bn, ⟨r.rep.kind, r.rep.text, ?_, hne (by decide) hks⟩, fun i k hk => ⟨fun q hq hq' => ?_, (r.apart i k hk).2⟩⟩
  · rw [heap_set_at w1 b 2 v' _ _ _ hb1]; rfl
  · simp only [List.length_append, List.length_cons, List.length_nil, strs_snoc]
    exact hne (by decide) hown
  · rcases hat with e | e
    · exact (r.apart i k hk).1 q (e.symm.trans hq) hq'
    · rw [show ({ h with nm := v' } : Hd).nm = v' from rfl] at hq
      rw [e] at hq
      cases hq
      have hil : i < ns.length := by rw [← hN.len]; exact (List.getElem?_eq_some_iff.1 hk).1
      have := (owns_lt (hN.rep i k ns[i] hk (List.getElem?_eq_getElem hil)).names hq').2.1
      omega
theorem NW.kid {w w1 : World} {g : Nat} {nv : Value} {hs : List Hd} {ns : List Nd} {b : Nat} {h : Hd} {n : Nd} (r : NW w g nv hs b h n) (hN : Nodes w (g + 1) nv hs ns) (s : Nat) (v' : Value)
    (hown : w1.ownsRow (g + 1) 3 1 v' (n.kids.length + 1) (ints n.kids ++ [.int .i64 (s : Int)])) (hgrow : w.grownBy w1 h.ks.ownBlock) (hat : v'.ownBlock = h.ks.ownBlock ∨ v'.ownBlock = some w.heap.size) :
    NW (w1.setCell ⟨b, 3, none⟩ v') g nv hs b { h with ks := v' } { n with kids := n.kids ++ [s] } := by
  have hb1 : w1.heap[b]? = some (.cells h.cells.toArray 38 (0, 0)) := (hgrow.block b r.lt r.bks).trans r.at_
  have hsb : ∀ q, q ≠ b → (w1.setCell ⟨b, 3, none⟩ v').heap[q]? = w1.heap[q]? := fun q hq => Below.heap_setCell w1 ⟨b, 3, none⟩ v' q hq
  have hne : ∀ {e : TypeId} {v : Value} {m : Nat} {xs : List Value}, e ≠ 38 → w1.ownsRow (g + 1) e 1 v m xs → (w1.setCell ⟨b, 3, none⟩ v').ownsRow (g + 1) e 1 v m xs := fun he ho => owns_keep ho (fun q hq => hsb q (fun e => by
    obtain ⟨_, _, c, hc⟩ := owns_lt ho hq
    rw [e, hb1] at hc
    injection hc with h1
    injection h1 with _ h2
    exact he h2.symm))
  have hnm : w1.ownsRow (g + 1) 9 1 h.nm n.names.length (strs n.names) := owns_keep r.rep.names (fun q hq => hgrow.block q (owns_lt r.rep.names hq).2.1 (fun e => owns_apart r.rep.kids r.rep.names (by decide) e.symm hq))
  refine ⟨?_, r.bg, r.bn, ⟨r.rep.kind, r.rep.text, hne (by decide) hnm, ?_⟩, fun i k hk => ⟨(r.apart i k hk).1, fun q hq hq' => ?_⟩⟩
  · rw [heap_set_at w1 b 3 v' _ _ _ hb1]; rfl
  · simp only [List.length_append, List.length_cons, List.length_nil, ints_snoc]
    exact hne (by decide) hown
  · rcases hat with e | e
    · exact (r.apart i k hk).2 q (e.symm.trans hq) hq'
    · rw [show ({ h with ks := v' } : Hd).ks = v' from rfl] at hq
      rw [e] at hq
      cases hq
      have hil : i < ns.length := by rw [← hN.len]; exact (List.getElem?_eq_some_iff.1 hk).1
      have := (owns_lt (hN.rep i k ns[i] hk (List.getElem?_eq_getElem hil)).kids hq').2.1
      omega
/-- A node under way's own changes, seen from the call's start. -/
theorem VK.own {g : Nat} {w0 w w' : World} {nv0 nv : Value} {hs0 hs : List Hd} {ns0 ns : List Nd} (hv : VK g w0 w nv0 nv hs0 hs ns0 ns) {b : Nat} {h : Hd} {n : Nd} (r : NW w g nv hs b h n) (hb : w0.heap.size ≤ b) {v : Value} (hvv : v = h.nm ∨ v = h.ks) (hf : ∀ q, v.ownBlock = some q → w0.heap.size ≤ q) (ho : OK1 b v w w') : VK g w0 w' nv0 nv hs0 hs ns0 ns :=
  ⟨ho.os.trans hv.os, ho.tape.trans hv.tape, ho.output.trans hv.output, Nat.le_trans hv.size ho.size, fun k hk hg hn => (ho.block k (Nat.lt_of_lt_of_le hk hv.size) (by omega) (fun e => by have := hf k e.symm; omega)).trans (hv.block k hk hg hn), hv.at_, r.nodes hv.nodes hvv ho, hv.ext, hv.len⟩
/-- A node of the list is set. -/
theorem flat_put {hs : List Hd} {i : Nat} {x h : Hd} (hi : hs[i]? = some x) : ((((flat hs).set (i * 4) (.int .u8 h.kind)).set (i * 4 + 1) (.string ⟨h.text.toArray⟩)).set (i * 4 + 2) h.nm).set (i * 4 + 3) h.ks = flat (hs.set i h) := by
  have hl : i < hs.length := (List.getElem?_eq_some_iff.1 hi).1
  have g : ∀ y : Hd, (hs.set i y)[i]? = some y := fun y => by rw [List.getElem?_set, if_pos rfl, if_pos hl]
  have e0 := flat_set hs i 0 x { x with kind := h.kind } (.int .u8 h.kind) hi (by decide) (by simp [Hd.cells])
  rw [Nat.add_zero] at e0
  rw [e0, flat_set _ i 1 _ { { x with kind := h.kind } with text := h.text } (.string ⟨h.text.toArray⟩) (g _) (by decide) (by simp [Hd.cells]), List.set_set,
    flat_set _ i 2 _ { { { x with kind := h.kind } with text := h.text } with nm := h.nm } h.nm (g _) (by decide) (by simp [Hd.cells]), List.set_set,
    flat_set _ i 3 _ h h.ks (g _) (by decide) (by simp [Hd.cells]), List.set_set]
/-- Four cells of a block. -/
def put4 (w : World) (gn i : Nat) (h : Hd) : World := (((w.setCell ⟨gn, i * 4, none⟩ (.int .u8 h.kind)).setCell ⟨gn, i * 4 + 1, none⟩ (.string ⟨h.text.toArray⟩)).setCell ⟨gn, i * 4 + 2, none⟩ h.nm).setCell ⟨gn, i * 4 + 3, none⟩ h.ks
theorem put4_other (w : World) (gn i : Nat) (h : Hd) (k : Nat) (hk : k ≠ gn) : (put4 w gn i h).heap[k]? = w.heap[k]? := by
  unfold put4
  rw [Below.heap_setCell _ ⟨gn, i * 4 + 3, none⟩ _ k hk, Below.heap_setCell _ ⟨gn, i * 4 + 2, none⟩ _ k hk, Below.heap_setCell _ ⟨gn, i * 4 + 1, none⟩ _ k hk, Below.heap_setCell _ ⟨gn, i * 4, none⟩ _ k hk]
theorem put4_size (w : World) (gn i : Nat) (h : Hd) : (put4 w gn i h).heap.size = w.heap.size := by simp [put4, World.setCell]
theorem Nodes.put {w : World} {base : Nat} {gn m cap : Nat} {hs : List Hd} {ns : List Nd} (hN : Nodes w base (.slice (some ⟨gn, 0, none⟩) m cap) hs ns) {h : Hd} {n : Nd} (r : Rep w base h n) (ap : ∀ (i : Nat) (k : Hd), hs[i]? = some k → Apart h k) (i : Nat) (hi : i < ns.length) :
    Nodes (put4 w gn i h) base (.slice (some ⟨gn, 0, none⟩) m cap) (hs.set i h) (ns.set i n) := by
  have hl := hN.len
  have hm : m = hs.length := by
    rcases hN.row.2 with ⟨e, _⟩ | ⟨g', c', cur, e, _⟩
    · cases e
    · cases e; rfl
  subst hm
  have hx : hs[i]? = some hs[i] := List.getElem?_eq_getElem (by omega)
  have keep : ∀ {e : TypeId} {v : Value} {m : Nat} {xs : List Value}, e ≠ 38 → w.ownsRow base e 1 v m xs → (put4 w gn i h).ownsRow base e 1 v m xs := fun he ho => owns_keep ho (fun q hq => put4_other w gn i h q (fun e => by
    subst e
    exact owns_apart ho hN.row he hq rfl))
  refine ⟨by simp [hl], ?_, ?_, ?_⟩
  · rw [List.length_set, ← flat_put hx]
    exact owns_set (owns_set (owns_set (owns_set hN.row (i * 4) (by omega) _) (i * 4 + 1) (by omega) _) (i * 4 + 2) (by omega) _) (i * 4 + 3) (by omega) _
  · intro j y k hj hk
    rw [List.getElem?_set] at hj hk
    by_cases hij : i = j
    · subst hij
      rw [if_pos rfl, if_pos (by omega)] at hj hk
      cases hj; cases hk
      exact ⟨r.kind, r.text, keep (by decide) r.names, keep (by decide) r.kids⟩
    · rw [if_neg hij] at hj hk
      have rr := hN.rep j y k hj hk
      exact ⟨rr.kind, rr.text, keep (by decide) rr.names, keep (by decide) rr.kids⟩
  · intro a b y z hab ha hb
    rw [List.getElem?_set] at ha hb
    by_cases h1 : i = a
    · subst h1
      rw [if_pos rfl, if_pos (by omega)] at ha
      cases ha
      rw [if_neg hab] at hb
      exact ap b z hb
    · rw [if_neg h1] at ha
      by_cases h2 : i = b
      · subst h2
        rw [if_pos rfl, if_pos (by omega)] at hb
        cases hb
        have := ap a y ha
        exact ⟨fun q hq hq' => this.1 q hq' hq, fun q hq hq' => this.2 q hq' hq⟩
      · rw [if_neg h2] at hb
        exact hN.apart a b y z hab ha hb
/-- A node more, and the reader has the list. -/
theorem VK.push {g : Nat} {w w1 : World} {nv v' : Value} {hs : List Hd} {ns : List Nd} (hN : Nodes w (g + 1) nv hs ns) (kind : Nat) (text : Bs)
    (hown : w1.ownsRow (g + 1) 38 4 v' (hs.length + 1) (flat hs ++ Hd.cells ⟨kind, text, .slice none 0 0, .slice none 0 0⟩)) (hgrow : w.grownBy w1 nv.ownBlock) (hat : v'.ownBlock = nv.ownBlock ∨ v'.ownBlock = some w.heap.size) (j : Nat) :
    VK g w (w1.setCell ⟨g, j, none⟩ v') nv v' hs (hs ++ [⟨kind, text, .slice none 0 0, .slice none 0 0⟩]) ns (ns ++ [⟨kind, text, [], []⟩]) := by
  have h1 := (hN.push kind text hown hgrow).but' (But.setCell g w1 j v')
  refine ⟨hgrow.os, hgrow.tape, hgrow.output, by have := hgrow.size; simpa [World.setCell] using this, fun k hk hg hn => (Below.heap_setCell w1 ⟨g, j, none⟩ v' k hg).trans (hgrow.block k hk hn), ?_, h1, fun i k hk => ?_, by simp⟩
  · rcases hat with e | e
    · exact .inl e
    · exact .inr ⟨_, e, Nat.le_refl _⟩
  · by_cases hi : i < hs.length
    · rw [List.getElem?_append_left hi] at hk; exact .inl hk
    · rw [List.getElem?_append_right (by omega)] at hk
      by_cases h3 : i - hs.length = 0
      · rw [h3] at hk; simp at hk; subst hk
        exact .inr ⟨fun q e => (by cases e), fun q e => (by cases e)⟩
      · rw [List.getElem?_eq_none (by simp; omega)] at hk; cases hk
/-- A node is set, seen from the call's start. -/
theorem VK.put {g : Nat} {w0 w : World} {nv0 : Value} {gn m cap : Nat} {hs0 hs : List Hd} {ns0 ns : List Nd} (hv : VK g w0 w nv0 (.slice (some ⟨gn, 0, none⟩) m cap) hs0 hs ns0 ns) {h : Hd} {n : Nd} (r : Rep w (g + 1) h n) (ap : ∀ (i : Nat) (k : Hd), hs[i]? = some k → Apart h k) (hf : Fresh w0.heap.size h) (i : Nat) (hi : i < ns.length) :
    VK g w0 (put4 w gn i h) nv0 (.slice (some ⟨gn, 0, none⟩) m cap) hs0 (hs.set i h) ns0 (ns.set i n) := by
  refine ⟨hv.os, hv.tape, hv.output, by rw [put4_size]; exact hv.size, fun k hk hg hn => (put4_other w gn i h k (fun e => ?_)).trans (hv.block k hk hg hn), hv.at_, hv.nodes.put r ap i hi, fun j k hk => ?_, by rw [List.length_set]; exact hv.len⟩
  · subst e
    rcases hv.at_ with e1 | ⟨q, e1, hq⟩
    · exact hn e1
    · cases e1; exact absurd hq (by show ¬ w0.heap.size ≤ k; omega)
  · rw [List.getElem?_set] at hk
    by_cases hij : i = j
    · rw [if_pos hij] at hk
      split at hk
      · cases hk; exact .inr hf
      · cases hk
    · rw [if_neg hij] at hk; exact hv.ext j k hk
end Go.Proofs.YtbobgebhdafciabDoor
