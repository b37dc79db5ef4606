/-
  Items in memory.
-/
import Derived.Test.YtfmldcibhllpcabDoorCB
import Derived.Deep.AppendLies
namespace Go.Proofs.YtfmldcibhllpcabDoor
open Go.Shelf Go.RowKit Go.Lib
set_option linter.unusedVariables false
set_option linter.unusedSimpArgs false

/-- Bytes at a slice; P: the blocks where they may lie. -/
structure ByV (w : World) (P : Nat → Prop) (p : Option Addr) (c : Nat) (l : Bs) : Prop where
  cap : l.length ≤ c
  big : c ≤ 9223372036854775807
  lies : BAt w p l.length l
  ok : ∀ a, p = some a → 0 < l.length → P a.block
theorem ByV.lt {w : World} {P : Nat → Prop} {p : Option Addr} {c : Nat} {l : Bs} (h : ByV w P p c l) {a : Addr} (ha : p = some a) (h0 : 0 < l.length) : a.block < w.heap.size ∧ a.spot = none := by
  obtain ⟨b, o, e, hc⟩ := h.lies h0
  rw [ha] at e
  cases e
  exact ⟨World.block_lt_of_cell? w ⟨b, o + 0, none⟩ (hc 0 h0), rfl⟩
theorem ByV.keep {w w' : World} {P : Nat → Prop} {p : Option Addr} {c : Nat} {l : Bs} (h : ByV w P p c l) (hb : ∀ g, P g → g < w.heap.size → w'.heap[g]? = w.heap[g]?) : ByV w' P p c l := by
  refine ⟨h.cap, h.big, fun h0 => ?_, h.ok⟩
  obtain ⟨b, o, e, hc⟩ := h.lies h0
  have hl := h.lt e h0
  exact ⟨b, o, e, fun i hi => by rw [← hc i hi]; exact World.cell?_of_block (w := w) (hb b (h.ok _ e h0) hl.1)⟩
theorem ByV.mono {w : World} {P Q : Nat → Prop} {p : Option Addr} {c : Nat} {l : Bs} (h : ByV w P p c l) (hPQ : ∀ g, P g → g < w.heap.size → Q g) : ByV w Q p c l :=
  ⟨h.cap, h.big, h.lies, fun a ha h0 => hPQ _ (h.ok a ha h0) (h.lt ha h0).1⟩
theorem ByV.nil (w : World) (P : Nat → Prop) : ByV w P none 0 [] := ⟨Nat.le_refl _, by omega, fun h => absurd h (by simp), fun a ha => by cases ha⟩
theorem ByV.drop {w : World} {P : Nat → Prop} {p : Option Addr} {c : Nat} {l : Bs} (h : ByV w P p c l) (j : Nat) (hj : j ≤ l.length) : ByV w P (if c = j then p else p.map (fun x => x.add j)) (c - j) (l.drop j) := by
  have hc := h.cap
  have hb := h.big
  refine ⟨by rw [List.length_drop]; omega, by omega, ?_, ?_⟩
  · rw [List.length_drop]; exact bytesAt_drop h.lies rfl c j hj hc
  · intro a ha h0
    rw [List.length_drop] at h0
    rw [if_neg (by omega)] at ha
    cases p with
    | none => cases ha
    | some q =>
      have h1 := h.ok q rfl (by omega)
      simp at ha
      subst ha
      unfold Addr.add
      split <;> exact h1
theorem ByV.take {w : World} {P : Nat → Prop} {p : Option Addr} {c : Nat} {l : Bs} (h : ByV w P p c l) (j : Nat) (hj : j ≤ l.length) : ByV w P p c (l.take j) := by
  have hc := h.cap
  have hb := h.big
  have hl : (l.take j).length = j := by rw [List.length_take]; omega
  refine ⟨by omega, hb, fun h0 => ?_, fun a ha h0 => h.ok a ha (by omega)⟩
  rw [hl] at h0 ⊢
  obtain ⟨b, o, e, hcl⟩ := h.lies (by omega)
  refine ⟨b, o, e, fun i hi => ?_⟩
  rw [hcl i (by omega)]
  simp [List.getD, List.getElem?_take, hi]
/-- What an item is by itself; q: where its kids lie. -/
def ItHd (w : World) (P : Nat → Prop) (cs : List Value) (i : It) (q : Option Addr) : Prop :=
  ∃ p c c', cs = [.int .u8 (i.kind : Int), .int .u64 (i.n : Int), .slice p i.b.length c, .slice q i.kids.length c'] ∧ i.kind < 256 ∧ i.n < 18446744073709551616 ∧ ByV w P p c i.b ∧ i.kids.length ≤ c' ∧ c' ≤ 9223372036854775807
/-- Kids in memory. -/
def KidsAt (R : List Value → It → Prop) (w : World) (P : Nat → Prop) (q : Option Addr) (kids : List It) : Prop :=
  ∀ (j : Nat) (k : It), kids[j]? = some k → ∃ b o, q = some ⟨b, o, none⟩ ∧ P b ∧ ∃ c0 c1 c2 c3, w.cell? ⟨b, o + j * 4, none⟩ = some c0 ∧ w.cell? ⟨b, o + j * 4 + 1, none⟩ = some c1 ∧ w.cell? ⟨b, o + j * 4 + 2, none⟩ = some c2 ∧ w.cell? ⟨b, o + j * 4 + 3, none⟩ = some c3 ∧ R [c0, c1, c2, c3] k
/-- An item's cells, and what it reaches in memory, so deep. -/
def ItOk (w : World) (P : Nat → Prop) : Nat → List Value → It → Prop
  | 0, cs, i => ∃ q, ItHd w P cs i q
  | d + 1, cs, i => ∃ q, ItHd w P cs i q ∧ KidsAt (ItOk w P d) w P q i.kids
theorem ItOk.head {w : World} {P : Nat → Prop} {d : Nat} {cs : List Value} {i : It} (h : ItOk w P d cs i) : ∃ q, ItHd w P cs i q := by
  cases d with
  | zero => exact h
  | succ d => obtain ⟨q, h1, _⟩ := h; exact ⟨q, h1⟩
theorem ItHd.keep {w w' : World} {P : Nat → Prop} {cs : List Value} {i : It} {q : Option Addr} (h : ItHd w P cs i q) (hb : ∀ g, P g → g < w.heap.size → w'.heap[g]? = w.heap[g]?) : ItHd w' P cs i q := by
  obtain ⟨p, c, c', h1, h2, h3, h4, h5, h6⟩ := h
  exact ⟨p, c, c', h1, h2, h3, h4.keep hb, h5, h6⟩
theorem ItHd.mono {w : World} {P Q : Nat → Prop} {cs : List Value} {i : It} {q : Option Addr} (h : ItHd w P cs i q) (hPQ : ∀ g, P g → g < w.heap.size → Q g) : ItHd w Q cs i q := by
  obtain ⟨p, c, c', h1, h2, h3, h4, h5, h6⟩ := h
  exact ⟨p, c, c', h1, h2, h3, h4.mono hPQ, h5, h6⟩
theorem ItOk.keep {w w' : World} {P : Nat → Prop} (hb : ∀ g, P g → g < w.heap.size → w'.heap[g]? = w.heap[g]?) : ∀ {d : Nat} {cs : List Value} {i : It}, ItOk w P d cs i → ItOk w' P d cs i
  | 0, cs, i, ⟨q, h⟩ => ⟨q, h.keep hb⟩
  | d + 1, cs, i, ⟨q, h, hk⟩ => ⟨q, h.keep hb, fun j k hj => by
    obtain ⟨b, o, e, hp, c0, c1, c2, c3, k0, k1, k2, k3, hr⟩ := hk j k hj
    have hlt := World.block_lt_of_cell? w ⟨b, o + j * 4, none⟩ k0
    have hc : ∀ x v, w.cell? ⟨b, x, none⟩ = some v → w'.cell? ⟨b, x, none⟩ = some v := fun x v hv => by rw [← hv]; exact World.cell?_of_block (w := w) (hb b hp hlt)
    exact ⟨b, o, e, hp, c0, c1, c2, c3, hc _ _ k0, hc _ _ k1, hc _ _ k2, hc _ _ k3, ItOk.keep hb hr⟩⟩
theorem ItOk.mono {w : World} {P Q : Nat → Prop} (hPQ : ∀ g, P g → g < w.heap.size → Q g) : ∀ {d : Nat} {cs : List Value} {i : It}, ItOk w P d cs i → ItOk w Q d cs i
  | 0, cs, i, ⟨q, h⟩ => ⟨q, h.mono hPQ⟩
  | d + 1, cs, i, ⟨q, h, hk⟩ => ⟨q, h.mono hPQ, fun j k hj => by
    obtain ⟨b, o, e, hp, c0, c1, c2, c3, k0, k1, k2, k3, hr⟩ := hk j k hj
    exact ⟨b, o, e, hPQ b hp (World.block_lt_of_cell? w ⟨b, o + j * 4, none⟩ k0), c0, c1, c2, c3, k0, k1, k2, k3, ItOk.mono hPQ hr⟩⟩
theorem ItOk.below {w w' : World} {P : Nat → Prop} {d : Nat} {cs : List Value} {i : It} (h : ItOk w P d cs i) (hb : Below w.heap.size w w') : ItOk w' P d cs i := h.keep (fun g _ hg => hb.block g hg)
/-- An item without kids. -/
theorem ItOk.leaf {w : World} {P : Nat → Prop} (d : Nat) {p : Option Addr} {c : Nat} {i : It} (hk : i.kind < 256) (hn : i.n < 18446744073709551616) (hb : ByV w P p c i.b) (h0 : i.kids = []) : ItOk w P d [.int .u8 (i.kind : Int), .int .u64 (i.n : Int), .slice p i.b.length c, .slice none 0 0] i := by
  have hh : ItHd w P [.int .u8 (i.kind : Int), .int .u64 (i.n : Int), .slice p i.b.length c, .slice none 0 0] i none := ⟨p, c, 0, by rw [h0]; rfl, hk, hn, hb, by rw [h0]; simp, by omega⟩
  cases d with
  | zero => exact ⟨none, hh⟩
  | succ d => exact ⟨none, hh, fun j k hj => by rw [h0] at hj; simp at hj⟩
/-- A list of items, under way: s0: where the call began; g: the reader's block. -/
structure Kl (w : World) (s0 g lo d : Nat) (nv : Value) (css : List (List Value)) (kids : List It) : Prop where
  len : css.length = kids.length
  row : w.ownsRow s0 29 4 nv css.length css.flatten
  rep : ∀ (i : Nat) (cs : List Value) (k : It), css[i]? = some cs → kids[i]? = some k → ItOk w (fun b => (b < lo ∨ s0 ≤ b) ∧ some b ≠ nv.ownBlock) d cs k
theorem Kl.nil (w : World) (s0 g lo d : Nat) : Kl w s0 g lo d (.slice none 0 0) [] [] := ⟨rfl, World.ownsRow_nil w s0 _ 4, fun i cs k hi => by simp at hi⟩
theorem ItOk.four {w : World} {P : Nat → Prop} {d : Nat} {cs : List Value} {i : It} (h : ItOk w P d cs i) : ∃ c0 c1 c2 c3, cs = [c0, c1, c2, c3] := by
  obtain ⟨q, p, c, c', e, _⟩ := h.head
  exact ⟨_, _, _, _, e⟩
theorem Kl.fours {w : World} {s0 g lo d : Nat} {nv : Value} {css : List (List Value)} {kids : List It} (h : Kl w s0 g lo d nv css kids) : ∀ cs ∈ css, cs.length = 4 := fun cs hc => by
  obtain ⟨i, hi⟩ := List.mem_iff_getElem?.1 hc
  have hl := (List.getElem?_eq_some_iff.1 hi).1
  obtain ⟨c0, c1, c2, c3, rfl⟩ := (h.rep i cs _ hi (List.getElem?_eq_getElem (by rw [← h.len]; exact hl))).four
  rfl
theorem flatten_get : ∀ (css : List (List Value)) (i j : Nat) (cs : List Value), (∀ c ∈ css, c.length = 4) → css[i]? = some cs → j < 4 → css.flatten[i * 4 + j]? = cs[j]?
  | [], i, j, cs, _, hi, _ => by simp at hi
  | x :: css, 0, j, cs, h4, hi, hj => by
    simp at hi; subst hi
    rw [Nat.zero_mul, Nat.zero_add, List.flatten_cons, List.getElem?_append_left (by rw [h4 x (by simp)]; exact hj)]
  | x :: css, i + 1, j, cs, h4, hi, hj => by
    simp at hi
    have hx := h4 x (by simp)
    rw [List.flatten_cons, List.getElem?_append_right (by omega), hx, show (i + 1) * 4 + j - 4 = i * 4 + j by omega]
    exact flatten_get css i j cs (fun c hc => h4 c (by simp [hc])) hi hj
theorem Kl.keep {w w' : World} {s0 g lo d : Nat} {nv : Value} {css : List (List Value)} {kids : List It} (h : Kl w s0 g lo d nv css kids) (hb : ∀ b, b ≠ g → b < w.heap.size → w'.heap[b]? = w.heap[b]?) (hg : g < s0) (hlo : lo ≤ g := by omega) : Kl w' s0 g lo d nv css kids :=
  ⟨h.len, owns_keep h.row (fun b hbk => hb b (by have := (owns_lt h.row hbk).1; omega) (owns_lt h.row hbk).2.1), fun i cs k hi hk => (h.rep i cs k hi hk).keep (fun b hP hlt => hb b (by omega) hlt)⟩
theorem Kl.push {w w1 : World} {s0 s1 g lo d : Nat} {nv v' : Value} {css : List (List Value)} {kids : List It} (h : Kl w s0 g lo d nv css kids) (cs : List Value) (k : It) (hg : g < s0) (hs : s0 ≤ s1) (hold : ∀ b, nv.ownBlock = some b → b < s1)
    (hk : ItOk w (fun b => b < lo ∨ s1 ≤ b) d cs k) (hown : w1.ownsRow s0 29 4 v' (css.length + 1) (css.flatten ++ cs)) (hgrow : w.grownBy w1 nv.ownBlock) (hat : v'.ownBlock = nv.ownBlock ∨ v'.ownBlock = some w.heap.size) (hlo : lo ≤ g := by omega) :
    Kl w1 s0 g lo d v' (css ++ [cs]) (kids ++ [k]) := by
  have hl := h.len
  have hne : ∀ b, some b ≠ nv.ownBlock → b < w.heap.size → some b ≠ v'.ownBlock := fun b h1 h2 => by
    rcases hat with e | e
    · rw [e]; exact h1
    · rw [e]; intro e'; cases e'; omega
  have hk1 : ItOk w (fun b => (b < lo ∨ s0 ≤ b) ∧ some b ≠ nv.ownBlock) d cs k := hk.mono (fun b hb _ => ⟨by omega, fun e => by
    have h1 := hold b e.symm
    have h2 := (owns_lt h.row e.symm).1
    omega⟩)
  have all : ∀ {cs : List Value} {k : It}, ItOk w (fun b => (b < lo ∨ s0 ≤ b) ∧ some b ≠ nv.ownBlock) d cs k → ItOk w1 (fun b => (b < lo ∨ s0 ≤ b) ∧ some b ≠ v'.ownBlock) d cs k := fun hh => by
    have h1 : ItOk w (fun b => (b < lo ∨ s0 ≤ b) ∧ some b ≠ nv.ownBlock ∧ some b ≠ v'.ownBlock) d _ _ := hh.mono (fun b hb hlt => ⟨hb.1, hb.2, hne b hb.2 hlt⟩)
    have h2 := h1.keep (w' := w1) (fun b hb hlt => hgrow.block b hlt hb.2.1)
    exact h2.mono (fun b hb _ => ⟨hb.1, hb.2.2⟩)
  refine ⟨by simp [hl], ?_, ?_⟩
  · rw [List.length_append, List.flatten_append]
    simpa using hown
  · intro i xs x hi hx
    rcases Nat.lt_trichotomy i css.length with hlt | rfl | hgt
    · rw [List.getElem?_append_left hlt] at hi
      rw [List.getElem?_append_left (by omega)] at hx
      exact all (h.rep i xs x hi hx)
    · rw [List.getElem?_append_right (Nat.le_refl _)] at hi
      rw [List.getElem?_append_right (by omega)] at hx
      simp at hi
      rw [show css.length - kids.length = 0 by omega] at hx
      simp at hx
      subst hi hx
      exact all hk1
    · rw [List.getElem?_eq_none (by simp; omega)] at hi
      cases hi
/-- A list's slice as an item's kids. -/
theorem Kl.kids {w : World} {s0 g lo d : Nat} {nv : Value} {css : List (List Value)} {kids : List It} (h : Kl w s0 g lo d nv css kids) (hg : g < s0) : ∃ q c, nv = .slice q kids.length c ∧ kids.length ≤ c ∧ c ≤ 9223372036854775807 ∧ KidsAt (ItOk w (fun b => b < lo ∨ s0 ≤ b) d) w (fun b => b < lo ∨ s0 ≤ b) q kids := by
  have hl := h.len
  have hrow := h.row
  rcases hrow.2 with ⟨e, h0⟩ | ⟨b, cap, cur, e, hb, hr, h1, h2, _⟩
  · refine ⟨none, 0, by rw [e, ← hl, h0], by omega, by omega, fun j k hj => ?_⟩
    have := (List.getElem?_eq_some_iff.1 hj).1
    omega
  · refine ⟨some ⟨b, 0, none⟩, cap, by rw [e, hl], by omega, by unfold maxLen at h2; omega, fun j k hj => ⟨b, 0, rfl, Or.inr hb, ?_⟩⟩
    have hj1 := (List.getElem?_eq_some_iff.1 hj).1
    have hx : css[j]? = some css[j] := List.getElem?_eq_getElem (by omega)
    have hr2 := (h.rep j _ k hx hj)
    obtain ⟨c0, c1, c2, c3, e4⟩ := hr2.four
    rw [e4] at hx hr2
    have hc : ∀ x, x < 4 → w.cell? ⟨b, j * 4 + x, none⟩ = [c0, c1, c2, c3][x]? := fun x hx4 => by
      rw [e] at hrow
      rw [owns_cell hrow (j * 4 + x) (by omega), flatten_get css j x _ h.fours hx hx4]
    simp only [Nat.zero_add]
    exact ⟨c0, c1, c2, c3, hc 0 (by decide), hc 1 (by decide), hc 2 (by decide), hc 3 (by decide), hr2.mono (fun b hb _ => hb.1)⟩
/-- An item with kids. -/
theorem Kl.item {w : World} {s0 g lo d : Nat} {nv : Value} {css : List (List Value)} {kids : List It} (h : Kl w s0 g lo d nv css kids) (hg : g < s0) (kind : Nat) (hk : kind < 256) : ItOk w (fun b => b < lo ∨ s0 ≤ b) (d + 1) [.int .u8 (kind : Int), .int .u64 0, .slice none 0 0, nv] ⟨kind, 0, [], kids⟩ := by
  obtain ⟨q, c, e, h1, h2, h3⟩ := h.kids hg
  exact ⟨q, ⟨none, 0, c, by rw [e]; rfl, hk, (by decide : 0 < 18446744073709551616), ByV.nil w _, h1, h2⟩, h3⟩
/-- A kid's cells. -/
theorem Kl.get {w : World} {s0 g lo d : Nat} {q : Option Addr} {n c : Nat} {css : List (List Value)} {kids : List It} (h : Kl w s0 g lo d (.slice q n c) css kids) (hg : g < s0) {j : Nat} {k : It} (hj : kids[j]? = some k) : ∃ b o, q = some ⟨b, o, none⟩ ∧ b < w.heap.size ∧ ∃ c0 c1 c2 c3, w.cell? ⟨b, o + j * 4, none⟩ = some c0 ∧ w.cell? ⟨b, o + j * 4 + 1, none⟩ = some c1 ∧ w.cell? ⟨b, o + j * 4 + 2, none⟩ = some c2 ∧ w.cell? ⟨b, o + j * 4 + 3, none⟩ = some c3 ∧ ItOk w (fun b => b < lo ∨ s0 ≤ b) d [c0, c1, c2, c3] k := by
  obtain ⟨q', c', e, h1, h2, h3⟩ := h.kids hg
  cases e
  obtain ⟨b, o, e, hP, c0, c1, c2, c3, k0, k1, k2, k3, hr⟩ := h3 j k hj
  exact ⟨b, o, e, World.block_lt_of_cell? w ⟨b, o + j * 4, none⟩ k0, c0, c1, c2, c3, k0, k1, k2, k3, hr⟩
/-- So deep an item is at most. -/
def deepC : Nat → It → Prop
  | 0, i => i.kids = []
  | d + 1, i => ∀ k ∈ i.kids, deepC d k
end Go.Proofs.YtfmldcibhllpcabDoor
