/-
  The law's Awake.
-/
import Derived.Test.YtbobgebhdafciabDoorJQ
namespace Go.Proofs.YtbobgebhdafciabDoor
open Go.Shelf Go.RowKit
set_option linter.unusedVariables false
set_option linter.unusedSimpArgs false

/-- Bytes as cells. -/
def u8s (l : Bs) : Array Value := (l.map fun b => Value.int .u8 (b.toNat : Int)).toArray
/-- What Parse does. -/
def ParsePost (bs : Bs) (w : World) (e : Ending) (w' : World) : Prop := Below w.heap.size w w' ∧ ((∃ ns nv hs, parseS bs = .ok ns ∧ e = .returned (.tuple #[nv, .int .i64 0]) ∧ Nodes w' (w.heap.size + 1) nv hs ns ∧ ns.length ≤ 256) ∨ (∃ k : Nat, parseS bs = .error k ∧ 0 < k ∧ k < 100 ∧ e = .returned (.tuple #[.slice none 0 0, .int .i64 k])))
/-- Parse of a slice of the call's own. -/
theorem Parse_lit (l : Bs) (m : Nat) (hm : l.length = m) (W : World) (fr : Nat × Nat) (hT : Tabs W) (hs : m ≤ 1000000) :
    Calls Tryd.prog 6 #[.slice (some ⟨W.heap.size, 0, none⟩) m m] (W.alloc (.cells (u8s l) 5 fr)) (ParsePost l (W.alloc (.cells (u8s l) 5 fr))) := by
  subst hm
  have hb : Below W.heap.size W (W.alloc (.cells (u8s l) 5 fr)) := (Below.refl _ _).alloc (Nat.le_refl _) _
  refine Parse_any (some ⟨W.heap.size, 0, none⟩) l.length l _ ⟨Nat.le_refl _, by omega, fun h0 => ⟨W.heap.size, 0, rfl, fun i hi => ?_⟩, fun a ha => ?_, fun h => by cases h⟩ (hT.below hb)
  · rw [Nat.zero_add, cell_of_row _ _ _ _ _ _ (alloc_new W _)]
    simp [u8s, List.getD, hi]
  · cases ha
    exact ⟨by simp, rfl⟩
def ex1 : Bs := [123, 34, 97, 34, 58, 32, 91, 49, 44, 32, 34, 120, 34, 93, 125]
def ex2 : Bs := [123, 34, 97, 34, 58, 49, 44, 34, 97, 34, 58, 50, 125]
def ex3 : Bs := [91, 48, 49, 93]
theorem parse_ex1 : parseS ex1 = .ok [⟨1, [], [[97]], [1]⟩, ⟨2, [], [], [2, 3]⟩, ⟨4, [49], [], []⟩, ⟨3, [120], [], []⟩] := by kernel_rfl
theorem parse_ex2 : parseS ex2 = .error 12 := by kernel_rfl
theorem parse_ex3 : parseS ex3 = .error 11 := by kernel_rfl
theorem parse_ok {bs : Bs} {ns : List Nd} {w : World} {e : Ending} {w' : World} (h : ParsePost bs w e w') (hp : parseS bs = .ok ns) : Below w.heap.size w w' ∧ ∃ nv hs, e = .returned (.tuple #[nv, .int .i64 0]) ∧ Nodes w' (w.heap.size + 1) nv hs ns ∧ ns.length ≤ 256 := by
  rcases h with ⟨hb, (⟨ns', nv, hs, h1, h2, h3, h4⟩ | ⟨k, h1, _⟩)⟩
  · rw [hp] at h1; cases h1; exact ⟨hb, nv, hs, h2, h3, h4⟩
  · rw [hp] at h1; cases h1
theorem parse_err {bs : Bs} {k : Nat} {w : World} {e : Ending} {w' : World} (h : ParsePost bs w e w') (hp : parseS bs = .error k) : Below w.heap.size w w' ∧ e = .returned (.tuple #[.slice none 0 0, .int .i64 k]) := by
  rcases h with ⟨hb, (⟨ns', nv, hs, h1, _⟩ | ⟨k', h1, _, _, h2⟩)⟩
  · rw [hp] at h1; cases h1
  · rw [hp] at h1; cases h1; exact ⟨hb, h2⟩
theorem Nodes.cellsAt {w : World} {base gn n cap : Nat} {hs : List Hd} {ns : List Nd} (h : Nodes w base (.slice (some ⟨gn, 0, none⟩) n cap) hs ns) (hn : ns.length = n) (i : Nat) (hi : i < n) : ∃ x, hs[i]? = some x ∧ Rep w base x (ns[i]'(by omega)) ∧ ∀ j, j < 4 → w.cell? ⟨gn, i * 4 + j, none⟩ = x.cells[j]? := by
  have hl := h.len
  obtain ⟨x, hx, hr⟩ := h.get (i := i) (by omega)
  refine ⟨x, hx, hr, fun j hj => ?_⟩
  have hrow := h.row
  rw [hl, hn] at hrow
  rw [owns_cell hrow (i * 4 + j) (by omega), flat_get hs i j x hx hj]

set_option maxRecDepth 100000 in
set_option maxHeartbeats 4000000 in
/-- Awake. -/
theorem Awake_any (w : World) (hT : Tabs w) : Calls Tryd.prog 5 #[] w fun e w' => e = .returned (.bool true) ∧ Below w.heap.size w w' := by
  have hcl := fun (cs : Array Value) (n : Nat) (hn : cs.size = n) (W : World) => conv_lit cs n hn W
  have h1 := hcl (u8s ex1) 15 rfl w
  have P1 := Parse_lit ex1 15 rfl w (15, 15 + 1) hT (by omega)
  go_enter Tryd.func5, Tryd.ntmps5
  go_wp2_with fail
  go_at_call 6
  refine P1.mono ?_
  intro e w1 hp1
  obtain ⟨b1, nv, hs, rfl, n1, _⟩ := parse_ok hp1 parse_ex1
  have B1 : Below w.heap.size w w1 := ((Below.refl _ w).alloc (Nat.le_refl _) _).trans (b1.mono (by simp))
  clear P1 hp1 b1 h1
  obtain ⟨gn, cap, rfl, hg1, hg2⟩ := n1.form (by decide)
  have T1 := hT.below B1
  have h2 := hcl (u8s ex2) 13 rfl w1
  have P2 := Parse_lit ex2 13 rfl w1 (13, 13 + 1) T1 (by omega)
  go_wp2_with fail
  go_at_call 6
  refine P2.mono ?_
  intro e w2 hp2
  obtain ⟨b2, rfl⟩ := parse_err hp2 parse_ex2
  have B2 : Below w1.heap.size w1 w2 := ((Below.refl _ w1).alloc (Nat.le_refl _) _).trans (b2.mono (by simp))
  have T2 := T1.below B2
  clear P2 hp2 b2 h2
  have h3 := hcl (u8s ex3) 4 rfl w2
  have P3 := Parse_lit ex3 4 rfl w2 (4, 4 + 1) T2 (by omega)
  go_wp2_with fail
  go_at_call 6
  refine P3.mono ?_
  intro e w3 hp3
  obtain ⟨b3, rfl⟩ := parse_err hp3 parse_ex3
  have B3 : Below w2.heap.size w2 w3 := ((Below.refl _ w2).alloc (Nat.le_refl _) _).trans (b3.mono (by simp))
  clear P3 hp3 b3 h3 hcl
  have B13 : Below w1.heap.size w1 w3 := B2.trans (B3.mono B2.size)
  have n3 := n1.keep (fun k _ hk => B13.block k hk)
  simp only [List.length_cons, List.length_nil] at n3
  obtain ⟨x0, _, r0, k0⟩ := n3.cellsAt rfl 0 (by decide)
  obtain ⟨x3, _, r3, k3⟩ := n3.cellsAt rfl 3 (by decide)
  have a0 := k0 0 (by decide)
  have a3 := k0 3 (by decide)
  have a31 := k3 1 (by decide)
  have hkind := r0.kind
  have htext := r3.text
  have hkids := r0.kids
  simp only [List.getElem_cons_zero, List.getElem_cons_succ, List.length_cons, List.length_nil] at hkind htext hkids
  simp only [Hd.cells, hkind, htext] at a0 a31
  obtain ⟨gk, ck, hks, hgk, _⟩ := hkids.form (by decide)
  have a3' : w3.cell? ⟨gn, 0 * 4 + 3, none⟩ = some x0.ks := a3
  rw [hks] at a3' hkids
  have ak := owns_cell hkids 0 (by decide)
  have BB : Hid (Below w.heap.size w w3) := B1.trans (B13.mono B1.size)
  clear B1 B2 B3 B13 n1 n3 r0 r3 k0 k3 hT T1 T2 hkind htext hkids hks a3
  simp only [Nat.zero_mul, Nat.zero_add, List.getElem?_cons_zero, List.getElem?_cons_succ, ints, List.map_cons, List.map_nil] at a0 a3' a31 ak
  go_wp2_with fail
  go_ret
  exact ⟨rfl, BB.out⟩
end Go.Proofs.YtbobgebhdafciabDoor
