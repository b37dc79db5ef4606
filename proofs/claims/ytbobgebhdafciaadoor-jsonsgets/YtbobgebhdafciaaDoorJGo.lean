/-
  A slice of nodes that came in, opened.
-/
import Derived.Test.YtbobgebhdafciaaDoorJGm
import Derived.Deep.Strs
import Derived.Deep.Slices
import Derived.ChangeSlices
namespace Go.Proofs.YtbobgebhdafciaaDoor
open Go.Shelf Go.RowKit Go.ChangeShapes Go.WideShapes
set_option linter.unusedVariables false
set_option linter.unusedSimpArgs false

theorem lt_of_cell {w : World} {b o : Nat} {v : Value} (h : w.cell? ⟨b, o, none⟩ = some v) : b < w.heap.size := by
  cases hh : w.heap[b]? with
  | none => simp [World.cell?, hh] at h
  | some x => exact (Array.getElem?_eq_some_iff.1 hh).1
theorem row_of_cells {w : World} {a : Addr} {n : Nat} {xs : List Value} (hl : xs.length = n) (hc : ∀ i, i < n → w.cell? (a.add i) = xs[i]?) : RowAt w w.heap.size (some a) n xs :=
  ⟨hl, fun h0 => by
    obtain ⟨b, o, sp⟩ := a
    have h1 := hc 0 h0
    rw [List.getElem?_eq_getElem (by omega)] at h1
    have hsp : sp = none := by simpa [Addr.add] using World.cell?_spot h1
    subst hsp
    rw [Addr.add_mid] at h1
    exact ⟨b, o, rfl, lt_of_cell h1, fun i hi => by have := hc i hi; rw [Addr.add_mid] at this; exact this⟩⟩
theorem nodeFields : ∃ f0 f1 f2 f3 : Field, Tryd.prog.underlying 41 = some (.struct #[f0, f1, f2, f3]) ∧ f0.offset = 0 ∧ f1.offset = 1 ∧ f2.offset = 2 ∧ f3.offset = 3 ∧ f0.type = 39 ∧ f1.type = 9 ∧ f2.type = 30 ∧ f3.type = 28 :=
  ⟨_, _, _, _, Tryd.underlying41, rfl, rfl, rfl, rfl, rfl, rfl, rfl, rfl⟩
theorem cells4 : Tryd.prog.cellsOf 41 = 4 ∧ Tryd.prog.cellsOf 39 = 1 ∧ Tryd.prog.cellsOf 9 = 1 ∧ Tryd.prog.cellsOf 30 = 1 ∧ Tryd.prog.cellsOf 28 = 1 ∧ Tryd.prog.cellsOf 3 = 1 := ⟨by kernel_rfl, by kernel_rfl, by kernel_rfl, by kernel_rfl, by kernel_rfl, by kernel_rfl⟩
theorem list4 : ∀ l : List Value, l.length = 4 → ∃ a b c d, l = [a, b, c, d]
  | [a, b, c, d], _ => ⟨a, b, c, d, rfl⟩
  | [], h => by simp at h
  | [_], h => by simp at h
  | [_, _], h => by simp at h
  | [_, _, _], h => by simp at h
  | _ :: _ :: _ :: _ :: _ :: _, h => by simp at h
/-- A node that came in. -/
theorem open_node {H : Type} {enc : TypeId × Value → H} {w : World} {spare : Nat → Bool} {held : Bool} {fuel : Nat} {cs : List Value} {x : DataW H × List MemPlace} (h : DataW.trod enc Tryd.prog w 0 spare held fuel 41 cs = some x) :
    ∃ (g : Gn) (pN : Option Addr) (cN : Nat) (pK : Option Addr) (cK : Nat), cs = [.int .u8 g.kind, .string ⟨g.text.toArray⟩, .slice pN g.names.length cN, .slice pK g.kids.length cK] ∧ RowAt w w.heap.size pN g.names.length (strs g.names) ∧ RowAt w w.heap.size pK g.kids.length (g.kids.map (Value.int .i64)) ∧ g.names.length ≤ cN ∧ g.kids.length ≤ cK := by
  obtain ⟨f0, f1, f2, f3, hu, o0, o1, o2, o3, t0, t1, t2, t3⟩ := nodeFields
  obtain ⟨k4, k0, k1, k2, k3, k5⟩ := cells4
  obtain ⟨xs, n, _, _, hl, hx, hf⟩ := DataW.trod_struct hu h
  rw [k4] at hl
  obtain ⟨v0, v1, v2, v3, rfl⟩ := list4 cs hl
  have hx4 : xs.length = 4 := hx
  have get : ∀ i, i < 4 → ∃ y, xs[i]? = some y := fun i hi => ⟨_, List.getElem?_eq_getElem (by omega)⟩
  have g0 := hf 0 f0 rfl
  have g1 := hf 1 f1 rfl
  have g2 := hf 2 f2 rfl
  have g3 := hf 3 f3 rfl
  rw [o0, t0, k0] at g0
  rw [o1, t1, k1] at g1
  rw [o2, t2, k2] at g2
  rw [o3, t3, k3] at g3
  obtain ⟨y0, hy0⟩ := get 0 (by decide)
  obtain ⟨y1, hy1⟩ := get 1 (by decide)
  obtain ⟨y2, hy2⟩ := get 2 (by decide)
  obtain ⟨y3, hy3⟩ := get 3 (by decide)
  rw [hy0] at g0
  rw [hy1] at g1
  rw [hy2] at g2
  rw [hy3] at g3
  simp only [List.drop_zero, List.drop_succ_cons, List.take_succ_cons, List.take_zero] at g0 g1 g2 g3
  obtain ⟨z, e0, _, _⟩ := DataW.trod_int (k := .u8) Tryd.underlying39 g0
  obtain ⟨s, e1, _, _⟩ := DataW.trod_string Tryd.underlying9 g1
  cases e0
  cases e1
  have hN : ∃ (nms : List Bs) (pN : Option Addr) (cN : Nat), v2 = .slice pN nms.length cN ∧ RowAt w w.heap.size pN nms.length (strs nms) ∧ nms.length ≤ cN := by
    rcases Go.Deep.open_strs Tryd.underlying30 Tryd.underlying9 k1 g2 with ⟨e, _⟩ | ⟨a, len, cap, m, Sx, e, _, hlc, _, hm, _, hcell⟩
    · cases e
      exact ⟨[], none, 0, rfl, ⟨rfl, fun h => absurd h (Nat.lt_irrefl _)⟩, Nat.le_refl _⟩
    · cases e
      have hml : len ≤ m := by rw [hm]; split <;> omega
      have hlen : ((List.range len).map fun i => (Sx i).data.toList).length = len := by simp
      refine ⟨(List.range len).map fun i => (Sx i).data.toList, some a, cap, by rw [hlen], ?_, by rw [hlen]; exact hlc⟩
      rw [hlen]
      refine row_of_cells (by rw [strs_length, hlen]) (fun i hi => ?_)
      rw [(hcell i (by omega)).1]
      simp [strs, hi]
  have hK : ∃ (kds : List Int) (pK : Option Addr) (cK : Nat), v3 = .slice pK kds.length cK ∧ RowAt w w.heap.size pK kds.length (kds.map (Value.int .i64)) ∧ kds.length ≤ cK := by
    rcases open_ints (k := .i64) Tryd.underlying28 Tryd.underlying3 k5 g3 with ⟨e, _⟩ | ⟨a, len, cap, zs, e, _, hlc, _, hzl, _, hcell, _⟩
    · cases e
      exact ⟨[], none, 0, rfl, ⟨rfl, fun h => absurd h (Nat.lt_irrefl _)⟩, Nat.le_refl _⟩
    · cases e
      have hml : len ≤ zs.length := by rw [hzl]; split <;> omega
      have hlen : (zs.take len).length = len := by rw [List.length_take]; omega
      refine ⟨zs.take len, some a, cap, by rw [hlen], ?_, by rw [hlen]; exact hlc⟩
      rw [hlen]
      refine row_of_cells (by rw [List.length_map, hlen]) (fun i hi => ?_)
      rw [hcell i (by omega), List.getElem?_map, List.getElem?_take, if_pos hi, List.getElem?_eq_getElem (by omega)]
      simp [List.getD, show i < zs.length by omega]
  obtain ⟨nms, pN, cN, rfl, r1, r3⟩ := hN
  obtain ⟨kds, pK, cK, rfl, r2, r4⟩ := hK
  exact ⟨⟨z, s.data.toList, nms, kds⟩, pN, cN, pK, cK, by simp, r1, r2, r3, r4⟩
theorem cells_get {w : World} {base : Nat} {a : Addr} {c0 c1 c2 c3 : Value} (h : w.cells? base a 4 = some [c0, c1, c2, c3]) : w.cell? (a.add 0) = some c0 ∧ w.cell? (a.add 1) = some c1 ∧ w.cell? (a.add 2) = some c2 ∧ w.cell? (a.add 3) = some c3 := by
  unfold World.cells? at h
  split at h
  · rw [show List.range 4 = [0, 1, 2, 3] from rfl] at h
    simp only [List.mapM_cons, List.mapM_nil, Option.bind_eq_bind, Option.pure_def] at h
    cases e0 : w.cell? (a.add 0) with
    | none => simp [e0] at h
    | some x0 =>
      cases e1 : w.cell? (a.add 1) with
      | none => simp [e0, e1] at h
      | some x1 =>
        cases e2 : w.cell? (a.add 2) with
        | none => simp [e0, e1, e2] at h
        | some x2 =>
          cases e3 : w.cell? (a.add 3) with
          | none => simp [e0, e1, e2, e3] at h
          | some x3 =>
            simp [e0, e1, e2, e3] at h
            obtain ⟨rfl, rfl, rfl, rfl⟩ := h
            exact ⟨rfl, rfl, rfl, rfl⟩
  · cases h
/-- Nodes that came in. -/
theorem open_nodes {H : Type} {enc : TypeId × Value → H} {w : World} {spare : Nat → Bool} {held : Bool} {fuel : Nat} {a0 : Option Addr} {len0 cap0 : Nat} {x : DataW H × List MemPlace} (h : DataW.trod enc Tryd.prog w 0 spare held fuel 33 [.slice a0 len0 cap0] = some x) :
    ∃ gs : List Gn, gs.length = len0 ∧ GLies w a0 gs ∧ len0 ≤ cap0 := by
  rcases Go.Deep.open_slice Tryd.underlying33 h with ⟨e, _⟩ | ⟨a, len, cap, m, n, D, Pl, e, _, hlc, _, hm, _, hel⟩
  · cases e
    exact ⟨[], rfl, fun i n hi => by simp at hi, Nat.le_refl _⟩
  · cases e
    rw [cells4.1] at hel
    have hml : len0 ≤ m := by rw [hm]; split <;> omega
    have each : ∀ i, i < len0 → ∃ g : Gn, ∃ b o, a = ⟨b, o, none⟩ ∧ b < w.heap.size ∧ GAt w b (o + i * 4) g := fun i hi => by
      obtain ⟨cs, hc, ht⟩ := hel i (by omega)
      obtain ⟨g, pN, cN, pK, cK, rfl, r1, r2, r3, r4⟩ := open_node ht
      obtain ⟨k0, k1, k2, k3⟩ := cells_get hc
      obtain ⟨b, o, sp⟩ := a
      have hsp : sp = none := by
        obtain ⟨cs', hc', ht'⟩ := hel 0 (by omega)
        obtain ⟨g', pN', cN', pK', cK', rfl, _⟩ := open_node ht'
        have := World.cell?_spot (cells_get hc').1
        simpa [Addr.add] using this
      subst hsp
      rw [Addr.add_mid, Addr.add_mid] at k0 k1 k2 k3
      rw [Nat.add_zero] at k0
      exact ⟨g, b, o, rfl, lt_of_cell k0, pN, cN, pK, cK, k0, k1, k2, k3, r1, r2, r3, r4⟩
    haveI : Inhabited Gn := ⟨⟨0, [], [], []⟩⟩
    obtain ⟨G, hG⟩ := Go.Deep.choose_lt each
    refine ⟨(List.range len0).map G, by simp, fun i g hi => ?_, hlc⟩
    have hi2 : i < len0 := by have := (List.getElem?_eq_some_iff.1 hi).1; simpa using this
    rw [List.getElem?_map, List.getElem?_range hi2] at hi
    cases hi
    obtain ⟨b, o, rfl, hb, hg⟩ := hG i hi2
    exact ⟨b, o, rfl, hb, hg⟩
end Go.Proofs.YtbobgebhdafciaaDoor
