/-
  The reader's values: the state.
-/
import Derived.Test.YtbobgebhdafciabDoorJG
import Derived.Deep.RegionLaw
namespace Go.Proofs.YtbobgebhdafciabDoor
open Go.Shelf Go.RowKit
set_option linter.unusedVariables false
set_option linter.unusedSimpArgs false

/-- The reader: bytes that are left, nodes, open brackets. -/
def St (w : World) (g : Nat) (bs : Bs) (ns : List Nd) (o : Nat) : Prop := ∃ nv hs, Rd w g bs nv o ∧ Nodes w (g + 1) nv hs ns ∧ Tabs w
/-- A reader that has found a fault. -/
def Fl (w : World) (g : Nat) (o : Nat) : Prop := ∃ bs nv, Rd w g bs nv o
/-- The library's tables lie ahead of the reader. -/
def Gl (g : Nat) : Prop := ∀ k, k = 0 ∨ k = 1 → k < g

theorem Nodes.but {w w' : World} {g : Nat} {nv : Value} {hs : List Hd} {ns : List Nd} (h : Nodes w (g + 1) nv hs ns) (hb : But g w w') : Nodes w' (g + 1) nv hs ns := h.keep (fun k h1 h2 => hb.block k h2 (by omega))
theorem Tabs.low {w w' : World} {g : Nat} (h : Tabs w) (hG : Gl g) (hb : Below g w w') : Tabs w' := h.keep (fun k hk => hb.block k (hG k hk))
theorem Rd.nodes {w : World} {g : Nat} {bs : Bs} {nv : Value} {o : Nat} (h : Rd w g bs nv o) : w.cell? ⟨g, 1, none⟩ = some nv := by obtain ⟨p, c, h1, _⟩ := h; exact h1.nodes
theorem Rd.frz {w : World} {g : Nat} {bs : Bs} {nv : Value} {o : Nat} (h : Rd w g bs nv o) (j : Nat) : w.frozen? ⟨g, j, none⟩ = false := by obtain ⟨p, c, h1, _⟩ := h; exact h1.frozen j
theorem Rd.opn {w : World} {g : Nat} {bs : Bs} {nv : Value} {o : Nat} (h : Rd w g bs nv o) : w.cell? ⟨g, 2, none⟩ = some (.int .i64 o) := by obtain ⟨p, c, h1, _⟩ := h; exact h1.open
theorem Nodes.form {w : World} {base : Nat} {nv : Value} {hs : List Hd} {ns : List Nd} (h : Nodes w base nv hs ns) (h0 : 0 < ns.length) : ∃ gn cap, nv = .slice (some ⟨gn, 0, none⟩) ns.length cap ∧ base ≤ gn ∧ gn < w.heap.size := by
  have := h.row.form (by rw [h.len]; exact h0)
  rwa [h.len] at this
theorem set_far {w : World} {a p : Addr} (v : Value) (h : p.block ≠ a.block) : (w.setCell a v).cell? p = w.cell? p := World.cell?_of_block (w := w) (Below.heap_setCell w a v p.block h)
theorem infoInt : (Tryd.prog.info? 3).map (fun i => (i.zero, i.size, i.bytes)) = some (some (.int .i64 0), 1, 8) := by kernel_rfl
theorem infoStr : (Tryd.prog.info? 9).map (fun i => (i.zero, i.size, i.bytes)) = some (some (.string ⟨#[]⟩), 1, 16) := by kernel_rfl
theorem infoNode : (Tryd.prog.info? 38).map (fun i => (i.zero, i.size, i.bytes)) = some (some (.agg #[.int .u8 0, .string ⟨#[]⟩, .slice none 0 0, .slice none 0 0]), 4, 72) := by kernel_rfl

/-- What becomes of the rest: nothing below the reader is turned, and no box of a reader's address. -/
def Fr (g : Nat) (w w' : World) : Prop := Below g w w' ∧ ∀ (k : Nat) (cs : Array Value) (fr : Nat × Nat), w.heap[k]? = some (Obj.cells cs 48 fr) → w'.heap[k]? = w.heap[k]?
theorem Fr.refl (g : Nat) (w : World) : Fr g w w := ⟨Below.refl _ _, fun _ _ _ _ => rfl⟩
theorem Fr.trans {g : Nat} {a b c : World} (h : Fr g a b) (k : Fr g b c) : Fr g a c := ⟨h.1.trans k.1, fun i cs fr hi => (k.2 i cs fr ((h.2 i cs fr hi).trans hi)).trans (h.2 i cs fr hi)⟩
theorem Fr.ofBut {g : Nat} {w w' : World} (h : But g w w') {bs : Bs} {nv : Value} {o : Nat} (hr : Rd w g bs nv o) : Fr g w w' := ⟨h.below (Nat.le_refl _) (Nat.le_of_lt hr.lt), fun k cs fr hk => h.block k (Array.getElem?_eq_some_iff.1 hk).1 (fun e => by
  obtain ⟨p, c, h1, _⟩ := hr
  subst e
  unfold RdAt at h1
  rw [h1] at hk
  cases hk)⟩
theorem Fr.ofBelow {g : Nat} {w w' : World} (h : Below w.heap.size w w') (hg : g ≤ w.heap.size) : Fr g w w' := ⟨h.mono hg, fun k cs fr hk => h.block k (Array.getElem?_eq_some_iff.1 hk).1⟩
/-- What value does. -/
def ValPost (f g o : Nat) (bs : Bs) (ns ns' : List Nd) (w : World) (e : Ending) (w' : World) : Prop :=
  Fr g w w' ∧ ((∃ new ys, valS f o ns.length bs = .ok (new, ys) ∧ e = .returned (.int .i64 0) ∧ St w' g ys (ns' ++ new) o ∧ ys.length ≤ bs.length ∧ (ns' ++ new).length ≤ 256) ∨ (∃ k : Nat, valS f o ns.length bs = .error k ∧ 0 < k ∧ k < 100 ∧ e = .returned (.int .i64 k) ∧ Fl w' g o))
def ValOK (f : Nat) : Prop := ∀ (g : Nat) (bs : Bs) (ns : List Nd) (o : Nat) (w : World), St w g bs ns o → Gl g → 2 * bs.length + 1 ≤ f → bs.length ≤ 4096 → o ≤ 8 → ns.length ≤ 256 →
  Calls Tryd.prog 11 #[.pointer (some ⟨g, 0, none⟩)] w (ValPost f g o bs ns ns w)

/-- What element does. -/
def ElemOK (f : Nat) : Prop := ∀ (g i : Nat) (bs : Bs) (ns : List Nd) (nd : Nd) (o : Nat) (w : World), St w g bs ns o → Gl g → 2 * bs.length + 1 ≤ f → bs.length ≤ 4096 → o ≤ 8 → ns.length ≤ 256 → ns[i]? = some nd → nd.kids.length ≤ 256 →
  Calls Tryd.prog 18 #[.pointer (some ⟨g, 0, none⟩), .int .i64 i] w (ValPost f g o bs ns (ns.set i { nd with kids := nd.kids ++ [ns.length] }) w)
end Go.Proofs.YtbobgebhdafciabDoor
