/-
  The document's reader in memory.
-/
import Derived.Test.YtfmldcibhllpcaaDoorCZ
namespace Go.Proofs.YtfmldcibhllpcaaDoor
open Go.Shelf Go.RowKit
set_option linter.unusedVariables false
set_option linter.unusedSimpArgs false

/-- The reader's cells in block g. -/
def RrAt (w : World) (g : Nat) (rv : Value) (t o : Nat) : Prop := w.heap[g]? = some (.cells #[rv, .int .i64 (t : Int), .int .i64 (o : Int)] 77 (0, 0))
theorem RrAt.lt {w : World} {g : Nat} {rv : Value} {t o : Nat} (h : RrAt w g rv t o) : g < w.heap.size := (Array.getElem?_eq_some_iff.1 h).1
theorem RrAt.rest {w : World} {g : Nat} {rv : Value} {t o : Nat} (h : RrAt w g rv t o) : w.cell? ⟨g, 0, none⟩ = some rv := by rw [cell_of_row w g 0 _ _ _ h]; rfl
theorem RrAt.items {w : World} {g : Nat} {rv : Value} {t o : Nat} (h : RrAt w g rv t o) : w.cell? ⟨g, 1, none⟩ = some (.int .i64 (t : Int)) := by rw [cell_of_row w g 1 _ _ _ h]; rfl
theorem RrAt.code {w : World} {g : Nat} {rv : Value} {t o : Nat} (h : RrAt w g rv t o) : w.cell? ⟨g, 2, none⟩ = some (.int .i64 (o : Int)) := by rw [cell_of_row w g 2 _ _ _ h]; rfl
theorem RrAt.frozen {w : World} {g : Nat} {rv : Value} {t o : Nat} (h : RrAt w g rv t o) (j : Nat) : w.frozen? ⟨g, j, none⟩ = false := frozen_of_row w g j _ _ h
theorem RrAt.setRest {w : World} {g : Nat} {rv : Value} {t o : Nat} (h : RrAt w g rv t o) (v : Value) : RrAt (w.setCell ⟨g, 0, none⟩ v) g v t o := by
  unfold RrAt; rw [heap_set_at w g 0 _ _ _ _ h]; rfl
theorem RrAt.setItems {w : World} {g : Nat} {rv : Value} {t o : Nat} (h : RrAt w g rv t o) (t' : Nat) : RrAt (w.setCell ⟨g, 1, none⟩ (.int .i64 (t' : Int))) g rv t' o := by
  unfold RrAt; rw [heap_set_at w g 1 _ _ _ _ h]; rfl
theorem RrAt.setCode {w : World} {g : Nat} {rv : Value} {t o : Nat} (h : RrAt w g rv t o) (o' : Nat) : RrAt (w.setCell ⟨g, 2, none⟩ (.int .i64 (o' : Int))) g rv t o' := by
  unfold RrAt; rw [heap_set_at w g 2 _ _ _ _ h]; rfl
theorem RrAt.same {w w' : World} {g : Nat} {rv : Value} {t o : Nat} (h : RrAt w g rv t o) (hb : w'.heap[g]? = w.heap[g]?) : RrAt w' g rv t o := by unfold RrAt; rw [hb]; exact h
/-- A reader with these bytes left. -/
def Rr (w : World) (g : Nat) (bs : Bs) (t o : Nat) : Prop := ∃ p c, RrAt w g (.slice p bs.length c) t o ∧ ByV w (fun b => b < g - 2) p c bs
theorem Rr.lt {w : World} {g : Nat} {bs : Bs} {t o : Nat} (h : Rr w g bs t o) : g < w.heap.size := by obtain ⟨p, c, h1, _⟩ := h; exact h1.lt
theorem Rr.keep {w w' : World} {g : Nat} {bs : Bs} {t o : Nat} (h : Rr w g bs t o) (hb : Below (g + 1) w w') : Rr w' g bs t o := by
  obtain ⟨p, c, h1, h2⟩ := h
  exact ⟨p, c, h1.same (hb.block g (by omega)), h2.keep (fun k hk _ => hb.block k (by omega))⟩
theorem Rr.below {w w' : World} {g : Nat} {bs : Bs} {t o : Nat} (h : Rr w g bs t o) (hb : Below w.heap.size w w') : Rr w' g bs t o := h.keep (hb.mono h.lt)
theorem Rr.frz {w : World} {g : Nat} {bs : Bs} {t o : Nat} (h : Rr w g bs t o) (j : Nat) : w.frozen? ⟨g, j, none⟩ = false := by obtain ⟨p, c, h1, _⟩ := h; exact h1.frozen j
theorem Rr.its {w : World} {g : Nat} {bs : Bs} {t o : Nat} (h : Rr w g bs t o) : w.cell? ⟨g, 1, none⟩ = some (.int .i64 (t : Int)) := by obtain ⟨p, c, h1, _⟩ := h; exact h1.items
theorem Rr.code {w : World} {g : Nat} {bs : Bs} {t o : Nat} (h : Rr w g bs t o) : w.cell? ⟨g, 2, none⟩ = some (.int .i64 (o : Int)) := by obtain ⟨p, c, h1, _⟩ := h; exact h1.code
theorem Rr.setItems {w : World} {g : Nat} {bs : Bs} {t o : Nat} (h : Rr w g bs t o) (t' : Nat) : Rr (w.setCell ⟨g, 1, none⟩ (.int .i64 (t' : Int))) g bs t' o := by
  obtain ⟨p, c, h1, h2⟩ := h
  exact ⟨p, c, h1.setItems t', h2.keep (fun k hk _ => Below.heap_setCell _ _ _ _ (by show k ≠ g; omega))⟩
theorem Rr.setCode {w : World} {g : Nat} {bs : Bs} {t o : Nat} (h : Rr w g bs t o) (o' : Nat) : Rr (w.setCell ⟨g, 2, none⟩ (.int .i64 (o' : Int))) g bs t o' := by
  obtain ⟨p, c, h1, h2⟩ := h
  exact ⟨p, c, h1.setCode o', h2.keep (fun k hk _ => Below.heap_setCell _ _ _ _ (by show k ≠ g; omega))⟩
theorem Rr.slot {w w' : World} {g r : Nat} {bs : Bs} {t o : Nat} (h : Rr w g bs t o) (hb : But r w w') (hr : g < r) : Rr w' g bs t o := by
  obtain ⟨p, c, h1, h2⟩ := h
  exact ⟨p, c, h1.same (hb.block g h1.lt (by omega)), h2.keep (fun k hk hlt => hb.block k hlt (by omega))⟩
theorem Rr.low {w w' : World} {g s0 : Nat} {bs : Bs} {t o : Nat} (h : Rr w g bs t o) (hb : ∀ k, k < s0 → w'.heap[k]? = w.heap[k]?) (hg : g < s0) : Rr w' g bs t o := by
  obtain ⟨p, c, h1, h2⟩ := h
  exact ⟨p, c, h1.same (hb g hg), h2.keep (fun k hk _ => hb k (by omega))⟩
set_option maxRecDepth 100000 in
set_option maxHeartbeats 1000000 in
/-- bad, where nothing was bad. -/
theorem rbad_any (g k : Nat) (bs : Bs) (t : Nat) (w : World) (h : Rr w g bs t 0) (hk : k < 100) :
    Calls Tryd.prog 53 #[.pointer (some ⟨g, 0, none⟩), .int .i64 (k : Int)] w fun e w' => e = .returned (.tuple #[]) ∧ But g w w' ∧ Rr w' g bs t k := by
  have c2 := h.code
  have f2 := h.frz 2
  have hkI : (k : Int) < 100 := by omega
  have HH : Hid (Rr (w.setCell ⟨g, 2, none⟩ (.int .i64 (k : Int))) g bs t k) := h.setCode k
  go_enter Tryd.func53, Tryd.ntmps53
  go_wp2
  go_end0
  exact ⟨rfl, But.setCell g w 2 _, HH.out⟩
end Go.Proofs.YtfmldcibhllpcaaDoor
