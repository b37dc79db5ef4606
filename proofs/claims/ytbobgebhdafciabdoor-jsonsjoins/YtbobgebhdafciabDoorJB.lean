/-
  The reader of JSON in memory; what becomes of the rest of the world.
-/
import Derived.Test.YtbobgebhdafciabDoorJN
import Derived.Test.YtbobgebhdafciabDoorRows
import Derived.WalkSpells
import Derived.WalkLawsBesides
import Derived.Lib.ConvBytes
import Derived.Shelf.Bytes.SlTrimWalks
import Derived.Shelf.Bytes.SlSmallAll
import Derived.Deep.AppendLies
import Derived.Deep.RegionLaw
import Derived.Deep.QuietTactic
import Derived.BigQuiet
import Derived.Laws.NewBlocks
namespace Go.Proofs.YtbobgebhdafciabDoor
open Go.Shelf Go.RowKit Go.Lib
set_option linter.unusedVariables false
set_option linter.unusedSimpArgs false


/-- But for block g the world w' is as w was. -/
structure But (g : Nat) (w w' : World) : Prop where
  os : w'.os = w.os
  tape : w'.tape = w.tape
  output : w'.output = w.output
  size : w.heap.size ≤ w'.heap.size
  block : ∀ k, k < w.heap.size → k ≠ g → w'.heap[k]? = w.heap[k]?
theorem But.refl (g : Nat) (w : World) : But g w w := ⟨rfl, rfl, rfl, Nat.le_refl _, fun _ _ _ => rfl⟩
theorem But.trans {g : Nat} {a b c : World} (h : But g a b) (k : But g b c) : But g a c :=
  ⟨k.os.trans h.os, k.tape.trans h.tape, k.output.trans h.output, Nat.le_trans h.size k.size, fun i hi hg => (k.block i (Nat.lt_of_lt_of_le hi h.size) hg).trans (h.block i hi hg)⟩
theorem But.ofBelow {g : Nat} {w w' : World} (h : Below w.heap.size w w') : But g w w' := ⟨h.os, h.tape, h.output, h.size, fun k hk _ => h.block k hk⟩
theorem But.below {g B : Nat} {w w' : World} (h : But g w w') (hB : B ≤ g) (hw : B ≤ w.heap.size) : Below B w w' := ⟨h.os, h.tape, h.output, h.size, fun k hk => h.block k (by omega) (by omega)⟩
theorem But.setCell (g : Nat) (w : World) (j : Nat) (v : Value) : But g w (w.setCell ⟨g, j, none⟩ v) := ⟨rfl, rfl, rfl, by simp [World.setCell], fun k _ hk => Below.heap_setCell w ⟨g, j, none⟩ v k hk⟩
theorem But.cell {g : Nat} {w w' : World} (h : But g w w') {p : Addr} (hp : p.block < w.heap.size) (hg : p.block ≠ g) : w'.cell? p = w.cell? p := World.cell?_of_block (w := w) (h.block p.block hp hg)
theorem But.frozen {g : Nat} {w w' : World} (h : But g w w') {p : Addr} (hp : p.block < w.heap.size) (hg : p.block ≠ g) : w'.frozen? p = w.frozen? p := World.frozen?_of_block (w := w) (h.block p.block hp hg)

/-- Bytes at p, kept where their block is. -/
theorem bytesAt_keep {w w' : World} {p : Option Addr} {n : Nat} {bs : Bs} (h : Lib.BytesAt w p n bs) {g : Nat} (hg : ∀ a, p = some a → a.block < g) (hb : ∀ k, k < g → w'.heap[k]? = w.heap[k]?) : Lib.BytesAt w' p n bs := fun h0 => by
  obtain ⟨b, o, rfl, hc⟩ := h h0
  exact ⟨b, o, rfl, fun i hi => by rw [← hc i hi]; exact World.cell?_of_block (w := w) (hb b (hg _ rfl))⟩
theorem bytesAt_in {w : World} {p : Option Addr} {n : Nat} {bs : Bs} (h : Lib.BytesAt w p n bs) (hn : bs.length = n) : Lib.BytesIn w p n (bs.map fun b => (b.toNat : Int)) := fun h0 => by
  obtain ⟨b, o, rfl, hc⟩ := h h0
  refine ⟨b, o, rfl, fun i hi => ?_⟩
  rw [hc i hi]
  simp [List.getD, hn, hi]
theorem bytesOf_map (bs : Bs) : Lib.bytesOf (bs.map fun b => (b.toNat : Int)) = bs := by
  simp [Lib.bytesOf, Function.comp_def]
theorem bytesAt_drop {w : World} {p : Option Addr} {n : Nat} {bs : Bs} (h : Lib.BytesAt w p n bs) (hn : bs.length = n) (c j : Nat) (hj : j ≤ n) (hc : n ≤ c) : Lib.BytesAt w (if c = j then p else p.map (fun x => x.add j)) (n - j) (bs.drop j) := fun h0 => by
  obtain ⟨b, o, rfl, hcl⟩ := h (by omega)
  rw [if_neg (by omega)]
  refine ⟨b, o + j, by simp [Addr.add], fun i hi => ?_⟩
  rw [show o + j + i = o + (j + i) by omega, hcl (j + i) (by omega)]
  simp [List.getD]

/-- The cells of a reader. -/
def RC (rv nv : Value) (o : Nat) : Array Value := #[rv, nv, .int .i64 o]
/-- A reader in block g. -/
def RdAt (w : World) (g : Nat) (rv nv : Value) (o : Nat) : Prop := w.heap[g]? = some (.cells (RC rv nv o) 43 (0, 0))
theorem RdAt.lt {w : World} {g : Nat} {rv nv : Value} {o : Nat} (h : RdAt w g rv nv o) : g < w.heap.size := (Array.getElem?_eq_some_iff.1 h).1
theorem RdAt.rest {w : World} {g : Nat} {rv nv : Value} {o : Nat} (h : RdAt w g rv nv o) : w.cell? ⟨g, 0, none⟩ = some rv := by rw [cell_of_row w g 0 _ _ _ h]; rfl
theorem RdAt.nodes {w : World} {g : Nat} {rv nv : Value} {o : Nat} (h : RdAt w g rv nv o) : w.cell? ⟨g, 1, none⟩ = some nv := by rw [cell_of_row w g 1 _ _ _ h]; rfl
theorem RdAt.open {w : World} {g : Nat} {rv nv : Value} {o : Nat} (h : RdAt w g rv nv o) : w.cell? ⟨g, 2, none⟩ = some (.int .i64 o) := by rw [cell_of_row w g 2 _ _ _ h]; rfl
theorem RdAt.frozen {w : World} {g : Nat} {rv nv : Value} {o : Nat} (h : RdAt w g rv nv o) (j : Nat) : w.frozen? ⟨g, j, none⟩ = false := frozen_of_row w g j _ _ h
theorem RdAt.setRest {w : World} {g : Nat} {rv nv : Value} {o : Nat} (h : RdAt w g rv nv o) (v : Value) : RdAt (w.setCell ⟨g, 0, none⟩ v) g v nv o := by
  unfold RdAt; rw [heap_set_at w g 0 _ _ _ _ h]; rfl
theorem RdAt.setNodes {w : World} {g : Nat} {rv nv : Value} {o : Nat} (h : RdAt w g rv nv o) (v : Value) : RdAt (w.setCell ⟨g, 1, none⟩ v) g rv v o := by
  unfold RdAt; rw [heap_set_at w g 1 _ _ _ _ h]; rfl
theorem RdAt.setOpen {w : World} {g : Nat} {rv nv : Value} {o : Nat} (h : RdAt w g rv nv o) (o' : Nat) : RdAt (w.setCell ⟨g, 2, none⟩ (.int .i64 o')) g rv nv o' := by
  unfold RdAt; rw [heap_set_at w g 2 _ _ _ _ h]; rfl
theorem RdAt.same {w w' : World} {g : Nat} {rv nv : Value} {o : Nat} (h : RdAt w g rv nv o) (hb : w'.heap[g]? = w.heap[g]?) : RdAt w' g rv nv o := by unfold RdAt; rw [hb]; exact h

/-- The slice of the bytes that are left. -/
structure RestV (w : World) (g : Nat) (p : Option Addr) (c : Nat) (bs : Bs) : Prop where
  cap : bs.length ≤ c
  big : c ≤ 9223372036854775807
  lies : Lib.BytesAt w p bs.length bs
  early : ∀ a, p = some a → a.block < g ∧ a.spot = none
  nil : p = none → c = 0
theorem RestV.keep {w w' : World} {g : Nat} {p : Option Addr} {c : Nat} {bs : Bs} (h : RestV w g p c bs) (hb : ∀ k, k < g → w'.heap[k]? = w.heap[k]?) : RestV w' g p c bs := ⟨h.cap, h.big, bytesAt_keep h.lies (fun a ha => (h.early a ha).1) hb, h.early, h.nil⟩
theorem RestV.empty (w : World) (g : Nat) : RestV w g none 0 [] := ⟨Nat.le_refl _, by omega, fun h => (by simp at h), fun _ h => (by cases h), fun _ => rfl⟩
theorem RestV.drop {w : World} {g : Nat} {p : Option Addr} {c : Nat} {bs : Bs} (h : RestV w g p c bs) (j : Nat) (hj : j ≤ bs.length) : RestV w g (if c = j then p else p.map (fun x => x.add j)) (c - j) (bs.drop j) := by
  have hc := h.cap
  have hb := h.big
  refine ⟨by rw [List.length_drop]; omega, by omega, ?_, ?_, ?_⟩
  · rw [List.length_drop]; exact bytesAt_drop h.lies rfl c j hj hc
  · intro a ha
    split at ha
    · exact h.early a ha
    · cases p with
      | none => cases ha
      | some q => simp at ha; subst ha; have := h.early q rfl; unfold Addr.add; split <;> simp_all
  · intro hp
    have : p = none := by
      split at hp
      · exact hp
      · cases p with
        | none => rfl
        | some q => simp at hp
    have := h.nil this
    omega
/-- A reader with these bytes left. -/
def Rd (w : World) (g : Nat) (bs : Bs) (nv : Value) (o : Nat) : Prop := ∃ p c, RdAt w g (.slice p bs.length c) nv o ∧ RestV w g p c bs
theorem Rd.lt {w : World} {g : Nat} {bs : Bs} {nv : Value} {o : Nat} (h : Rd w g bs nv o) : g < w.heap.size := by obtain ⟨p, c, h1, _⟩ := h; exact h1.lt
theorem Rd.keep {w w' : World} {g : Nat} {bs : Bs} {nv : Value} {o : Nat} (h : Rd w g bs nv o) (hb : Below (g + 1) w w') : Rd w' g bs nv o := by
  obtain ⟨p, c, h1, h2⟩ := h
  exact ⟨p, c, h1.same (hb.block g (by omega)), h2.keep (fun k hk => hb.block k (by omega))⟩
theorem Rd.below {w w' : World} {g : Nat} {bs : Bs} {nv : Value} {o : Nat} (h : Rd w g bs nv o) (hb : Below w.heap.size w w') : Rd w' g bs nv o := h.keep (hb.mono h.lt)
end Go.Proofs.YtbobgebhdafciabDoor
