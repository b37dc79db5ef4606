/-
  The document's reader of JSON: what it holds; bad, is, blank.
-/
import Derived.Test.YtbobgebhdafciabDoorJM
namespace Go.Proofs.YtbobgebhdafciabDoor
open Go.Shelf Go.RowKit
set_option linter.unusedVariables false
set_option linter.unusedSimpArgs false

/-- Bytes that came in at a slice; of an empty one's place nothing is known. -/
structure RestD (w : World) (g : Nat) (p : Option Addr) (c : Nat) (bs : Bs) : Prop where
  cap : bs.length ≤ c
  lies : Lib.BytesAt w p bs.length bs
  early : ∀ a, p = some a → 0 < bs.length → a.block < g ∧ a.spot = none
theorem RestD.keep {w w' : World} {g : Nat} {p : Option Addr} {c : Nat} {bs : Bs} (h : RestD w g p c bs) (hb : ∀ k, k < g → w'.heap[k]? = w.heap[k]?) : RestD w' g p c bs := by
  refine ⟨h.cap, fun h0 => ?_, h.early⟩
  obtain ⟨b, o, rfl, hc⟩ := h.lies h0
  exact ⟨b, o, rfl, fun i hi => by rw [← hc i hi]; exact World.cell?_of_block (w := w) (hb b (h.early _ rfl h0).1)⟩
theorem RestV.toD {w : World} {g : Nat} {p : Option Addr} {c : Nat} {bs : Bs} (h : RestV w g p c bs) : RestD w g p c bs := ⟨h.cap, h.lies, fun a ha _ => h.early a ha⟩
/-- What the document's reader's block holds. -/
def DC (bv : Value) (at_ deep : Nat) (nv : Value) (code : Nat) : Array Value := #[bv, .int .i64 at_, .int .i64 deep, nv, .int .i64 code]
/-- The document's reader in block g. -/
def DAt (w : World) (g : Nat) (bv : Value) (at_ deep : Nat) (nv : Value) (code : Nat) : Prop := w.heap[g]? = some (.cells (DC bv at_ deep nv code) 57 (0, 0))
theorem DAt.lt {w : World} {g : Nat} {bv nv : Value} {a d c : Nat} (h : DAt w g bv a d nv c) : g < w.heap.size := (Array.getElem?_eq_some_iff.1 h).1
theorem DAt.b {w : World} {g : Nat} {bv nv : Value} {a d c : Nat} (h : DAt w g bv a d nv c) : w.cell? ⟨g, 0, none⟩ = some bv := by rw [cell_of_row w g 0 _ _ _ h]; rfl
theorem DAt.pos {w : World} {g : Nat} {bv nv : Value} {a d c : Nat} (h : DAt w g bv a d nv c) : w.cell? ⟨g, 1, none⟩ = some (.int .i64 a) := by rw [cell_of_row w g 1 _ _ _ h]; rfl
theorem DAt.deep {w : World} {g : Nat} {bv nv : Value} {a d c : Nat} (h : DAt w g bv a d nv c) : w.cell? ⟨g, 2, none⟩ = some (.int .i64 d) := by rw [cell_of_row w g 2 _ _ _ h]; rfl
theorem DAt.nodes {w : World} {g : Nat} {bv nv : Value} {a d c : Nat} (h : DAt w g bv a d nv c) : w.cell? ⟨g, 3, none⟩ = some nv := by rw [cell_of_row w g 3 _ _ _ h]; rfl
theorem DAt.code {w : World} {g : Nat} {bv nv : Value} {a d c : Nat} (h : DAt w g bv a d nv c) : w.cell? ⟨g, 4, none⟩ = some (.int .i64 c) := by rw [cell_of_row w g 4 _ _ _ h]; rfl
theorem DAt.frozen {w : World} {g : Nat} {bv nv : Value} {a d c : Nat} (h : DAt w g bv a d nv c) (j : Nat) : w.frozen? ⟨g, j, none⟩ = false := frozen_of_row w g j _ _ h
theorem DAt.setPos {w : World} {g : Nat} {bv nv : Value} {a d c : Nat} (h : DAt w g bv a d nv c) (a' : Nat) : DAt (w.setCell ⟨g, 1, none⟩ (.int .i64 a')) g bv a' d nv c := by unfold DAt; rw [heap_set_at w g 1 _ _ _ _ h]; rfl
theorem DAt.setDeep {w : World} {g : Nat} {bv nv : Value} {a d c : Nat} (h : DAt w g bv a d nv c) (d' : Nat) : DAt (w.setCell ⟨g, 2, none⟩ (.int .i64 d')) g bv a d' nv c := by unfold DAt; rw [heap_set_at w g 2 _ _ _ _ h]; rfl
theorem DAt.setNodes {w : World} {g : Nat} {bv nv : Value} {a d c : Nat} (h : DAt w g bv a d nv c) (v : Value) : DAt (w.setCell ⟨g, 3, none⟩ v) g bv a d v c := by unfold DAt; rw [heap_set_at w g 3 _ _ _ _ h]; rfl
theorem DAt.setCode {w : World} {g : Nat} {bv nv : Value} {a d c : Nat} (h : DAt w g bv a d nv c) (c' : Nat) : DAt (w.setCell ⟨g, 4, none⟩ (.int .i64 c')) g bv a d nv c' := by unfold DAt; rw [heap_set_at w g 4 _ _ _ _ h]; rfl
theorem DAt.same {w w' : World} {g : Nat} {bv nv : Value} {a d c : Nat} (h : DAt w g bv a d nv c) (hb : w'.heap[g]? = w.heap[g]?) : DAt w' g bv a d nv c := by unfold DAt; rw [hb]; exact h
/-- The document's reader: all bytes B, of them ys left. -/
def Dr (w : World) (g : Nat) (B ys : Bs) (deep : Nat) (nv : Value) (code : Nat) : Prop := ∃ pre p c, B = pre ++ ys ∧ DAt w g (.slice p B.length c) pre.length deep nv code ∧ RestD w g p c B ∧ B.length ≤ 4096
theorem Dr.lt {w : World} {g : Nat} {B ys : Bs} {d : Nat} {nv : Value} {c : Nat} (h : Dr w g B ys d nv c) : g < w.heap.size := by obtain ⟨_, _, _, _, h1, _⟩ := h; exact h1.lt
theorem Dr.keep {w w' : World} {g : Nat} {B ys : Bs} {d : Nat} {nv : Value} {c : Nat} (h : Dr w g B ys d nv c) (hb : Below (g + 1) w w') : Dr w' g B ys d nv c := by
  obtain ⟨pre, p, k, h0, h1, h2, h3⟩ := h
  exact ⟨pre, p, k, h0, h1.same (hb.block g (by omega)), h2.keep (fun j hj => hb.block j (by omega)), h3⟩
theorem Dr.below {w w' : World} {g : Nat} {B ys : Bs} {d : Nat} {nv : Value} {c : Nat} (h : Dr w g B ys d nv c) (hb : Below w.heap.size w w') : Dr w' g B ys d nv c := h.keep (hb.mono h.lt)
/-- Further on. -/
theorem Dr.step {w : World} {g : Nat} {B ys zs : Bs} {d : Nat} {nv : Value} {c : Nat} {pre mid : Bs} {p : Option Addr} {k : Nat} (h0 : B = pre ++ ys) (hy : ys = mid ++ zs) (h1 : DAt w g (.slice p B.length k) pre.length d nv c) (h2 : RestD w g p k B) (h3 : B.length ≤ 4096) (n : Int) (hn : n = ((pre.length + mid.length : Nat) : Int)) : Dr (w.setCell ⟨g, 1, none⟩ (.int .i64 n)) g B zs d nv c := by
  subst hn
  refine ⟨pre ++ mid, p, k, by rw [h0, hy, List.append_assoc], ?_, h2.keep (fun j hj => Below.heap_setCell _ _ _ _ (by show j ≠ g; omega)), h3⟩
  rw [List.length_append]
  exact h1.setPos _
theorem below_drewN (w : World) (n : Nat) : Below w.heap.size w (w.drewN n) := by
  refine ⟨?_, ?_, ?_, ?_, fun k _ => ?_⟩ <;> simp [World.drewN]
theorem bytes_at {w : World} {g : Nat} {p : Option Addr} {k : Nat} {B pre xs : Bs} {c : UInt8} (h2 : RestD w g p k B) (h0 : B = pre ++ c :: xs) : ∃ b off, p = some ⟨b, off, none⟩ ∧ b < g ∧ w.cell? ⟨b, off + pre.length, none⟩ = some (.int .u8 (c.toNat : Int)) := by
  obtain ⟨b, off, rfl, hc⟩ := h2.lies (by rw [h0]; simp; omega)
  refine ⟨b, off, rfl, (h2.early _ rfl (by rw [h0]; simp; omega)).1, ?_⟩
  rw [hc pre.length (by rw [h0]; simp), h0]
  simp [List.getD]

set_option maxRecDepth 100000 in
set_option maxHeartbeats 1000000 in
/-- is. -/
theorem dIs (cc : UInt8) (g : Nat) (B ys : Bs) (d : Nat) (nv : Value) (code : Nat) (w : World) (h : Dr w g B ys d nv code) :
    Calls Tryd.prog 35 #[.pointer (some ⟨g, 0, none⟩), .int .u8 cc.toNat] w fun e w' => e = .returned (.bool ([cc].isPrefixOf ys)) ∧ ∃ n, w' = w.drewN n := by
  obtain ⟨pre, p, k, h0, h1, h2, h3⟩ := h
  have e0 := h1.b
  have e1 := h1.pos
  obtain ⟨n, hn⟩ : ∃ n, B.length = n := ⟨_, rfl⟩
  obtain ⟨a, ha⟩ : ∃ a, pre.length = a := ⟨_, rfl⟩
  rw [hn] at e0
  rw [ha] at e1
  cases ys with
  | nil =>
    have hna : n = a := by rw [← hn, ← ha, h0]; simp
    subst hna
    have hd : decide ((n : Int) < (n : Int)) = false := by simp
    go_enter Tryd.func35, Tryd.ntmps35
    go_wp2_with fail
    go_quiet (fail)
    go_wp2_with fail
    go_ret
    exact ⟨rfl, _, rfl⟩
  | cons c xs =>
    obtain ⟨b, off, rfl, hbg, hc⟩ := bytes_at h2 h0
    rw [ha] at hc
    have hlt : (a : Int) < (n : Int) := by
      have : n = a + (xs.length + 1) := by rw [← hn, ← ha, h0]; simp
      omega
    have ha0 : (0 : Int) ≤ (a : Int) := by omega
    obtain ⟨C, hC⟩ : ∃ C, c.toNat = C := ⟨_, rfl⟩
    obtain ⟨D, hD⟩ : ∃ D, cc.toNat = D := ⟨_, rfl⟩
    rw [hC] at hc
    rw [hD]
    have hR : [cc].isPrefixOf (c :: xs) = ((C : Int) == (D : Int)) := by
      rw [← hC, ← hD]
      simp only [List.isPrefixOf, Bool.and_true]
      rw [Bool.eq_iff_iff, beq_iff_eq, beq_iff_eq]
      constructor
      · intro e; rw [e]
      · intro e; exact UInt8.toNat_inj.1 (by omega)
    rw [hR]
    clear hR hn ha h1 h2 h0 hC hD
    go_enter Tryd.func35, Tryd.ntmps35
    go_wp2_with fail
    go_quiet (fail)
    go_wp2_with fail
    go_ret
    exact ⟨rfl, _, rfl⟩
end Go.Proofs.YtbobgebhdafciabDoor
