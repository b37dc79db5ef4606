/-
  A hash in memory: its cells, what is read and written of them.
-/
import Derived.Test.YtclejcjbnmgaiaaShaL
import Derived.Laws.CopyRow
namespace Go.Proofs.Ytclejcjbnmgaiaa
open Go.RowKit
set_option linter.unusedVariables false
set_option linter.unusedSimpArgs false

/-- But for block g the world w' is as w was. -/
structure But (g : Nat) (w w' : World) : Prop where
  os : w'.os = w.os
  tape : w'.tape = w.tape
  output : w'.output = w.output
  size : w.heap.size ≤ w'.heap.size
  block : ∀ k, k < w.heap.size → k ≠ g → w'.heap[k]? = w.heap[k]?
theorem But.refl (g : Nat) (w : World) : But g w w := ⟨rfl, rfl, rfl, Nat.le_refl _, fun _ _ _ => rfl⟩
theorem But.trans {g : Nat} {a b c : World} (h : But g a b) (k : But g b c) : But g a c :=
  ⟨k.os.trans h.os, k.tape.trans h.tape, k.output.trans h.output, Nat.le_trans h.size k.size, fun i hi hg => (k.block i (Nat.lt_of_lt_of_le hi h.size) hg).trans (h.block i hi hg)⟩
theorem But.ofBelow {g : Nat} {w w' : World} (h : Below w.heap.size w w') : But g w w' := ⟨h.os, h.tape, h.output, h.size, fun k hk _ => h.block k hk⟩
theorem But.below {g B : Nat} {w w' : World} (h : But g w w') (hB : B ≤ g) (hw : B ≤ w.heap.size) : Below B w w' := ⟨h.os, h.tape, h.output, h.size, fun k hk => h.block k (by omega) (by omega)⟩
theorem But.setRow (g : Nat) (w : World) (cs : Array Value) : But g w (w.setRow g cs) := ⟨rfl, rfl, rfl, by simp, fun k _ hk => setRow_other w g k cs hk⟩
theorem But.setCell (g : Nat) (w : World) (j : Nat) (v : Value) : But g w (w.setCell ⟨g, j, none⟩ v) := ⟨rfl, rfl, rfl, by simp [World.setCell], fun k _ hk => heap_setCell_other w ⟨g, j, none⟩ k v hk⟩
theorem But.drewN (g : Nat) (w : World) (n : Nat) : But g w (w.drewN n) := But.ofBelow (Drew.below ⟨n, rfl⟩ _)
theorem But.row {g : Nat} {w w' : World} (h : But g w w') {e : TypeId} {k : IntKind} {j : Nat} {xs : List Int} (hr : Row e k w j xs) (hj : j ≠ g) : Row e k w' j xs := by
  unfold Row
  rw [h.block j hr.lt hj]
  exact hr
theorem But.lies {g : Nat} {w w' : World} (h : But g w w') {k : IntKind} {ao : Option Addr} {len : Nat} {xs : List Int} (hl : Lies k w ao len xs) (hj : ∀ b off s, ao = some ⟨b, off, s⟩ → b ≠ g) : Lies k w' ao len xs := by
  refine ⟨hl.1, ?_⟩
  rcases hl.2 with h0 | ⟨b, off, e, hlt, hc⟩
  · exact .inl h0
  · refine .inr ⟨b, off, e, Nat.lt_of_lt_of_le hlt h.size, fun i hi => ?_⟩
    rw [← hc i hi]
    exact World.cell?_of_block (w := w) (h.block b hlt (hj b off none e))

/-- The cells of a hash. -/
def HC (n : Int) (ws rs : List Int) : List Value := Value.int .u64 n :: (ws.map (Value.int .u32) ++ rs.map (Value.int .u8))
theorem HC_length (n : Int) (ws rs : List Int) : (HC n ws rs).length = 1 + ws.length + rs.length := by simp [HC]; omega
theorem HC_word (n : Int) (ws rs : List Int) (j : Nat) (h : j < ws.length) : (HC n ws rs)[1 + j]? = some (.int .u32 (ws.getD j 0)) := by
  rw [Nat.add_comm]
  simp only [HC, List.getElem?_cons_succ]
  rw [List.getElem?_append_left (by simpa using h)]
  simp [List.getD, h]
theorem HC_rest (n : Int) (ws rs : List Int) (j : Nat) (h : j < rs.length) : (HC n ws rs)[1 + ws.length + j]? = some (.int .u8 (rs.getD j 0)) := by
  rw [show 1 + ws.length + j = (ws.length + j) + 1 by omega]
  simp only [HC, List.getElem?_cons_succ]
  rw [List.getElem?_append_right (by simp)]
  simp [List.getD, h]
theorem HC_words (n : Int) (ws rs vs : List Int) (h : vs.length = ws.length) : (HC n ws rs).take (1 + 0) ++ vs.map (Value.int .u32) ++ (HC n ws rs).drop (1 + 0 + (vs.map (Value.int .u32)).length) = HC n vs rs := by
  have e : 1 + 0 + (vs.map (Value.int .u32)).length = ws.length + 1 := by simp; omega
  rw [e]
  simp only [HC, Nat.add_zero, List.take_succ_cons, List.take_zero, List.drop_succ_cons]
  rw [List.drop_append_of_le_length (by simp), List.drop_eq_nil_of_le (by simp)]
  simp
theorem HC_over (n : Int) (ws rs cs : List Int) (o : Nat) (h : o + cs.length ≤ rs.length) : (HC n ws rs).take (1 + ws.length + o) ++ cs.map (Value.int .u8) ++ (HC n ws rs).drop (1 + ws.length + o + (cs.map (Value.int .u8)).length) = HC n ws (rs.take o ++ cs ++ rs.drop (o + cs.length)) := by
  rw [show 1 + ws.length + o = (ws.length + o) + 1 by omega]
  have e : ws.length + o + 1 + (cs.map (Value.int .u8)).length = (ws.length + (o + cs.length)) + 1 := by simp; omega
  rw [e]
  simp only [HC, List.take_succ_cons, List.drop_succ_cons, List.cons_append]
  congr 1
  have h1 : (ws.map (Value.int .u32)).length = ws.length := by simp
  rw [← h1, List.take_length_add_append, List.drop_length_add_append]
  simp

/-- The hash at block g: so many bytes, these words, these bytes. -/
structure HRow (w : World) (g : Nat) (n : Int) (ws rs : List Int) : Prop where
  blk : w.heap[g]? = some (.cells (HC n ws rs).toArray 47 (0, 0))
  lw : ws.length = 8
  lr : rs.length = 64
theorem HRow.lt {w : World} {g : Nat} {n : Int} {ws rs : List Int} (h : HRow w g n ws rs) : g < w.heap.size := (Array.getElem?_eq_some_iff.1 h.blk).1
theorem HRow.size {w : World} {g : Nat} {n : Int} {ws rs : List Int} (h : HRow w g n ws rs) : w.cell? ⟨g, 0, none⟩ = some (.int .u64 n) := by
  rw [cell_of_row w g 0 _ _ _ h.blk]; rfl
theorem HRow.word {w : World} {g : Nat} {n : Int} {ws rs : List Int} (h : HRow w g n ws rs) (j : Nat) (hj : j < 8) : w.cell? ⟨g, 1 + j, none⟩ = some (.int .u32 (ws.getD j 0)) := by
  rw [cell_of_row w g _ _ _ _ h.blk, List.getElem?_toArray]; exact HC_word _ _ _ _ (by rw [h.lw]; exact hj)
theorem HRow.byte {w : World} {g : Nat} {n : Int} {ws rs : List Int} (h : HRow w g n ws rs) (j : Nat) (hj : j < 64) : w.cell? ⟨g, 9 + j, none⟩ = some (.int .u8 (rs.getD j 0)) := by
  rw [cell_of_row w g _ _ _ _ h.blk, List.getElem?_toArray]
  have := HC_rest n ws rs j (by rw [h.lr]; exact hj)
  rw [h.lw] at this
  exact this
theorem HRow.frozen {w : World} {g : Nat} {n : Int} {ws rs : List Int} (h : HRow w g n ws rs) (j : Nat) : w.frozen? ⟨g, j, none⟩ = false := frozen_of_row w g j _ _ h.blk
theorem HRow.rest {w : World} {g : Nat} {n : Int} {ws rs : List Int} (h : HRow w g n ws rs) : Lies .u8 w (some ⟨g, 9, none⟩) 64 rs :=
  ⟨h.lr, .inr ⟨g, 9, rfl, h.lt, fun i hi => h.byte i hi⟩⟩
theorem HRow.but {w w' : World} {g g' : Nat} {n : Int} {ws rs : List Int} (h : HRow w g n ws rs) (hb : But g' w w') (hg : g ≠ g') : HRow w' g n ws rs := ⟨by rw [hb.block g h.lt hg]; exact h.blk, h.lw, h.lr⟩
theorem HRow.old {w w' : World} {g : Nat} {n : Int} {ws rs : List Int} (h : HRow w g n ws rs) {B : Nat} (hb : Below B w w') (hg : g < B) : HRow w' g n ws rs := ⟨by rw [hb.block g hg]; exact h.blk, h.lw, h.lr⟩
theorem HRow.drewN {w : World} {g : Nat} {n : Int} {ws rs : List Int} (h : HRow w g n ws rs) (m : Nat) : HRow (w.drewN m) g n ws rs := ⟨h.blk, h.lw, h.lr⟩
theorem HRow.setSize {w : World} {g : Nat} {n : Int} {ws rs : List Int} (h : HRow w g n ws rs) (m : Int) : HRow (w.setCell ⟨g, 0, none⟩ (.int .u64 m)) g m ws rs := by
  refine ⟨?_, h.lw, h.lr⟩
  rw [heap_setCell_same w g 0 _ _ _ h.blk]
  simp [HC]

/-- The words, read. -/
theorem HRow.load {P : Program} {w : World} {g : Nat} {n : Int} {ws rs : List Int} (h : HRow w g n ws rs) : (loadCellsFrom ⟨g, 1, none⟩ 0 8 #[]).run P w = .ok ((ws.map (Value.int .u32)).toArray) w := by
  have := run_loadCells_list (P := P) (w := w) ⟨g, 1, none⟩ (ws.map (Value.int .u32)) (fun j v hv => by
    have hj : j < 8 := by have := (List.getElem?_eq_some_iff.1 hv).1; rw [List.length_map, h.lw] at this; exact this
    rw [Addr.add_mid, h.word j hj]
    rw [← hv]
    simp [List.getD, show j < ws.length by rw [h.lw]; exact hj])
  rw [List.length_map, h.lw] at this
  exact this
/-- The words, written. -/
theorem HRow.store {P : Program} {w : World} {g : Nat} {n : Int} {ws rs : List Int} (h : HRow w g n ws rs) (vs : List Int) (hv : vs.length = 8) :
    (storeCells ⟨g, 1, none⟩ (vs.map (Value.int .u32)) 0).run P w = .ok () (w.setRow g (HC n vs rs).toArray) := by
  have := run_storeCells_at P g 1 47 (vs.map (Value.int .u32)) 0 _ w h.blk (by have := h.lw; have := h.lr; simp [HC]; omega) (fun v hv => ints_oneCell _ _ v hv)
  rw [this]
  congr 3
  exact HC_words n ws rs vs (by rw [hv, h.lw])
theorem HRow.setWords {w : World} {g : Nat} {n : Int} {ws rs : List Int} (h : HRow w g n ws rs) (vs : List Int) (hv : vs.length = 8) : HRow (w.setRow g (HC n vs rs).toArray) g n vs rs :=
  ⟨setRow_heap w g _ _ _ _ h.blk, hv, h.lr⟩

/-- h.words, read. -/
theorem wpList_load_words {P : Program} {w : World} {ops : Array Oper} {rest : List Oper} {o : Oper} {a : Act} {Q : Exit → Act → World → Prop} (hgd : o.guard = none) (ty : TypeId) (x : Operand) (hop : o.op = Op.load ty x) (e : TypeId)
    (hu : P.underlying ty = some (.array 8 e)) (hi : (P.info? ty).map (·.size) = some 8) (g : Nat) (n : Int) (ws rs : List Int) (hx : a.eval x = .pointer (some ⟨g, 1, none⟩)) (hr : HRow w g n ws rs)
    (h : wpList P ops Q rest (a.put o.dst (ag .u32 ws)) w) : wpList P ops Q (o :: rest) a w :=
  wpList_load_mid hgd ty x hop g 1 hx (ws.map (Value.int .u32)) (.array 8 e) (fun j v hv => by
    have hj : j < 8 := by have := (List.getElem?_eq_some_iff.1 hv).1; rw [List.length_map, hr.lw] at this; exact this
    rw [hr.word j hj, ← hv]
    simp [List.getD, show j < ws.length by rw [hr.lw]; exact hj]) hu rfl (by rw [hi]; simp [hr.lw]) h

/-- h.words, written. -/
theorem wpList_store_words {P : Program} {w : World} {ops : Array Oper} {rest : List Oper} {o : Oper} {a : Act} {Q : Exit → Act → World → Prop} (hgd : o.guard = none) (ty : TypeId) (x y : Operand) (hop : o.op = Op.store ty x y)
    (hi : (P.info? ty).map (·.size) = some 8) (g : Nat) (n : Int) (ws rs vs : List Int) (hx : a.eval x = .pointer (some ⟨g, 1, none⟩)) (hy : a.eval y = ag .u32 vs) (hv : vs.length = 8) (hr : HRow w g n ws rs)
    (h : ∀ w', HRow w' g n vs rs → But g w w' → w'.heap.size = w.heap.size → wpList P ops Q rest (a.put o.dst undef) w') : wpList P ops Q (o :: rest) a w := by
  refine wpList_plain hgd fun K hK => ?_
  have hst := hr.store (P := P) vs hv
  have hrun : (storeVar ty ⟨g, 1, none⟩ (ag .u32 vs)).run P w = .ok () (w.setRow g (HC n vs rs).toArray) := by
    cases hq : P.info? ty with
    | none => simp [hq] at hi
    | some i =>
      have hs : i.size = 8 := by simpa [hq] using hi
      simp [ag, storeVar, sizeOf, typeInfo, hq, Value.cells, hs, hv, hst]
  unfold Oper.wp execOp
  simp only [hop, hx, hy, Instr.storeAt, Instr.sureAddr, Sem.run_bind, Sem.run_pure, Result.andThen_ok, hrun]
  exact hK _ _ (h _ (hr.setWords vs hv) (But.setRow _ _ _) (by simp))

/-- copy(h.rest[o:], b). -/
theorem wpList_copy_rest {P : Program} {w : World} {ops : Array Oper} {rest : List Oper} {o : Oper} {a : Act} {Q : Exit → Act → World → Prop} (hgd : o.guard = none) (d s : Operand) (dT sT : TypeId)
    (hop : o.op = .call { callee := .builtin .copy, args := #[d, s], argTypes := #[dT, sT] }) (e : TypeId) (hu : P.underlying dT = some (.slice e)) (hsz : (P.info? e).map (·.size) = some 1)
    (g off : Nat) (ao : Option Addr) (dl dc sl sc : Nat) (hd : a.eval d = .slice (some ⟨g, 9 + off, none⟩) dl dc) (hs : a.eval s = .slice ao sl sc) (n : Int) (ws rs ys : List Int)
    (hr : HRow w g n ws rs) (hy : Lies .u8 w ao sl ys) (hdl : off + dl = 64) (m : Nat) (hm : m = min sl dl)
    (h : ∀ w', HRow w' g n ws (rs.take off ++ ys.take m ++ rs.drop (off + m)) → But g w w' → w'.heap.size = w.heap.size → wpList P ops Q rest (a.put o.dst (goInt m)) w') : wpList P ops Q (o :: rest) a w := by
  have hl := hy.len
  have hl64 := hr.lr
  have hcl : ((ys.take m).map (Value.int .u8)).length = m := by simp; omega
  have hcm : (ys.take m).length = m := by simp; omega
  by_cases h0 : m = 0
  · refine wpList_copy_nothing hgd d s dT sT hop e hu hsz _ ao dl dc sl sc hd hs (show min sl dl = 0 by omega) ?_
    have := h w (by
      rw [h0]
      simpa using hr) (But.refl _ _) rfl
    rw [h0] at this
    exact this
  · obtain ⟨b, o', rfl, hlt, hc⟩ := hy.at (by omega)
    refine wpList_copy_own hgd d s dT sT hop e hu hsz g (9 + off) dl dc ⟨b, o', none⟩ sl sc hd hs _ 47 hr.blk ((ys.take m).map (Value.int .u8)) (by rw [hcl]; exact hm) ?_ ?_ (ints_oneCell _ _) ?_
    · intro j v hj
      simp only [List.getElem?_map, List.getElem?_take] at hj
      split at hj
      · have := hc j (by omega)
        rw [List.getElem?_eq_getElem (by omega)] at hj
        simp only [Option.map_some, Option.some.injEq] at hj
        rw [Addr.add_mid, this, ← hj]
        simp [List.getD, List.getElem?_eq_getElem (show j < ys.length by omega)]
      · simp at hj
    · have := hr.lw
      simp [HC_length]; omega
    · rw [hcl]
      have e := HC_over n ws rs (ys.take m) off (by rw [hcm]; omega)
      rw [hr.lw, hcl, hcm, List.append_assoc] at e
      rw [List.toList_toArray, show 9 + off = 1 + 8 + off by omega, e]
      refine h _ ⟨?_, hr.lw, ?_⟩ (But.setRow _ _ _) (by simp)
      · exact setRow_heap w g _ _ _ _ hr.blk
      · simp; omega
end Go.Proofs.Ytclejcjbnmgaiaa
