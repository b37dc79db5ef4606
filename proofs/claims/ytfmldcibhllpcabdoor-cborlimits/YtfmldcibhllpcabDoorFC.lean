/-
  The code's writer in memory; put.
-/
import Derived.Test.YtfmldcibhllpcabDoorCG
import Derived.Test.YtfmldcibhllpcabDoorFB
import Derived.Maps.AppendAt
namespace Go.Proofs.YtfmldcibhllpcabDoor
open Go.Shelf Go.RowKit
set_option linter.unusedVariables false
set_option linter.unusedSimpArgs false

/-- The writer's cells in block g. -/
def WtAt (w : World) (g : Nat) (fv : Value) (lg : Bool) (t o : Nat) : Prop := w.heap[g]? = some (.cells #[fv, .bool lg, .int .i64 (t : Int), .int .i64 (o : Int)] 47 (0, 0))
theorem WtAt.lt {w : World} {g : Nat} {fv : Value} {lg : Bool} {t o : Nat} (h : WtAt w g fv lg t o) : g < w.heap.size := (Array.getElem?_eq_some_iff.1 h).1
theorem WtAt.form {w : World} {g : Nat} {fv : Value} {lg : Bool} {t o : Nat} (h : WtAt w g fv lg t o) : w.cell? ⟨g, 0, none⟩ = some fv := by rw [cell_of_row w g 0 _ _ _ h]; rfl
theorem WtAt.long {w : World} {g : Nat} {fv : Value} {lg : Bool} {t o : Nat} (h : WtAt w g fv lg t o) : w.cell? ⟨g, 1, none⟩ = some (.bool lg) := by rw [cell_of_row w g 1 _ _ _ h]; rfl
theorem WtAt.items {w : World} {g : Nat} {fv : Value} {lg : Bool} {t o : Nat} (h : WtAt w g fv lg t o) : w.cell? ⟨g, 2, none⟩ = some (.int .i64 (t : Int)) := by rw [cell_of_row w g 2 _ _ _ h]; rfl
theorem WtAt.opn {w : World} {g : Nat} {fv : Value} {lg : Bool} {t o : Nat} (h : WtAt w g fv lg t o) : w.cell? ⟨g, 3, none⟩ = some (.int .i64 (o : Int)) := by rw [cell_of_row w g 3 _ _ _ h]; rfl
theorem WtAt.frozen {w : World} {g : Nat} {fv : Value} {lg : Bool} {t o : Nat} (h : WtAt w g fv lg t o) (j : Nat) : w.frozen? ⟨g, j, none⟩ = false := frozen_of_row w g j _ _ h
theorem WtAt.same {w w' : World} {g : Nat} {fv : Value} {lg : Bool} {t o : Nat} (h : WtAt w g fv lg t o) (hb : w'.heap[g]? = w.heap[g]?) : WtAt w' g fv lg t o := by unfold WtAt; rw [hb]; exact h
theorem WtAt.setForm {w : World} {g : Nat} {fv : Value} {lg : Bool} {t o : Nat} (h : WtAt w g fv lg t o) (v : Value) : WtAt (w.setCell ⟨g, 0, none⟩ v) g v lg t o := by
  unfold WtAt; rw [heap_set_at w g 0 _ _ _ _ h]; rfl
theorem WtAt.setLong {w : World} {g : Nat} {fv : Value} {lg : Bool} {t o : Nat} (h : WtAt w g fv lg t o) (b : Bool) : WtAt (w.setCell ⟨g, 1, none⟩ (.bool b)) g fv b t o := by
  unfold WtAt; rw [heap_set_at w g 1 _ _ _ _ h]; rfl
theorem WtAt.setItems {w : World} {g : Nat} {fv : Value} {lg : Bool} {t o : Nat} (h : WtAt w g fv lg t o) (t' : Nat) : WtAt (w.setCell ⟨g, 2, none⟩ (.int .i64 (t' : Int))) g fv lg t' o := by
  unfold WtAt; rw [heap_set_at w g 2 _ _ _ _ h]; rfl
theorem WtAt.setOpen {w : World} {g : Nat} {fv : Value} {lg : Bool} {t o : Nat} (h : WtAt w g fv lg t o) (o' : Nat) : WtAt (w.setCell ⟨g, 3, none⟩ (.int .i64 (o' : Int))) g fv lg t o' := by
  unfold WtAt; rw [heap_set_at w g 3 _ _ _ _ h]; rfl
/-- A writer behind these bytes; fb: the block of what it holds of them. -/
def Wt (w : World) (g : Nat) (fb : Option Nat) (bs : Bs) (t o : Nat) : Prop := ∃ (fv : Value) (lg : Bool) (hs : Bs), WtAt w g fv lg t o ∧ fv.ownBlock = fb ∧ w.ownsRow (g + 1) 5 1 fv hs.length (Lib.byteCells hs) ∧ hs.length ≤ 8192 ∧ ((lg = false ∧ hs = bs) ∨ (lg = true ∧ 8192 < bs.length))
theorem Wt.lt {w : World} {g : Nat} {fb : Option Nat} {bs : Bs} {t o : Nat} (h : Wt w g fb bs t o) : g < w.heap.size := by obtain ⟨_, _, _, h1, _⟩ := h; exact h1.lt
theorem Wt.fb {w : World} {g : Nat} {fb : Option Nat} {bs : Bs} {t o : Nat} (h : Wt w g fb bs t o) : ∀ b, fb = some b → g < b ∧ b < w.heap.size := by
  obtain ⟨fv, lg, hs, h1, h2, h3, _⟩ := h
  intro b hb
  have := owns_lt h3 (h2.trans hb)
  exact ⟨this.1, this.2.1⟩
/-- What a call on the writer in block g may change. -/
structure WF (g : Nat) (fb : Option Nat) (w w' : World) : Prop where
  os : w'.os = w.os
  tape : w'.tape = w.tape
  output : w'.output = w.output
  size : w.heap.size ≤ w'.heap.size
  block : ∀ k, k < w.heap.size → k ≠ g → some k ≠ fb → w'.heap[k]? = w.heap[k]?
/-- It does so, and what it holds lies in block fb' then. -/
def WTo (g : Nat) (fb : Option Nat) (w w' : World) (fb' : Option Nat) : Prop := WF g fb w w' ∧ (fb' = fb ∨ ∃ b, fb' = some b ∧ w.heap.size ≤ b)
theorem WTo.trans {g : Nat} {fb fb1 fb2 : Option Nat} {a b c : World} (h : WTo g fb a b fb1) (k : WTo g fb1 b c fb2) : WTo g fb a c fb2 := by
  obtain ⟨h1, h2⟩ := h
  obtain ⟨k1, k2⟩ := k
  refine ⟨⟨k1.os.trans h1.os, k1.tape.trans h1.tape, k1.output.trans h1.output, Nat.le_trans h1.size k1.size, fun i hi hg hf => (k1.block i (Nat.lt_of_lt_of_le hi h1.size) hg ?_).trans (h1.block i hi hg hf)⟩, ?_⟩
  · rcases h2 with rfl | ⟨b, rfl, hb⟩
    · exact hf
    · intro e; cases e; omega
  · have hs := h1.size
    rcases k2 with rfl | ⟨b, rfl, hb⟩
    · exact h2
    · exact .inr ⟨b, rfl, by omega⟩
theorem WTo.ofBelow {g : Nat} {fb : Option Nat} {w w' : World} (h : Below w.heap.size w w') : WTo g fb w w' fb := ⟨⟨h.os, h.tape, h.output, h.size, fun k hk _ _ => h.block k hk⟩, .inl rfl⟩
theorem WTo.refl (g : Nat) (fb : Option Nat) (w : World) : WTo g fb w w fb := WTo.ofBelow (Below.refl _ _)
theorem WTo.setCell (g : Nat) (fb : Option Nat) (w : World) (j : Nat) (v : Value) : WTo g fb w (w.setCell ⟨g, j, none⟩ v) fb := ⟨⟨rfl, rfl, rfl, by simp [World.setCell], fun k _ hk _ => Below.heap_setCell w ⟨g, j, none⟩ v k hk⟩, .inl rfl⟩
theorem WTo.low {g : Nat} {fb fb' : Option Nat} {w w' : World} (h : WTo g fb w w' fb') (hw : ∀ b, fb = some b → g < b) (hg : g ≤ w.heap.size) : Below g w w' := ⟨h.1.os, h.1.tape, h.1.output, h.1.size, fun k hk => h.1.block k (by omega) (by omega) (fun e => by have := hw k e.symm; omega)⟩
theorem WTo.keep {g k : Nat} {fb fb' : Option Nat} {w w' : World} (h : WTo g fb w w' fb') (hk : k < w.heap.size) (hg : k ≠ g) (hf : some k ≠ fb) : w'.heap[k]? = w.heap[k]? := h.1.block k hk hg hf
theorem WTo.at {g : Nat} {fb fb' : Option Nat} {w w' : World} (h : WTo g fb w w' fb') {k : Nat} (hk : k < w.heap.size) (hf : some k ≠ fb) : some k ≠ fb' := by
  rcases h.2 with rfl | ⟨b, rfl, hb⟩
  · exact hf
  · intro e; cases e; omega
theorem Wt.below {w w' : World} {g : Nat} {fb : Option Nat} {bs : Bs} {t o : Nat} (h : Wt w g fb bs t o) (hb : Below w.heap.size w w') : Wt w' g fb bs t o := by
  obtain ⟨fv, lg, hs, h1, h2, h3, h4⟩ := h
  exact ⟨fv, lg, hs, h1.same (hb.block g h1.lt), h2, owns_keep h3 (fun b hbk => hb.block b (owns_lt h3 hbk).2.1), h4⟩
theorem Wt.setItems {w : World} {g : Nat} {fb : Option Nat} {bs : Bs} {t o : Nat} (h : Wt w g fb bs t o) (t' : Nat) : Wt (w.setCell ⟨g, 2, none⟩ (.int .i64 (t' : Int))) g fb bs t' o := by
  obtain ⟨fv, lg, hs, h1, h2, h3, h4⟩ := h
  exact ⟨fv, lg, hs, h1.setItems t', h2, owns_keep h3 (fun b hbk => Below.heap_setCell _ _ _ _ (by have := (owns_lt h3 hbk).1; show b ≠ g; omega)), h4⟩
theorem Wt.setOpen {w : World} {g : Nat} {fb : Option Nat} {bs : Bs} {t o : Nat} (h : Wt w g fb bs t o) (o' : Nat) : Wt (w.setCell ⟨g, 3, none⟩ (.int .i64 (o' : Int))) g fb bs t o' := by
  obtain ⟨fv, lg, hs, h1, h2, h3, h4⟩ := h
  exact ⟨fv, lg, hs, h1.setOpen o', h2, owns_keep h3 (fun b hbk => Below.heap_setCell _ _ _ _ (by have := (owns_lt h3 hbk).1; show b ≠ g; omega)), h4⟩
theorem Wt.its {w : World} {g : Nat} {fb : Option Nat} {bs : Bs} {t o : Nat} (h : Wt w g fb bs t o) : w.cell? ⟨g, 2, none⟩ = some (.int .i64 (t : Int)) := by obtain ⟨_, _, _, h1, _⟩ := h; exact h1.items
theorem Wt.opn {w : World} {g : Nat} {fb : Option Nat} {bs : Bs} {t o : Nat} (h : Wt w g fb bs t o) : w.cell? ⟨g, 3, none⟩ = some (.int .i64 (o : Int)) := by obtain ⟨_, _, _, h1, _⟩ := h; exact h1.opn
theorem Wt.frz {w : World} {g : Nat} {fb : Option Nat} {bs : Bs} {t o : Nat} (h : Wt w g fb bs t o) (j : Nat) : w.frozen? ⟨g, j, none⟩ = false := by obtain ⟨_, _, _, h1, _⟩ := h; exact h1.frozen j
theorem run_append_nilc {w : World} (base : Nat) (ty : TypeId) (v : Value) (n c : Nat) (xs : List Value) (hown : w.ownsRow base 5 1 v n xs) : (Builtin.append_ #[25, 25] ty #[v, .slice none 0 c]).run Tryd.prog w = .ok v w := by
  obtain ⟨i0, hi0, hz0, hz1, hz2⟩ := info_parts infoU8
  rcases hown.2 with ⟨rfl, rfl⟩ | ⟨g, cap, cur, rfl, _, _, hnc, _⟩
  · simp [Builtin.append_, run_underlying Tryd.underlying25, sizeOf, typeInfo, hi0, Builtin.lenOf, Builtin.firstCells]
  · simp [Builtin.append_, run_underlying Tryd.underlying25, sizeOf, typeInfo, hi0, Builtin.lenOf, Builtin.firstCells, hnc, storeCells]
theorem owns_slice {w : World} {base : Nat} {e : TypeId} {s : Nat} {v : Value} {n : Nat} {xs : List Value} (h : w.ownsRow base e s v n xs) : ∃ p c, v = .slice p n c := by
  rcases h.2 with ⟨rfl, rfl⟩ | ⟨g, cap, cur, rfl, _⟩
  · exact ⟨_, _, rfl⟩
  · exact ⟨_, _, rfl⟩
/-- Bytes appended to bytes of the call's own; where they lie then. -/
theorem wp_append_wt {w : World} {o : Oper} {a : Act} {K : Act → World → Prop} {Q : Exit → Act → World → Prop} (s x : Operand)
    (ho : o.op = .call { callee := .builtin .append, args := #[s, x], argTypes := #[25, 25] }) (base : Nat) (v : Value) (hs : a.eval s = v) (old : Bs) (m : Nat) (hm : old.length = m) (hown : w.ownsRow base 5 1 v m (Lib.byteCells old)) (p : Option Addr) (n c : Nat) (l : Bs) (hn : l.length = n) (hx : a.eval x = .slice p n c) (hr : BAt w p n l) (hlen : m + n ≤ 100000000) (hbase : base ≤ w.heap.size)
    (h : ∀ v' w', w'.ownsRow base 5 1 v' (m + n) (Lib.byteCells (old ++ l)) → w.grownBy w' v.ownBlock → (v'.ownBlock = v.ownBlock ∨ v'.ownBlock = some w.heap.size) → K (a.put o.dst v') w') : o.wp Tryd.prog a w K Q := by
  obtain ⟨i0, hi0, hz0, hz1, hz2⟩ := info_parts infoU8
  cases p with
  | none =>
    have h0 : n = 0 := by
      rcases Nat.eq_zero_or_pos n with h1 | h1
      · exact h1
      · obtain ⟨b, o, e, _⟩ := hr h1
        cases e
    subst h0
    have : l = [] := List.eq_nil_of_length_eq_zero hn
    subst this
    have hrun := run_append_nilc (w := w) base o.type v m c _ hown
    unfold Oper.wp
    simp [execOp, ho, resolve, invoke, builtin, hs, hx, hrun, Result.andThen]
    exact h v w (by simpa using hown) ⟨rfl, rfl, rfl, Nat.le_refl _, fun _ _ _ => rfl⟩ (.inl rfl)
  | some ad =>
    obtain ⟨v', w', hrun, h2, h3, _, h5⟩ := run_append_own_at (P := Tryd.prog) w base 25 o.type 5 i0 (.int .u8 0) 1 1 Tryd.underlying25 hi0 hz0 hz1 hz2 rfl (by decide) v m (Lib.byteCells old) hown ad n c (Lib.byteCells l) (by rw [byteCells_len, hn, Nat.mul_one]) (by
      intro j u hj
      obtain ⟨hj1, hj2⟩ := List.getElem?_eq_some_iff.1 hj
      have hj3 : j < l.length := by simpa [Lib.byteCells] using hj1
      obtain ⟨b, f, e, hc⟩ := hr (by omega)
      cases e
      rw [Addr.add_mid, hc j (by omega), ← hj2]
      simp [Lib.byteCells, List.getD, hj3]) (by intro u hu; simp only [Lib.byteCells, List.mem_map] at hu; obtain ⟨x, _, rfl⟩ := hu; rfl) (by unfold maxLen; omega) (by omega) hbase
    rw [byteCells_app] at h2
    unfold Oper.wp
    simp only [execOp, ho, resolve, invoke, builtin, Sem.run_bind, Sem.run_pure, Result.andThen_ok, List.map_toArray, List.map_cons, List.map_nil, hs, hx, hrun]
    exact h v' w' h2 h3 h5
theorem wpList_append_wt {w : World} {ops : Array Oper} {rest : List Oper} {o : Oper} {a : Act} {Q : Exit → Act → World → Prop} (hgd : o.guard = none) (s x : Operand)
    (ho : o.op = .call { callee := .builtin .append, args := #[s, x], argTypes := #[25, 25] }) (base : Nat) (v : Value) (hs : a.eval s = v) (old : Bs) (m : Nat) (hm : old.length = m) (hown : w.ownsRow base 5 1 v m (Lib.byteCells old)) (p : Option Addr) (n c : Nat) (l : Bs) (hn : l.length = n) (hx : a.eval x = .slice p n c) (hr : BAt w p n l) (hlen : m + n ≤ 100000000) (hbase : base ≤ w.heap.size)
    (h : ∀ v' w', w'.ownsRow base 5 1 v' (m + n) (Lib.byteCells (old ++ l)) → w.grownBy w' v.ownBlock → (v'.ownBlock = v.ownBlock ∨ v'.ownBlock = some w.heap.size) → wpList Tryd.prog ops Q rest (a.put o.dst v') w') : wpList Tryd.prog ops Q (o :: rest) a w :=
  wpList_plain hgd fun _ hK => wp_append_wt s x ho base v hs old m hm hown p n c l hn hx hr hlen hbase fun v' w' h1 h2 h3 => hK _ _ (h v' w' h1 h2 h3)
/-- The same in a region that draws. -/
theorem step_append_wt {w : World} {ops : Array Oper} {o : Oper} {a : Act} {K : Act → World → Prop} {Q : Exit → Act → World → Prop} {E : Prop} (hw : Region.wanted o (yielded ops a.tmps) = true) (s x : Operand)
    (ho : o.op = .call { callee := .builtin .append, args := #[s, x], argTypes := #[25, 25] }) (base : Nat) (v : Value) (hs : a.eval s = v) (old : Bs) (m : Nat) (hm : old.length = m) (hown : w.ownsRow base 5 1 v m (Lib.byteCells old)) (p : Option Addr) (n c : Nat) (l : Bs) (hn : l.length = n) (hx : a.eval x = .slice p n c) (hr : BAt w p n l) (hlen : m + n ≤ 100000000) (hbase : base ≤ w.heap.size)
    (h : ∀ v' w', w'.ownsRow base 5 1 v' (m + n) (Lib.byteCells (old ++ l)) → w.grownBy w' v.ownBlock → (v'.ownBlock = v.ownBlock ∨ v'.ownBlock = some w.heap.size) → K (a.put o.dst v') w') : if Region.wanted o (yielded ops a.tmps) = true then Oper.wp Tryd.prog o a w K Q else E := by
  rw [if_pos hw]
  exact wp_append_wt s x ho base v hs old m hm hown p n c l hn hx hr hlen hbase h
theorem wt_put {w w1 : World} {g t o : Nat} {fv v1 : Value} {lg : Bool} {hs xs bs : Bs} (h1 : WtAt w g fv lg t o) (hown : w.ownsRow (g + 1) 5 1 fv hs.length (Lib.byteCells hs)) (hl : hs.length + xs.length ≤ 8192) (hb : (lg = false ∧ hs = bs) ∨ (lg = true ∧ 8192 < bs.length)) (ho : w1.ownsRow (g + 1) 5 1 v1 (hs.length + xs.length) (Lib.byteCells (hs ++ xs))) (hg : w.grownBy w1 fv.ownBlock) (ha : v1.ownBlock = fv.ownBlock ∨ v1.ownBlock = some w.heap.size) :
    WTo g fv.ownBlock w (w1.setCell ⟨g, 0, none⟩ v1) v1.ownBlock ∧ Wt (w1.setCell ⟨g, 0, none⟩ v1) g v1.ownBlock (bs ++ xs) t o := by
  have hne : some g ≠ fv.ownBlock := fun e => by have := (owns_lt hown e.symm).1; omega
  have hlt := h1.lt
  have a1 : WtAt w1 g fv lg t o := h1.same (hg.block g hlt hne)
  refine ⟨⟨⟨hg.os, hg.tape, hg.output, by simp [World.setCell]; exact hg.size, fun k hk hkg hkf => (Below.heap_setCell w1 ⟨g, 0, none⟩ v1 k hkg).trans (hg.block k hk hkf)⟩, ?_⟩, ?_⟩
  · rcases ha with e | e
    · exact .inl e
    · exact .inr ⟨_, e, Nat.le_refl _⟩
  · refine ⟨v1, lg, hs ++ xs, a1.setForm v1, rfl, ?_, by rw [List.length_append]; exact hl, ?_⟩
    · rw [List.length_append]
      exact owns_keep ho (fun b hbk => Below.heap_setCell _ _ _ _ (by have := (owns_lt ho hbk).1; show b ≠ g; omega))
    · rcases hb with ⟨e1, e2⟩ | ⟨e1, e2⟩
      · exact .inl ⟨e1, by rw [e2]⟩
      · exact .inr ⟨e1, by rw [List.length_append]; omega⟩
set_option maxRecDepth 100000 in
set_option maxHeartbeats 1000000 in
/-- put. -/
theorem put_any (g : Nat) (fb : Option Nat) (bs : Bs) (t o : Nat) (p : Option Addr) (n c : Nat) (xs : Bs) (w : World) (h : Wt w g fb bs t o) (hn : xs.length = n) (hx : BAt w p n xs) (hb : n ≤ 9223372036854775807) :
    Calls Tryd.prog 19 #[.pointer (some ⟨g, 0, none⟩), .slice p n c] w fun e w' => e = .returned (.tuple #[]) ∧ ∃ fb', WTo g fb w w' fb' ∧ Wt w' g fb' (bs ++ xs) t o := by
  obtain ⟨fv, lg, hs, h1, h2, h3, h4, h5⟩ := h
  have c0 := h1.form
  have f0 := h1.frozen 0
  have f1 := h1.frozen 1
  have c1 := h1.long
  have hlt := h1.lt
  obtain ⟨pf, cf, e, hv⟩ := own_byv h3
  obtain ⟨m, hm⟩ : ∃ m, hs.length = m := ⟨_, rfl⟩
  rw [hm] at h4 e
  have hmI : (m : Int) ≤ 8192 := by omega
  have hnI : (n : Int) ≤ 9223372036854775807 := by omega
  have H : Hid (WtAt w g fv lg t o ∧ w.ownsRow (g + 1) 5 1 fv hs.length (Lib.byteCells hs) ∧ ((lg = false ∧ hs = bs) ∨ (lg = true ∧ 8192 < bs.length)) ∧ fv.ownBlock = fb ∧ hs.length = m) := ⟨h1, h3, h5, h2, hm⟩
  rw [hm] at h3
  rw [e] at c0
  by_cases hl : 8192 - m < n
  · have hlI : 8192 - (m : Int) < (n : Int) := by omega
    clear h1 h2 h3 h5 hm hv
    go_enter Tryd.func19, Tryd.ntmps19
    go_wp2
    refine bodyPost_ret (results_none rfl _ _ _) rfl ?_
    obtain ⟨h1, h3, h5, h2, hm⟩ := H.out
    refine ⟨rfl, fb, WTo.setCell g fb w 1 _, ⟨fv, true, hs, h1.setLong true, h2, owns_keep h3 (fun b hbk => Below.heap_setCell _ _ _ _ (by have := (owns_lt h3 hbk).1; show b ≠ g; omega)), by omega, .inr ⟨rfl, ?_⟩⟩⟩
    rw [List.length_append]
    rcases h5 with ⟨_, rfl⟩ | ⟨_, h6⟩ <;> omega
  · have hlI : ¬ (8192 - (m : Int) < (n : Int)) := by omega
    clear h1 h2 h5 hv
    go_enter Tryd.func19, Tryd.ntmps19
    go_wp2_with (at_builtin; refine wpList_append_wt rfl (.tmp 20) (.tmp 21) rfl (g + 1) fv e.symm hs m hm h3 p n c xs hn rfl hx (by omega) (by omega) ?_; intro v1 w1 o1 gr1 at1; obtain ⟨p1, k1, rfl⟩ := owns_slice o1; have f2 := gr1.frozen_far ⟨g, 0, none⟩ hlt (fun e => by have := (owns_lt h3 e.symm).1; simp at this; omega); rw [f0] at f2; have c2 := gr1.cell_far ⟨g, 0, none⟩ hlt (fun e => by have := (owns_lt h3 e.symm).1; simp at this; omega); rw [c0] at c2)
    go_end0
    obtain ⟨h1, h4', h5, h2, hm'⟩ := H.out
    subst h2
    have A := wt_put (xs := xs) (bs := bs) h1 h4' (by omega) h5 (by rw [hm', hn]; exact o1) gr1 at1
    exact ⟨rfl, _, A⟩
end Go.Proofs.YtfmldcibhllpcabDoor
