/-
  Laws for whole arrays of numbers: made, boxed, read and written at once; answers that lie in a cell.
-/
import Derived.Test.YtclejcjbnmgaiaaShaS
import Derived.Deep.MidRow
import Derived.Deep.WholeRow
namespace Go.Proofs.Ytclejcjbnmgaiaa
open Go.RowKit
set_option linter.unusedVariables false
set_option linter.unusedSimpArgs false

/-- An array of numbers, as a value. -/
def ag (k : IntKind) (xs : List Int) : Value := .agg ((xs.map (Value.int k)).toArray)
theorem ints_all (k : IntKind) (xs : List Int) : ((xs.map (Value.int k)).toArray).all (·.oneCell') = true :=
  Array.all_eq_true_iff_forall_mem.2 fun v hv => by
    obtain ⟨x, _, rfl⟩ := List.mem_map.1 (by simpa using hv)
    rfl

theorem Row.alloc (e : TypeId) (k : IntKind) (w : World) (xs : List Int) : Row e k (w.alloc (.cells ((xs.map (Value.int k)).toArray) e)) w.heap.size xs := heap_alloc_new w _
theorem below_alloc (w : World) (o : Obj) : Below w.heap.size w (w.alloc o) := (Below.refl _ _).alloc (Nat.le_refl _) o
theorem size_alloc' (w : World) (o : Obj) : (w.alloc o).heap.size = w.heap.size + 1 := by simp

/-- var x [n]T. -/
theorem wpList_alloc_row {P : Program} {w : World} {ops : Array Oper} {rest : List Oper} {o : Oper} {a : Act} {Q : Exit → Act → World → Prop} (hgd : o.guard = none) (t : TypeId) (hop : o.op = Op.alloc t) (k : IntKind) (n : Nat)
    (hz : (P.info? t).map (fun i => (i.zero, i.size)) = some (some (ag k (List.replicate n 0)), n))
    (hK : ∀ w', Row t k w' w.heap.size (List.replicate n 0) → Below w.heap.size w w' → w'.heap.size = w.heap.size + 1 → wpList P ops Q rest (a.put o.dst (.pointer (some ⟨w.heap.size, 0, none⟩))) w') :
    wpList P ops Q (o :: rest) a w := by
  refine wpList_plain hgd fun K hK' => ?_
  have hr := (zero_of_info hz).1 w
  unfold Oper.wp
  simp only [execOp, hop, Instr.alloc, Sem.run_bind, hr, Result.andThen_ok]
  exact hK' _ _ (hK (w.alloc (.cells (((List.replicate n (0 : Int)).map (Value.int k)).toArray) t)) (Row.alloc t k w _) (below_alloc w _) (size_alloc' w _))

/-- A parameter of such a type. -/
theorem wpList_box_row {P : Program} {w : World} {ops : Array Oper} {rest : List Oper} {o : Oper} {a : Act} {Q : Exit → Act → World → Prop} (hgd : o.guard = none) (t : TypeId) (x : Operand) (hop : o.op = Op.box t x) (k : IntKind) (xs : List Int)
    (hx : a.eval x = ag k xs)
    (hK : ∀ w', Row t k w' w.heap.size xs → Below w.heap.size w w' → w'.heap.size = w.heap.size + 1 → wpList P ops Q rest (a.put o.dst (.pointer (some ⟨w.heap.size, 0, none⟩))) w') :
    wpList P ops Q (o :: rest) a w := by
  refine wpList_plain hgd fun K hK' => ?_
  unfold Oper.wp
  simp only [execOp, hop, hx, ag, Instr.box, Sem.run_bind, Result.andThen_ok]
  exact hK' _ _ (hK (w.alloc (.cells ((xs.map (Value.int k)).toArray) t)) (Row.alloc t k w _) (below_alloc w _) (size_alloc' w _))

/-- The whole array is read. -/
theorem wpList_load_nums {P : Program} {w : World} {ops : Array Oper} {rest : List Oper} {o : Oper} {a : Act} {Q : Exit → Act → World → Prop} (hgd : o.guard = none) (ty : TypeId) (x : Operand) (hop : o.op = Op.load ty x) (k : IntKind) (t e : TypeId) (n : Nat)
    (hu : P.underlying ty = some (.array n e)) (hi : (P.info? ty).map (·.size) = some n) (g : Nat) (xs : List Int) (hx : a.eval x = .pointer (some ⟨g, 0, none⟩)) (hr : Row t k w g xs) (hl : xs.length = n)
    (h : wpList P ops Q rest (a.put o.dst (ag k xs)) w) : wpList P ops Q (o :: rest) a w :=
  wpList_load_row hgd ty x hop g hx t _ (0, 0) (.array n e) hr hu rfl (by rw [hi]; simp [hl]) h

theorem below_setRow' {B g : Nat} {w0 w : World} (hb : Below B w0 w) (hBg : B ≤ g) (cs : Array Value) : Below B w0 (w.setRow g cs) :=
  hb.trans ⟨rfl, rfl, rfl, by simp, fun k hk => setRow_other w g k cs (by omega)⟩
/-- The whole array is written. -/
theorem wpList_store_nums {P : Program} {w : World} {ops : Array Oper} {rest : List Oper} {o : Oper} {a : Act} {Q : Exit → Act → World → Prop} (hgd : o.guard = none) (ty : TypeId) (x y : Operand) (hop : o.op = Op.store ty x y) (k : IntKind) (t : TypeId) (n : Nat)
    (hi : (P.info? ty).map (·.size) = some n) (g : Nat) (old xs : List Int) (hx : a.eval x = .pointer (some ⟨g, 0, none⟩)) (hy : a.eval y = ag k xs) (hr : Row t k w g old) (ho : old.length = n) (hl : xs.length = n)
    (hK : ∀ w', Row t k w' g xs → Below g w w' → w'.heap.size = w.heap.size → (∀ j, j ≠ g → w'.heap[j]? = w.heap[j]?) → wpList P ops Q rest (a.put o.dst undef) w') : wpList P ops Q (o :: rest) a w :=
  wpList_store_row hgd ty x y hop g _ hx hy t _ hr (by rw [hi]; simp [hl]) (by simp [hl, ho]) (ints_all k xs)
    (hK _ (setRow_heap w g _ _ t (0, 0) hr) (below_setRow' (Below.refl _ _) (Nat.le_refl _) _) (by simp) (fun j hj => setRow_other w g j _ hj))

/-- An answer that lies in a cell. -/
theorem results_nums {P : Program} {fn : Func} {p : Tmp} {ty : TypeId} (h : fn.results = #[.cell p ty]) (tmps : Array Value) (w : World) (g : Nat) (t e : TypeId) (k : IntKind) (n : Nat) (xs : List Int)
    (hp : tmps.getD p undef = .pointer (some ⟨g, 0, none⟩)) (hr : Row t k w g xs) (hu : P.underlying ty = some (.array n e)) (hi : (P.info? ty).map (·.size) = some n) (hl : xs.length = n) :
    (results fn tmps).run P w = .ok (ag k xs) w :=
  results_cell_row h tmps w g t _ (0, 0) (.array n e) hp hr hu rfl (by rw [hi]; simp [hl])

theorem Try.infoW64 : (Try.prog.info? 55).map (fun i => (i.zero, i.size)) = some (some (ag .u32 (List.replicate 64 0)), 64) := by kernel_rfl
theorem Try.infoW8 : (Try.prog.info? 44).map (fun i => (i.zero, i.size)) = some (some (ag .u32 (List.replicate 8 0)), 8) := by kernel_rfl
theorem Try.infoB32 : (Try.prog.info? 24).map (fun i => (i.zero, i.size)) = some (some (ag .u8 (List.replicate 32 0)), 32) := by kernel_rfl
theorem Try.sizeW64 : (Try.prog.info? 55).map (·.size) = some 64 := (zero_of_info Try.infoW64).2
theorem Try.sizeW8 : (Try.prog.info? 44).map (·.size) = some 8 := (zero_of_info Try.infoW8).2
theorem Try.sizeB32 : (Try.prog.info? 24).map (·.size) = some 32 := (zero_of_info Try.infoB32).2
theorem Try.infoW : (Try.prog.info? 41).map (fun i => (i.zero, i.size, i.bytes)) = some (some (.int .u32 0), 1, 4) := by kernel_rfl
end Go.Proofs.Ytclejcjbnmgaiaa
