/-
  Slices of a hash's bytes.
-/
import Derived.Test.YtclejcjbnmgaiaaShaU
namespace Go.Proofs.Ytclejcjbnmgaiaa
open Go.RowKit
theorem Try.arrayLenR : Try.prog.arrayLen 45 = 64 := by kernel_rfl
theorem Try.elemR : Try.prog.elem 45 = 5 := by kernel_rfl
theorem Try.undR : Try.prog.underlying 45 = some (.array (Try.prog.arrayLen 45) (Try.prog.elem 45)) := by rw [Try.arrayLenR, Try.elemR]; exact Try.underlying45
theorem slice_rest (g r : Nat) (hr : r < 64) (w : World) : (Instr.sliceAt 45 (.pointer (some ⟨g, 9, none⟩)) (some (.int .i64 r)) none none).run Try.prog w = .ok (.slice (some ⟨g, 9 + r, none⟩) (64 - r) (64 - r)) w := by
  rw [run_sliceAt_array_l (t := 45) _ _ Try.undR _ _ (by omega) (by rw [Try.arrayLenR]; omega), Try.arrayLenR, Try.elemR, Try.sizeOf5]
  simp only [Result.andThen_ok, slicedAt]
  rw [if_neg (by omega), Int.toNat_natCast, Nat.mul_one, Addr.add_mid]
theorem slice_all (g : Nat) (w : World) : (Instr.sliceAt 45 (.pointer (some ⟨g, 9, none⟩)) none none none).run Try.prog w = .ok (.slice (some ⟨g, 9, none⟩) 64 64) w := by
  rw [run_sliceAt_array_all (t := 45) _ _ Try.undR, Try.arrayLenR, Try.elemR, Try.sizeOf5]
  simp [Result.andThen_ok, slicedAt, Addr.add]
/-- A function without results. -/
theorem results_none {P : Program} {fn : Func} (h : fn.results = #[]) (tmps : Array Value) (w : World) : (results fn tmps).run P w = .ok (.tuple #[]) w := by
  simp [results, h]
/-- An array's load and store, kept whole from the walk. -/
def HLD (t : TypeId) (p : Value) : Sem Value := Instr.loadAt t p
def HST (t : TypeId) (p v : Value) : Sem Unit := Instr.storeAt t p v
theorem keep_l8 (p : Value) : Instr.loadAt 44 p = HLD 44 p := rfl
theorem keep_l64 (p : Value) : Instr.loadAt 55 p = HLD 55 p := rfl
theorem keep_l32 (p : Value) : Instr.loadAt 24 p = HLD 24 p := rfl
theorem keep_s8 (p v : Value) : Instr.storeAt 44 p v = HST 44 p v := rfl
theorem keep_s64 (p v : Value) : Instr.storeAt 55 p v = HST 55 p v := rfl
theorem keep_s32 (p v : Value) : Instr.storeAt 24 p v = HST 24 p v := rfl
theorem HRow.lda {w : World} {g : Nat} {n : Int} {ws rs : List Int} (h : HRow w g n ws rs) : (HLD 44 (.pointer (some ⟨g, 1, none⟩))).run Try.prog w = .ok (ag .u32 ws) w := by
  refine run_loadAt_mid w g 1 44 (ws.map (Value.int .u32)) (.array 8 41) (fun j v hv => ?_) Try.underlying44 rfl (by rw [Try.sizeW8, List.length_map, h.lw])
  have hj : j < 8 := by have := (List.getElem?_eq_some_iff.1 hv).1; rw [List.length_map, h.lw] at this; exact this
  rw [h.word j hj, ← hv]
  simp [List.getD, show j < ws.length by rw [h.lw]; exact hj]
theorem Row.lda {w : World} {g : Nat} {e : TypeId} {xs : List Int} (h : Row e .u32 w g xs) (hl : xs.length = 64) : (HLD 55 (.pointer (some ⟨g, 0, none⟩))).run Try.prog w = .ok (ag .u32 xs) w := by
  refine run_loadAt_mid w g 0 55 (xs.map (Value.int .u32)) (.array 64 41) (fun j v hv => ?_) Try.underlying55 rfl (by rw [Try.sizeW64, List.length_map, hl])
  have hj : j < xs.length := by have := (List.getElem?_eq_some_iff.1 hv).1; rw [List.length_map] at this; exact this
  rw [Nat.zero_add, h.cell j hj, ← hv]
  simp [List.getD, hj]
theorem HRow.sta {w : World} {g : Nat} {n : Int} {ws rs : List Int} (h : HRow w g n ws rs) (vs : List Int) (hv : vs.length = 8) : (HST 44 (.pointer (some ⟨g, 1, none⟩)) (ag .u32 vs)).run Try.prog w = .ok () (w.setRow g (HC n vs rs).toArray) := by
  have hst := h.store (P := Try.prog) vs hv
  have hi := Try.sizeW8
  unfold HST
  cases hq : Try.prog.info? 44 with
  | none => simp [hq] at hi
  | some i =>
    have hs : i.size = 8 := by simpa [hq] using hi
    simp [Instr.storeAt, Instr.sureAddr, ag, storeVar, sizeOf, typeInfo, hq, Value.cells, hs, hv, hst]
end Go.Proofs.Ytclejcjbnmgaiaa
