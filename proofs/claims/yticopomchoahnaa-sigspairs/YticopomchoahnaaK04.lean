import Derived.Test.YticopomchoahnaaK03
import Derived.Test.YticopomchoahnaaK02
/-
  The code's lengthForm and Write.
-/
namespace Go.Proofs.Yticopomchoahnaa
open Go.Shelf Go.RowKit
set_option linter.unusedVariables false
set_option linter.unusedSimpArgs false

theorem owns_one (w : World) (c : UInt8) : (w.alloc (.cells #[.int .u8 (c.toNat : Int)] 5)).ownsRow w.heap.size 5 1 (.slice (some ⟨w.heap.size, 0, none⟩) 1 1) 1 (Lib.byteCells [c]) := World.ownsRow_lit w #[.int .u8 (c.toNat : Int)] 1 (Nat.le_refl _) (by decide) (by simp)
theorem byv_one (w : World) (c : UInt8) : ByV (w.alloc (.cells #[.int .u8 (c.toNat : Int)] 5)) (fun b => w.heap.size ≤ b) (some ⟨w.heap.size, 0, none⟩) 1 [c] := by
  obtain ⟨p, c', e, h⟩ := own_byv (l := [c]) (owns_one w c)
  cases e
  exact h
theorem bat_lit (w : World) (z : Int) (c : UInt8) (hz : z = (c.toNat : Int)) : BAt (w.alloc (.cells #[.int .u8 z] 5)) (some ⟨w.heap.size, 0, none⟩) 1 [c] := by
  rw [hz]
  exact (byv_one w c).lies
theorem below_grownT {B : Nat} {w w1 w2 : World} {e : TypeId} {s : Nat} {v : Value} {n : Nat} {xs : List Value} (h : Below B w w1) (hBw : B ≤ w.heap.size) (ho : w1.ownsRow B e s v n xs) (gr : w1.grownBy w2 v.ownBlock) : Below B w w2 :=
  ⟨gr.os.trans h.os, gr.tape.trans h.tape, gr.output.trans h.output, Nat.le_trans h.size gr.size, fun k hk => (gr.block k (Nat.lt_of_lt_of_le hk (Nat.le_trans hBw h.size)) (fun e => by have := (ho.lt k e.symm).1; omega)).trans (h.block k hk)⟩
theorem u8mod (n : Nat) : ((n : Int) % 256) = ((UInt8.ofNat n).toNat : Int) := by rw [UInt8.toNat_ofNat']; omega
theorem step_call {P : Program} {w : World} {ops : Array Oper} {o : Oper} {a : Act} {K : Act → World → Prop} {Q : Exit → Act → World → Prop} {E : Prop} (hw : Region.wanted o (yielded ops a.tmps) = true) (f : FuncId) (xs : Array Operand) (ats : Array TypeId)
    (ho : o.op = .call { callee := .value (.func f), args := xs, argTypes := ats }) (args : Array Value) (hcf : ∀ W, (callFunc f args).run P W = .ok (.enter f args) W) (hx : #[] ++ xs.map a.eval ++ #[] = args) {R : Ending → World → Prop} (H : Calls P f args w R) (h : ∀ e w', R e w' → ∃ v, e = .returned v ∧ K (a.put o.dst v) w') : if Region.wanted o (yielded ops a.tmps) = true then Oper.wp P o a w K Q else E := by
  rw [if_pos hw]
  unfold Oper.wp
  have h1 : execOp a.eval o = callFunc f args := by
    cases o
    simp only at ho
    subst ho
    rw [execOp_call_go, hx]
  rw [h1, hcf, Oper.upon_enter]
  refine H.mono ?_
  intro e w' hr
  obtain ⟨v, rfl, hk⟩ := h e w' hr
  exact hk
theorem owns_lit1 (w : World) (B t : Nat) (ht : t < 256) (hB : B ≤ w.heap.size) : (w.alloc (.cells #[.int .u8 (t : Int)] 5)).ownsRow B 5 1 (.slice (some ⟨w.heap.size, 0, none⟩) 1 1) 1 (Lib.byteCells [UInt8.ofNat t]) := by
  have h : (w.alloc (.cells #[.int .u8 ((UInt8.ofNat t).toNat : Int)] 5)).ownsRow B 5 1 (.slice (some ⟨w.heap.size, 0, none⟩) 1 1) 1 (Lib.byteCells [UInt8.ofNat t]) := World.ownsRow_lit w #[.int .u8 ((UInt8.ofNat t).toNat : Int)] 1 hB (by decide) (by simp)
  rw [show ((UInt8.ofNat t).toNat : Int) = (t : Int) by rw [UInt8.toNat_ofNat']; omega] at h
  exact h
/-- What Write answers. -/
def WrPost (w : World) (t : Nat) (l : Bs) (e : Ending) (w' : World) : Prop :=
  Below w.heap.size w w' ∧ ((t % 32 = 31 ∧ e = .returned (.tuple #[.slice none 0 0, .int .i64 30])) ∨
    (t % 32 ≠ 31 ∧ 4096 < 1 + (headD l.length).length + l.length ∧ e = .returned (.tuple #[.slice none 0 0, .int .i64 3])) ∨
    (t % 32 ≠ 31 ∧ 1 + (headD l.length).length + l.length ≤ 4096 ∧ ∃ v, e = .returned (.tuple #[v, .int .i64 0]) ∧ w'.ownsRow w.heap.size 5 1 v (1 + (headD l.length).length + l.length) (Lib.byteCells (UInt8.ofNat t :: (headD l.length ++ l)))))
end Go.Proofs.Yticopomchoahnaa
