/-
  The walk of JsonsParses.
-/
import Derived.Test.YtbobgebhdafciabDoorJTd
namespace Go.Proofs.YtbobgebhdafciabDoor
open Go.Shelf Go.RowKit
set_option linter.unusedVariables false
set_option linter.unusedSimpArgs false

/-- A slice of numbers that came in. -/
def CameJ (k : IntKind) (w : World) (a : Option Addr) (len cap : Nat) (zs : List Int) : Prop :=
  (a = none ∧ len = 0 ∧ cap = 0 ∧ zs = []) ∨
  ∃ x, a = some x ∧ len ≤ cap ∧ cap ≤ maxLen ∧ zs.length = cap ∧ (∀ i, i < zs.length → w.cell? (x.add i) = some (.int k (zs.getD i 0))) ∧ ∀ n ∈ zs, (Lit.int k n).wf = true
theorem byte_wf {x : Int} (h : (Lit.int .u8 x).wf = true) : 0 ≤ x ∧ x < 256 := by
  simp [Lit.wf, IntKind.min, IntKind.max, IntKind.signed, IntKind.bits] at h
  exact ⟨by omega, by omega⟩
theorem CameJ.nil {k : IntKind} {w : World} {a : Option Addr} {len cap : Nat} {zs : List Int} (h : CameJ k w a len cap zs) : a = none → cap = 0 := fun e => by
  rcases h with ⟨_, _, h1, _⟩ | ⟨x, h1, _⟩
  · exact h1
  · rw [h1] at e; cases e
theorem CameJ.le {k : IntKind} {w : World} {a : Option Addr} {len cap : Nat} {zs : List Int} (h : CameJ k w a len cap zs) : len ≤ maxLen := by
  rcases h with ⟨_, h1, _⟩ | ⟨x, _, h1, h2, _⟩
  · rw [h1]; exact Nat.zero_le _
  · exact Nat.le_trans h1 h2
/-- The bytes that came in. -/
theorem CameJ.rest {w : World} {a : Option Addr} {len cap : Nat} {zs : List Int} (h : CameJ .u8 w a len cap zs) : ∃ bs : Bs, bs.length = len ∧ RestD w w.heap.size a cap bs := by
  rcases h with ⟨rfl, rfl, rfl, rfl⟩ | ⟨x, rfl, h1, h2, h3, h4, h5⟩
  · exact ⟨[], rfl, by simp, fun h => (by simp at h), fun _ h => (by cases h)⟩
  · obtain ⟨b, off, spot⟩ := x
    have hl : ((zs.take len).map fun z => UInt8.ofNat z.toNat).length = len := by simp; omega
    refine ⟨(zs.take len).map fun z => UInt8.ofNat z.toNat, hl, by rw [hl]; exact h1, fun h0 => ?_, fun y hy h0 => ?_⟩
    · rw [hl] at h0
      have hsp : spot = none := by
        have := h4 0 (by omega)
        simpa [Addr.add] using World.cell?_spot this
      subst hsp
      refine ⟨b, off, rfl, fun i hi => ?_⟩
      rw [hl] at hi
      have hc := h4 i (by omega)
      rw [Addr.add_mid] at hc
      rw [hc]
      have hiz : i < zs.length := by omega
      have hw := byte_wf (h5 zs[i] (List.getElem_mem hiz))
      have e1 : zs.getD i 0 = zs[i] := by simp [List.getD, hiz]
      have e2 : ((zs.take len).map fun z => UInt8.ofNat z.toNat).getD i 0 = UInt8.ofNat (zs[i]).toNat := by
        simp [List.getD, List.getElem?_take, hi, List.getElem?_eq_getElem hiz]
      rw [e1, e2]
      congr 2
      simp [UInt8.toNat_ofNat']
      omega
    · cases hy
      rw [hl] at h0
      have hc := h4 0 (by omega)
      have hsp : spot = none := by simpa [Addr.add] using World.cell?_spot hc
      subst hsp
      refine ⟨?_, rfl⟩
      rw [Addr.add_mid] at hc
      show b < w.heap.size
      cases hh : w.heap[b]? with
      | none => simp [World.cell?, hh] at hc
      | some o => exact (Array.getElem?_eq_some_iff.1 hh).1

end Go.Proofs.YtbobgebhdafciabDoor
