/-
  What a law is told of a slice of integers that came in, as a number.
-/
import Derived.Test.YtdojbknkaoiioaaLong
namespace Go.Proofs.Ytdojbknkaoiioaa
open Go.RowKit
set_option linter.unusedVariables false
set_option linter.unusedSimpArgs false

/-- A slice of integers that came in: nil, or a row of 'cap' cells. -/
def Came (k : IntKind) (w : World) (a : Option Addr) (len cap : Nat) (zs : List Int) : Prop :=
  (a = none ∧ len = 0 ∧ cap = 0 ∧ zs = []) ∨
  ∃ x, a = some x ∧ len ≤ cap ∧ cap ≤ maxLen ∧ zs.length = cap ∧ (∀ i, i < zs.length → w.cell? (x.add i) = some (.int k (zs.getD i 0))) ∧ ∀ n ∈ zs, (Lit.int k n).wf = true

theorem word_u64 {x : Int} (h : (Lit.int .u64 x).wf = true) : 0 ≤ x ∧ x < 18446744073709551616 := by
  simp [Lit.wf, IntKind.min, IntKind.max, IntKind.signed, IntKind.bits] at h
  exact ⟨by omega, by omega⟩
theorem word_u8 {x : Int} (h : (Lit.int .u8 x).wf = true) : 0 ≤ x ∧ x < 256 := by
  simp [Lit.wf, IntKind.min, IntKind.max, IntKind.signed, IntKind.bits] at h
  exact ⟨by omega, by omega⟩

theorem Came.le {k : IntKind} {w : World} {a : Option Addr} {len cap : Nat} {zs : List Int} (h : Came k w a len cap zs) : len ≤ maxLen := by
  rcases h with ⟨rfl, rfl, rfl, rfl⟩ | ⟨x, rfl, h1, h2, _⟩
  · simp
  · omega
theorem Came.num {k : IntKind} {B : Int} {w : World} {a : Option Addr} {len cap : Nat} {zs : List Int} (hk : ∀ n, (Lit.int k n).wf = true → 0 ≤ n ∧ n < B) (h : Came k w a len cap zs) (hs : len ≤ 1073741824) : NumIn k B w a len cap (zs.take len) := by
  rcases h with ⟨rfl, rfl, rfl, rfl⟩ | ⟨x, rfl, h1, h2, h3, h4, h5⟩
  · exact NumIn.nil
  · refine ⟨⟨by simp; omega, ?_⟩, h1, h2, (fun h => by cases h), fun n hn => hk n (h5 n (List.mem_of_mem_take hn)), hs⟩
    by_cases h0 : len = 0
    · exact .inl h0
    · right
      obtain ⟨b, off, spot⟩ := x
      have hc := h4 0 (by omega)
      have hspot : spot = none := by simpa [Addr.add] using World.cell?_spot hc
      subst hspot
      refine ⟨b, off, rfl, ?_, fun i hi => ?_⟩
      · rw [add_none] at hc
        exact World.block_lt_of_cell? w ⟨b, off + 0, none⟩ hc
      · have := h4 i (by omega)
        rw [add_none] at this
        rw [this]
        simp only [List.getD, List.getElem?_take]
        rw [if_pos hi]
theorem Came.nat {w : World} {a : Option Addr} {len cap : Nat} {zs : List Int} (h : Came .u64 w a len cap zs) (hs : len ≤ 70) : NumIn .u64 B64 w a len cap (zs.take len) := h.num (fun _ => word_u64) (by omega)
theorem Came.bytes {w : World} {a : Option Addr} {len cap : Nat} {zs : List Int} (h : Came .u8 w a len cap zs) (hs : len ≤ 2000) : NumIn .u8 256 w a len cap (zs.take len) := h.num (fun _ => word_u8) (by omega)
theorem Came.old {k : IntKind} {w w' : World} {a : Option Addr} {len cap : Nat} {zs : List Int} (h : Came k w a len cap zs) (hb : Below w.heap.size w w') : Came k w' a len cap zs := by
  rcases h with h | ⟨x, rfl, h1, h2, h3, h4, h5⟩
  · exact .inl h
  · refine .inr ⟨x, rfl, h1, h2, h3, fun i hi => ?_, h5⟩
    have := h4 i hi
    have hlt := World.block_lt_of_cell? w _ this
    rw [hb.cell hlt]; exact this
end Go.Proofs.Ytdojbknkaoiioaa
