/-
  JsonsGets, as its frame wants it.
-/
import Derived.Test.YtbobgebhdafciaaDoorJGl
namespace Go.Proofs.YtbobgebhdafciaaDoor
open Go.Shelf Go.RowKit Go.ChangeShapes Go.WideShapes
set_option linter.unusedVariables false

theorem byte_wfG {x : Int} (h : (Lit.int .u8 x).wf = true) : 0 ≤ x ∧ x < 256 := by
  simp [Lit.wf, IntKind.min, IntKind.max, IntKind.signed, IntKind.bits] at h
  exact ⟨by omega, by omega⟩
theorem nodes_le {H : Type} {enc : TypeId × Value → H} {w : World} {spare : Nat → Bool} {held : Bool} {fuel : Nat} {a0 : Option Addr} {len0 cap0 : Nat} {x : DataW H × List MemPlace} (h : DataW.trod enc Tryd.prog w 0 spare held fuel 33 [.slice a0 len0 cap0] = some x) : len0 ≤ maxLen := by
  rcases Go.Deep.open_slice Tryd.underlying33 h with ⟨e, _⟩ | ⟨a, len, cap, m, n, D, Pl, e, _, hlc, hcm, _⟩
  · cases e
    exact Nat.zero_le _
  · cases e
    exact Nat.le_trans hlc hcm
theorem JsonsGets_walk (w : World) (a0 : Option Addr) (len0 cap0 : Nat) (g0 : List Gn) (w0 : g0.length = len0 ∧ GLies w a0 g0 ∧ len0 ≤ maxLen) (n1 : Int) (w1 : (Lit.int .i64 n1).wf = true) (s2 : ByteArray) (w2 : s2.size ≤ maxLen) (n3 : Int) (w3 : (Lit.int .u8 n3).wf = true) (hL : laidMet Tryd.prog Rows.jsonsGetsRow.laid w) :
    Calls Tryd.prog 7 #[.slice a0 len0 cap0, .int .i64 n1, .string s2, .int .u8 n3] w fun e w' => e = .returned (.bool true) ∧ Below w.heap.size w w' := by
  obtain ⟨⟨l⟩⟩ := s2
  exact JsonsGets_at a0 len0 cap0 n1 l n3 g0 w w0.1 w0.2.1 (byte_wfG w3) w0.2.2 (tabs_laid hL)
end Go.Proofs.YtbobgebhdafciaaDoor
