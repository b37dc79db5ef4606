/-
  Contract of the fixed facts: Awake answers true; and of long.
-/
import Derived.Test.YtdojbknkaoiioaaDivA
import Derived.Laws.BytesArg
namespace Go.Proofs.Ytdojbknkaoiioaa
open Go.RowKit
set_option linter.unusedVariables false
set_option linter.unusedSimpArgs false

theorem one_number {xs : List Int} (hd : Dg B64 xs) (hc : Canon xs) {ys : List Int} (hd' : Dg B64 ys) (hc' : Canon ys) (h : val B64 xs = val B64 ys) : xs = ys := canon_inj B64_one hd hd' hc hc' h
theorem dg_lit2 (a b : Int) (ha : 0 ≤ a ∧ a < 18446744073709551616) (hb : 0 ≤ b ∧ b < 18446744073709551616) : Dg B64 [a, b] := Dg.cons ha (Dg.cons hb (Dg.nil _))

end Go.Proofs.Ytdojbknkaoiioaa
