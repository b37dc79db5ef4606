/-
  No cell of these rows narrows 'for every input' (looked for: loops, veiled, ifaces, maps, wideKeys, modest, calm, conditions, laid).
  DERIVED. THE GIVEN ROWS OF THIS SEAT. 6 by the template 'for every input the law returns true; each argument reads behind the call as it read before'; 0 by the template 'total and deterministic' (their statements: YtdojbknkaoiioaaTotals.lean).
  GIVEN WITH THE SEED: the statements are not yours to turn. If you find one false, say at which input.
  Laid BY PROGRAM, IN A SANDBOX (cutbox-rows.mjs): the forced cells as the released guide's own fill.sh prints them over the translation dd1c5c8af3c9b5a1… (all of the seat's roots in one cut). By AI agents, Wed Nov 11 2026. No macro, syntax, notation, axiom, sorry.
-/
import Derived.Test.YtdojbknkaoiioaaChecked
import GoSem.Claim
import GoSem.ClaimJoined
import GoSem.ClaimMapViews
import Derived.JoinedTies
import Derived.KernelRfl
namespace Go.Proofs.Ytdojbknkaoiioaa
/- THE CELL 'sum', in the pinned program and in every row, IS THE sha256 OF THE DUMP (.gsa) THAT YtdojbknkaoiioaaProg.lean LOADS. Nothing in Lean hashes anything: it is a label: what it is worth is what the hold of that sum in a sandbox is worth. -/
noncomputable def Try.pinned : Pinned := { name := "ytdojbknkaoiioaa", sum := "dd1c5c8af3c9b5a1317aea40feb6aaafae01d811186cf1540352eae9878c1f97", checked := Try.checked }
namespace Rows
def none {H : Type} : Left H := { results := [], args := [] }

/-- 'latchkeylaw07.CurveChecks': WHATEVER THE INPUT: true; the input reads as it did. -/
def curveChecksSpec : ChangeSpec := { name := "curveChecks", fn := fun _ => fun
  | [d1, d2, d3, d4] => { results := [.lit (.bool true)], args := [d1, d2, d3, d4] }
  | _ => none }
def curveChecksRow : OpenClaim := { program := "ytdojbknkaoiioaa", sum := "dd1c5c8af3c9b5a1317aea40feb6aaafae01d811186cf1540352eae9878c1f97", func := "latchkey/latchkeylaw07.CurveChecks", spec := "curveChecks", inPlace := ["math/bits.Add64", "math/bits.Sub64"], unfollowed := true, recurses := true, named := ["math/bits.divideError", "math/bits.overflowError"], apart := false }
def CurveChecksSaid : Prop := curveChecksRow.holds Try.pinned (OpenSpec.ofChange curveChecksSpec)

/-- ITS FALSE NEIGHBOUR: 'it returns false'. Refute it at one input. -/
def curveChecksWrong : ChangeSpec := { name := "curveChecks", fn := fun _ => fun
  | [d1, d2, d3, d4] => { results := [.lit (.bool false)], args := [d1, d2, d3, d4] }
  | _ => none }
def CurveChecksWrongFalsely : Prop := curveChecksRow.holds Try.pinned (OpenSpec.ofChange curveChecksWrong)

/-- 'latchkeylaw07.CurveGroup': WHATEVER THE INPUT: true; the input reads as it did. -/
def curveGroupSpec : ChangeSpec := { name := "curveGroup", fn := fun _ => fun
  | [d1, d2, d3, d4] => { results := [.lit (.bool true)], args := [d1, d2, d3, d4] }
  | _ => none }
def curveGroupRow : OpenClaim := { program := "ytdojbknkaoiioaa", sum := "dd1c5c8af3c9b5a1317aea40feb6aaafae01d811186cf1540352eae9878c1f97", func := "latchkey/latchkeylaw07.CurveGroup", spec := "curveGroup", inPlace := ["math/bits.Add64", "math/bits.Sub64"], unfollowed := true, recurses := true, named := ["math/bits.divideError", "math/bits.overflowError"], apart := false }
def CurveGroupSaid : Prop := curveGroupRow.holds Try.pinned (OpenSpec.ofChange curveGroupSpec)

/-- ITS FALSE NEIGHBOUR: 'it returns false'. Refute it at one input. -/
def curveGroupWrong : ChangeSpec := { name := "curveGroup", fn := fun _ => fun
  | [d1, d2, d3, d4] => { results := [.lit (.bool false)], args := [d1, d2, d3, d4] }
  | _ => none }
def CurveGroupWrongFalsely : Prop := curveGroupRow.holds Try.pinned (OpenSpec.ofChange curveGroupWrong)

/-- 'latchkeylaw07.CurveOrder': WHATEVER THE INPUT: true; the input reads as it did. -/
def curveOrderSpec : ChangeSpec := { name := "curveOrder", fn := fun _ => fun
  | [d1, d2] => { results := [.lit (.bool true)], args := [d1, d2] }
  | _ => none }
def curveOrderRow : OpenClaim := { program := "ytdojbknkaoiioaa", sum := "dd1c5c8af3c9b5a1317aea40feb6aaafae01d811186cf1540352eae9878c1f97", func := "latchkey/latchkeylaw07.CurveOrder", spec := "curveOrder", inPlace := ["math/bits.Add64", "math/bits.Sub64"], unfollowed := true, recurses := true, named := ["math/bits.divideError", "math/bits.overflowError"], apart := false }
def CurveOrderSaid : Prop := curveOrderRow.holds Try.pinned (OpenSpec.ofChange curveOrderSpec)

/-- ITS FALSE NEIGHBOUR: 'it returns false'. Refute it at one input. -/
def curveOrderWrong : ChangeSpec := { name := "curveOrder", fn := fun _ => fun
  | [d1, d2] => { results := [.lit (.bool false)], args := [d1, d2] }
  | _ => none }
def CurveOrderWrongFalsely : Prop := curveOrderRow.holds Try.pinned (OpenSpec.ofChange curveOrderWrong)

/-- 'latchkeylaw07.CurveGreat': WHATEVER THE INPUT: true; the input reads as it did. -/
def curveGreatSpec : ChangeSpec := { name := "curveGreat", fn := fun _ => fun
  | [d1, d2] => { results := [.lit (.bool true)], args := [d1, d2] }
  | _ => none }
def curveGreatRow : OpenClaim := { program := "ytdojbknkaoiioaa", sum := "dd1c5c8af3c9b5a1317aea40feb6aaafae01d811186cf1540352eae9878c1f97", func := "latchkey/latchkeylaw07.CurveGreat", spec := "curveGreat", inPlace := ["math/bits.Add64", "math/bits.Sub64"], unfollowed := true, recurses := true, named := ["math/bits.divideError", "math/bits.overflowError"], apart := false }
def CurveGreatSaid : Prop := curveGreatRow.holds Try.pinned (OpenSpec.ofChange curveGreatSpec)

/-- ITS FALSE NEIGHBOUR: 'it returns false'. Refute it at one input. -/
def curveGreatWrong : ChangeSpec := { name := "curveGreat", fn := fun _ => fun
  | [d1, d2] => { results := [.lit (.bool false)], args := [d1, d2] }
  | _ => none }
def CurveGreatWrongFalsely : Prop := curveGreatRow.holds Try.pinned (OpenSpec.ofChange curveGreatWrong)

/-- 'latchkeylaw07.CurveNegs': WHATEVER THE INPUT: true; the input reads as it did. -/
def curveNegsSpec : ChangeSpec := { name := "curveNegs", fn := fun _ => fun
  | [d1, d2, d3] => { results := [.lit (.bool true)], args := [d1, d2, d3] }
  | _ => none }
def curveNegsRow : OpenClaim := { program := "ytdojbknkaoiioaa", sum := "dd1c5c8af3c9b5a1317aea40feb6aaafae01d811186cf1540352eae9878c1f97", func := "latchkey/latchkeylaw07.CurveNegs", spec := "curveNegs", inPlace := ["math/bits.Add64", "math/bits.Sub64"], unfollowed := true, recurses := true, named := ["math/bits.divideError", "math/bits.overflowError"], apart := false }
def CurveNegsSaid : Prop := curveNegsRow.holds Try.pinned (OpenSpec.ofChange curveNegsSpec)

/-- ITS FALSE NEIGHBOUR: 'it returns false'. Refute it at one input. -/
def curveNegsWrong : ChangeSpec := { name := "curveNegs", fn := fun _ => fun
  | [d1, d2, d3] => { results := [.lit (.bool false)], args := [d1, d2, d3] }
  | _ => none }
def CurveNegsWrongFalsely : Prop := curveNegsRow.holds Try.pinned (OpenSpec.ofChange curveNegsWrong)

/-- 'latchkeylaw08.EcdsaDigests': WHATEVER THE INPUT: true; the input reads as it did. -/
def ecdsaDigestsSpec : ChangeSpec := { name := "ecdsaDigests", fn := fun _ => fun
  | [d1, d2] => { results := [.lit (.bool true)], args := [d1, d2] }
  | _ => none }
def ecdsaDigestsRow : OpenClaim := { program := "ytdojbknkaoiioaa", sum := "dd1c5c8af3c9b5a1317aea40feb6aaafae01d811186cf1540352eae9878c1f97", func := "latchkey/latchkeylaw08.EcdsaDigests", spec := "ecdsaDigests", apart := false }
def EcdsaDigestsSaid : Prop := ecdsaDigestsRow.holds Try.pinned (OpenSpec.ofChange ecdsaDigestsSpec)

/-- ITS FALSE NEIGHBOUR: 'it returns false'. Refute it at one input. -/
def ecdsaDigestsWrong : ChangeSpec := { name := "ecdsaDigests", fn := fun _ => fun
  | [d1, d2] => { results := [.lit (.bool false)], args := [d1, d2] }
  | _ => none }
def EcdsaDigestsWrongFalsely : Prop := ecdsaDigestsRow.holds Try.pinned (OpenSpec.ofChange ecdsaDigestsWrong)

/- THE SECOND FORM. 'bulk': how many values and letters a reading holds, each counted each time it is reached (what is shared counts as often as it is met; a slice's spare places count too). A statement '..UptoSaid' is the law's where the arguments, and the package variables that the reading takes, are together of bulk at most 1048576: NARROWER than '..Said'. Prove '..Said' where nothing that the law and all that it calls make is longer than what came in: it says more and counts as full. Else prove '..UptoSaid'. A law counts once. -/
mutual
def uptoBulk {H : Type} : DataW H → Nat
  | .lit (.string bytes) => bytes.length + 1
  | .lit _ => 1
  | .nil => 1
  | .ptr d => uptoBulk d + 1
  | .slice elems spare => uptoBulkAll elems + uptoBulkAll spare + 1
  | .agg parts => uptoBulkAll parts + 1
  | .iface _ d => uptoBulk d + 1
  | .map entries => uptoBulkEntries entries + 1
  | .held _ => 1
def uptoBulkAll {H : Type} : List (DataW H) → Nat
  | [] => 0
  | d :: r => uptoBulk d + uptoBulkAll r
def uptoBulkEntries {H : Type} : List (Lit × DataW H) → Nat
  | [] => 0
  | x :: r => uptoBulkEntry x + uptoBulkEntries r
def uptoBulkEntry {H : Type} : Lit × DataW H → Nat
  | (.string bytes, d) => bytes.length + uptoBulk d + 1
  | (_, d) => uptoBulk d + 1
 end
def uptoSmall : (H : Type) → List (DataW H) → Bool := fun _ ds => decide (uptoBulkAll ds ≤ 1048576)
def OpenSpec.upto (s : _root_.Go.ChangeSpec) : _root_.Go.OpenSpec := { _root_.Go.OpenSpec.ofChange s with cond := some uptoSmall }

/-- 'latchkeylaw07.CurveChecks', WHERE WHAT IT READS IS OF BULK AT MOST 1048576: true; the input reads as it did. -/
def curveChecksUptoRow : OpenClaim := { program := "ytdojbknkaoiioaa", sum := "dd1c5c8af3c9b5a1317aea40feb6aaafae01d811186cf1540352eae9878c1f97", func := "latchkey/latchkeylaw07.CurveChecks", spec := "curveChecks", inPlace := ["math/bits.Add64", "math/bits.Sub64"], unfollowed := true, recurses := true, named := ["math/bits.divideError", "math/bits.overflowError"], apart := false, narrowed := true }
def CurveChecksUptoSaid : Prop := curveChecksUptoRow.holds Try.pinned (OpenSpec.upto curveChecksSpec)

/-- 'latchkeylaw07.CurveGroup', WHERE WHAT IT READS IS OF BULK AT MOST 1048576: true; the input reads as it did. -/
def curveGroupUptoRow : OpenClaim := { program := "ytdojbknkaoiioaa", sum := "dd1c5c8af3c9b5a1317aea40feb6aaafae01d811186cf1540352eae9878c1f97", func := "latchkey/latchkeylaw07.CurveGroup", spec := "curveGroup", inPlace := ["math/bits.Add64", "math/bits.Sub64"], unfollowed := true, recurses := true, named := ["math/bits.divideError", "math/bits.overflowError"], apart := false, narrowed := true }
def CurveGroupUptoSaid : Prop := curveGroupUptoRow.holds Try.pinned (OpenSpec.upto curveGroupSpec)

/-- 'latchkeylaw07.CurveOrder', WHERE WHAT IT READS IS OF BULK AT MOST 1048576: true; the input reads as it did. -/
def curveOrderUptoRow : OpenClaim := { program := "ytdojbknkaoiioaa", sum := "dd1c5c8af3c9b5a1317aea40feb6aaafae01d811186cf1540352eae9878c1f97", func := "latchkey/latchkeylaw07.CurveOrder", spec := "curveOrder", inPlace := ["math/bits.Add64", "math/bits.Sub64"], unfollowed := true, recurses := true, named := ["math/bits.divideError", "math/bits.overflowError"], apart := false, narrowed := true }
def CurveOrderUptoSaid : Prop := curveOrderUptoRow.holds Try.pinned (OpenSpec.upto curveOrderSpec)

/-- 'latchkeylaw07.CurveGreat', WHERE WHAT IT READS IS OF BULK AT MOST 1048576: true; the input reads as it did. -/
def curveGreatUptoRow : OpenClaim := { program := "ytdojbknkaoiioaa", sum := "dd1c5c8af3c9b5a1317aea40feb6aaafae01d811186cf1540352eae9878c1f97", func := "latchkey/latchkeylaw07.CurveGreat", spec := "curveGreat", inPlace := ["math/bits.Add64", "math/bits.Sub64"], unfollowed := true, recurses := true, named := ["math/bits.divideError", "math/bits.overflowError"], apart := false, narrowed := true }
def CurveGreatUptoSaid : Prop := curveGreatUptoRow.holds Try.pinned (OpenSpec.upto curveGreatSpec)

/-- 'latchkeylaw07.CurveNegs', WHERE WHAT IT READS IS OF BULK AT MOST 1048576: true; the input reads as it did. -/
def curveNegsUptoRow : OpenClaim := { program := "ytdojbknkaoiioaa", sum := "dd1c5c8af3c9b5a1317aea40feb6aaafae01d811186cf1540352eae9878c1f97", func := "latchkey/latchkeylaw07.CurveNegs", spec := "curveNegs", inPlace := ["math/bits.Add64", "math/bits.Sub64"], unfollowed := true, recurses := true, named := ["math/bits.divideError", "math/bits.overflowError"], apart := false, narrowed := true }
def CurveNegsUptoSaid : Prop := curveNegsUptoRow.holds Try.pinned (OpenSpec.upto curveNegsSpec)

/-- 'latchkeylaw08.EcdsaDigests', WHERE WHAT IT READS IS OF BULK AT MOST 1048576: true; the input reads as it did. -/
def ecdsaDigestsUptoRow : OpenClaim := { program := "ytdojbknkaoiioaa", sum := "dd1c5c8af3c9b5a1317aea40feb6aaafae01d811186cf1540352eae9878c1f97", func := "latchkey/latchkeylaw08.EcdsaDigests", spec := "ecdsaDigests", apart := false, narrowed := true }
def EcdsaDigestsUptoSaid : Prop := ecdsaDigestsUptoRow.holds Try.pinned (OpenSpec.upto ecdsaDigestsSpec)

end Rows
end Go.Proofs.Ytdojbknkaoiioaa
