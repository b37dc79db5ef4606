/-
  NARROWER THAN 'FOR EVERY INPUT', by the rows' own cells (each row's printed sentence says how): CoseRaw: loops.
  DERIVED. THE GIVEN ROWS OF THIS SEAT. 5 by the template 'for every input the law returns true; each argument reads behind the call as it read before'; 0 by the template 'total and deterministic' (their statements: YtcgikjkpbpjgdaaGreatTotals.lean).
  GIVEN WITH THE SEED: the statements are not yours to turn. If you find one false, say at which input.
  Laid BY PROGRAM, IN A SANDBOX (cutbox-rows.mjs): the forced cells as the released guide's own fill.sh prints them over the translation aa4e16c39080a1d0… (all of the seat's roots in one cut). By AI agents, Wed Nov 11 2026. No macro, syntax, notation, axiom, sorry.
-/
import Derived.Test.YtcgikjkpbpjgdaaGreatChecked
import GoSem.Claim
import GoSem.ClaimJoined
import GoSem.ClaimMapViews
import Derived.JoinedTies
import Derived.KernelRfl
namespace Go.Proofs.YtcgikjkpbpjgdaaGreat
/- THE CELL 'sum', in the pinned program and in every row, IS THE sha256 OF THE DUMP (.gsa) THAT YtcgikjkpbpjgdaaGreatProg.lean LOADS. Nothing in Lean hashes anything: it is a label: what it is worth is what the hold of that sum in a sandbox is worth. -/
noncomputable def Tryz.pinned : Pinned := { name := "ytcgikjkpbpjgdaagreat", sum := "aa4e16c39080a1d062ff60c39199d68cfe09c46760163cd943e1001b295d3960", checked := Tryz.checked }
namespace Rows
def none {H : Type} : Left H := { results := [], args := [] }

/-- 'latchkeylaw11.CoseReads': WHATEVER THE INPUT: true; the input reads as it did. -/
def coseReadsSpec : ChangeSpec := { name := "coseReads", fn := fun _ => fun
  | [d1, d2, d3, d4, d5, d6] => { results := [.lit (.bool true)], args := [d1, d2, d3, d4, d5, d6] }
  | _ => none }
def coseReadsRow : OpenClaim := { program := "ytcgikjkpbpjgdaagreat", sum := "aa4e16c39080a1d062ff60c39199d68cfe09c46760163cd943e1001b295d3960", func := "latchkey/latchkeylaw11.CoseReads", spec := "coseReads", inPlace := ["internal/bytealg.Compare", "math/bits.Add64", "math/bits.Sub64"], unfollowed := true, recurses := true, named := ["math/bits.divideError", "math/bits.overflowError"], apart := false }
def CoseReadsSaid : Prop := coseReadsRow.holds Tryz.pinned (OpenSpec.ofChange coseReadsSpec)

/-- ITS FALSE NEIGHBOUR: 'it returns false'. Refute it at one input. -/
def coseReadsWrong : ChangeSpec := { name := "coseReads", fn := fun _ => fun
  | [d1, d2, d3, d4, d5, d6] => { results := [.lit (.bool false)], args := [d1, d2, d3, d4, d5, d6] }
  | _ => none }
def CoseReadsWrongFalsely : Prop := coseReadsRow.holds Tryz.pinned (OpenSpec.ofChange coseReadsWrong)

/-- 'latchkeylaw11.CoseRaw': WHATEVER THE INPUT: true; the input reads as it did. -/
def coseRawSpec : ChangeSpec := { name := "coseRaw", fn := fun _ => fun
  | [d1, d2, d3, d4, d5] => { results := [.lit (.bool true)], args := [d1, d2, d3, d4, d5] }
  | _ => none }
def coseRawRow : OpenClaim := { program := "ytcgikjkpbpjgdaagreat", sum := "aa4e16c39080a1d062ff60c39199d68cfe09c46760163cd943e1001b295d3960", func := "latchkey/latchkeylaw11.CoseRaw", spec := "coseRaw", inPlace := ["internal/bytealg.Compare", "math/bits.Add64", "math/bits.Sub64"], unfollowed := true, recurses := true, named := ["math/bits.divideError", "math/bits.overflowError"], loops := true, apart := false }
def CoseRawSaid : Prop := coseRawRow.holds Tryz.pinned (OpenSpec.ofChange coseRawSpec)

/-- ITS FALSE NEIGHBOUR: 'it returns false'. Refute it at one input. -/
def coseRawWrong : ChangeSpec := { name := "coseRaw", fn := fun _ => fun
  | [d1, d2, d3, d4, d5] => { results := [.lit (.bool false)], args := [d1, d2, d3, d4, d5] }
  | _ => none }
def CoseRawWrongFalsely : Prop := coseRawRow.holds Tryz.pinned (OpenSpec.ofChange coseRawWrong)

/-- 'latchkeylaw11.CosePoints': WHATEVER THE INPUT: true; the input reads as it did. -/
def cosePointsSpec : ChangeSpec := { name := "cosePoints", fn := fun _ => fun
  | [d1, d2, d3, d4, d5, d6] => { results := [.lit (.bool true)], args := [d1, d2, d3, d4, d5, d6] }
  | _ => none }
def cosePointsRow : OpenClaim := { program := "ytcgikjkpbpjgdaagreat", sum := "aa4e16c39080a1d062ff60c39199d68cfe09c46760163cd943e1001b295d3960", func := "latchkey/latchkeylaw11.CosePoints", spec := "cosePoints", inPlace := ["internal/bytealg.Compare", "math/bits.Add64", "math/bits.Sub64"], unfollowed := true, recurses := true, named := ["math/bits.divideError", "math/bits.overflowError"], apart := false }
def CosePointsSaid : Prop := cosePointsRow.holds Tryz.pinned (OpenSpec.ofChange cosePointsSpec)

/-- ITS FALSE NEIGHBOUR: 'it returns false'. Refute it at one input. -/
def cosePointsWrong : ChangeSpec := { name := "cosePoints", fn := fun _ => fun
  | [d1, d2, d3, d4, d5, d6] => { results := [.lit (.bool false)], args := [d1, d2, d3, d4, d5, d6] }
  | _ => none }
def CosePointsWrongFalsely : Prop := cosePointsRow.holds Tryz.pinned (OpenSpec.ofChange cosePointsWrong)

/-- 'latchkeylaw11.CoseWrites': WHATEVER THE INPUT: true; the input reads as it did. -/
def coseWritesSpec : ChangeSpec := { name := "coseWrites", fn := fun _ => fun
  | [d1, d2, d3, d4, d5] => { results := [.lit (.bool true)], args := [d1, d2, d3, d4, d5] }
  | _ => none }
def coseWritesRow : OpenClaim := { program := "ytcgikjkpbpjgdaagreat", sum := "aa4e16c39080a1d062ff60c39199d68cfe09c46760163cd943e1001b295d3960", func := "latchkey/latchkeylaw11.CoseWrites", spec := "coseWrites", inPlace := ["internal/bytealg.Compare", "math/bits.Add64", "math/bits.Sub64"], unfollowed := true, recurses := true, named := ["math/bits.divideError", "math/bits.overflowError"], apart := false }
def CoseWritesSaid : Prop := coseWritesRow.holds Tryz.pinned (OpenSpec.ofChange coseWritesSpec)

/-- ITS FALSE NEIGHBOUR: 'it returns false'. Refute it at one input. -/
def coseWritesWrong : ChangeSpec := { name := "coseWrites", fn := fun _ => fun
  | [d1, d2, d3, d4, d5] => { results := [.lit (.bool false)], args := [d1, d2, d3, d4, d5] }
  | _ => none }
def CoseWritesWrongFalsely : Prop := coseWritesRow.holds Tryz.pinned (OpenSpec.ofChange coseWritesWrong)

/-- 'latchkeylaw12.SigsVerifies': WHATEVER THE INPUT: true; the input reads as it did. -/
def sigsVerifiesSpec : ChangeSpec := { name := "sigsVerifies", fn := fun _ => fun
  | [d1, d2, d3, d4, d5, d6, d7] => { results := [.lit (.bool true)], args := [d1, d2, d3, d4, d5, d6, d7] }
  | _ => none }
def sigsVerifiesRow : OpenClaim := { program := "ytcgikjkpbpjgdaagreat", sum := "aa4e16c39080a1d062ff60c39199d68cfe09c46760163cd943e1001b295d3960", func := "latchkey/latchkeylaw12.SigsVerifies", spec := "sigsVerifies", inPlace := ["math/bits.Add64", "math/bits.Sub64"], unfollowed := true, recurses := true, named := ["math/bits.divideError", "math/bits.overflowError"], apart := false }
def SigsVerifiesSaid : Prop := sigsVerifiesRow.holds Tryz.pinned (OpenSpec.ofChange sigsVerifiesSpec)

/-- ITS FALSE NEIGHBOUR: 'it returns false'. Refute it at one input. -/
def sigsVerifiesWrong : ChangeSpec := { name := "sigsVerifies", fn := fun _ => fun
  | [d1, d2, d3, d4, d5, d6, d7] => { results := [.lit (.bool false)], args := [d1, d2, d3, d4, d5, d6, d7] }
  | _ => none }
def SigsVerifiesWrongFalsely : Prop := sigsVerifiesRow.holds Tryz.pinned (OpenSpec.ofChange sigsVerifiesWrong)

/- THE SECOND FORM. 'bulk': how many values and letters a reading holds, each counted each time it is reached (what is shared counts as often as it is met; a slice's spare places count too). A statement '..UptoSaid' is the law's where the arguments, and the package variables that the reading takes, are together of bulk at most 1048576: NARROWER than '..Said'. Prove '..Said' where nothing that the law and all that it calls make is longer than what came in: it says more and counts as full. Else prove '..UptoSaid'. A law counts once. -/
mutual
def uptoBulk {H : Type} : DataW H → Nat
  | .lit (.string bytes) => bytes.length + 1
  | .lit _ => 1
  | .nil => 1
  | .ptr d => uptoBulk d + 1
  | .slice elems spare => uptoBulkAll elems + uptoBulkAll spare + 1
  | .agg parts => uptoBulkAll parts + 1
  | .iface _ d => uptoBulk d + 1
  | .map entries => uptoBulkEntries entries + 1
  | .held _ => 1
def uptoBulkAll {H : Type} : List (DataW H) → Nat
  | [] => 0
  | d :: r => uptoBulk d + uptoBulkAll r
def uptoBulkEntries {H : Type} : List (Lit × DataW H) → Nat
  | [] => 0
  | x :: r => uptoBulkEntry x + uptoBulkEntries r
def uptoBulkEntry {H : Type} : Lit × DataW H → Nat
  | (.string bytes, d) => bytes.length + uptoBulk d + 1
  | (_, d) => uptoBulk d + 1
 end
def uptoSmall : (H : Type) → List (DataW H) → Bool := fun _ ds => decide (uptoBulkAll ds ≤ 1048576)
def OpenSpec.upto (s : _root_.Go.ChangeSpec) : _root_.Go.OpenSpec := { _root_.Go.OpenSpec.ofChange s with cond := some uptoSmall }

/-- 'latchkeylaw11.CoseReads', WHERE WHAT IT READS IS OF BULK AT MOST 1048576: true; the input reads as it did. -/
def coseReadsUptoRow : OpenClaim := { program := "ytcgikjkpbpjgdaagreat", sum := "aa4e16c39080a1d062ff60c39199d68cfe09c46760163cd943e1001b295d3960", func := "latchkey/latchkeylaw11.CoseReads", spec := "coseReads", inPlace := ["internal/bytealg.Compare", "math/bits.Add64", "math/bits.Sub64"], unfollowed := true, recurses := true, named := ["math/bits.divideError", "math/bits.overflowError"], apart := false, narrowed := true }
def CoseReadsUptoSaid : Prop := coseReadsUptoRow.holds Tryz.pinned (OpenSpec.upto coseReadsSpec)

/-- 'latchkeylaw11.CoseRaw', WHERE WHAT IT READS IS OF BULK AT MOST 1048576: true; the input reads as it did. -/
def coseRawUptoRow : OpenClaim := { program := "ytcgikjkpbpjgdaagreat", sum := "aa4e16c39080a1d062ff60c39199d68cfe09c46760163cd943e1001b295d3960", func := "latchkey/latchkeylaw11.CoseRaw", spec := "coseRaw", inPlace := ["internal/bytealg.Compare", "math/bits.Add64", "math/bits.Sub64"], unfollowed := true, recurses := true, named := ["math/bits.divideError", "math/bits.overflowError"], loops := true, apart := false, narrowed := true }
def CoseRawUptoSaid : Prop := coseRawUptoRow.holds Tryz.pinned (OpenSpec.upto coseRawSpec)

/-- 'latchkeylaw11.CosePoints', WHERE WHAT IT READS IS OF BULK AT MOST 1048576: true; the input reads as it did. -/
def cosePointsUptoRow : OpenClaim := { program := "ytcgikjkpbpjgdaagreat", sum := "aa4e16c39080a1d062ff60c39199d68cfe09c46760163cd943e1001b295d3960", func := "latchkey/latchkeylaw11.CosePoints", spec := "cosePoints", inPlace := ["internal/bytealg.Compare", "math/bits.Add64", "math/bits.Sub64"], unfollowed := true, recurses := true, named := ["math/bits.divideError", "math/bits.overflowError"], apart := false, narrowed := true }
def CosePointsUptoSaid : Prop := cosePointsUptoRow.holds Tryz.pinned (OpenSpec.upto cosePointsSpec)

/-- 'latchkeylaw11.CoseWrites', WHERE WHAT IT READS IS OF BULK AT MOST 1048576: true; the input reads as it did. -/
def coseWritesUptoRow : OpenClaim := { program := "ytcgikjkpbpjgdaagreat", sum := "aa4e16c39080a1d062ff60c39199d68cfe09c46760163cd943e1001b295d3960", func := "latchkey/latchkeylaw11.CoseWrites", spec := "coseWrites", inPlace := ["internal/bytealg.Compare", "math/bits.Add64", "math/bits.Sub64"], unfollowed := true, recurses := true, named := ["math/bits.divideError", "math/bits.overflowError"], apart := false, narrowed := true }
def CoseWritesUptoSaid : Prop := coseWritesUptoRow.holds Tryz.pinned (OpenSpec.upto coseWritesSpec)

/-- 'latchkeylaw12.SigsVerifies', WHERE WHAT IT READS IS OF BULK AT MOST 1048576: true; the input reads as it did. -/
def sigsVerifiesUptoRow : OpenClaim := { program := "ytcgikjkpbpjgdaagreat", sum := "aa4e16c39080a1d062ff60c39199d68cfe09c46760163cd943e1001b295d3960", func := "latchkey/latchkeylaw12.SigsVerifies", spec := "sigsVerifies", inPlace := ["math/bits.Add64", "math/bits.Sub64"], unfollowed := true, recurses := true, named := ["math/bits.divideError", "math/bits.overflowError"], apart := false, narrowed := true }
def SigsVerifiesUptoSaid : Prop := sigsVerifiesUptoRow.holds Tryz.pinned (OpenSpec.upto sigsVerifiesSpec)

end Rows
end Go.Proofs.YtcgikjkpbpjgdaaGreat
