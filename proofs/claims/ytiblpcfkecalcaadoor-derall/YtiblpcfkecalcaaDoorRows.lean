/-
  NARROWER THAN 'FOR EVERY INPUT', by the rows' own cells (each row's printed sentence says how): DerReads: laid · DerAll: laid · DerWrites: laid · DerInts: laid · DerOids: laid · DerBits: laid.
  DERIVED. THE GIVEN ROWS OF THIS SEAT. 6 by the template 'for every input the law returns true; each argument reads behind the call as it read before'; 0 by the template 'total and deterministic' (their statements: YtiblpcfkecalcaaDoorTotals.lean).
  GIVEN WITH THE SEED: the statements are not yours to turn. If you find one false, say at which input.
  Laid BY PROGRAM, IN A SANDBOX (cutbox-rows.mjs): the forced cells as the released guide's own fill.sh prints them over the translation 418f9ea56794ea27… (all of the seat's roots in one cut). By AI agents, Wed Nov 11 2026. No macro, syntax, notation, axiom, sorry.
-/
import Derived.Test.YtiblpcfkecalcaaDoorChecked
import GoSem.Claim
import GoSem.ClaimJoined
import GoSem.ClaimMapViews
import Derived.JoinedTies
import Derived.KernelRfl
namespace Go.Proofs.YtiblpcfkecalcaaDoor
/- THE CELL 'sum', in the pinned program and in every row, IS THE sha256 OF THE DUMP (.gsa) THAT YtiblpcfkecalcaaDoorProg.lean LOADS. Nothing in Lean hashes anything: it is a label: what it is worth is what the hold of that sum in a sandbox is worth. -/
noncomputable def Tryd.pinned : Pinned := { name := "ytiblpcfkecalcaadoor", sum := "418f9ea56794ea27adbc031c5df0f53131b55f3b234005fd48930f6350921e55", checked := Tryd.checked }
namespace Rows
def none {H : Type} : Left H := { results := [], args := [] }

/- WHAT THE LISTED PACKAGE-LEVEL VARIABLES READ AS WHEN THE CALL BEGINS. Each datum BY PROGRAM (the guide's laid-datum.mjs) off the statement by which the dump's own 'gosem.cut.vars' lays the variable. In a bare row this is a premise. The card (YtiblpcfkecalcaaDoorCards.lean) ties it to the program's text. -/
def laid_latchkey_der_monthDays {H : Type} : DataW H := .agg [.lit (.int .i64 31), .lit (.int .i64 28), .lit (.int .i64 31), .lit (.int .i64 30), .lit (.int .i64 31), .lit (.int .i64 30), .lit (.int .i64 31), .lit (.int .i64 31), .lit (.int .i64 30), .lit (.int .i64 31), .lit (.int .i64 30), .lit (.int .i64 31)]

/-- 'latchkeylaw10.DerReads': WHATEVER THE INPUT: true; the input reads as it did. -/
def derReadsSpec : ChangeSpec := { name := "derReads", fn := fun _ => fun
  | [d] => { results := [.lit (.bool true)], args := [d] }
  | _ => none }
def derReadsRow : OpenClaim := { program := "ytiblpcfkecalcaadoor", sum := "418f9ea56794ea27adbc031c5df0f53131b55f3b234005fd48930f6350921e55", func := "latchkey/latchkeylaw10.DerReads", spec := "derReads", unfollowed := true, recurses := true, named := ["latchkey/der.monthDays"], apart := false, laid := [("latchkey/der.monthDays", laid_latchkey_der_monthDays)] }
def DerReadsSaid : Prop := derReadsRow.holds Tryd.pinned (OpenSpec.ofChange derReadsSpec)

/-- ITS FALSE NEIGHBOUR: 'it returns false'. Refute it at one input. -/
def derReadsWrong : ChangeSpec := { name := "derReads", fn := fun _ => fun
  | [d] => { results := [.lit (.bool false)], args := [d] }
  | _ => none }
def DerReadsWrongFalsely : Prop := derReadsRow.holds Tryd.pinned (OpenSpec.ofChange derReadsWrong)

/-- 'latchkeylaw10.DerAll': WHATEVER THE INPUT: true; the input reads as it did. -/
def derAllSpec : ChangeSpec := { name := "derAll", fn := fun _ => fun
  | [d1, d2] => { results := [.lit (.bool true)], args := [d1, d2] }
  | _ => none }
def derAllRow : OpenClaim := { program := "ytiblpcfkecalcaadoor", sum := "418f9ea56794ea27adbc031c5df0f53131b55f3b234005fd48930f6350921e55", func := "latchkey/latchkeylaw10.DerAll", spec := "derAll", unfollowed := true, recurses := true, named := ["latchkey/der.monthDays"], apart := false, laid := [("latchkey/der.monthDays", laid_latchkey_der_monthDays)] }
def DerAllSaid : Prop := derAllRow.holds Tryd.pinned (OpenSpec.ofChange derAllSpec)

/-- ITS FALSE NEIGHBOUR: 'it returns false'. Refute it at one input. -/
def derAllWrong : ChangeSpec := { name := "derAll", fn := fun _ => fun
  | [d1, d2] => { results := [.lit (.bool false)], args := [d1, d2] }
  | _ => none }
def DerAllWrongFalsely : Prop := derAllRow.holds Tryd.pinned (OpenSpec.ofChange derAllWrong)

/-- 'latchkeylaw10.DerWrites': WHATEVER THE INPUT: true; the input reads as it did. -/
def derWritesSpec : ChangeSpec := { name := "derWrites", fn := fun _ => fun
  | [d1, d2, d3] => { results := [.lit (.bool true)], args := [d1, d2, d3] }
  | _ => none }
def derWritesRow : OpenClaim := { program := "ytiblpcfkecalcaadoor", sum := "418f9ea56794ea27adbc031c5df0f53131b55f3b234005fd48930f6350921e55", func := "latchkey/latchkeylaw10.DerWrites", spec := "derWrites", named := ["latchkey/der.monthDays"], apart := false, laid := [("latchkey/der.monthDays", laid_latchkey_der_monthDays)] }
def DerWritesSaid : Prop := derWritesRow.holds Tryd.pinned (OpenSpec.ofChange derWritesSpec)

/-- ITS FALSE NEIGHBOUR: 'it returns false'. Refute it at one input. -/
def derWritesWrong : ChangeSpec := { name := "derWrites", fn := fun _ => fun
  | [d1, d2, d3] => { results := [.lit (.bool false)], args := [d1, d2, d3] }
  | _ => none }
def DerWritesWrongFalsely : Prop := derWritesRow.holds Tryd.pinned (OpenSpec.ofChange derWritesWrong)

/-- 'latchkeylaw10.DerInts': WHATEVER THE INPUT: true; the input reads as it did. -/
def derIntsSpec : ChangeSpec := { name := "derInts", fn := fun _ => fun
  | [d1, d2, d3] => { results := [.lit (.bool true)], args := [d1, d2, d3] }
  | _ => none }
def derIntsRow : OpenClaim := { program := "ytiblpcfkecalcaadoor", sum := "418f9ea56794ea27adbc031c5df0f53131b55f3b234005fd48930f6350921e55", func := "latchkey/latchkeylaw10.DerInts", spec := "derInts", named := ["latchkey/der.monthDays"], apart := false, laid := [("latchkey/der.monthDays", laid_latchkey_der_monthDays)] }
def DerIntsSaid : Prop := derIntsRow.holds Tryd.pinned (OpenSpec.ofChange derIntsSpec)

/-- ITS FALSE NEIGHBOUR: 'it returns false'. Refute it at one input. -/
def derIntsWrong : ChangeSpec := { name := "derInts", fn := fun _ => fun
  | [d1, d2, d3] => { results := [.lit (.bool false)], args := [d1, d2, d3] }
  | _ => none }
def DerIntsWrongFalsely : Prop := derIntsRow.holds Tryd.pinned (OpenSpec.ofChange derIntsWrong)

/-- 'latchkeylaw10.DerOids': WHATEVER THE INPUT: true; the input reads as it did. -/
def derOidsSpec : ChangeSpec := { name := "derOids", fn := fun _ => fun
  | [d1, d2] => { results := [.lit (.bool true)], args := [d1, d2] }
  | _ => none }
def derOidsRow : OpenClaim := { program := "ytiblpcfkecalcaadoor", sum := "418f9ea56794ea27adbc031c5df0f53131b55f3b234005fd48930f6350921e55", func := "latchkey/latchkeylaw10.DerOids", spec := "derOids", named := ["latchkey/der.monthDays"], apart := false, laid := [("latchkey/der.monthDays", laid_latchkey_der_monthDays)] }
def DerOidsSaid : Prop := derOidsRow.holds Tryd.pinned (OpenSpec.ofChange derOidsSpec)

/-- ITS FALSE NEIGHBOUR: 'it returns false'. Refute it at one input. -/
def derOidsWrong : ChangeSpec := { name := "derOids", fn := fun _ => fun
  | [d1, d2] => { results := [.lit (.bool false)], args := [d1, d2] }
  | _ => none }
def DerOidsWrongFalsely : Prop := derOidsRow.holds Tryd.pinned (OpenSpec.ofChange derOidsWrong)

/-- 'latchkeylaw10.DerBits': WHATEVER THE INPUT: true; the input reads as it did. -/
def derBitsSpec : ChangeSpec := { name := "derBits", fn := fun _ => fun
  | [d1, d2] => { results := [.lit (.bool true)], args := [d1, d2] }
  | _ => none }
def derBitsRow : OpenClaim := { program := "ytiblpcfkecalcaadoor", sum := "418f9ea56794ea27adbc031c5df0f53131b55f3b234005fd48930f6350921e55", func := "latchkey/latchkeylaw10.DerBits", spec := "derBits", named := ["latchkey/der.monthDays"], apart := false, laid := [("latchkey/der.monthDays", laid_latchkey_der_monthDays)] }
def DerBitsSaid : Prop := derBitsRow.holds Tryd.pinned (OpenSpec.ofChange derBitsSpec)

/-- ITS FALSE NEIGHBOUR: 'it returns false'. Refute it at one input. -/
def derBitsWrong : ChangeSpec := { name := "derBits", fn := fun _ => fun
  | [d1, d2] => { results := [.lit (.bool false)], args := [d1, d2] }
  | _ => none }
def DerBitsWrongFalsely : Prop := derBitsRow.holds Tryd.pinned (OpenSpec.ofChange derBitsWrong)

/- THE SECOND FORM. 'bulk': how many values and letters a reading holds, each counted each time it is reached (what is shared counts as often as it is met; a slice's spare places count too). A statement '..UptoSaid' is the law's where the arguments, and the package variables that the reading takes, are together of bulk at most 1048576: NARROWER than '..Said'. Prove '..Said' where nothing that the law and all that it calls make is longer than what came in: it says more and counts as full. Else prove '..UptoSaid'. A law counts once. -/
mutual
def uptoBulk {H : Type} : DataW H → Nat
  | .lit (.string bytes) => bytes.length + 1
  | .lit _ => 1
  | .nil => 1
  | .ptr d => uptoBulk d + 1
  | .slice elems spare => uptoBulkAll elems + uptoBulkAll spare + 1
  | .agg parts => uptoBulkAll parts + 1
  | .iface _ d => uptoBulk d + 1
  | .map entries => uptoBulkEntries entries + 1
  | .held _ => 1
def uptoBulkAll {H : Type} : List (DataW H) → Nat
  | [] => 0
  | d :: r => uptoBulk d + uptoBulkAll r
def uptoBulkEntries {H : Type} : List (Lit × DataW H) → Nat
  | [] => 0
  | x :: r => uptoBulkEntry x + uptoBulkEntries r
def uptoBulkEntry {H : Type} : Lit × DataW H → Nat
  | (.string bytes, d) => bytes.length + uptoBulk d + 1
  | (_, d) => uptoBulk d + 1
 end
def uptoSmall : (H : Type) → List (DataW H) → Bool := fun _ ds => decide (uptoBulkAll ds ≤ 1048576)
def OpenSpec.upto (s : _root_.Go.ChangeSpec) : _root_.Go.OpenSpec := { _root_.Go.OpenSpec.ofChange s with cond := some uptoSmall }

/-- 'latchkeylaw10.DerReads', WHERE WHAT IT READS IS OF BULK AT MOST 1048576: true; the input reads as it did. -/
def derReadsUptoRow : OpenClaim := { program := "ytiblpcfkecalcaadoor", sum := "418f9ea56794ea27adbc031c5df0f53131b55f3b234005fd48930f6350921e55", func := "latchkey/latchkeylaw10.DerReads", spec := "derReads", unfollowed := true, recurses := true, named := ["latchkey/der.monthDays"], apart := false, laid := [("latchkey/der.monthDays", laid_latchkey_der_monthDays)], narrowed := true }
def DerReadsUptoSaid : Prop := derReadsUptoRow.holds Tryd.pinned (OpenSpec.upto derReadsSpec)

/-- 'latchkeylaw10.DerAll', WHERE WHAT IT READS IS OF BULK AT MOST 1048576: true; the input reads as it did. -/
def derAllUptoRow : OpenClaim := { program := "ytiblpcfkecalcaadoor", sum := "418f9ea56794ea27adbc031c5df0f53131b55f3b234005fd48930f6350921e55", func := "latchkey/latchkeylaw10.DerAll", spec := "derAll", unfollowed := true, recurses := true, named := ["latchkey/der.monthDays"], apart := false, laid := [("latchkey/der.monthDays", laid_latchkey_der_monthDays)], narrowed := true }
def DerAllUptoSaid : Prop := derAllUptoRow.holds Tryd.pinned (OpenSpec.upto derAllSpec)

/-- 'latchkeylaw10.DerWrites', WHERE WHAT IT READS IS OF BULK AT MOST 1048576: true; the input reads as it did. -/
def derWritesUptoRow : OpenClaim := { program := "ytiblpcfkecalcaadoor", sum := "418f9ea56794ea27adbc031c5df0f53131b55f3b234005fd48930f6350921e55", func := "latchkey/latchkeylaw10.DerWrites", spec := "derWrites", named := ["latchkey/der.monthDays"], apart := false, laid := [("latchkey/der.monthDays", laid_latchkey_der_monthDays)], narrowed := true }
def DerWritesUptoSaid : Prop := derWritesUptoRow.holds Tryd.pinned (OpenSpec.upto derWritesSpec)

/-- 'latchkeylaw10.DerInts', WHERE WHAT IT READS IS OF BULK AT MOST 1048576: true; the input reads as it did. -/
def derIntsUptoRow : OpenClaim := { program := "ytiblpcfkecalcaadoor", sum := "418f9ea56794ea27adbc031c5df0f53131b55f3b234005fd48930f6350921e55", func := "latchkey/latchkeylaw10.DerInts", spec := "derInts", named := ["latchkey/der.monthDays"], apart := false, laid := [("latchkey/der.monthDays", laid_latchkey_der_monthDays)], narrowed := true }
def DerIntsUptoSaid : Prop := derIntsUptoRow.holds Tryd.pinned (OpenSpec.upto derIntsSpec)

/-- 'latchkeylaw10.DerOids', WHERE WHAT IT READS IS OF BULK AT MOST 1048576: true; the input reads as it did. -/
def derOidsUptoRow : OpenClaim := { program := "ytiblpcfkecalcaadoor", sum := "418f9ea56794ea27adbc031c5df0f53131b55f3b234005fd48930f6350921e55", func := "latchkey/latchkeylaw10.DerOids", spec := "derOids", named := ["latchkey/der.monthDays"], apart := false, laid := [("latchkey/der.monthDays", laid_latchkey_der_monthDays)], narrowed := true }
def DerOidsUptoSaid : Prop := derOidsUptoRow.holds Tryd.pinned (OpenSpec.upto derOidsSpec)

/-- 'latchkeylaw10.DerBits', WHERE WHAT IT READS IS OF BULK AT MOST 1048576: true; the input reads as it did. -/
def derBitsUptoRow : OpenClaim := { program := "ytiblpcfkecalcaadoor", sum := "418f9ea56794ea27adbc031c5df0f53131b55f3b234005fd48930f6350921e55", func := "latchkey/latchkeylaw10.DerBits", spec := "derBits", named := ["latchkey/der.monthDays"], apart := false, laid := [("latchkey/der.monthDays", laid_latchkey_der_monthDays)], narrowed := true }
def DerBitsUptoSaid : Prop := derBitsUptoRow.holds Tryd.pinned (OpenSpec.upto derBitsSpec)

end Rows
end Go.Proofs.YtiblpcfkecalcaaDoor
