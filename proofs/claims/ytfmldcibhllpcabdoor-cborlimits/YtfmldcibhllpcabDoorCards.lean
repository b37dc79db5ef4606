/-
  DERIVED. GIVEN WITH THE SEED: THE CARDS: each row of YtfmldcibhllpcabDoorRows.lean that lists a variable, with what it lists TIED to the program's text (the seventh form; the later family's looks); each row that meets fmt, with fmt's text TOLD by the authors' own Lean function (tested against real Go, not proved from fmt's source: count such statements apart). THE CARD IS WHAT COUNTS. Prove the row's statement (the work); the ties are given (YtfmldcibhllpcabDoorTie.lean); close each card by the builder's one call (the guide's Derived/Test/ToyasCard.lean, 'card_holds'). Laid BY PROGRAM, IN A SANDBOX (cutbox-door.mjs). By AI agents, Wed Nov 11 2026. No macro, syntax, notation, axiom, sorry.
-/
import Derived.Test.YtfmldcibhllpcabDoorRows
import GoSem.ClaimSeven
namespace Go.Proofs.YtfmldcibhllpcabDoor
namespace Rows

/-- THE TIED CARD OF 'latchkeylaw06.CborNumbers'. -/
def cborNumbersCard : Claim7 := { stood := { row := cborNumbersRow, standIns := [], harness := (true, "76eb8b1d0fb42c7202d0df8429fedb6a682c75cafccc105919996a92b9bb7a7a"), looks := false }, kinds := [], alts := [], laidByText := true, laidKinds := [.data, .pinned], laidTests := true, laidLooks := .later }
def CborNumbersCardSaid : Prop := Claim7.holds Tryd.pinned (.plain (OpenSpec.ofChange cborNumbersSpec)) cborNumbersCard

/-- THE TIED CARD OF 'latchkeylaw06.CborLimits'. -/
def cborLimitsCard : Claim7 := { stood := { row := cborLimitsRow, standIns := [], harness := (true, "76eb8b1d0fb42c7202d0df8429fedb6a682c75cafccc105919996a92b9bb7a7a"), looks := false }, kinds := [], alts := [], laidByText := true, laidKinds := [.data, .data, .data, .pinned], laidTests := true, laidLooks := .later }
def CborLimitsCardSaid : Prop := Claim7.holds Tryd.pinned (.plain (OpenSpec.ofChange cborLimitsSpec)) cborLimitsCard

/-- THE TIED CARD OF 'latchkeylaw06.CborJoins'. -/
def cborJoinsCard : Claim7 := { stood := { row := cborJoinsRow, standIns := [], harness := (true, "76eb8b1d0fb42c7202d0df8429fedb6a682c75cafccc105919996a92b9bb7a7a"), looks := false }, kinds := [], alts := [], laidByText := true, laidKinds := [.data, .data, .data, .pinned], laidTests := true, laidLooks := .later }
def CborJoinsCardSaid : Prop := Claim7.holds Tryd.pinned (.plain (OpenSpec.ofChange cborJoinsSpec)) cborJoinsCard

/-- THE TIED CARD OF 'latchkeylaw06.CborApart'. -/
def cborApartCard : Claim7 := { stood := { row := cborApartRow, standIns := [], harness := (true, "76eb8b1d0fb42c7202d0df8429fedb6a682c75cafccc105919996a92b9bb7a7a"), looks := false }, kinds := [], alts := [], laidByText := true, laidKinds := [.data, .data, .data, .pinned], laidTests := true, laidLooks := .later }
def CborApartCardSaid : Prop := Claim7.holds Tryd.pinned (.plain (OpenSpec.ofChange cborApartSpec)) cborApartCard

/-- THE SECOND FORM's CARD OF 'latchkeylaw06.CborNumbers'. -/
def cborNumbersUptoCard : Claim7 := { stood := { row := cborNumbersUptoRow, standIns := [], harness := (true, "76eb8b1d0fb42c7202d0df8429fedb6a682c75cafccc105919996a92b9bb7a7a"), looks := false }, kinds := [], alts := [], laidByText := true, laidKinds := [.data, .pinned], laidTests := true, laidLooks := .later }
def CborNumbersUptoCardSaid : Prop := Claim7.holds Tryd.pinned (.plain (OpenSpec.upto cborNumbersSpec)) cborNumbersUptoCard

/-- THE SECOND FORM's CARD OF 'latchkeylaw06.CborLimits'. -/
def cborLimitsUptoCard : Claim7 := { stood := { row := cborLimitsUptoRow, standIns := [], harness := (true, "76eb8b1d0fb42c7202d0df8429fedb6a682c75cafccc105919996a92b9bb7a7a"), looks := false }, kinds := [], alts := [], laidByText := true, laidKinds := [.data, .data, .data, .pinned], laidTests := true, laidLooks := .later }
def CborLimitsUptoCardSaid : Prop := Claim7.holds Tryd.pinned (.plain (OpenSpec.upto cborLimitsSpec)) cborLimitsUptoCard

/-- THE SECOND FORM's CARD OF 'latchkeylaw06.CborJoins'. -/
def cborJoinsUptoCard : Claim7 := { stood := { row := cborJoinsUptoRow, standIns := [], harness := (true, "76eb8b1d0fb42c7202d0df8429fedb6a682c75cafccc105919996a92b9bb7a7a"), looks := false }, kinds := [], alts := [], laidByText := true, laidKinds := [.data, .data, .data, .pinned], laidTests := true, laidLooks := .later }
def CborJoinsUptoCardSaid : Prop := Claim7.holds Tryd.pinned (.plain (OpenSpec.upto cborJoinsSpec)) cborJoinsUptoCard

/-- THE SECOND FORM's CARD OF 'latchkeylaw06.CborApart'. -/
def cborApartUptoCard : Claim7 := { stood := { row := cborApartUptoRow, standIns := [], harness := (true, "76eb8b1d0fb42c7202d0df8429fedb6a682c75cafccc105919996a92b9bb7a7a"), looks := false }, kinds := [], alts := [], laidByText := true, laidKinds := [.data, .data, .data, .pinned], laidTests := true, laidLooks := .later }
def CborApartUptoCardSaid : Prop := Claim7.holds Tryd.pinned (.plain (OpenSpec.upto cborApartSpec)) cborApartUptoCard
end Rows
end Go.Proofs.YtfmldcibhllpcabDoor
