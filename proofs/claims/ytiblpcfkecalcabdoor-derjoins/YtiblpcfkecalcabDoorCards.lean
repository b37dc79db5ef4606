/-
  DERIVED. GIVEN WITH THE SEED: THE CARDS: each row of YtiblpcfkecalcabDoorRows.lean that lists a variable, with what it lists TIED to the program's text (the seventh form; the later family's looks); each row that meets fmt, with fmt's text TOLD by the authors' own Lean function (tested against real Go, not proved from fmt's source: count such statements apart). THE CARD IS WHAT COUNTS. Prove the row's statement (the work); the ties are given (YtiblpcfkecalcabDoorTie.lean); close each card by the builder's one call (the guide's Derived/Test/ToyasCard.lean, 'card_holds'). Laid BY PROGRAM, IN A SANDBOX (cutbox-door.mjs). By AI agents, Wed Nov 11 2026. No macro, syntax, notation, axiom, sorry.
-/
import Derived.Test.YtiblpcfkecalcabDoorRows
import GoSem.ClaimSeven
namespace Go.Proofs.YtiblpcfkecalcabDoor
namespace Rows

/-- THE TIED CARD OF 'latchkeylaw10.DerTimes'. -/
def derTimesCard : Claim7 := { stood := { row := derTimesRow, standIns := [], harness := (true, "de2357e6ca5721bd1f4f065ee98fd16414c3c8fae827e68fc4f7a9c3e63c0e12"), looks := false }, kinds := [], alts := [], laidByText := true, laidKinds := [.data], laidTests := true, laidLooks := .later }
def DerTimesCardSaid : Prop := Claim7.holds Tryd.pinned (.plain (OpenSpec.ofChange derTimesSpec)) derTimesCard

/-- THE TIED CARD OF 'latchkeylaw10.DerDays'. -/
def derDaysCard : Claim7 := { stood := { row := derDaysRow, standIns := [], harness := (true, "de2357e6ca5721bd1f4f065ee98fd16414c3c8fae827e68fc4f7a9c3e63c0e12"), looks := false }, kinds := [], alts := [], laidByText := true, laidKinds := [.data], laidTests := true, laidLooks := .later }
def DerDaysCardSaid : Prop := Claim7.holds Tryd.pinned (.plain (OpenSpec.ofChange derDaysSpec)) derDaysCard

/-- THE TIED CARD OF 'latchkeylaw10.DerJoins'. -/
def derJoinsCard : Claim7 := { stood := { row := derJoinsRow, standIns := [], harness := (true, "de2357e6ca5721bd1f4f065ee98fd16414c3c8fae827e68fc4f7a9c3e63c0e12"), looks := false }, kinds := [], alts := [], laidByText := true, laidKinds := [.data], laidTests := true, laidLooks := .later }
def DerJoinsCardSaid : Prop := Claim7.holds Tryd.pinned (.plain (OpenSpec.ofChange derJoinsSpec)) derJoinsCard

/-- THE TIED CARD OF 'latchkeylaw10.DerOne'. -/
def derOneCard : Claim7 := { stood := { row := derOneRow, standIns := [], harness := (true, "de2357e6ca5721bd1f4f065ee98fd16414c3c8fae827e68fc4f7a9c3e63c0e12"), looks := false }, kinds := [], alts := [], laidByText := true, laidKinds := [.data], laidTests := true, laidLooks := .later }
def DerOneCardSaid : Prop := Claim7.holds Tryd.pinned (.plain (OpenSpec.ofChange derOneSpec)) derOneCard

/-- THE SECOND FORM's CARD OF 'latchkeylaw10.DerTimes'. -/
def derTimesUptoCard : Claim7 := { stood := { row := derTimesUptoRow, standIns := [], harness := (true, "de2357e6ca5721bd1f4f065ee98fd16414c3c8fae827e68fc4f7a9c3e63c0e12"), looks := false }, kinds := [], alts := [], laidByText := true, laidKinds := [.data], laidTests := true, laidLooks := .later }
def DerTimesUptoCardSaid : Prop := Claim7.holds Tryd.pinned (.plain (OpenSpec.upto derTimesSpec)) derTimesUptoCard

/-- THE SECOND FORM's CARD OF 'latchkeylaw10.DerDays'. -/
def derDaysUptoCard : Claim7 := { stood := { row := derDaysUptoRow, standIns := [], harness := (true, "de2357e6ca5721bd1f4f065ee98fd16414c3c8fae827e68fc4f7a9c3e63c0e12"), looks := false }, kinds := [], alts := [], laidByText := true, laidKinds := [.data], laidTests := true, laidLooks := .later }
def DerDaysUptoCardSaid : Prop := Claim7.holds Tryd.pinned (.plain (OpenSpec.upto derDaysSpec)) derDaysUptoCard

/-- THE SECOND FORM's CARD OF 'latchkeylaw10.DerJoins'. -/
def derJoinsUptoCard : Claim7 := { stood := { row := derJoinsUptoRow, standIns := [], harness := (true, "de2357e6ca5721bd1f4f065ee98fd16414c3c8fae827e68fc4f7a9c3e63c0e12"), looks := false }, kinds := [], alts := [], laidByText := true, laidKinds := [.data], laidTests := true, laidLooks := .later }
def DerJoinsUptoCardSaid : Prop := Claim7.holds Tryd.pinned (.plain (OpenSpec.upto derJoinsSpec)) derJoinsUptoCard

/-- THE SECOND FORM's CARD OF 'latchkeylaw10.DerOne'. -/
def derOneUptoCard : Claim7 := { stood := { row := derOneUptoRow, standIns := [], harness := (true, "de2357e6ca5721bd1f4f065ee98fd16414c3c8fae827e68fc4f7a9c3e63c0e12"), looks := false }, kinds := [], alts := [], laidByText := true, laidKinds := [.data], laidTests := true, laidLooks := .later }
def DerOneUptoCardSaid : Prop := Claim7.holds Tryd.pinned (.plain (OpenSpec.upto derOneSpec)) derOneUptoCard
end Rows
end Go.Proofs.YtiblpcfkecalcabDoor
