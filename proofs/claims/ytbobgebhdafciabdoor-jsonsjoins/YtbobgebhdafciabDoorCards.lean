/-
  DERIVED. GIVEN WITH THE SEED: THE CARDS: each row of YtbobgebhdafciabDoorRows.lean that lists a variable, with what it lists TIED to the program's text (the seventh form; the later family's looks); each row that meets fmt, with fmt's text TOLD by the authors' own Lean function (tested against real Go, not proved from fmt's source: count such statements apart). THE CARD IS WHAT COUNTS. Prove the row's statement (the work); the ties are given (YtbobgebhdafciabDoorTie.lean); close each card by the builder's one call (the guide's Derived/Test/ToyasCard.lean, 'card_holds'). Laid BY PROGRAM, IN A SANDBOX (cutbox-door.mjs). By AI agents, Wed Nov 11 2026. No macro, syntax, notation, axiom, sorry.
-/
import Derived.Test.YtbobgebhdafciabDoorRows
import GoSem.ClaimSeven
namespace Go.Proofs.YtbobgebhdafciabDoor
namespace Rows

/-- THE TIED CARD OF 'latchkeylaw05.JsonsLimits'. -/
def jsonsLimitsCard : Claim7 := { stood := { row := jsonsLimitsRow, standIns := [], harness := (true, "d8006b2dfeb3e099b365679517ce18320d07eb3eb71df8b4de9b0491b1fa9a74"), looks := false }, kinds := [], alts := [], laidByText := true, laidKinds := [.data, .pinned], laidTests := true, laidLooks := .later }
def JsonsLimitsCardSaid : Prop := Claim7.holds Tryd.pinned (.plain (OpenSpec.ofChange jsonsLimitsSpec)) jsonsLimitsCard

/-- THE TIED CARD OF 'latchkeylaw05.JsonsJoins'. -/
def jsonsJoinsCard : Claim7 := { stood := { row := jsonsJoinsRow, standIns := [], harness := (true, "d8006b2dfeb3e099b365679517ce18320d07eb3eb71df8b4de9b0491b1fa9a74"), looks := false }, kinds := [], alts := [], laidByText := true, laidKinds := [.data, .pinned], laidTests := true, laidLooks := .later }
def JsonsJoinsCardSaid : Prop := Claim7.holds Tryd.pinned (.plain (OpenSpec.ofChange jsonsJoinsSpec)) jsonsJoinsCard

/-- THE SECOND FORM's CARD OF 'latchkeylaw05.JsonsLimits'. -/
def jsonsLimitsUptoCard : Claim7 := { stood := { row := jsonsLimitsUptoRow, standIns := [], harness := (true, "d8006b2dfeb3e099b365679517ce18320d07eb3eb71df8b4de9b0491b1fa9a74"), looks := false }, kinds := [], alts := [], laidByText := true, laidKinds := [.data, .pinned], laidTests := true, laidLooks := .later }
def JsonsLimitsUptoCardSaid : Prop := Claim7.holds Tryd.pinned (.plain (OpenSpec.upto jsonsLimitsSpec)) jsonsLimitsUptoCard

/-- THE SECOND FORM's CARD OF 'latchkeylaw05.JsonsJoins'. -/
def jsonsJoinsUptoCard : Claim7 := { stood := { row := jsonsJoinsUptoRow, standIns := [], harness := (true, "d8006b2dfeb3e099b365679517ce18320d07eb3eb71df8b4de9b0491b1fa9a74"), looks := false }, kinds := [], alts := [], laidByText := true, laidKinds := [.data, .pinned], laidTests := true, laidLooks := .later }
def JsonsJoinsUptoCardSaid : Prop := Claim7.holds Tryd.pinned (.plain (OpenSpec.upto jsonsJoinsSpec)) jsonsJoinsUptoCard
end Rows
end Go.Proofs.YtbobgebhdafciabDoor
