/-
  DERIVED. GIVEN WITH THE SEED: THE CARDS: each row of YtfmldcibhllpcaaDoorRows.lean that lists a variable, with what it lists TIED to the program's text (the seventh form; the later family's looks); each row that meets fmt, with fmt's text TOLD by the authors' own Lean function (tested against real Go, not proved from fmt's source: count such statements apart). THE CARD IS WHAT COUNTS. Prove the row's statement (the work); the ties are given (YtfmldcibhllpcaaDoorTie.lean); close each card by the builder's one call (the guide's Derived/Test/ToyasCard.lean, 'card_holds'). Laid BY PROGRAM, IN A SANDBOX (cutbox-door.mjs). By AI agents, Wed Nov 11 2026. No macro, syntax, notation, axiom, sorry.
-/
import Derived.Test.YtfmldcibhllpcaaDoorRows
import GoSem.ClaimSeven
namespace Go.Proofs.YtfmldcibhllpcaaDoor
namespace Rows

/-- THE TIED CARD OF 'latchkeylaw06.CborDecodes'. -/
def cborDecodesCard : Claim7 := { stood := { row := cborDecodesRow, standIns := [], harness := (true, "99ee11f6cd7e5aa6a725765a2bcc1fc068bd125918ca4b2a6d79700573bcdeaa"), looks := false }, kinds := [], alts := [], laidByText := true, laidKinds := [.data, .pinned], laidTests := true, laidLooks := .later }
def CborDecodesCardSaid : Prop := Claim7.holds Tryd.pinned (.plain (OpenSpec.ofChange cborDecodesSpec)) cborDecodesCard

/-- THE TIED CARD OF 'latchkeylaw06.CborTurned'. -/
def cborTurnedCard : Claim7 := { stood := { row := cborTurnedRow, standIns := [], harness := (true, "99ee11f6cd7e5aa6a725765a2bcc1fc068bd125918ca4b2a6d79700573bcdeaa"), looks := false }, kinds := [], alts := [], laidByText := true, laidKinds := [.data, .pinned], laidTests := true, laidLooks := .later }
def CborTurnedCardSaid : Prop := Claim7.holds Tryd.pinned (.plain (OpenSpec.ofChange cborTurnedSpec)) cborTurnedCard

/-- THE TIED CARD OF 'latchkeylaw06.CborBack'. -/
def cborBackCard : Claim7 := { stood := { row := cborBackRow, standIns := [], harness := (true, "99ee11f6cd7e5aa6a725765a2bcc1fc068bd125918ca4b2a6d79700573bcdeaa"), looks := false }, kinds := [], alts := [], laidByText := true, laidKinds := [.data, .data, .data, .pinned], laidTests := true, laidLooks := .later }
def CborBackCardSaid : Prop := Claim7.holds Tryd.pinned (.plain (OpenSpec.ofChange cborBackSpec)) cborBackCard

/-- THE TIED CARD OF 'latchkeylaw06.CborOne'. -/
def cborOneCard : Claim7 := { stood := { row := cborOneRow, standIns := [], harness := (true, "99ee11f6cd7e5aa6a725765a2bcc1fc068bd125918ca4b2a6d79700573bcdeaa"), looks := false }, kinds := [], alts := [], laidByText := true, laidKinds := [.data, .data, .data, .pinned], laidTests := true, laidLooks := .later }
def CborOneCardSaid : Prop := Claim7.holds Tryd.pinned (.plain (OpenSpec.ofChange cborOneSpec)) cborOneCard

/-- THE TIED CARD OF 'latchkeylaw06.CborEncodes'. -/
def cborEncodesCard : Claim7 := { stood := { row := cborEncodesRow, standIns := [], harness := (true, "99ee11f6cd7e5aa6a725765a2bcc1fc068bd125918ca4b2a6d79700573bcdeaa"), looks := false }, kinds := [], alts := [], laidByText := true, laidKinds := [.data, .data, .data, .pinned], laidTests := true, laidLooks := .later }
def CborEncodesCardSaid : Prop := Claim7.holds Tryd.pinned (.plain (OpenSpec.ofChange cborEncodesSpec)) cborEncodesCard

/-- THE TIED CARD OF 'latchkeylaw06.CborGets'. -/
def cborGetsCard : Claim7 := { stood := { row := cborGetsRow, standIns := [], harness := (true, "99ee11f6cd7e5aa6a725765a2bcc1fc068bd125918ca4b2a6d79700573bcdeaa"), looks := false }, kinds := [], alts := [], laidByText := true, laidKinds := [.data, .pinned], laidTests := true, laidLooks := .later }
def CborGetsCardSaid : Prop := Claim7.holds Tryd.pinned (.plain (OpenSpec.ofChange cborGetsSpec)) cborGetsCard

/-- THE SECOND FORM's CARD OF 'latchkeylaw06.CborDecodes'. -/
def cborDecodesUptoCard : Claim7 := { stood := { row := cborDecodesUptoRow, standIns := [], harness := (true, "99ee11f6cd7e5aa6a725765a2bcc1fc068bd125918ca4b2a6d79700573bcdeaa"), looks := false }, kinds := [], alts := [], laidByText := true, laidKinds := [.data, .pinned], laidTests := true, laidLooks := .later }
def CborDecodesUptoCardSaid : Prop := Claim7.holds Tryd.pinned (.plain (OpenSpec.upto cborDecodesSpec)) cborDecodesUptoCard

/-- THE SECOND FORM's CARD OF 'latchkeylaw06.CborTurned'. -/
def cborTurnedUptoCard : Claim7 := { stood := { row := cborTurnedUptoRow, standIns := [], harness := (true, "99ee11f6cd7e5aa6a725765a2bcc1fc068bd125918ca4b2a6d79700573bcdeaa"), looks := false }, kinds := [], alts := [], laidByText := true, laidKinds := [.data, .pinned], laidTests := true, laidLooks := .later }
def CborTurnedUptoCardSaid : Prop := Claim7.holds Tryd.pinned (.plain (OpenSpec.upto cborTurnedSpec)) cborTurnedUptoCard

/-- THE SECOND FORM's CARD OF 'latchkeylaw06.CborBack'. -/
def cborBackUptoCard : Claim7 := { stood := { row := cborBackUptoRow, standIns := [], harness := (true, "99ee11f6cd7e5aa6a725765a2bcc1fc068bd125918ca4b2a6d79700573bcdeaa"), looks := false }, kinds := [], alts := [], laidByText := true, laidKinds := [.data, .data, .data, .pinned], laidTests := true, laidLooks := .later }
def CborBackUptoCardSaid : Prop := Claim7.holds Tryd.pinned (.plain (OpenSpec.upto cborBackSpec)) cborBackUptoCard

/-- THE SECOND FORM's CARD OF 'latchkeylaw06.CborOne'. -/
def cborOneUptoCard : Claim7 := { stood := { row := cborOneUptoRow, standIns := [], harness := (true, "99ee11f6cd7e5aa6a725765a2bcc1fc068bd125918ca4b2a6d79700573bcdeaa"), looks := false }, kinds := [], alts := [], laidByText := true, laidKinds := [.data, .data, .data, .pinned], laidTests := true, laidLooks := .later }
def CborOneUptoCardSaid : Prop := Claim7.holds Tryd.pinned (.plain (OpenSpec.upto cborOneSpec)) cborOneUptoCard

/-- THE SECOND FORM's CARD OF 'latchkeylaw06.CborEncodes'. -/
def cborEncodesUptoCard : Claim7 := { stood := { row := cborEncodesUptoRow, standIns := [], harness := (true, "99ee11f6cd7e5aa6a725765a2bcc1fc068bd125918ca4b2a6d79700573bcdeaa"), looks := false }, kinds := [], alts := [], laidByText := true, laidKinds := [.data, .data, .data, .pinned], laidTests := true, laidLooks := .later }
def CborEncodesUptoCardSaid : Prop := Claim7.holds Tryd.pinned (.plain (OpenSpec.upto cborEncodesSpec)) cborEncodesUptoCard

/-- THE SECOND FORM's CARD OF 'latchkeylaw06.CborGets'. -/
def cborGetsUptoCard : Claim7 := { stood := { row := cborGetsUptoRow, standIns := [], harness := (true, "99ee11f6cd7e5aa6a725765a2bcc1fc068bd125918ca4b2a6d79700573bcdeaa"), looks := false }, kinds := [], alts := [], laidByText := true, laidKinds := [.data, .pinned], laidTests := true, laidLooks := .later }
def CborGetsUptoCardSaid : Prop := Claim7.holds Tryd.pinned (.plain (OpenSpec.upto cborGetsSpec)) cborGetsUptoCard
end Rows
end Go.Proofs.YtfmldcibhllpcaaDoor
