/-
  DERIVED. GIVEN WITH THE SEED: THE CARDS: each row of YtbobgebhdafciaaDoorRows.lean that lists a variable, with what it lists TIED to the program's text (the seventh form; the later family's looks); each row that meets fmt, with fmt's text TOLD by the authors' own Lean function (tested against real Go, not proved from fmt's source: count such statements apart). THE CARD IS WHAT COUNTS. Prove the row's statement (the work); the ties are given (YtbobgebhdafciaaDoorTie.lean); close each card by the builder's one call (the guide's Derived/Test/ToyasCard.lean, 'card_holds'). Laid BY PROGRAM, IN A SANDBOX (cutbox-door.mjs). By AI agents, Wed Nov 11 2026. No macro, syntax, notation, axiom, sorry.
-/
import Derived.Test.YtbobgebhdafciaaDoorRows
import GoSem.ClaimSeven
namespace Go.Proofs.YtbobgebhdafciaaDoor
namespace Rows

/-- THE TIED CARD OF 'latchkeylaw05.JsonsParses'. -/
def jsonsParsesCard : Claim7 := { stood := { row := jsonsParsesRow, standIns := [], harness := (true, "b286c150c52c2c38df64183ffd418a4a49747b615fe6057f8774f2a2b3814862"), looks := false }, kinds := [], alts := [], laidByText := true, laidKinds := [.data, .pinned], laidTests := true, laidLooks := .later }
def JsonsParsesCardSaid : Prop := Claim7.holds Tryd.pinned (.plain (OpenSpec.ofChange jsonsParsesSpec)) jsonsParsesCard

/-- THE TIED CARD OF 'latchkeylaw05.JsonsTurned'. -/
def jsonsTurnedCard : Claim7 := { stood := { row := jsonsTurnedRow, standIns := [], harness := (true, "b286c150c52c2c38df64183ffd418a4a49747b615fe6057f8774f2a2b3814862"), looks := false }, kinds := [], alts := [], laidByText := true, laidKinds := [.data, .pinned], laidTests := true, laidLooks := .later }
def JsonsTurnedCardSaid : Prop := Claim7.holds Tryd.pinned (.plain (OpenSpec.ofChange jsonsTurnedSpec)) jsonsTurnedCard

/-- THE TIED CARD OF 'latchkeylaw05.JsonsBlanks'. -/
def jsonsBlanksCard : Claim7 := { stood := { row := jsonsBlanksRow, standIns := [], harness := (true, "b286c150c52c2c38df64183ffd418a4a49747b615fe6057f8774f2a2b3814862"), looks := false }, kinds := [], alts := [], laidByText := true, laidKinds := [.data, .pinned], laidTests := true, laidLooks := .later }
def JsonsBlanksCardSaid : Prop := Claim7.holds Tryd.pinned (.plain (OpenSpec.ofChange jsonsBlanksSpec)) jsonsBlanksCard

/-- THE TIED CARD OF 'latchkeylaw05.JsonsNumbers'. -/
def jsonsNumbersCard : Claim7 := { stood := { row := jsonsNumbersRow, standIns := [], harness := (true, "b286c150c52c2c38df64183ffd418a4a49747b615fe6057f8774f2a2b3814862"), looks := false }, kinds := [], alts := [], laidByText := true, laidKinds := [.data, .pinned], laidTests := true, laidLooks := .later }
def JsonsNumbersCardSaid : Prop := Claim7.holds Tryd.pinned (.plain (OpenSpec.ofChange jsonsNumbersSpec)) jsonsNumbersCard

/-- THE TIED CARD OF 'latchkeylaw05.JsonsGets'. -/
def jsonsGetsCard : Claim7 := { stood := { row := jsonsGetsRow, standIns := [], harness := (true, "b286c150c52c2c38df64183ffd418a4a49747b615fe6057f8774f2a2b3814862"), looks := false }, kinds := [], alts := [], laidByText := true, laidKinds := [.data, .pinned], laidTests := true, laidLooks := .later }
def JsonsGetsCardSaid : Prop := Claim7.holds Tryd.pinned (.plain (OpenSpec.ofChange jsonsGetsSpec)) jsonsGetsCard

/-- THE SECOND FORM's CARD OF 'latchkeylaw05.JsonsParses'. -/
def jsonsParsesUptoCard : Claim7 := { stood := { row := jsonsParsesUptoRow, standIns := [], harness := (true, "b286c150c52c2c38df64183ffd418a4a49747b615fe6057f8774f2a2b3814862"), looks := false }, kinds := [], alts := [], laidByText := true, laidKinds := [.data, .pinned], laidTests := true, laidLooks := .later }
def JsonsParsesUptoCardSaid : Prop := Claim7.holds Tryd.pinned (.plain (OpenSpec.upto jsonsParsesSpec)) jsonsParsesUptoCard

/-- THE SECOND FORM's CARD OF 'latchkeylaw05.JsonsTurned'. -/
def jsonsTurnedUptoCard : Claim7 := { stood := { row := jsonsTurnedUptoRow, standIns := [], harness := (true, "b286c150c52c2c38df64183ffd418a4a49747b615fe6057f8774f2a2b3814862"), looks := false }, kinds := [], alts := [], laidByText := true, laidKinds := [.data, .pinned], laidTests := true, laidLooks := .later }
def JsonsTurnedUptoCardSaid : Prop := Claim7.holds Tryd.pinned (.plain (OpenSpec.upto jsonsTurnedSpec)) jsonsTurnedUptoCard

/-- THE SECOND FORM's CARD OF 'latchkeylaw05.JsonsBlanks'. -/
def jsonsBlanksUptoCard : Claim7 := { stood := { row := jsonsBlanksUptoRow, standIns := [], harness := (true, "b286c150c52c2c38df64183ffd418a4a49747b615fe6057f8774f2a2b3814862"), looks := false }, kinds := [], alts := [], laidByText := true, laidKinds := [.data, .pinned], laidTests := true, laidLooks := .later }
def JsonsBlanksUptoCardSaid : Prop := Claim7.holds Tryd.pinned (.plain (OpenSpec.upto jsonsBlanksSpec)) jsonsBlanksUptoCard

/-- THE SECOND FORM's CARD OF 'latchkeylaw05.JsonsNumbers'. -/
def jsonsNumbersUptoCard : Claim7 := { stood := { row := jsonsNumbersUptoRow, standIns := [], harness := (true, "b286c150c52c2c38df64183ffd418a4a49747b615fe6057f8774f2a2b3814862"), looks := false }, kinds := [], alts := [], laidByText := true, laidKinds := [.data, .pinned], laidTests := true, laidLooks := .later }
def JsonsNumbersUptoCardSaid : Prop := Claim7.holds Tryd.pinned (.plain (OpenSpec.upto jsonsNumbersSpec)) jsonsNumbersUptoCard

/-- THE SECOND FORM's CARD OF 'latchkeylaw05.JsonsGets'. -/
def jsonsGetsUptoCard : Claim7 := { stood := { row := jsonsGetsUptoRow, standIns := [], harness := (true, "b286c150c52c2c38df64183ffd418a4a49747b615fe6057f8774f2a2b3814862"), looks := false }, kinds := [], alts := [], laidByText := true, laidKinds := [.data, .pinned], laidTests := true, laidLooks := .later }
def JsonsGetsUptoCardSaid : Prop := Claim7.holds Tryd.pinned (.plain (OpenSpec.upto jsonsGetsSpec)) jsonsGetsUptoCard
end Rows
end Go.Proofs.YtbobgebhdafciaaDoor
