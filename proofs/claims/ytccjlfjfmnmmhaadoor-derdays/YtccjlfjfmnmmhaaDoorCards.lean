/-
  DERIVED. GIVEN WITH THE SEED: THE CARDS: each row of YtccjlfjfmnmmhaaDoorRows.lean that lists a variable, with what it lists TIED to the program's text (the seventh form; the later family's looks); each row that meets fmt, with fmt's text TOLD by the authors' own Lean function (tested against real Go, not proved from fmt's source: count such statements apart). THE CARD IS WHAT COUNTS. Prove the row's statement (the work); the ties are given (YtccjlfjfmnmmhaaDoorTie.lean); close each card by the builder's one call (the guide's Derived/Test/ToyasCard.lean, 'card_holds'). Laid BY PROGRAM, IN A SANDBOX (cutbox-door.mjs). By AI agents, Wed Nov 11 2026. No macro, syntax, notation, axiom, sorry.
-/
import Derived.Test.YtccjlfjfmnmmhaaDoorRows
import GoSem.ClaimSeven
namespace Go.Proofs.YtccjlfjfmnmmhaaDoor
namespace Rows

/-- THE TIED CARD OF 'latchkeylaw10.DerOids'. -/
def derOidsCard : Claim7 := { stood := { row := derOidsRow, standIns := [], harness := (true, "142ae79c5693160b109a7364a41c501290e41eda71213d096b233e0905b11fec"), looks := false }, kinds := [], alts := [], laidByText := true, laidKinds := [.data], laidTests := true, laidLooks := .later }
def DerOidsCardSaid : Prop := Claim7.holds Tryd.pinned (.plain (OpenSpec.ofChange derOidsSpec)) derOidsCard

/-- THE TIED CARD OF 'latchkeylaw10.DerTimes'. -/
def derTimesCard : Claim7 := { stood := { row := derTimesRow, standIns := [], harness := (true, "142ae79c5693160b109a7364a41c501290e41eda71213d096b233e0905b11fec"), looks := false }, kinds := [], alts := [], laidByText := true, laidKinds := [.data], laidTests := true, laidLooks := .later }
def DerTimesCardSaid : Prop := Claim7.holds Tryd.pinned (.plain (OpenSpec.ofChange derTimesSpec)) derTimesCard

/-- THE TIED CARD OF 'latchkeylaw10.DerDays'. -/
def derDaysCard : Claim7 := { stood := { row := derDaysRow, standIns := [], harness := (true, "142ae79c5693160b109a7364a41c501290e41eda71213d096b233e0905b11fec"), looks := false }, kinds := [], alts := [], laidByText := true, laidKinds := [.data], laidTests := true, laidLooks := .later }
def DerDaysCardSaid : Prop := Claim7.holds Tryd.pinned (.plain (OpenSpec.ofChange derDaysSpec)) derDaysCard

/-- THE SECOND FORM's CARD OF 'latchkeylaw10.DerOids'. -/
def derOidsUptoCard : Claim7 := { stood := { row := derOidsUptoRow, standIns := [], harness := (true, "142ae79c5693160b109a7364a41c501290e41eda71213d096b233e0905b11fec"), looks := false }, kinds := [], alts := [], laidByText := true, laidKinds := [.data], laidTests := true, laidLooks := .later }
def DerOidsUptoCardSaid : Prop := Claim7.holds Tryd.pinned (.plain (OpenSpec.upto derOidsSpec)) derOidsUptoCard

/-- THE SECOND FORM's CARD OF 'latchkeylaw10.DerTimes'. -/
def derTimesUptoCard : Claim7 := { stood := { row := derTimesUptoRow, standIns := [], harness := (true, "142ae79c5693160b109a7364a41c501290e41eda71213d096b233e0905b11fec"), looks := false }, kinds := [], alts := [], laidByText := true, laidKinds := [.data], laidTests := true, laidLooks := .later }
def DerTimesUptoCardSaid : Prop := Claim7.holds Tryd.pinned (.plain (OpenSpec.upto derTimesSpec)) derTimesUptoCard

/-- THE SECOND FORM's CARD OF 'latchkeylaw10.DerDays'. -/
def derDaysUptoCard : Claim7 := { stood := { row := derDaysUptoRow, standIns := [], harness := (true, "142ae79c5693160b109a7364a41c501290e41eda71213d096b233e0905b11fec"), looks := false }, kinds := [], alts := [], laidByText := true, laidKinds := [.data], laidTests := true, laidLooks := .later }
def DerDaysUptoCardSaid : Prop := Claim7.holds Tryd.pinned (.plain (OpenSpec.upto derDaysSpec)) derDaysUptoCard
end Rows
end Go.Proofs.YtccjlfjfmnmmhaaDoor
