/-
  DERIVED. GIVEN WITH THE SEED: THE CARDS: each row of YtnckmcmobkpdcaaDoorRows.lean that lists a variable, with what it lists TIED to the program's text (the seventh form; the later family's looks); each row that meets fmt, with fmt's text TOLD by the authors' own Lean function (tested against real Go, not proved from fmt's source: count such statements apart). THE CARD IS WHAT COUNTS. Prove the row's statement (the work); the ties are given (YtnckmcmobkpdcaaDoorTie.lean); close each card by the builder's one call (the guide's Derived/Test/ToyasCard.lean, 'card_holds'). Laid BY PROGRAM, IN A SANDBOX (cutbox-door.mjs). By AI agents, Wed Nov 11 2026. No macro, syntax, notation, axiom, sorry.
-/
import Derived.Test.YtnckmcmobkpdcaaDoorRows
import GoSem.ClaimSeven
namespace Go.Proofs.YtnckmcmobkpdcaaDoor
namespace Rows

/-- THE TIED CARD OF 'latchkeylaw10.DerOids'. -/
def derOidsCard : Claim7 := { stood := { row := derOidsRow, standIns := [], harness := (true, "a3e9f3a3c7db215776f5f73ccb3018232f80c163a6ec4700895d56617012bd92"), looks := false }, kinds := [], alts := [], laidByText := true, laidKinds := [.data], laidTests := true, laidLooks := .later }
def DerOidsCardSaid : Prop := Claim7.holds Tryd.pinned (.plain (OpenSpec.ofChange derOidsSpec)) derOidsCard

/-- THE TIED CARD OF 'latchkeylaw10.DerTimes'. -/
def derTimesCard : Claim7 := { stood := { row := derTimesRow, standIns := [], harness := (true, "a3e9f3a3c7db215776f5f73ccb3018232f80c163a6ec4700895d56617012bd92"), looks := false }, kinds := [], alts := [], laidByText := true, laidKinds := [.data], laidTests := true, laidLooks := .later }
def DerTimesCardSaid : Prop := Claim7.holds Tryd.pinned (.plain (OpenSpec.ofChange derTimesSpec)) derTimesCard

/-- THE SECOND FORM's CARD OF 'latchkeylaw10.DerOids'. -/
def derOidsUptoCard : Claim7 := { stood := { row := derOidsUptoRow, standIns := [], harness := (true, "a3e9f3a3c7db215776f5f73ccb3018232f80c163a6ec4700895d56617012bd92"), looks := false }, kinds := [], alts := [], laidByText := true, laidKinds := [.data], laidTests := true, laidLooks := .later }
def DerOidsUptoCardSaid : Prop := Claim7.holds Tryd.pinned (.plain (OpenSpec.upto derOidsSpec)) derOidsUptoCard

/-- THE SECOND FORM's CARD OF 'latchkeylaw10.DerTimes'. -/
def derTimesUptoCard : Claim7 := { stood := { row := derTimesUptoRow, standIns := [], harness := (true, "a3e9f3a3c7db215776f5f73ccb3018232f80c163a6ec4700895d56617012bd92"), looks := false }, kinds := [], alts := [], laidByText := true, laidKinds := [.data], laidTests := true, laidLooks := .later }
def DerTimesUptoCardSaid : Prop := Claim7.holds Tryd.pinned (.plain (OpenSpec.upto derTimesSpec)) derTimesUptoCard
end Rows
end Go.Proofs.YtnckmcmobkpdcaaDoor
