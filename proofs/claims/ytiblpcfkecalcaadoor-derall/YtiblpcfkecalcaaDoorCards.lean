/-
  DERIVED. GIVEN WITH THE SEED: THE CARDS: each row of YtiblpcfkecalcaaDoorRows.lean that lists a variable, with what it lists TIED to the program's text (the seventh form; the later family's looks); each row that meets fmt, with fmt's text TOLD by the authors' own Lean function (tested against real Go, not proved from fmt's source: count such statements apart). THE CARD IS WHAT COUNTS. Prove the row's statement (the work); the ties are given (YtiblpcfkecalcaaDoorTie.lean); close each card by the builder's one call (the guide's Derived/Test/ToyasCard.lean, 'card_holds'). Laid BY PROGRAM, IN A SANDBOX (cutbox-door.mjs). By AI agents, Wed Nov 11 2026. No macro, syntax, notation, axiom, sorry.
-/
import Derived.Test.YtiblpcfkecalcaaDoorRows
import GoSem.ClaimSeven
namespace Go.Proofs.YtiblpcfkecalcaaDoor
namespace Rows

/-- THE TIED CARD OF 'latchkeylaw10.DerReads'. -/
def derReadsCard : Claim7 := { stood := { row := derReadsRow, standIns := [], harness := (true, "049421d50e11c4404800f5d90faa7d6c493f7a4db3ab5c09997cfad773d997c0"), looks := false }, kinds := [], alts := [], laidByText := true, laidKinds := [.data], laidTests := true, laidLooks := .later }
def DerReadsCardSaid : Prop := Claim7.holds Tryd.pinned (.plain (OpenSpec.ofChange derReadsSpec)) derReadsCard

/-- THE TIED CARD OF 'latchkeylaw10.DerAll'. -/
def derAllCard : Claim7 := { stood := { row := derAllRow, standIns := [], harness := (true, "049421d50e11c4404800f5d90faa7d6c493f7a4db3ab5c09997cfad773d997c0"), looks := false }, kinds := [], alts := [], laidByText := true, laidKinds := [.data], laidTests := true, laidLooks := .later }
def DerAllCardSaid : Prop := Claim7.holds Tryd.pinned (.plain (OpenSpec.ofChange derAllSpec)) derAllCard

/-- THE TIED CARD OF 'latchkeylaw10.DerWrites'. -/
def derWritesCard : Claim7 := { stood := { row := derWritesRow, standIns := [], harness := (true, "049421d50e11c4404800f5d90faa7d6c493f7a4db3ab5c09997cfad773d997c0"), looks := false }, kinds := [], alts := [], laidByText := true, laidKinds := [.data], laidTests := true, laidLooks := .later }
def DerWritesCardSaid : Prop := Claim7.holds Tryd.pinned (.plain (OpenSpec.ofChange derWritesSpec)) derWritesCard

/-- THE TIED CARD OF 'latchkeylaw10.DerInts'. -/
def derIntsCard : Claim7 := { stood := { row := derIntsRow, standIns := [], harness := (true, "049421d50e11c4404800f5d90faa7d6c493f7a4db3ab5c09997cfad773d997c0"), looks := false }, kinds := [], alts := [], laidByText := true, laidKinds := [.data], laidTests := true, laidLooks := .later }
def DerIntsCardSaid : Prop := Claim7.holds Tryd.pinned (.plain (OpenSpec.ofChange derIntsSpec)) derIntsCard

/-- THE TIED CARD OF 'latchkeylaw10.DerOids'. -/
def derOidsCard : Claim7 := { stood := { row := derOidsRow, standIns := [], harness := (true, "049421d50e11c4404800f5d90faa7d6c493f7a4db3ab5c09997cfad773d997c0"), looks := false }, kinds := [], alts := [], laidByText := true, laidKinds := [.data], laidTests := true, laidLooks := .later }
def DerOidsCardSaid : Prop := Claim7.holds Tryd.pinned (.plain (OpenSpec.ofChange derOidsSpec)) derOidsCard

/-- THE TIED CARD OF 'latchkeylaw10.DerBits'. -/
def derBitsCard : Claim7 := { stood := { row := derBitsRow, standIns := [], harness := (true, "049421d50e11c4404800f5d90faa7d6c493f7a4db3ab5c09997cfad773d997c0"), looks := false }, kinds := [], alts := [], laidByText := true, laidKinds := [.data], laidTests := true, laidLooks := .later }
def DerBitsCardSaid : Prop := Claim7.holds Tryd.pinned (.plain (OpenSpec.ofChange derBitsSpec)) derBitsCard

/-- THE SECOND FORM's CARD OF 'latchkeylaw10.DerReads'. -/
def derReadsUptoCard : Claim7 := { stood := { row := derReadsUptoRow, standIns := [], harness := (true, "049421d50e11c4404800f5d90faa7d6c493f7a4db3ab5c09997cfad773d997c0"), looks := false }, kinds := [], alts := [], laidByText := true, laidKinds := [.data], laidTests := true, laidLooks := .later }
def DerReadsUptoCardSaid : Prop := Claim7.holds Tryd.pinned (.plain (OpenSpec.upto derReadsSpec)) derReadsUptoCard

/-- THE SECOND FORM's CARD OF 'latchkeylaw10.DerAll'. -/
def derAllUptoCard : Claim7 := { stood := { row := derAllUptoRow, standIns := [], harness := (true, "049421d50e11c4404800f5d90faa7d6c493f7a4db3ab5c09997cfad773d997c0"), looks := false }, kinds := [], alts := [], laidByText := true, laidKinds := [.data], laidTests := true, laidLooks := .later }
def DerAllUptoCardSaid : Prop := Claim7.holds Tryd.pinned (.plain (OpenSpec.upto derAllSpec)) derAllUptoCard

/-- THE SECOND FORM's CARD OF 'latchkeylaw10.DerWrites'. -/
def derWritesUptoCard : Claim7 := { stood := { row := derWritesUptoRow, standIns := [], harness := (true, "049421d50e11c4404800f5d90faa7d6c493f7a4db3ab5c09997cfad773d997c0"), looks := false }, kinds := [], alts := [], laidByText := true, laidKinds := [.data], laidTests := true, laidLooks := .later }
def DerWritesUptoCardSaid : Prop := Claim7.holds Tryd.pinned (.plain (OpenSpec.upto derWritesSpec)) derWritesUptoCard

/-- THE SECOND FORM's CARD OF 'latchkeylaw10.DerInts'. -/
def derIntsUptoCard : Claim7 := { stood := { row := derIntsUptoRow, standIns := [], harness := (true, "049421d50e11c4404800f5d90faa7d6c493f7a4db3ab5c09997cfad773d997c0"), looks := false }, kinds := [], alts := [], laidByText := true, laidKinds := [.data], laidTests := true, laidLooks := .later }
def DerIntsUptoCardSaid : Prop := Claim7.holds Tryd.pinned (.plain (OpenSpec.upto derIntsSpec)) derIntsUptoCard

/-- THE SECOND FORM's CARD OF 'latchkeylaw10.DerOids'. -/
def derOidsUptoCard : Claim7 := { stood := { row := derOidsUptoRow, standIns := [], harness := (true, "049421d50e11c4404800f5d90faa7d6c493f7a4db3ab5c09997cfad773d997c0"), looks := false }, kinds := [], alts := [], laidByText := true, laidKinds := [.data], laidTests := true, laidLooks := .later }
def DerOidsUptoCardSaid : Prop := Claim7.holds Tryd.pinned (.plain (OpenSpec.upto derOidsSpec)) derOidsUptoCard

/-- THE SECOND FORM's CARD OF 'latchkeylaw10.DerBits'. -/
def derBitsUptoCard : Claim7 := { stood := { row := derBitsUptoRow, standIns := [], harness := (true, "049421d50e11c4404800f5d90faa7d6c493f7a4db3ab5c09997cfad773d997c0"), looks := false }, kinds := [], alts := [], laidByText := true, laidKinds := [.data], laidTests := true, laidLooks := .later }
def DerBitsUptoCardSaid : Prop := Claim7.holds Tryd.pinned (.plain (OpenSpec.upto derBitsSpec)) derBitsUptoCard
end Rows
end Go.Proofs.YtiblpcfkecalcaaDoor
