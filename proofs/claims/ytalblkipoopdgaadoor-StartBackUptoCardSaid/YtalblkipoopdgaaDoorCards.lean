/-
  DERIVED. GIVEN WITH THE SEED: THE CARDS: each row of YtalblkipoopdgaaDoorRows.lean that lists a variable, with what it lists TIED to the program's text (the seventh form; the later family's looks); each row that meets fmt, with fmt's text TOLD by the authors' own Lean function (tested against real Go, not proved from fmt's source: count such statements apart). THE CARD IS WHAT COUNTS. Prove the row's statement (the work); the ties are given (YtalblkipoopdgaaDoorTie.lean); close each card by the builder's one call (the guide's Derived/Test/ToyasCard.lean, 'card_holds'). Laid BY PROGRAM, IN A SANDBOX (cutbox-door.mjs). By AI agents, Wed Nov 11 2026. No macro, syntax, notation, axiom, sorry.
-/
import Derived.Test.YtalblkipoopdgaaDoorRows
import GoSem.ClaimSeven
namespace Go.Proofs.YtalblkipoopdgaaDoor
namespace Rows

/-- THE TIED CARD OF 'conduitlaw7.StartTells'. -/
def startTellsCard : Claim7 := { stood := { row := startTellsRow, standIns := [], harness := (true, "f27ad40ef261455420664dca1c51a75708f983d98721a285404344f044a22990"), looks := true }, kinds := [], alts := [], laidByText := true, laidKinds := [.data, .data, .data, .data, .handle, .pinned], laidTests := true, laidLooks := .later }
def StartTellsCardSaid : Prop := Claim7.holds Tryd.pinned (.plain (OpenSpec.ofChange startTellsSpec)) startTellsCard

/-- THE TIED CARD OF 'conduitlaw7.StartBack'. -/
def startBackCard : Claim7 := { stood := { row := startBackRow, standIns := [], harness := (true, "f27ad40ef261455420664dca1c51a75708f983d98721a285404344f044a22990"), looks := true }, kinds := [], alts := [], laidByText := true, laidKinds := [.data, .data, .data, .data, .handle, .pinned], laidTests := true, laidLooks := .later }
def StartBackCardSaid : Prop := Claim7.holds Tryd.pinned (.plain (OpenSpec.ofChange startBackSpec)) startBackCard

/-- THE SECOND FORM's CARD OF 'conduitlaw7.StartTells'. -/
def startTellsUptoCard : Claim7 := { stood := { row := startTellsUptoRow, standIns := [], harness := (true, "f27ad40ef261455420664dca1c51a75708f983d98721a285404344f044a22990"), looks := true }, kinds := [], alts := [], laidByText := true, laidKinds := [.data, .data, .data, .data, .handle, .pinned], laidTests := true, laidLooks := .later }
def StartTellsUptoCardSaid : Prop := Claim7.holds Tryd.pinned (.plain (OpenSpec.upto startTellsSpec)) startTellsUptoCard

/-- THE SECOND FORM's CARD OF 'conduitlaw7.StartBack'. -/
def startBackUptoCard : Claim7 := { stood := { row := startBackUptoRow, standIns := [], harness := (true, "f27ad40ef261455420664dca1c51a75708f983d98721a285404344f044a22990"), looks := true }, kinds := [], alts := [], laidByText := true, laidKinds := [.data, .data, .data, .data, .handle, .pinned], laidTests := true, laidLooks := .later }
def StartBackUptoCardSaid : Prop := Claim7.holds Tryd.pinned (.plain (OpenSpec.upto startBackSpec)) startBackUptoCard
end Rows
end Go.Proofs.YtalblkipoopdgaaDoor
