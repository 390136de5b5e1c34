/-
  DERIVED. GIVEN WITH THE SEED: THE CARDS: each row of YtnaffjionjndgaaDoorRows.lean that lists a variable, with what it lists TIED to the program's text (the seventh form; the later family's looks); each row that meets fmt, with fmt's text TOLD by the authors' own Lean function (tested against real Go, not proved from fmt's source: count such statements apart). THE CARD IS WHAT COUNTS. Prove the row's statement (the work); the ties are given (YtnaffjionjndgaaDoorTie.lean); close each card by the builder's one call (the guide's Derived/Test/ToyasCard.lean, 'card_holds'). Laid BY PROGRAM, IN A SANDBOX (cutbox-door.mjs). By AI agents, Wed Nov 11 2026. No macro, syntax, notation, axiom, sorry.
-/
import Derived.Test.YtnaffjionjndgaaDoorRows
import GoSem.ClaimSeven
namespace Go.Proofs.YtnaffjionjndgaaDoor
namespace Rows

/-- THE TIED CARD OF 'conduitlaw3.PairBack'. -/
def pairBackCard : Claim7 := { stood := { row := pairBackRow, standIns := [], harness := (true, "2a52209b1873bb7c4c8cffbbc866d78d0f46a14b1cc034755a39c5bbae41f27b"), looks := true }, kinds := [], alts := [], laidByText := true, laidKinds := [.data, .data, .data, .handle], laidTests := true, laidLooks := .later }
def PairBackCardSaid : Prop := Claim7.holds Tryd.pinned (.plain (OpenSpec.ofChange pairBackSpec)) pairBackCard

/-- THE SECOND FORM's CARD OF 'conduitlaw3.PairBack'. -/
def pairBackUptoCard : Claim7 := { stood := { row := pairBackUptoRow, standIns := [], harness := (true, "2a52209b1873bb7c4c8cffbbc866d78d0f46a14b1cc034755a39c5bbae41f27b"), looks := true }, kinds := [], alts := [], laidByText := true, laidKinds := [.data, .data, .data, .handle], laidTests := true, laidLooks := .later }
def PairBackUptoCardSaid : Prop := Claim7.holds Tryd.pinned (.plain (OpenSpec.upto pairBackSpec)) pairBackUptoCard
end Rows
end Go.Proofs.YtnaffjionjndgaaDoor
