/-
  DERIVED. GIVEN WITH THE SEED: THE CARDS: each row of YtlfmfmegnenohaaDoorRows.lean that lists a variable, with what it lists TIED to the program's text (the seventh form; the later family's looks); each row that meets fmt, with fmt's text TOLD by the authors' own Lean function (tested against real Go, not proved from fmt's source: count such statements apart). THE CARD IS WHAT COUNTS. Prove the row's statement (the work); the ties are given (YtlfmfmegnenohaaDoorTie.lean); close each card by the builder's one call (the guide's Derived/Test/ToyasCard.lean, 'card_holds'). Laid BY PROGRAM, IN A SANDBOX (cutbox-door.mjs). By AI agents, Wed Nov 11 2026. No macro, syntax, notation, axiom, sorry.
-/
import Derived.Test.YtlfmfmegnenohaaDoorRows
import GoSem.ClaimSeven
namespace Go.Proofs.YtlfmfmegnenohaaDoor
namespace Rows

/-- THE TIED CARD OF 'conduitlaw5.CutterStops'. -/
def cutterStopsCard : Claim7 := { stood := { row := cutterStopsRow, standIns := [], harness := (true, "24d71f9089bf2adcdea028648ae0b4305d25b8032a448bbebcdf173c03e6e012"), looks := true }, kinds := [], alts := [], laidByText := true, laidKinds := [.handle], laidTests := true, laidLooks := .later }
def CutterStopsCardSaid : Prop := Claim7.holds Tryd.pinned (.plain (OpenSpec.ofChange cutterStopsSpec)) cutterStopsCard

/-- THE TIED CARD OF 'conduitlaw5.CutterCuts'. -/
def cutterCutsCard : Claim7 := { stood := { row := cutterCutsRow, standIns := [], harness := (true, "24d71f9089bf2adcdea028648ae0b4305d25b8032a448bbebcdf173c03e6e012"), looks := true }, kinds := [], alts := [], laidByText := true, laidKinds := [.handle], laidTests := true, laidLooks := .later }
def CutterCutsCardSaid : Prop := Claim7.holds Tryd.pinned (.plain (OpenSpec.ofChange cutterCutsSpec)) cutterCutsCard

/-- THE TIED CARD OF 'conduitlaw5.CutterTells'. -/
def cutterTellsCard : Claim7 := { stood := { row := cutterTellsRow, standIns := [], harness := (true, "24d71f9089bf2adcdea028648ae0b4305d25b8032a448bbebcdf173c03e6e012"), looks := true }, kinds := [], alts := [], laidByText := true, laidKinds := [.handle], laidTests := true, laidLooks := .later }
def CutterTellsCardSaid : Prop := Claim7.holds Tryd.pinned (.plain (OpenSpec.ofChange cutterTellsSpec)) cutterTellsCard

/-- THE SECOND FORM's CARD OF 'conduitlaw5.CutterStops'. -/
def cutterStopsUptoCard : Claim7 := { stood := { row := cutterStopsUptoRow, standIns := [], harness := (true, "24d71f9089bf2adcdea028648ae0b4305d25b8032a448bbebcdf173c03e6e012"), looks := true }, kinds := [], alts := [], laidByText := true, laidKinds := [.handle], laidTests := true, laidLooks := .later }
def CutterStopsUptoCardSaid : Prop := Claim7.holds Tryd.pinned (.plain (OpenSpec.upto cutterStopsSpec)) cutterStopsUptoCard

/-- THE SECOND FORM's CARD OF 'conduitlaw5.CutterCuts'. -/
def cutterCutsUptoCard : Claim7 := { stood := { row := cutterCutsUptoRow, standIns := [], harness := (true, "24d71f9089bf2adcdea028648ae0b4305d25b8032a448bbebcdf173c03e6e012"), looks := true }, kinds := [], alts := [], laidByText := true, laidKinds := [.handle], laidTests := true, laidLooks := .later }
def CutterCutsUptoCardSaid : Prop := Claim7.holds Tryd.pinned (.plain (OpenSpec.upto cutterCutsSpec)) cutterCutsUptoCard

/-- THE SECOND FORM's CARD OF 'conduitlaw5.CutterTells'. -/
def cutterTellsUptoCard : Claim7 := { stood := { row := cutterTellsUptoRow, standIns := [], harness := (true, "24d71f9089bf2adcdea028648ae0b4305d25b8032a448bbebcdf173c03e6e012"), looks := true }, kinds := [], alts := [], laidByText := true, laidKinds := [.handle], laidTests := true, laidLooks := .later }
def CutterTellsUptoCardSaid : Prop := Claim7.holds Tryd.pinned (.plain (OpenSpec.upto cutterTellsSpec)) cutterTellsUptoCard
end Rows
end Go.Proofs.YtlfmfmegnenohaaDoor
