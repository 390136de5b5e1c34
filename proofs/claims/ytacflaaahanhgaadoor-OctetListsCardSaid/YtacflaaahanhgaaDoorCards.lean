/-
  DERIVED. GIVEN WITH THE SEED: THE CARDS: each row of YtacflaaahanhgaaDoorRows.lean that lists a variable, with what it lists TIED to the program's text (the seventh form; the later family's looks); each row that meets fmt, with fmt's text TOLD by the authors' own Lean function (tested against real Go, not proved from fmt's source: count such statements apart). THE CARD IS WHAT COUNTS. Prove the row's statement (the work); the ties are given (YtacflaaahanhgaaDoorTie.lean); close each card by the builder's one call (the guide's Derived/Test/ToyasCard.lean, 'card_holds'). Laid BY PROGRAM, IN A SANDBOX (cutbox-door.mjs). By AI agents, Wed Nov 11 2026. No macro, syntax, notation, axiom, sorry.
-/
import Derived.Test.YtacflaaahanhgaaDoorRows
import GoSem.ClaimSeven
namespace Go.Proofs.YtacflaaahanhgaaDoor
namespace Rows

/-- THE TIED CARD OF 'conduitlaw1.OctetTells'. -/
def octetTellsCard : Claim7 := { stood := { row := octetTellsRow, standIns := [], harness := (true, "dbd701e98315ed4702c79a5e88c21da506e13b71ac38e858bc3d61dd5aff71b5"), looks := true }, kinds := [], alts := [], laidByText := true, laidKinds := [.data, .handle, .pinned], laidTests := true, laidLooks := .later }
def OctetTellsCardSaid : Prop := Claim7.holds Tryd.pinned (.plain (OpenSpec.ofChange octetTellsSpec)) octetTellsCard

/-- THE TIED CARD OF 'conduitlaw1.OctetBack'. -/
def octetBackCard : Claim7 := { stood := { row := octetBackRow, standIns := [], harness := (true, "dbd701e98315ed4702c79a5e88c21da506e13b71ac38e858bc3d61dd5aff71b5"), looks := true }, kinds := [], alts := [], laidByText := true, laidKinds := [.data, .pinned], laidTests := true, laidLooks := .later }
def OctetBackCardSaid : Prop := Claim7.holds Tryd.pinned (.plain (OpenSpec.ofChange octetBackSpec)) octetBackCard

/-- THE TIED CARD OF 'conduitlaw1.OctetNumbers'. -/
def octetNumbersCard : Claim7 := { stood := { row := octetNumbersRow, standIns := [], harness := (true, "dbd701e98315ed4702c79a5e88c21da506e13b71ac38e858bc3d61dd5aff71b5"), looks := true }, kinds := [], alts := [], laidByText := true, laidKinds := [.data, .pinned], laidTests := true, laidLooks := .later }
def OctetNumbersCardSaid : Prop := Claim7.holds Tryd.pinned (.plain (OpenSpec.ofChange octetNumbersSpec)) octetNumbersCard

/-- THE TIED CARD OF 'conduitlaw1.OctetLists'. -/
def octetListsCard : Claim7 := { stood := { row := octetListsRow, standIns := [], harness := (true, "dbd701e98315ed4702c79a5e88c21da506e13b71ac38e858bc3d61dd5aff71b5"), looks := true }, kinds := [], alts := [], laidByText := true, laidKinds := [.data, .pinned], laidTests := true, laidLooks := .later }
def OctetListsCardSaid : Prop := Claim7.holds Tryd.pinned (.plain (OpenSpec.ofChange octetListsSpec)) octetListsCard

/-- THE TIED CARD OF 'conduitlaw3.PairBack'. -/
def pairBackCard : Claim7 := { stood := { row := pairBackRow, standIns := [], harness := (true, "dbd701e98315ed4702c79a5e88c21da506e13b71ac38e858bc3d61dd5aff71b5"), looks := true }, kinds := [], alts := [], laidByText := true, laidKinds := [.data, .data, .data, .handle], laidTests := true, laidLooks := .later }
def PairBackCardSaid : Prop := Claim7.holds Tryd.pinned (.plain (OpenSpec.ofChange pairBackSpec)) pairBackCard

/-- THE TIED CARD OF 'conduitlaw5.CutterTells'. -/
def cutterTellsCard : Claim7 := { stood := { row := cutterTellsRow, standIns := [], harness := (true, "dbd701e98315ed4702c79a5e88c21da506e13b71ac38e858bc3d61dd5aff71b5"), looks := true }, kinds := [], alts := [], laidByText := true, laidKinds := [.handle], laidTests := true, laidLooks := .later }
def CutterTellsCardSaid : Prop := Claim7.holds Tryd.pinned (.plain (OpenSpec.ofChange cutterTellsSpec)) cutterTellsCard

/-- THE TIED CARD OF 'conduitlaw5.CutterCuts'. -/
def cutterCutsCard : Claim7 := { stood := { row := cutterCutsRow, standIns := [], harness := (true, "dbd701e98315ed4702c79a5e88c21da506e13b71ac38e858bc3d61dd5aff71b5"), looks := true }, kinds := [], alts := [], laidByText := true, laidKinds := [.handle], laidTests := true, laidLooks := .later }
def CutterCutsCardSaid : Prop := Claim7.holds Tryd.pinned (.plain (OpenSpec.ofChange cutterCutsSpec)) cutterCutsCard

/-- THE TIED CARD OF 'conduitlaw5.CutterStops'. -/
def cutterStopsCard : Claim7 := { stood := { row := cutterStopsRow, standIns := [], harness := (true, "dbd701e98315ed4702c79a5e88c21da506e13b71ac38e858bc3d61dd5aff71b5"), looks := true }, kinds := [], alts := [], laidByText := true, laidKinds := [.handle], laidTests := true, laidLooks := .later }
def CutterStopsCardSaid : Prop := Claim7.holds Tryd.pinned (.plain (OpenSpec.ofChange cutterStopsSpec)) cutterStopsCard

/-- THE TIED CARD OF 'conduitlaw6.FieldBack'. -/
def fieldBackCard : Claim7 := { stood := { row := fieldBackRow, standIns := [], harness := (true, "dbd701e98315ed4702c79a5e88c21da506e13b71ac38e858bc3d61dd5aff71b5"), looks := true }, kinds := [], alts := [], laidByText := true, laidKinds := [.data, .pinned], laidTests := true, laidLooks := .later }
def FieldBackCardSaid : Prop := Claim7.holds Tryd.pinned (.plain (OpenSpec.ofChange fieldBackSpec)) fieldBackCard

/-- THE TIED CARD OF 'conduitlaw12.RuleSegs'. -/
def ruleSegsCard : Claim7 := { stood := { row := ruleSegsRow, standIns := [], harness := (true, "dbd701e98315ed4702c79a5e88c21da506e13b71ac38e858bc3d61dd5aff71b5"), looks := true }, kinds := [], alts := [], laidByText := true, laidKinds := [.data, .pinned], laidTests := true, laidLooks := .later }
def RuleSegsCardSaid : Prop := Claim7.holds Tryd.pinned (.plain (OpenSpec.ofChange ruleSegsSpec)) ruleSegsCard

/-- THE SECOND FORM's CARD OF 'conduitlaw1.OctetTells'. -/
def octetTellsUptoCard : Claim7 := { stood := { row := octetTellsUptoRow, standIns := [], harness := (true, "dbd701e98315ed4702c79a5e88c21da506e13b71ac38e858bc3d61dd5aff71b5"), looks := true }, kinds := [], alts := [], laidByText := true, laidKinds := [.data, .handle, .pinned], laidTests := true, laidLooks := .later }
def OctetTellsUptoCardSaid : Prop := Claim7.holds Tryd.pinned (.plain (OpenSpec.upto octetTellsSpec)) octetTellsUptoCard

/-- THE SECOND FORM's CARD OF 'conduitlaw1.OctetBack'. -/
def octetBackUptoCard : Claim7 := { stood := { row := octetBackUptoRow, standIns := [], harness := (true, "dbd701e98315ed4702c79a5e88c21da506e13b71ac38e858bc3d61dd5aff71b5"), looks := true }, kinds := [], alts := [], laidByText := true, laidKinds := [.data, .pinned], laidTests := true, laidLooks := .later }
def OctetBackUptoCardSaid : Prop := Claim7.holds Tryd.pinned (.plain (OpenSpec.upto octetBackSpec)) octetBackUptoCard

/-- THE SECOND FORM's CARD OF 'conduitlaw1.OctetNumbers'. -/
def octetNumbersUptoCard : Claim7 := { stood := { row := octetNumbersUptoRow, standIns := [], harness := (true, "dbd701e98315ed4702c79a5e88c21da506e13b71ac38e858bc3d61dd5aff71b5"), looks := true }, kinds := [], alts := [], laidByText := true, laidKinds := [.data, .pinned], laidTests := true, laidLooks := .later }
def OctetNumbersUptoCardSaid : Prop := Claim7.holds Tryd.pinned (.plain (OpenSpec.upto octetNumbersSpec)) octetNumbersUptoCard

/-- THE SECOND FORM's CARD OF 'conduitlaw1.OctetLists'. -/
def octetListsUptoCard : Claim7 := { stood := { row := octetListsUptoRow, standIns := [], harness := (true, "dbd701e98315ed4702c79a5e88c21da506e13b71ac38e858bc3d61dd5aff71b5"), looks := true }, kinds := [], alts := [], laidByText := true, laidKinds := [.data, .pinned], laidTests := true, laidLooks := .later }
def OctetListsUptoCardSaid : Prop := Claim7.holds Tryd.pinned (.plain (OpenSpec.upto octetListsSpec)) octetListsUptoCard

/-- THE SECOND FORM's CARD OF 'conduitlaw3.PairBack'. -/
def pairBackUptoCard : Claim7 := { stood := { row := pairBackUptoRow, standIns := [], harness := (true, "dbd701e98315ed4702c79a5e88c21da506e13b71ac38e858bc3d61dd5aff71b5"), looks := true }, kinds := [], alts := [], laidByText := true, laidKinds := [.data, .data, .data, .handle], laidTests := true, laidLooks := .later }
def PairBackUptoCardSaid : Prop := Claim7.holds Tryd.pinned (.plain (OpenSpec.upto pairBackSpec)) pairBackUptoCard

/-- THE SECOND FORM's CARD OF 'conduitlaw5.CutterTells'. -/
def cutterTellsUptoCard : Claim7 := { stood := { row := cutterTellsUptoRow, standIns := [], harness := (true, "dbd701e98315ed4702c79a5e88c21da506e13b71ac38e858bc3d61dd5aff71b5"), looks := true }, kinds := [], alts := [], laidByText := true, laidKinds := [.handle], laidTests := true, laidLooks := .later }
def CutterTellsUptoCardSaid : Prop := Claim7.holds Tryd.pinned (.plain (OpenSpec.upto cutterTellsSpec)) cutterTellsUptoCard

/-- THE SECOND FORM's CARD OF 'conduitlaw5.CutterCuts'. -/
def cutterCutsUptoCard : Claim7 := { stood := { row := cutterCutsUptoRow, standIns := [], harness := (true, "dbd701e98315ed4702c79a5e88c21da506e13b71ac38e858bc3d61dd5aff71b5"), looks := true }, kinds := [], alts := [], laidByText := true, laidKinds := [.handle], laidTests := true, laidLooks := .later }
def CutterCutsUptoCardSaid : Prop := Claim7.holds Tryd.pinned (.plain (OpenSpec.upto cutterCutsSpec)) cutterCutsUptoCard

/-- THE SECOND FORM's CARD OF 'conduitlaw5.CutterStops'. -/
def cutterStopsUptoCard : Claim7 := { stood := { row := cutterStopsUptoRow, standIns := [], harness := (true, "dbd701e98315ed4702c79a5e88c21da506e13b71ac38e858bc3d61dd5aff71b5"), looks := true }, kinds := [], alts := [], laidByText := true, laidKinds := [.handle], laidTests := true, laidLooks := .later }
def CutterStopsUptoCardSaid : Prop := Claim7.holds Tryd.pinned (.plain (OpenSpec.upto cutterStopsSpec)) cutterStopsUptoCard

/-- THE SECOND FORM's CARD OF 'conduitlaw6.FieldBack'. -/
def fieldBackUptoCard : Claim7 := { stood := { row := fieldBackUptoRow, standIns := [], harness := (true, "dbd701e98315ed4702c79a5e88c21da506e13b71ac38e858bc3d61dd5aff71b5"), looks := true }, kinds := [], alts := [], laidByText := true, laidKinds := [.data, .pinned], laidTests := true, laidLooks := .later }
def FieldBackUptoCardSaid : Prop := Claim7.holds Tryd.pinned (.plain (OpenSpec.upto fieldBackSpec)) fieldBackUptoCard

/-- THE SECOND FORM's CARD OF 'conduitlaw12.RuleSegs'. -/
def ruleSegsUptoCard : Claim7 := { stood := { row := ruleSegsUptoRow, standIns := [], harness := (true, "dbd701e98315ed4702c79a5e88c21da506e13b71ac38e858bc3d61dd5aff71b5"), looks := true }, kinds := [], alts := [], laidByText := true, laidKinds := [.data, .pinned], laidTests := true, laidLooks := .later }
def RuleSegsUptoCardSaid : Prop := Claim7.holds Tryd.pinned (.plain (OpenSpec.upto ruleSegsSpec)) ruleSegsUptoCard
end Rows
end Go.Proofs.YtacflaaahanhgaaDoor
