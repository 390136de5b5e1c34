/-
  DERIVED. GIVEN WITH THE SEED: THE CARDS: each row of YtpccllhgbbpocaaDoorRows.lean that lists a variable, with what it lists TIED to the program's text (the seventh form; the later family's looks); each row that meets fmt, with fmt's text TOLD by the authors' own Lean function (tested against real Go, not proved from fmt's source: count such statements apart). THE CARD IS WHAT COUNTS. Prove the row's statement (the work); the ties are given (YtpccllhgbbpocaaDoorTie.lean); close each card by the builder's one call (the guide's Derived/Test/ToyasCard.lean, 'card_holds'). Laid BY PROGRAM, IN A SANDBOX (cutbox-door.mjs). By AI agents, Wed Nov 11 2026. No macro, syntax, notation, axiom, sorry.
-/
import Derived.Test.YtpccllhgbbpocaaDoorRows
import GoSem.ClaimSeven
namespace Go.Proofs.YtpccllhgbbpocaaDoor
namespace Rows

/-- THE TIED CARD OF 'conduitlaw3.PairLengths'. -/
def pairLengthsCard : Claim7 := { stood := { row := pairLengthsRow, standIns := [], harness := (true, "e2041dae916990e2bed363ce82f1bea948f6044191df025eea47848d32529e4c"), looks := true }, kinds := [], alts := [], laidByText := true, laidKinds := [.data, .data, .data, .handle], laidTests := true, laidLooks := .later }
def PairLengthsCardSaid : Prop := Claim7.holds Tryd.pinned (.plain (OpenSpec.ofChange pairLengthsSpec)) pairLengthsCard

/-- THE TIED CARD OF 'conduitlaw3.PairLong'. -/
def pairLongCard : Claim7 := { stood := { row := pairLongRow, standIns := [], harness := (true, "e2041dae916990e2bed363ce82f1bea948f6044191df025eea47848d32529e4c"), looks := true }, kinds := [], alts := [], laidByText := true, laidKinds := [.data, .data, .data, .handle], laidTests := true, laidLooks := .later }
def PairLongCardSaid : Prop := Claim7.holds Tryd.pinned (.plain (OpenSpec.ofChange pairLongSpec)) pairLongCard

/-- THE TIED CARD OF 'conduitlaw3.PairMany'. -/
def pairManyCard : Claim7 := { stood := { row := pairManyRow, standIns := [], harness := (true, "e2041dae916990e2bed363ce82f1bea948f6044191df025eea47848d32529e4c"), looks := true }, kinds := [], alts := [], laidByText := true, laidKinds := [.data, .data, .data, .handle], laidTests := true, laidLooks := .later }
def PairManyCardSaid : Prop := Claim7.holds Tryd.pinned (.plain (OpenSpec.ofChange pairManySpec)) pairManyCard

/-- THE TIED CARD OF 'conduitlaw5.CutterLimits'. -/
def cutterLimitsCard : Claim7 := { stood := { row := cutterLimitsRow, standIns := [], harness := (true, "e2041dae916990e2bed363ce82f1bea948f6044191df025eea47848d32529e4c"), looks := true }, kinds := [], alts := [], laidByText := true, laidKinds := [.handle], laidTests := true, laidLooks := .later }
def CutterLimitsCardSaid : Prop := Claim7.holds Tryd.pinned (.plain (OpenSpec.ofChange cutterLimitsSpec)) cutterLimitsCard

/-- THE TIED CARD OF 'conduitlaw7.StartTargets'. -/
def startTargetsCard : Claim7 := { stood := { row := startTargetsRow, standIns := [], harness := (true, "e2041dae916990e2bed363ce82f1bea948f6044191df025eea47848d32529e4c"), looks := true }, kinds := [], alts := [], laidByText := true, laidKinds := [.data, .data, .data, .data, .handle, .pinned], laidTests := true, laidLooks := .later }
def StartTargetsCardSaid : Prop := Claim7.holds Tryd.pinned (.plain (OpenSpec.ofChange startTargetsSpec)) startTargetsCard

/-- THE TIED CARD OF 'conduitlaw7.StartLimits'. -/
def startLimitsCard : Claim7 := { stood := { row := startLimitsRow, standIns := [], harness := (true, "e2041dae916990e2bed363ce82f1bea948f6044191df025eea47848d32529e4c"), looks := true }, kinds := [], alts := [], laidByText := true, laidKinds := [.data, .data, .data, .data, .handle, .pinned], laidTests := true, laidLooks := .later }
def StartLimitsCardSaid : Prop := Claim7.holds Tryd.pinned (.plain (OpenSpec.ofChange startLimitsSpec)) startLimitsCard

/-- THE TIED CARD OF 'conduitlaw16.CgiStatus'. -/
def cgiStatusCard : Claim7 := { stood := { row := cgiStatusRow, standIns := [], harness := (true, "e2041dae916990e2bed363ce82f1bea948f6044191df025eea47848d32529e4c"), looks := true }, kinds := [], alts := [], laidByText := true, laidKinds := [.data, .handle, .pinned], laidTests := true, laidLooks := .later }
def CgiStatusCardSaid : Prop := Claim7.holds Tryd.pinned (.plain (OpenSpec.ofChange cgiStatusSpec)) cgiStatusCard

/-- THE TIED CARD OF 'conduitlaw20.MuxOthers'. -/
def muxOthersCard : Claim7 := { stood := { row := muxOthersRow, standIns := [], harness := (true, "e2041dae916990e2bed363ce82f1bea948f6044191df025eea47848d32529e4c"), looks := true }, kinds := [], alts := [], laidByText := true, laidKinds := [.handle], laidTests := true, laidLooks := .later }
def MuxOthersCardSaid : Prop := Claim7.holds Tryd.pinned (.plain (OpenSpec.ofChange muxOthersSpec)) muxOthersCard

/-- THE TIED CARD OF 'conduitlaw1.OctetTokens'. -/
def octetTokensCard : Claim7 := { stood := { row := octetTokensRow, standIns := [], harness := (true, "e2041dae916990e2bed363ce82f1bea948f6044191df025eea47848d32529e4c"), looks := true }, kinds := [], alts := [], laidByText := true, laidKinds := [.data, .pinned], laidTests := true, laidLooks := .later }
def OctetTokensCardSaid : Prop := Claim7.holds Tryd.pinned (.plain (OpenSpec.ofChange octetTokensSpec)) octetTokensCard

/-- THE SECOND FORM's CARD OF 'conduitlaw3.PairLengths'. -/
def pairLengthsUptoCard : Claim7 := { stood := { row := pairLengthsUptoRow, standIns := [], harness := (true, "e2041dae916990e2bed363ce82f1bea948f6044191df025eea47848d32529e4c"), looks := true }, kinds := [], alts := [], laidByText := true, laidKinds := [.data, .data, .data, .handle], laidTests := true, laidLooks := .later }
def PairLengthsUptoCardSaid : Prop := Claim7.holds Tryd.pinned (.plain (OpenSpec.upto pairLengthsSpec)) pairLengthsUptoCard

/-- THE SECOND FORM's CARD OF 'conduitlaw3.PairLong'. -/
def pairLongUptoCard : Claim7 := { stood := { row := pairLongUptoRow, standIns := [], harness := (true, "e2041dae916990e2bed363ce82f1bea948f6044191df025eea47848d32529e4c"), looks := true }, kinds := [], alts := [], laidByText := true, laidKinds := [.data, .data, .data, .handle], laidTests := true, laidLooks := .later }
def PairLongUptoCardSaid : Prop := Claim7.holds Tryd.pinned (.plain (OpenSpec.upto pairLongSpec)) pairLongUptoCard

/-- THE SECOND FORM's CARD OF 'conduitlaw3.PairMany'. -/
def pairManyUptoCard : Claim7 := { stood := { row := pairManyUptoRow, standIns := [], harness := (true, "e2041dae916990e2bed363ce82f1bea948f6044191df025eea47848d32529e4c"), looks := true }, kinds := [], alts := [], laidByText := true, laidKinds := [.data, .data, .data, .handle], laidTests := true, laidLooks := .later }
def PairManyUptoCardSaid : Prop := Claim7.holds Tryd.pinned (.plain (OpenSpec.upto pairManySpec)) pairManyUptoCard

/-- THE SECOND FORM's CARD OF 'conduitlaw5.CutterLimits'. -/
def cutterLimitsUptoCard : Claim7 := { stood := { row := cutterLimitsUptoRow, standIns := [], harness := (true, "e2041dae916990e2bed363ce82f1bea948f6044191df025eea47848d32529e4c"), looks := true }, kinds := [], alts := [], laidByText := true, laidKinds := [.handle], laidTests := true, laidLooks := .later }
def CutterLimitsUptoCardSaid : Prop := Claim7.holds Tryd.pinned (.plain (OpenSpec.upto cutterLimitsSpec)) cutterLimitsUptoCard

/-- THE SECOND FORM's CARD OF 'conduitlaw7.StartTargets'. -/
def startTargetsUptoCard : Claim7 := { stood := { row := startTargetsUptoRow, standIns := [], harness := (true, "e2041dae916990e2bed363ce82f1bea948f6044191df025eea47848d32529e4c"), looks := true }, kinds := [], alts := [], laidByText := true, laidKinds := [.data, .data, .data, .data, .handle, .pinned], laidTests := true, laidLooks := .later }
def StartTargetsUptoCardSaid : Prop := Claim7.holds Tryd.pinned (.plain (OpenSpec.upto startTargetsSpec)) startTargetsUptoCard

/-- THE SECOND FORM's CARD OF 'conduitlaw7.StartLimits'. -/
def startLimitsUptoCard : Claim7 := { stood := { row := startLimitsUptoRow, standIns := [], harness := (true, "e2041dae916990e2bed363ce82f1bea948f6044191df025eea47848d32529e4c"), looks := true }, kinds := [], alts := [], laidByText := true, laidKinds := [.data, .data, .data, .data, .handle, .pinned], laidTests := true, laidLooks := .later }
def StartLimitsUptoCardSaid : Prop := Claim7.holds Tryd.pinned (.plain (OpenSpec.upto startLimitsSpec)) startLimitsUptoCard

/-- THE SECOND FORM's CARD OF 'conduitlaw16.CgiStatus'. -/
def cgiStatusUptoCard : Claim7 := { stood := { row := cgiStatusUptoRow, standIns := [], harness := (true, "e2041dae916990e2bed363ce82f1bea948f6044191df025eea47848d32529e4c"), looks := true }, kinds := [], alts := [], laidByText := true, laidKinds := [.data, .handle, .pinned], laidTests := true, laidLooks := .later }
def CgiStatusUptoCardSaid : Prop := Claim7.holds Tryd.pinned (.plain (OpenSpec.upto cgiStatusSpec)) cgiStatusUptoCard

/-- THE SECOND FORM's CARD OF 'conduitlaw20.MuxOthers'. -/
def muxOthersUptoCard : Claim7 := { stood := { row := muxOthersUptoRow, standIns := [], harness := (true, "e2041dae916990e2bed363ce82f1bea948f6044191df025eea47848d32529e4c"), looks := true }, kinds := [], alts := [], laidByText := true, laidKinds := [.handle], laidTests := true, laidLooks := .later }
def MuxOthersUptoCardSaid : Prop := Claim7.holds Tryd.pinned (.plain (OpenSpec.upto muxOthersSpec)) muxOthersUptoCard

/-- THE SECOND FORM's CARD OF 'conduitlaw1.OctetTokens'. -/
def octetTokensUptoCard : Claim7 := { stood := { row := octetTokensUptoRow, standIns := [], harness := (true, "e2041dae916990e2bed363ce82f1bea948f6044191df025eea47848d32529e4c"), looks := true }, kinds := [], alts := [], laidByText := true, laidKinds := [.data, .pinned], laidTests := true, laidLooks := .later }
def OctetTokensUptoCardSaid : Prop := Claim7.holds Tryd.pinned (.plain (OpenSpec.upto octetTokensSpec)) octetTokensUptoCard
end Rows
end Go.Proofs.YtpccllhgbbpocaaDoor
