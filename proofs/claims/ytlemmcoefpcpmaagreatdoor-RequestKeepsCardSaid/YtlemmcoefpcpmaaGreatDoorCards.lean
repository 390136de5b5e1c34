/-
  DERIVED. GIVEN WITH THE SEED: THE CARDS: each row of YtlemmcoefpcpmaaGreatDoorRows.lean that lists a variable, with what it lists TIED to the program's text (the seventh form; the later family's looks); each row that meets fmt, with fmt's text TOLD by the authors' own Lean function (tested against real Go, not proved from fmt's source: count such statements apart). THE CARD IS WHAT COUNTS. Prove the row's statement (the work); the ties are given (YtlemmcoefpcpmaaGreatDoorTie.lean); close each card by the builder's one call (the guide's Derived/Test/ToyasCard.lean, 'card_holds'). Laid BY PROGRAM, IN A SANDBOX (cutbox-door.mjs). By AI agents, Wed Nov 11 2026. No macro, syntax, notation, axiom, sorry.
-/
import Derived.Test.YtlemmcoefpcpmaaGreatDoorRows
import GoSem.ClaimSeven
namespace Go.Proofs.YtlemmcoefpcpmaaGreatDoor
namespace Rows

/-- THE TIED CARD OF 'conduitlaw9.RequestHosts'. -/
def requestHostsCard : Claim7 := { stood := { row := requestHostsRow, standIns := [], harness := (true, "836d73a5ed452d326392de9d422d75481ea7fb1802418463203681bee76d0efa"), looks := true }, kinds := [], alts := [], laidByText := true, laidKinds := [.data, .handle, .pinned], laidTests := true, laidLooks := .later }
def RequestHostsCardSaid : Prop := Claim7.holds Tryz.pinned (.plain (OpenSpec.ofChange requestHostsSpec)) requestHostsCard

/-- THE TIED CARD OF 'conduitlaw9.RequestLengths'. -/
def requestLengthsCard : Claim7 := { stood := { row := requestLengthsRow, standIns := [], harness := (true, "836d73a5ed452d326392de9d422d75481ea7fb1802418463203681bee76d0efa"), looks := true }, kinds := [], alts := [], laidByText := true, laidKinds := [.data, .handle, .pinned], laidTests := true, laidLooks := .later }
def RequestLengthsCardSaid : Prop := Claim7.holds Tryz.pinned (.plain (OpenSpec.ofChange requestLengthsSpec)) requestLengthsCard

/-- THE TIED CARD OF 'conduitlaw9.RequestLines'. -/
def requestLinesCard : Claim7 := { stood := { row := requestLinesRow, standIns := [], harness := (true, "836d73a5ed452d326392de9d422d75481ea7fb1802418463203681bee76d0efa"), looks := true }, kinds := [], alts := [], laidByText := true, laidKinds := [.data, .handle, .pinned], laidTests := true, laidLooks := .later }
def RequestLinesCardSaid : Prop := Claim7.holds Tryz.pinned (.plain (OpenSpec.ofChange requestLinesSpec)) requestLinesCard

/-- THE TIED CARD OF 'conduitlaw9.RequestExpects'. -/
def requestExpectsCard : Claim7 := { stood := { row := requestExpectsRow, standIns := [], harness := (true, "836d73a5ed452d326392de9d422d75481ea7fb1802418463203681bee76d0efa"), looks := true }, kinds := [], alts := [], laidByText := true, laidKinds := [.data, .handle, .pinned], laidTests := true, laidLooks := .later }
def RequestExpectsCardSaid : Prop := Claim7.holds Tryz.pinned (.plain (OpenSpec.ofChange requestExpectsSpec)) requestExpectsCard

/-- THE TIED CARD OF 'conduitlaw9.RequestKeeps'. -/
def requestKeepsCard : Claim7 := { stood := { row := requestKeepsRow, standIns := [], harness := (true, "836d73a5ed452d326392de9d422d75481ea7fb1802418463203681bee76d0efa"), looks := true }, kinds := [], alts := [], laidByText := true, laidKinds := [.data, .handle, .pinned], laidTests := true, laidLooks := .later }
def RequestKeepsCardSaid : Prop := Claim7.holds Tryz.pinned (.plain (OpenSpec.ofChange requestKeepsSpec)) requestKeepsCard

/-- THE SECOND FORM's CARD OF 'conduitlaw9.RequestHosts'. -/
def requestHostsUptoCard : Claim7 := { stood := { row := requestHostsUptoRow, standIns := [], harness := (true, "836d73a5ed452d326392de9d422d75481ea7fb1802418463203681bee76d0efa"), looks := true }, kinds := [], alts := [], laidByText := true, laidKinds := [.data, .handle, .pinned], laidTests := true, laidLooks := .later }
def RequestHostsUptoCardSaid : Prop := Claim7.holds Tryz.pinned (.plain (OpenSpec.upto requestHostsSpec)) requestHostsUptoCard

/-- THE SECOND FORM's CARD OF 'conduitlaw9.RequestLengths'. -/
def requestLengthsUptoCard : Claim7 := { stood := { row := requestLengthsUptoRow, standIns := [], harness := (true, "836d73a5ed452d326392de9d422d75481ea7fb1802418463203681bee76d0efa"), looks := true }, kinds := [], alts := [], laidByText := true, laidKinds := [.data, .handle, .pinned], laidTests := true, laidLooks := .later }
def RequestLengthsUptoCardSaid : Prop := Claim7.holds Tryz.pinned (.plain (OpenSpec.upto requestLengthsSpec)) requestLengthsUptoCard

/-- THE SECOND FORM's CARD OF 'conduitlaw9.RequestLines'. -/
def requestLinesUptoCard : Claim7 := { stood := { row := requestLinesUptoRow, standIns := [], harness := (true, "836d73a5ed452d326392de9d422d75481ea7fb1802418463203681bee76d0efa"), looks := true }, kinds := [], alts := [], laidByText := true, laidKinds := [.data, .handle, .pinned], laidTests := true, laidLooks := .later }
def RequestLinesUptoCardSaid : Prop := Claim7.holds Tryz.pinned (.plain (OpenSpec.upto requestLinesSpec)) requestLinesUptoCard

/-- THE SECOND FORM's CARD OF 'conduitlaw9.RequestExpects'. -/
def requestExpectsUptoCard : Claim7 := { stood := { row := requestExpectsUptoRow, standIns := [], harness := (true, "836d73a5ed452d326392de9d422d75481ea7fb1802418463203681bee76d0efa"), looks := true }, kinds := [], alts := [], laidByText := true, laidKinds := [.data, .handle, .pinned], laidTests := true, laidLooks := .later }
def RequestExpectsUptoCardSaid : Prop := Claim7.holds Tryz.pinned (.plain (OpenSpec.upto requestExpectsSpec)) requestExpectsUptoCard

/-- THE SECOND FORM's CARD OF 'conduitlaw9.RequestKeeps'. -/
def requestKeepsUptoCard : Claim7 := { stood := { row := requestKeepsUptoRow, standIns := [], harness := (true, "836d73a5ed452d326392de9d422d75481ea7fb1802418463203681bee76d0efa"), looks := true }, kinds := [], alts := [], laidByText := true, laidKinds := [.data, .handle, .pinned], laidTests := true, laidLooks := .later }
def RequestKeepsUptoCardSaid : Prop := Claim7.holds Tryz.pinned (.plain (OpenSpec.upto requestKeepsSpec)) requestKeepsUptoCard
end Rows
end Go.Proofs.YtlemmcoefpcpmaaGreatDoor
