/-
  DERIVED. GIVEN WITH THE SEED: THE CARDS: each row of YtkhcgoeccmkmdaaGreatDoorRows.lean that lists a variable, with what it lists TIED to the program's text (the seventh form; the later family's looks); each row that meets fmt, with fmt's text TOLD by the authors' own Lean function (tested against real Go, not proved from fmt's source: count such statements apart). THE CARD IS WHAT COUNTS. Prove the row's statement (the work); the ties are given (YtkhcgoeccmkmdaaGreatDoorTie.lean); close each card by the builder's one call (the guide's Derived/Test/ToyasCard.lean, 'card_holds'). Laid BY PROGRAM, IN A SANDBOX (cutbox-door.mjs). By AI agents, Wed Nov 11 2026. No macro, syntax, notation, axiom, sorry.
-/
import Derived.Test.YtkhcgoeccmkmdaaGreatDoorRows
import GoSem.ClaimSeven
namespace Go.Proofs.YtkhcgoeccmkmdaaGreatDoor
namespace Rows

/-- THE TIED CARD OF 'conduitlaw9.RequestHeads'. -/
def requestHeadsCard : Claim7 := { stood := { row := requestHeadsRow, standIns := [], harness := (true, "176b6afab9d64afa07a7b64c47461c515f72ce68b8cf4bcbeff74f68e5b7de5d"), looks := true }, kinds := [], alts := [], laidByText := true, laidKinds := [.data, .handle, .pinned], laidTests := true, laidLooks := .later }
def RequestHeadsCardSaid : Prop := Claim7.holds Tryz.pinned (.plain (OpenSpec.ofChange requestHeadsSpec)) requestHeadsCard

/-- THE TIED CARD OF 'conduitlaw20.MuxFair'. -/
def muxFairCard : Claim7 := { stood := { row := muxFairRow, standIns := [], harness := (true, "176b6afab9d64afa07a7b64c47461c515f72ce68b8cf4bcbeff74f68e5b7de5d"), looks := true }, kinds := [], alts := [], laidByText := true, laidKinds := [.handle], laidTests := true, laidLooks := .later }
def MuxFairCardSaid : Prop := Claim7.holds Tryz.pinned (.plain (OpenSpec.ofChange muxFairSpec)) muxFairCard

/-- THE TIED CARD OF 'conduitlaw20.MuxEarly'. -/
def muxEarlyCard : Claim7 := { stood := { row := muxEarlyRow, standIns := [], harness := (true, "176b6afab9d64afa07a7b64c47461c515f72ce68b8cf4bcbeff74f68e5b7de5d"), looks := true }, kinds := [], alts := [], laidByText := true, laidKinds := [.handle], laidTests := true, laidLooks := .later }
def MuxEarlyCardSaid : Prop := Claim7.holds Tryz.pinned (.plain (OpenSpec.ofChange muxEarlySpec)) muxEarlyCard

/-- THE SECOND FORM's CARD OF 'conduitlaw9.RequestHeads'. -/
def requestHeadsUptoCard : Claim7 := { stood := { row := requestHeadsUptoRow, standIns := [], harness := (true, "176b6afab9d64afa07a7b64c47461c515f72ce68b8cf4bcbeff74f68e5b7de5d"), looks := true }, kinds := [], alts := [], laidByText := true, laidKinds := [.data, .handle, .pinned], laidTests := true, laidLooks := .later }
def RequestHeadsUptoCardSaid : Prop := Claim7.holds Tryz.pinned (.plain (OpenSpec.upto requestHeadsSpec)) requestHeadsUptoCard

/-- THE SECOND FORM's CARD OF 'conduitlaw20.MuxFair'. -/
def muxFairUptoCard : Claim7 := { stood := { row := muxFairUptoRow, standIns := [], harness := (true, "176b6afab9d64afa07a7b64c47461c515f72ce68b8cf4bcbeff74f68e5b7de5d"), looks := true }, kinds := [], alts := [], laidByText := true, laidKinds := [.handle], laidTests := true, laidLooks := .later }
def MuxFairUptoCardSaid : Prop := Claim7.holds Tryz.pinned (.plain (OpenSpec.upto muxFairSpec)) muxFairUptoCard

/-- THE SECOND FORM's CARD OF 'conduitlaw20.MuxEarly'. -/
def muxEarlyUptoCard : Claim7 := { stood := { row := muxEarlyUptoRow, standIns := [], harness := (true, "176b6afab9d64afa07a7b64c47461c515f72ce68b8cf4bcbeff74f68e5b7de5d"), looks := true }, kinds := [], alts := [], laidByText := true, laidKinds := [.handle], laidTests := true, laidLooks := .later }
def MuxEarlyUptoCardSaid : Prop := Claim7.holds Tryz.pinned (.plain (OpenSpec.upto muxEarlySpec)) muxEarlyUptoCard
end Rows
end Go.Proofs.YtkhcgoeccmkmdaaGreatDoor
