/-
  DERIVED. GIVEN WITH THE SEED: THE CARDS: each row of YticlhkekkfelpaaGreatDoorRows.lean that lists a variable, with what it lists TIED to the program's text (the seventh form; the later family's looks); each row that meets fmt, with fmt's text TOLD by the authors' own Lean function (tested against real Go, not proved from fmt's source: count such statements apart). THE CARD IS WHAT COUNTS. Prove the row's statement (the work); the ties are given (YticlhkekkfelpaaGreatDoorTie.lean); close each card by the builder's one call (the guide's Derived/Test/ToyasCard.lean, 'card_holds'). Laid BY PROGRAM, IN A SANDBOX (cutbox-door.mjs). By AI agents, Wed Nov 11 2026. No macro, syntax, notation, axiom, sorry.
-/
import Derived.Test.YticlhkekkfelpaaGreatDoorRows
import GoSem.ClaimSeven
namespace Go.Proofs.YticlhkekkfelpaaGreatDoor
namespace Rows

/-- THE TIED CARD OF 'conduitlaw9.RequestHeads'. -/
def requestHeadsCard : Claim7 := { stood := { row := requestHeadsRow, standIns := [], harness := (true, "0fa06b54e7b1f256ca7fc2f378b2413092ec2af71018dbaca449cbcaa77deaf9"), looks := true }, kinds := [], alts := [], laidByText := true, laidKinds := [.data, .handle, .pinned], laidTests := true, laidLooks := .later }
def RequestHeadsCardSaid : Prop := Claim7.holds Tryz.pinned (.plain (OpenSpec.ofChange requestHeadsSpec)) requestHeadsCard

/-- THE TIED CARD OF 'conduitlaw23.ClientContinues'. -/
def clientContinuesCard : Claim7 := { stood := { row := clientContinuesRow, standIns := [], harness := (true, "0fa06b54e7b1f256ca7fc2f378b2413092ec2af71018dbaca449cbcaa77deaf9"), looks := true }, kinds := [], alts := [], laidByText := true, laidKinds := [.data, .handle, .pinned], laidTests := true, laidLooks := .later }
def ClientContinuesCardSaid : Prop := Claim7.holds Tryz.pinned (.plain (OpenSpec.ofChange clientContinuesSpec)) clientContinuesCard

/-- THE SECOND FORM's CARD OF 'conduitlaw9.RequestHeads'. -/
def requestHeadsUptoCard : Claim7 := { stood := { row := requestHeadsUptoRow, standIns := [], harness := (true, "0fa06b54e7b1f256ca7fc2f378b2413092ec2af71018dbaca449cbcaa77deaf9"), looks := true }, kinds := [], alts := [], laidByText := true, laidKinds := [.data, .handle, .pinned], laidTests := true, laidLooks := .later }
def RequestHeadsUptoCardSaid : Prop := Claim7.holds Tryz.pinned (.plain (OpenSpec.upto requestHeadsSpec)) requestHeadsUptoCard

/-- THE SECOND FORM's CARD OF 'conduitlaw23.ClientContinues'. -/
def clientContinuesUptoCard : Claim7 := { stood := { row := clientContinuesUptoRow, standIns := [], harness := (true, "0fa06b54e7b1f256ca7fc2f378b2413092ec2af71018dbaca449cbcaa77deaf9"), looks := true }, kinds := [], alts := [], laidByText := true, laidKinds := [.data, .handle, .pinned], laidTests := true, laidLooks := .later }
def ClientContinuesUptoCardSaid : Prop := Claim7.holds Tryz.pinned (.plain (OpenSpec.upto clientContinuesSpec)) clientContinuesUptoCard
end Rows
end Go.Proofs.YticlhkekkfelpaaGreatDoor
