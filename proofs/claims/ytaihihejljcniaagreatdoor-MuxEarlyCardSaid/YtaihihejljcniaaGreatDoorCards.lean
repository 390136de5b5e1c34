/-
  DERIVED. GIVEN WITH THE SEED: THE CARDS: each row of YtaihihejljcniaaGreatDoorRows.lean that lists a variable, with what it lists TIED to the program's text (the seventh form; the later family's looks); each row that meets fmt, with fmt's text TOLD by the authors' own Lean function (tested against real Go, not proved from fmt's source: count such statements apart). THE CARD IS WHAT COUNTS. Prove the row's statement (the work); the ties are given (YtaihihejljcniaaGreatDoorTie.lean); close each card by the builder's one call (the guide's Derived/Test/ToyasCard.lean, 'card_holds'). Laid BY PROGRAM, IN A SANDBOX (cutbox-door.mjs). By AI agents, Wed Nov 11 2026. No macro, syntax, notation, axiom, sorry.
-/
import Derived.Test.YtaihihejljcniaaGreatDoorRows
import GoSem.ClaimSeven
namespace Go.Proofs.YtaihihejljcniaaGreatDoor
namespace Rows

/-- THE TIED CARD OF 'conduitlaw20.MuxEarly'. -/
def muxEarlyCard : Claim7 := { stood := { row := muxEarlyRow, standIns := [], harness := (true, "bc22a675f9f119e74e402212d2ecdafecd60d8ea0c40c4c7f4c1795a883cb429"), looks := true }, kinds := [], alts := [], laidByText := true, laidKinds := [.handle], laidTests := true, laidLooks := .later }
def MuxEarlyCardSaid : Prop := Claim7.holds Tryz.pinned (.plain (OpenSpec.ofChange muxEarlySpec)) muxEarlyCard

/-- THE SECOND FORM's CARD OF 'conduitlaw20.MuxEarly'. -/
def muxEarlyUptoCard : Claim7 := { stood := { row := muxEarlyUptoRow, standIns := [], harness := (true, "bc22a675f9f119e74e402212d2ecdafecd60d8ea0c40c4c7f4c1795a883cb429"), looks := true }, kinds := [], alts := [], laidByText := true, laidKinds := [.handle], laidTests := true, laidLooks := .later }
def MuxEarlyUptoCardSaid : Prop := Claim7.holds Tryz.pinned (.plain (OpenSpec.upto muxEarlySpec)) muxEarlyUptoCard
end Rows
end Go.Proofs.YtaihihejljcniaaGreatDoor
