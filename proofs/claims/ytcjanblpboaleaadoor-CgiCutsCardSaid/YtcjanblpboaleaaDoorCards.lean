/-
  DERIVED. GIVEN WITH THE SEED: THE CARDS: each row of YtcjanblpboaleaaDoorRows.lean that lists a variable, with what it lists TIED to the program's text (the seventh form; the later family's looks); each row that meets fmt, with fmt's text TOLD by the authors' own Lean function (tested against real Go, not proved from fmt's source: count such statements apart). THE CARD IS WHAT COUNTS. Prove the row's statement (the work); the ties are given (YtcjanblpboaleaaDoorTie.lean); close each card by the builder's one call (the guide's Derived/Test/ToyasCard.lean, 'card_holds'). Laid BY PROGRAM, IN A SANDBOX (cutbox-door.mjs). By AI agents, Wed Nov 11 2026. No macro, syntax, notation, axiom, sorry.
-/
import Derived.Test.YtcjanblpboaleaaDoorRows
import GoSem.ClaimSeven
namespace Go.Proofs.YtcjanblpboaleaaDoor
namespace Rows

/-- THE TIED CARD OF 'conduitlaw16.CgiCuts'. -/
def cgiCutsCard : Claim7 := { stood := { row := cgiCutsRow, standIns := [], harness := (true, "135073b1509a94ee6eed3a6c777bb042567551cb5cf43454a9485fcdbf63a49d"), looks := true }, kinds := [], alts := [], laidByText := true, laidKinds := [.data, .handle, .pinned], laidTests := true, laidLooks := .later }
def CgiCutsCardSaid : Prop := Claim7.holds Tryd.pinned (.plain (OpenSpec.ofChange cgiCutsSpec)) cgiCutsCard

/-- THE SECOND FORM's CARD OF 'conduitlaw16.CgiCuts'. -/
def cgiCutsUptoCard : Claim7 := { stood := { row := cgiCutsUptoRow, standIns := [], harness := (true, "135073b1509a94ee6eed3a6c777bb042567551cb5cf43454a9485fcdbf63a49d"), looks := true }, kinds := [], alts := [], laidByText := true, laidKinds := [.data, .handle, .pinned], laidTests := true, laidLooks := .later }
def CgiCutsUptoCardSaid : Prop := Claim7.holds Tryd.pinned (.plain (OpenSpec.upto cgiCutsSpec)) cgiCutsUptoCard
end Rows
end Go.Proofs.YtcjanblpboaleaaDoor
