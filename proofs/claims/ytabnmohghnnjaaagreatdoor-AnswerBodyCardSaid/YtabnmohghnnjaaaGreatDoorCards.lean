/-
  DERIVED. GIVEN WITH THE SEED: THE CARDS: each row of YtabnmohghnnjaaaGreatDoorRows.lean that lists a variable, with what it lists TIED to the program's text (the seventh form; the later family's looks); each row that meets fmt, with fmt's text TOLD by the authors' own Lean function (tested against real Go, not proved from fmt's source: count such statements apart). THE CARD IS WHAT COUNTS. Prove the row's statement (the work); the ties are given (YtabnmohghnnjaaaGreatDoorTie.lean); close each card by the builder's one call (the guide's Derived/Test/ToyasCard.lean, 'card_holds'). Laid BY PROGRAM, IN A SANDBOX (cutbox-door.mjs). By AI agents, Wed Nov 11 2026. No macro, syntax, notation, axiom, sorry.
-/
import Derived.Test.YtabnmohghnnjaaaGreatDoorRows
import GoSem.ClaimSeven
namespace Go.Proofs.YtabnmohghnnjaaaGreatDoor
namespace Rows

/-- THE TIED CARD OF 'conduitlaw23.ClientRow'. -/
def clientRowCard : Claim7 := { stood := { row := clientRowRow, standIns := [], harness := (true, "60d789b01ccfe7ade84c0d053a3bdf43ae8b88171d8c80830913552661d01b82"), looks := true }, kinds := [], alts := [], laidByText := true, laidKinds := [.data, .handle, .pinned], laidTests := true, laidLooks := .later }
def ClientRowCardSaid : Prop := Claim7.holds Tryz.pinned (.plain (OpenSpec.ofChange clientRowSpec)) clientRowCard

/-- THE TIED CARD OF 'conduitlaw22.AnswerBody'. -/
def answerBodyCard : Claim7 := { stood := { row := answerBodyRow, standIns := [], harness := (true, "60d789b01ccfe7ade84c0d053a3bdf43ae8b88171d8c80830913552661d01b82"), looks := true }, kinds := [], alts := [], laidByText := true, laidKinds := [.data, .data, .data, .data, .handle, .pinned], laidTests := true, laidLooks := .later }
def AnswerBodyCardSaid : Prop := Claim7.holds Tryz.pinned (.plain (OpenSpec.ofChange answerBodySpec)) answerBodyCard

/-- THE SECOND FORM's CARD OF 'conduitlaw23.ClientRow'. -/
def clientRowUptoCard : Claim7 := { stood := { row := clientRowUptoRow, standIns := [], harness := (true, "60d789b01ccfe7ade84c0d053a3bdf43ae8b88171d8c80830913552661d01b82"), looks := true }, kinds := [], alts := [], laidByText := true, laidKinds := [.data, .handle, .pinned], laidTests := true, laidLooks := .later }
def ClientRowUptoCardSaid : Prop := Claim7.holds Tryz.pinned (.plain (OpenSpec.upto clientRowSpec)) clientRowUptoCard

/-- THE SECOND FORM's CARD OF 'conduitlaw22.AnswerBody'. -/
def answerBodyUptoCard : Claim7 := { stood := { row := answerBodyUptoRow, standIns := [], harness := (true, "60d789b01ccfe7ade84c0d053a3bdf43ae8b88171d8c80830913552661d01b82"), looks := true }, kinds := [], alts := [], laidByText := true, laidKinds := [.data, .data, .data, .data, .handle, .pinned], laidTests := true, laidLooks := .later }
def AnswerBodyUptoCardSaid : Prop := Claim7.holds Tryz.pinned (.plain (OpenSpec.upto answerBodySpec)) answerBodyUptoCard
end Rows
end Go.Proofs.YtabnmohghnnjaaaGreatDoor
