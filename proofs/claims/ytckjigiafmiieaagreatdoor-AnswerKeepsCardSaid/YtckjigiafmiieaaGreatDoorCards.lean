/-
  DERIVED. GIVEN WITH THE SEED: THE CARDS: each row of YtckjigiafmiieaaGreatDoorRows.lean that lists a variable, with what it lists TIED to the program's text (the seventh form; the later family's looks); each row that meets fmt, with fmt's text TOLD by the authors' own Lean function (tested against real Go, not proved from fmt's source: count such statements apart). THE CARD IS WHAT COUNTS. Prove the row's statement (the work); the ties are given (YtckjigiafmiieaaGreatDoorTie.lean); close each card by the builder's one call (the guide's Derived/Test/ToyasCard.lean, 'card_holds'). Laid BY PROGRAM, IN A SANDBOX (cutbox-door.mjs). By AI agents, Wed Nov 11 2026. No macro, syntax, notation, axiom, sorry.
-/
import Derived.Test.YtckjigiafmiieaaGreatDoorRows
import GoSem.ClaimSeven
namespace Go.Proofs.YtckjigiafmiieaaGreatDoor
namespace Rows

/-- THE TIED CARD OF 'conduitlaw22.AnswerKeeps'. -/
def answerKeepsCard : Claim7 := { stood := { row := answerKeepsRow, standIns := [], harness := (true, "32a93d766579d3a58b52a908f6e860378d7322ffe28c8a7e47cbbdb9f7e8d8db"), looks := true }, kinds := [], alts := [], laidByText := true, laidKinds := [.data, .data, .data, .data, .handle, .pinned], laidTests := true, laidLooks := .later }
def AnswerKeepsCardSaid : Prop := Claim7.holds Tryz.pinned (.plain (OpenSpec.ofChange answerKeepsSpec)) answerKeepsCard

/-- THE SECOND FORM's CARD OF 'conduitlaw22.AnswerKeeps'. -/
def answerKeepsUptoCard : Claim7 := { stood := { row := answerKeepsUptoRow, standIns := [], harness := (true, "32a93d766579d3a58b52a908f6e860378d7322ffe28c8a7e47cbbdb9f7e8d8db"), looks := true }, kinds := [], alts := [], laidByText := true, laidKinds := [.data, .data, .data, .data, .handle, .pinned], laidTests := true, laidLooks := .later }
def AnswerKeepsUptoCardSaid : Prop := Claim7.holds Tryz.pinned (.plain (OpenSpec.upto answerKeepsSpec)) answerKeepsUptoCard
end Rows
end Go.Proofs.YtckjigiafmiieaaGreatDoor
