/-
  DERIVED. GIVEN WITH THE SEED: THE CARDS: each row of YtojgdbbjblaalaaDoorRows.lean that lists a variable, with what it lists TIED to the program's text (the seventh form; the later family's looks); each row that meets fmt, with fmt's text TOLD by the authors' own Lean function (tested against real Go, not proved from fmt's source: count such statements apart). THE CARD IS WHAT COUNTS. Prove the row's statement (the work); the ties are given (YtojgdbbjblaalaaDoorTie.lean); close each card by the builder's one call (the guide's Derived/Test/ToyasCard.lean, 'card_holds'). Laid BY PROGRAM, IN A SANDBOX (cutbox-door.mjs). By AI agents, Wed Nov 11 2026. No macro, syntax, notation, axiom, sorry.
-/
import Derived.Test.YtojgdbbjblaalaaDoorRows
import GoSem.ClaimSeven
namespace Go.Proofs.YtojgdbbjblaalaaDoor
namespace Rows

/-- THE TIED CARD OF 'conduitlaw8.ChunkWrong'. -/
def chunkWrongCard : Claim7 := { stood := { row := chunkWrongRow, standIns := [], harness := (true, "3b39fe51b83a88eca4f578c3357325f90c9220e5aa520ec7d52444080e2b4da3"), looks := true }, kinds := [], alts := [], laidByText := true, laidKinds := [.data, .data, .data], laidTests := true, laidLooks := .later }
def ChunkWrongCardSaid : Prop := Claim7.holds Tryd.pinned (.plain (OpenSpec.ofChange chunkWrongSpec)) chunkWrongCard

/-- THE SECOND FORM's CARD OF 'conduitlaw8.ChunkWrong'. -/
def chunkWrongUptoCard : Claim7 := { stood := { row := chunkWrongUptoRow, standIns := [], harness := (true, "3b39fe51b83a88eca4f578c3357325f90c9220e5aa520ec7d52444080e2b4da3"), looks := true }, kinds := [], alts := [], laidByText := true, laidKinds := [.data, .data, .data], laidTests := true, laidLooks := .later }
def ChunkWrongUptoCardSaid : Prop := Claim7.holds Tryd.pinned (.plain (OpenSpec.upto chunkWrongSpec)) chunkWrongUptoCard
end Rows
end Go.Proofs.YtojgdbbjblaalaaDoor
