/-
  DERIVED. GIVEN WITH THE SEED: THE CARDS: each row of YtmeiihmfamaphaaDoorRows.lean that lists a variable, with what it lists TIED to the program's text (the seventh form; the later family's looks); each row that meets fmt, with fmt's text TOLD by the authors' own Lean function (tested against real Go, not proved from fmt's source: count such statements apart). THE CARD IS WHAT COUNTS. Prove the row's statement (the work); the ties are given (YtmeiihmfamaphaaDoorTie.lean); close each card by the builder's one call (the guide's Derived/Test/ToyasCard.lean, 'card_holds'). Laid BY PROGRAM, IN A SANDBOX (cutbox-door.mjs). By AI agents, Wed Nov 11 2026. No macro, syntax, notation, axiom, sorry.
-/
import Derived.Test.YtmeiihmfamaphaaDoorRows
import GoSem.ClaimSeven
namespace Go.Proofs.YtmeiihmfamaphaaDoor
namespace Rows

/-- THE TIED CARD OF 'conduitlaw10.ReplyChunks'. -/
def replyChunksCard : Claim7 := { stood := { row := replyChunksRow, standIns := [], harness := (true, "eafce98c82232b07c7c315558b026fa322949fda0542b0d1e28d9196fbb1c4bf"), looks := false }, kinds := [], alts := [], laidByText := true, laidKinds := [.data, .data, .data], laidTests := true, laidLooks := .later }
def ReplyChunksCardSaid : Prop := Claim7.holds Tryd.pinned (.plain (OpenSpec.ofChange replyChunksSpec)) replyChunksCard

/-- THE SECOND FORM's CARD OF 'conduitlaw10.ReplyChunks'. -/
def replyChunksUptoCard : Claim7 := { stood := { row := replyChunksUptoRow, standIns := [], harness := (true, "eafce98c82232b07c7c315558b026fa322949fda0542b0d1e28d9196fbb1c4bf"), looks := false }, kinds := [], alts := [], laidByText := true, laidKinds := [.data, .data, .data], laidTests := true, laidLooks := .later }
def ReplyChunksUptoCardSaid : Prop := Claim7.holds Tryd.pinned (.plain (OpenSpec.upto replyChunksSpec)) replyChunksUptoCard
end Rows
end Go.Proofs.YtmeiihmfamaphaaDoor
