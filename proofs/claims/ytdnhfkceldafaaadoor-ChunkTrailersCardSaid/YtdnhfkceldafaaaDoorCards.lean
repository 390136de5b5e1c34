/-
  DERIVED. GIVEN WITH THE SEED: THE CARDS: each row of YtdnhfkceldafaaaDoorRows.lean that lists a variable, with what it lists TIED to the program's text (the seventh form; the later family's looks); each row that meets fmt, with fmt's text TOLD by the authors' own Lean function (tested against real Go, not proved from fmt's source: count such statements apart). THE CARD IS WHAT COUNTS. Prove the row's statement (the work); the ties are given (YtdnhfkceldafaaaDoorTie.lean); close each card by the builder's one call (the guide's Derived/Test/ToyasCard.lean, 'card_holds'). Laid BY PROGRAM, IN A SANDBOX (cutbox-door.mjs). By AI agents, Wed Nov 11 2026. No macro, syntax, notation, axiom, sorry.
-/
import Derived.Test.YtdnhfkceldafaaaDoorRows
import GoSem.ClaimSeven
namespace Go.Proofs.YtdnhfkceldafaaaDoor
namespace Rows

/-- THE TIED CARD OF 'conduitlaw1.OctetTells'. -/
def octetTellsCard : Claim7 := { stood := { row := octetTellsRow, standIns := [], harness := (true, "9772636c2c0a9179072f3158ac79da8ab8a1283e5e6d8fcf51b0d9b99bf63b8c"), looks := true }, kinds := [], alts := [], laidByText := true, laidKinds := [.data, .handle, .pinned], laidTests := true, laidLooks := .later }
def OctetTellsCardSaid : Prop := Claim7.holds Tryd.pinned (.plain (OpenSpec.ofChange octetTellsSpec)) octetTellsCard

/-- THE TIED CARD OF 'conduitlaw1.OctetBack'. -/
def octetBackCard : Claim7 := { stood := { row := octetBackRow, standIns := [], harness := (true, "9772636c2c0a9179072f3158ac79da8ab8a1283e5e6d8fcf51b0d9b99bf63b8c"), looks := true }, kinds := [], alts := [], laidByText := true, laidKinds := [.data, .pinned], laidTests := true, laidLooks := .later }
def OctetBackCardSaid : Prop := Claim7.holds Tryd.pinned (.plain (OpenSpec.ofChange octetBackSpec)) octetBackCard

/-- THE TIED CARD OF 'conduitlaw1.OctetNumbers'. -/
def octetNumbersCard : Claim7 := { stood := { row := octetNumbersRow, standIns := [], harness := (true, "9772636c2c0a9179072f3158ac79da8ab8a1283e5e6d8fcf51b0d9b99bf63b8c"), looks := true }, kinds := [], alts := [], laidByText := true, laidKinds := [.data, .pinned], laidTests := true, laidLooks := .later }
def OctetNumbersCardSaid : Prop := Claim7.holds Tryd.pinned (.plain (OpenSpec.ofChange octetNumbersSpec)) octetNumbersCard

/-- THE TIED CARD OF 'conduitlaw8.ChunkTrailers'. -/
def chunkTrailersCard : Claim7 := { stood := { row := chunkTrailersRow, standIns := [], harness := (true, "9772636c2c0a9179072f3158ac79da8ab8a1283e5e6d8fcf51b0d9b99bf63b8c"), looks := true }, kinds := [], alts := [], laidByText := true, laidKinds := [.data, .data, .data], laidTests := true, laidLooks := .later }
def ChunkTrailersCardSaid : Prop := Claim7.holds Tryd.pinned (.plain (OpenSpec.ofChange chunkTrailersSpec)) chunkTrailersCard

/-- THE SECOND FORM's CARD OF 'conduitlaw1.OctetTells'. -/
def octetTellsUptoCard : Claim7 := { stood := { row := octetTellsUptoRow, standIns := [], harness := (true, "9772636c2c0a9179072f3158ac79da8ab8a1283e5e6d8fcf51b0d9b99bf63b8c"), looks := true }, kinds := [], alts := [], laidByText := true, laidKinds := [.data, .handle, .pinned], laidTests := true, laidLooks := .later }
def OctetTellsUptoCardSaid : Prop := Claim7.holds Tryd.pinned (.plain (OpenSpec.upto octetTellsSpec)) octetTellsUptoCard

/-- THE SECOND FORM's CARD OF 'conduitlaw1.OctetBack'. -/
def octetBackUptoCard : Claim7 := { stood := { row := octetBackUptoRow, standIns := [], harness := (true, "9772636c2c0a9179072f3158ac79da8ab8a1283e5e6d8fcf51b0d9b99bf63b8c"), looks := true }, kinds := [], alts := [], laidByText := true, laidKinds := [.data, .pinned], laidTests := true, laidLooks := .later }
def OctetBackUptoCardSaid : Prop := Claim7.holds Tryd.pinned (.plain (OpenSpec.upto octetBackSpec)) octetBackUptoCard

/-- THE SECOND FORM's CARD OF 'conduitlaw1.OctetNumbers'. -/
def octetNumbersUptoCard : Claim7 := { stood := { row := octetNumbersUptoRow, standIns := [], harness := (true, "9772636c2c0a9179072f3158ac79da8ab8a1283e5e6d8fcf51b0d9b99bf63b8c"), looks := true }, kinds := [], alts := [], laidByText := true, laidKinds := [.data, .pinned], laidTests := true, laidLooks := .later }
def OctetNumbersUptoCardSaid : Prop := Claim7.holds Tryd.pinned (.plain (OpenSpec.upto octetNumbersSpec)) octetNumbersUptoCard

/-- THE SECOND FORM's CARD OF 'conduitlaw8.ChunkTrailers'. -/
def chunkTrailersUptoCard : Claim7 := { stood := { row := chunkTrailersUptoRow, standIns := [], harness := (true, "9772636c2c0a9179072f3158ac79da8ab8a1283e5e6d8fcf51b0d9b99bf63b8c"), looks := true }, kinds := [], alts := [], laidByText := true, laidKinds := [.data, .data, .data], laidTests := true, laidLooks := .later }
def ChunkTrailersUptoCardSaid : Prop := Claim7.holds Tryd.pinned (.plain (OpenSpec.upto chunkTrailersSpec)) chunkTrailersUptoCard
end Rows
end Go.Proofs.YtdnhfkceldafaaaDoor
