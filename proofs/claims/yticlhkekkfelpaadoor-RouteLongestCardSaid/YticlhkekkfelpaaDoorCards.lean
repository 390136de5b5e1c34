/-
  DERIVED. GIVEN WITH THE SEED: THE CARDS: each row of YticlhkekkfelpaaDoorRows.lean that lists a variable, with what it lists TIED to the program's text (the seventh form; the later family's looks); each row that meets fmt, with fmt's text TOLD by the authors' own Lean function (tested against real Go, not proved from fmt's source: count such statements apart). THE CARD IS WHAT COUNTS. Prove the row's statement (the work); the ties are given (YticlhkekkfelpaaDoorTie.lean); close each card by the builder's one call (the guide's Derived/Test/ToyasCard.lean, 'card_holds'). Laid BY PROGRAM, IN A SANDBOX (cutbox-door.mjs). By AI agents, Wed Nov 11 2026. No macro, syntax, notation, axiom, sorry.
-/
import Derived.Test.YticlhkekkfelpaaDoorRows
import GoSem.ClaimSeven
namespace Go.Proofs.YticlhkekkfelpaaDoor
namespace Rows

/-- THE TIED CARD OF 'conduitlaw3.PairLong'. -/
def pairLongCard : Claim7 := { stood := { row := pairLongRow, standIns := [], harness := (true, "cd79963d2ae92a311f6beaa74e349abab1f52544525529756e7c5f8026c9fe9e"), looks := true }, kinds := [], alts := [], laidByText := true, laidKinds := [.data, .data, .data, .handle], laidTests := true, laidLooks := .later }
def PairLongCardSaid : Prop := Claim7.holds Tryd.pinned (.plain (OpenSpec.ofChange pairLongSpec)) pairLongCard

/-- THE TIED CARD OF 'conduitlaw7.StartVersions'. -/
def startVersionsCard : Claim7 := { stood := { row := startVersionsRow, standIns := [], harness := (true, "cd79963d2ae92a311f6beaa74e349abab1f52544525529756e7c5f8026c9fe9e"), looks := true }, kinds := [], alts := [], laidByText := true, laidKinds := [.data, .data, .data, .data, .handle, .pinned], laidTests := true, laidLooks := .later }
def StartVersionsCardSaid : Prop := Claim7.holds Tryd.pinned (.plain (OpenSpec.ofChange startVersionsSpec)) startVersionsCard

/-- THE TIED CARD OF 'conduitlaw8.ChunkLimits'. -/
def chunkLimitsCard : Claim7 := { stood := { row := chunkLimitsRow, standIns := [], harness := (true, "cd79963d2ae92a311f6beaa74e349abab1f52544525529756e7c5f8026c9fe9e"), looks := true }, kinds := [], alts := [], laidByText := true, laidKinds := [.data, .data, .data], laidTests := true, laidLooks := .later }
def ChunkLimitsCardSaid : Prop := Claim7.holds Tryd.pinned (.plain (OpenSpec.ofChange chunkLimitsSpec)) chunkLimitsCard

/-- THE TIED CARD OF 'conduitlaw10.ReplyBare'. -/
def replyBareCard : Claim7 := { stood := { row := replyBareRow, standIns := [], harness := (true, "cd79963d2ae92a311f6beaa74e349abab1f52544525529756e7c5f8026c9fe9e"), looks := true }, kinds := [], alts := [], laidByText := true, laidKinds := [.data, .data, .data], laidTests := true, laidLooks := .later }
def ReplyBareCardSaid : Prop := Claim7.holds Tryd.pinned (.plain (OpenSpec.ofChange replyBareSpec)) replyBareCard

/-- THE TIED CARD OF 'conduitlaw12.RuleExts'. -/
def ruleExtsCard : Claim7 := { stood := { row := ruleExtsRow, standIns := [], harness := (true, "cd79963d2ae92a311f6beaa74e349abab1f52544525529756e7c5f8026c9fe9e"), looks := true }, kinds := [], alts := [], laidByText := true, laidKinds := [.data, .pinned], laidTests := true, laidLooks := .later }
def RuleExtsCardSaid : Prop := Claim7.holds Tryd.pinned (.plain (OpenSpec.ofChange ruleExtsSpec)) ruleExtsCard

/-- THE TIED CARD OF 'conduitlaw12.RuleSegs'. -/
def ruleSegsCard : Claim7 := { stood := { row := ruleSegsRow, standIns := [], harness := (true, "cd79963d2ae92a311f6beaa74e349abab1f52544525529756e7c5f8026c9fe9e"), looks := true }, kinds := [], alts := [], laidByText := true, laidKinds := [.data, .pinned], laidTests := true, laidLooks := .later }
def RuleSegsCardSaid : Prop := Claim7.holds Tryd.pinned (.plain (OpenSpec.ofChange ruleSegsSpec)) ruleSegsCard

/-- THE TIED CARD OF 'conduitlaw13.RouteLongest'. -/
def routeLongestCard : Claim7 := { stood := { row := routeLongestRow, standIns := [], harness := (true, "cd79963d2ae92a311f6beaa74e349abab1f52544525529756e7c5f8026c9fe9e"), looks := true }, kinds := [], alts := [], laidByText := true, laidKinds := [.data, .pinned], laidTests := true, laidLooks := .later }
def RouteLongestCardSaid : Prop := Claim7.holds Tryd.pinned (.plain (OpenSpec.ofChange routeLongestSpec)) routeLongestCard

/-- THE TIED CARD OF 'conduitlaw15.VarsNever'. -/
def varsNeverCard : Claim7 := { stood := { row := varsNeverRow, standIns := [], harness := (true, "cd79963d2ae92a311f6beaa74e349abab1f52544525529756e7c5f8026c9fe9e"), looks := true }, kinds := [], alts := [], laidByText := true, laidKinds := [.data, .data, .data], laidTests := true, laidLooks := .later }
def VarsNeverCardSaid : Prop := Claim7.holds Tryd.pinned (.plain (OpenSpec.ofChange varsNeverSpec)) varsNeverCard

/-- THE SECOND FORM's CARD OF 'conduitlaw3.PairLong'. -/
def pairLongUptoCard : Claim7 := { stood := { row := pairLongUptoRow, standIns := [], harness := (true, "cd79963d2ae92a311f6beaa74e349abab1f52544525529756e7c5f8026c9fe9e"), looks := true }, kinds := [], alts := [], laidByText := true, laidKinds := [.data, .data, .data, .handle], laidTests := true, laidLooks := .later }
def PairLongUptoCardSaid : Prop := Claim7.holds Tryd.pinned (.plain (OpenSpec.upto pairLongSpec)) pairLongUptoCard

/-- THE SECOND FORM's CARD OF 'conduitlaw7.StartVersions'. -/
def startVersionsUptoCard : Claim7 := { stood := { row := startVersionsUptoRow, standIns := [], harness := (true, "cd79963d2ae92a311f6beaa74e349abab1f52544525529756e7c5f8026c9fe9e"), looks := true }, kinds := [], alts := [], laidByText := true, laidKinds := [.data, .data, .data, .data, .handle, .pinned], laidTests := true, laidLooks := .later }
def StartVersionsUptoCardSaid : Prop := Claim7.holds Tryd.pinned (.plain (OpenSpec.upto startVersionsSpec)) startVersionsUptoCard

/-- THE SECOND FORM's CARD OF 'conduitlaw8.ChunkLimits'. -/
def chunkLimitsUptoCard : Claim7 := { stood := { row := chunkLimitsUptoRow, standIns := [], harness := (true, "cd79963d2ae92a311f6beaa74e349abab1f52544525529756e7c5f8026c9fe9e"), looks := true }, kinds := [], alts := [], laidByText := true, laidKinds := [.data, .data, .data], laidTests := true, laidLooks := .later }
def ChunkLimitsUptoCardSaid : Prop := Claim7.holds Tryd.pinned (.plain (OpenSpec.upto chunkLimitsSpec)) chunkLimitsUptoCard

/-- THE SECOND FORM's CARD OF 'conduitlaw10.ReplyBare'. -/
def replyBareUptoCard : Claim7 := { stood := { row := replyBareUptoRow, standIns := [], harness := (true, "cd79963d2ae92a311f6beaa74e349abab1f52544525529756e7c5f8026c9fe9e"), looks := true }, kinds := [], alts := [], laidByText := true, laidKinds := [.data, .data, .data], laidTests := true, laidLooks := .later }
def ReplyBareUptoCardSaid : Prop := Claim7.holds Tryd.pinned (.plain (OpenSpec.upto replyBareSpec)) replyBareUptoCard

/-- THE SECOND FORM's CARD OF 'conduitlaw12.RuleExts'. -/
def ruleExtsUptoCard : Claim7 := { stood := { row := ruleExtsUptoRow, standIns := [], harness := (true, "cd79963d2ae92a311f6beaa74e349abab1f52544525529756e7c5f8026c9fe9e"), looks := true }, kinds := [], alts := [], laidByText := true, laidKinds := [.data, .pinned], laidTests := true, laidLooks := .later }
def RuleExtsUptoCardSaid : Prop := Claim7.holds Tryd.pinned (.plain (OpenSpec.upto ruleExtsSpec)) ruleExtsUptoCard

/-- THE SECOND FORM's CARD OF 'conduitlaw12.RuleSegs'. -/
def ruleSegsUptoCard : Claim7 := { stood := { row := ruleSegsUptoRow, standIns := [], harness := (true, "cd79963d2ae92a311f6beaa74e349abab1f52544525529756e7c5f8026c9fe9e"), looks := true }, kinds := [], alts := [], laidByText := true, laidKinds := [.data, .pinned], laidTests := true, laidLooks := .later }
def RuleSegsUptoCardSaid : Prop := Claim7.holds Tryd.pinned (.plain (OpenSpec.upto ruleSegsSpec)) ruleSegsUptoCard

/-- THE SECOND FORM's CARD OF 'conduitlaw13.RouteLongest'. -/
def routeLongestUptoCard : Claim7 := { stood := { row := routeLongestUptoRow, standIns := [], harness := (true, "cd79963d2ae92a311f6beaa74e349abab1f52544525529756e7c5f8026c9fe9e"), looks := true }, kinds := [], alts := [], laidByText := true, laidKinds := [.data, .pinned], laidTests := true, laidLooks := .later }
def RouteLongestUptoCardSaid : Prop := Claim7.holds Tryd.pinned (.plain (OpenSpec.upto routeLongestSpec)) routeLongestUptoCard

/-- THE SECOND FORM's CARD OF 'conduitlaw15.VarsNever'. -/
def varsNeverUptoCard : Claim7 := { stood := { row := varsNeverUptoRow, standIns := [], harness := (true, "cd79963d2ae92a311f6beaa74e349abab1f52544525529756e7c5f8026c9fe9e"), looks := true }, kinds := [], alts := [], laidByText := true, laidKinds := [.data, .data, .data], laidTests := true, laidLooks := .later }
def VarsNeverUptoCardSaid : Prop := Claim7.holds Tryd.pinned (.plain (OpenSpec.upto varsNeverSpec)) varsNeverUptoCard
end Rows
end Go.Proofs.YticlhkekkfelpaaDoor
