/-
  DERIVED. GIVEN WITH THE SEED: THE CARDS: each row of YtlemmcoefpcpmaaDoorRows.lean that lists a variable, with what it lists TIED to the program's text (the seventh form; the later family's looks); each row that meets fmt, with fmt's text TOLD by the authors' own Lean function (tested against real Go, not proved from fmt's source: count such statements apart). THE CARD IS WHAT COUNTS. Prove the row's statement (the work); the ties are given (YtlemmcoefpcpmaaDoorTie.lean); close each card by the builder's one call (the guide's Derived/Test/ToyasCard.lean, 'card_holds'). Laid BY PROGRAM, IN A SANDBOX (cutbox-door.mjs). By AI agents, Wed Nov 11 2026. No macro, syntax, notation, axiom, sorry.
-/
import Derived.Test.YtlemmcoefpcpmaaDoorRows
import GoSem.ClaimSeven
namespace Go.Proofs.YtlemmcoefpcpmaaDoor
namespace Rows

/-- THE TIED CARD OF 'conduitlaw1.OctetTokens'. -/
def octetTokensCard : Claim7 := { stood := { row := octetTokensRow, standIns := [], harness := (true, "8237a1d3caa7cdc401a227779c3ff88117080001f8819cb89e74b757defea92e"), looks := true }, kinds := [], alts := [], laidByText := true, laidKinds := [.data, .pinned], laidTests := true, laidLooks := .later }
def OctetTokensCardSaid : Prop := Claim7.holds Tryd.pinned (.plain (OpenSpec.ofChange octetTokensSpec)) octetTokensCard

/-- THE TIED CARD OF 'conduitlaw6.FieldBytes'. -/
def fieldBytesCard : Claim7 := { stood := { row := fieldBytesRow, standIns := [], harness := (true, "8237a1d3caa7cdc401a227779c3ff88117080001f8819cb89e74b757defea92e"), looks := true }, kinds := [], alts := [], laidByText := true, laidKinds := [.data, .pinned], laidTests := true, laidLooks := .later }
def FieldBytesCardSaid : Prop := Claim7.holds Tryd.pinned (.plain (OpenSpec.ofChange fieldBytesSpec)) fieldBytesCard

/-- THE TIED CARD OF 'conduitlaw6.FieldLimits'. -/
def fieldLimitsCard : Claim7 := { stood := { row := fieldLimitsRow, standIns := [], harness := (true, "8237a1d3caa7cdc401a227779c3ff88117080001f8819cb89e74b757defea92e"), looks := true }, kinds := [], alts := [], laidByText := true, laidKinds := [.data, .pinned], laidTests := true, laidLooks := .later }
def FieldLimitsCardSaid : Prop := Claim7.holds Tryd.pinned (.plain (OpenSpec.ofChange fieldLimitsSpec)) fieldLimitsCard

/-- THE TIED CARD OF 'conduitlaw7.StartVersions'. -/
def startVersionsCard : Claim7 := { stood := { row := startVersionsRow, standIns := [], harness := (true, "8237a1d3caa7cdc401a227779c3ff88117080001f8819cb89e74b757defea92e"), looks := true }, kinds := [], alts := [], laidByText := true, laidKinds := [.data, .data, .data, .data, .handle, .pinned], laidTests := true, laidLooks := .later }
def StartVersionsCardSaid : Prop := Claim7.holds Tryd.pinned (.plain (OpenSpec.ofChange startVersionsSpec)) startVersionsCard

/-- THE TIED CARD OF 'conduitlaw10.ReplyHeads'. -/
def replyHeadsCard : Claim7 := { stood := { row := replyHeadsRow, standIns := [], harness := (true, "8237a1d3caa7cdc401a227779c3ff88117080001f8819cb89e74b757defea92e"), looks := true }, kinds := [], alts := [], laidByText := true, laidKinds := [.data, .data, .data], laidTests := true, laidLooks := .later }
def ReplyHeadsCardSaid : Prop := Claim7.holds Tryd.pinned (.plain (OpenSpec.ofChange replyHeadsSpec)) replyHeadsCard

/-- THE TIED CARD OF 'conduitlaw11.PathDots'. -/
def pathDotsCard : Claim7 := { stood := { row := pathDotsRow, standIns := [], harness := (true, "8237a1d3caa7cdc401a227779c3ff88117080001f8819cb89e74b757defea92e"), looks := true }, kinds := [], alts := [], laidByText := true, laidKinds := [.data, .pinned], laidTests := true, laidLooks := .later }
def PathDotsCardSaid : Prop := Claim7.holds Tryd.pinned (.plain (OpenSpec.ofChange pathDotsSpec)) pathDotsCard

/-- THE TIED CARD OF 'conduitlaw11.PathEscapes'. -/
def pathEscapesCard : Claim7 := { stood := { row := pathEscapesRow, standIns := [], harness := (true, "8237a1d3caa7cdc401a227779c3ff88117080001f8819cb89e74b757defea92e"), looks := true }, kinds := [], alts := [], laidByText := true, laidKinds := [.data, .pinned], laidTests := true, laidLooks := .later }
def PathEscapesCardSaid : Prop := Claim7.holds Tryd.pinned (.plain (OpenSpec.ofChange pathEscapesSpec)) pathEscapesCard

/-- THE SECOND FORM's CARD OF 'conduitlaw1.OctetTokens'. -/
def octetTokensUptoCard : Claim7 := { stood := { row := octetTokensUptoRow, standIns := [], harness := (true, "8237a1d3caa7cdc401a227779c3ff88117080001f8819cb89e74b757defea92e"), looks := true }, kinds := [], alts := [], laidByText := true, laidKinds := [.data, .pinned], laidTests := true, laidLooks := .later }
def OctetTokensUptoCardSaid : Prop := Claim7.holds Tryd.pinned (.plain (OpenSpec.upto octetTokensSpec)) octetTokensUptoCard

/-- THE SECOND FORM's CARD OF 'conduitlaw6.FieldBytes'. -/
def fieldBytesUptoCard : Claim7 := { stood := { row := fieldBytesUptoRow, standIns := [], harness := (true, "8237a1d3caa7cdc401a227779c3ff88117080001f8819cb89e74b757defea92e"), looks := true }, kinds := [], alts := [], laidByText := true, laidKinds := [.data, .pinned], laidTests := true, laidLooks := .later }
def FieldBytesUptoCardSaid : Prop := Claim7.holds Tryd.pinned (.plain (OpenSpec.upto fieldBytesSpec)) fieldBytesUptoCard

/-- THE SECOND FORM's CARD OF 'conduitlaw6.FieldLimits'. -/
def fieldLimitsUptoCard : Claim7 := { stood := { row := fieldLimitsUptoRow, standIns := [], harness := (true, "8237a1d3caa7cdc401a227779c3ff88117080001f8819cb89e74b757defea92e"), looks := true }, kinds := [], alts := [], laidByText := true, laidKinds := [.data, .pinned], laidTests := true, laidLooks := .later }
def FieldLimitsUptoCardSaid : Prop := Claim7.holds Tryd.pinned (.plain (OpenSpec.upto fieldLimitsSpec)) fieldLimitsUptoCard

/-- THE SECOND FORM's CARD OF 'conduitlaw7.StartVersions'. -/
def startVersionsUptoCard : Claim7 := { stood := { row := startVersionsUptoRow, standIns := [], harness := (true, "8237a1d3caa7cdc401a227779c3ff88117080001f8819cb89e74b757defea92e"), looks := true }, kinds := [], alts := [], laidByText := true, laidKinds := [.data, .data, .data, .data, .handle, .pinned], laidTests := true, laidLooks := .later }
def StartVersionsUptoCardSaid : Prop := Claim7.holds Tryd.pinned (.plain (OpenSpec.upto startVersionsSpec)) startVersionsUptoCard

/-- THE SECOND FORM's CARD OF 'conduitlaw10.ReplyHeads'. -/
def replyHeadsUptoCard : Claim7 := { stood := { row := replyHeadsUptoRow, standIns := [], harness := (true, "8237a1d3caa7cdc401a227779c3ff88117080001f8819cb89e74b757defea92e"), looks := true }, kinds := [], alts := [], laidByText := true, laidKinds := [.data, .data, .data], laidTests := true, laidLooks := .later }
def ReplyHeadsUptoCardSaid : Prop := Claim7.holds Tryd.pinned (.plain (OpenSpec.upto replyHeadsSpec)) replyHeadsUptoCard

/-- THE SECOND FORM's CARD OF 'conduitlaw11.PathDots'. -/
def pathDotsUptoCard : Claim7 := { stood := { row := pathDotsUptoRow, standIns := [], harness := (true, "8237a1d3caa7cdc401a227779c3ff88117080001f8819cb89e74b757defea92e"), looks := true }, kinds := [], alts := [], laidByText := true, laidKinds := [.data, .pinned], laidTests := true, laidLooks := .later }
def PathDotsUptoCardSaid : Prop := Claim7.holds Tryd.pinned (.plain (OpenSpec.upto pathDotsSpec)) pathDotsUptoCard

/-- THE SECOND FORM's CARD OF 'conduitlaw11.PathEscapes'. -/
def pathEscapesUptoCard : Claim7 := { stood := { row := pathEscapesUptoRow, standIns := [], harness := (true, "8237a1d3caa7cdc401a227779c3ff88117080001f8819cb89e74b757defea92e"), looks := true }, kinds := [], alts := [], laidByText := true, laidKinds := [.data, .pinned], laidTests := true, laidLooks := .later }
def PathEscapesUptoCardSaid : Prop := Claim7.holds Tryd.pinned (.plain (OpenSpec.upto pathEscapesSpec)) pathEscapesUptoCard
end Rows
end Go.Proofs.YtlemmcoefpcpmaaDoor
