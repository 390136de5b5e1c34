/-
  DERIVED. GIVEN WITH THE SEED: THE CARDS: each row of YtobklhnepmgbmaaDoorRows.lean that lists a variable, with what it lists TIED to the program's text (the seventh form; the later family's looks); each row that meets fmt, with fmt's text TOLD by the authors' own Lean function (tested against real Go, not proved from fmt's source: count such statements apart). THE CARD IS WHAT COUNTS. Prove the row's statement (the work); the ties are given (YtobklhnepmgbmaaDoorTie.lean); close each card by the builder's one call (the guide's Derived/Test/ToyasCard.lean, 'card_holds'). Laid BY PROGRAM, IN A SANDBOX (cutbox-door.mjs). By AI agents, Wed Nov 11 2026. No macro, syntax, notation, axiom, sorry.
-/
import Derived.Test.YtobklhnepmgbmaaDoorRows
import GoSem.ClaimSeven
namespace Go.Proofs.YtobklhnepmgbmaaDoor
namespace Rows

/-- THE TIED CARD OF 'conduitlaw6.FieldCases'. -/
def fieldCasesCard : Claim7 := { stood := { row := fieldCasesRow, standIns := [], harness := (true, "9903adca161b0a7867e33d877e30ef09a612fdbca40680fddd0a1cd35617de50"), looks := true }, kinds := [], alts := [], laidByText := true, laidKinds := [.data, .pinned], laidTests := true, laidLooks := .later }
def FieldCasesCardSaid : Prop := Claim7.holds Tryd.pinned (.plain (OpenSpec.ofChange fieldCasesSpec)) fieldCasesCard

/-- THE SECOND FORM's CARD OF 'conduitlaw6.FieldCases'. -/
def fieldCasesUptoCard : Claim7 := { stood := { row := fieldCasesUptoRow, standIns := [], harness := (true, "9903adca161b0a7867e33d877e30ef09a612fdbca40680fddd0a1cd35617de50"), looks := true }, kinds := [], alts := [], laidByText := true, laidKinds := [.data, .pinned], laidTests := true, laidLooks := .later }
def FieldCasesUptoCardSaid : Prop := Claim7.holds Tryd.pinned (.plain (OpenSpec.upto fieldCasesSpec)) fieldCasesUptoCard
end Rows
end Go.Proofs.YtobklhnepmgbmaaDoor
