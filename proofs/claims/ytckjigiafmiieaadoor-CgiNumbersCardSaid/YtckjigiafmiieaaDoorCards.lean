/-
  DERIVED. GIVEN WITH THE SEED: THE CARDS: each row of YtckjigiafmiieaaDoorRows.lean that lists a variable, with what it lists TIED to the program's text (the seventh form; the later family's looks); each row that meets fmt, with fmt's text TOLD by the authors' own Lean function (tested against real Go, not proved from fmt's source: count such statements apart). THE CARD IS WHAT COUNTS. Prove the row's statement (the work); the ties are given (YtckjigiafmiieaaDoorTie.lean); close each card by the builder's one call (the guide's Derived/Test/ToyasCard.lean, 'card_holds'). Laid BY PROGRAM, IN A SANDBOX (cutbox-door.mjs). By AI agents, Wed Nov 11 2026. No macro, syntax, notation, axiom, sorry.
-/
import Derived.Test.YtckjigiafmiieaaDoorRows
import GoSem.ClaimSeven
namespace Go.Proofs.YtckjigiafmiieaaDoor
namespace Rows

/-- THE TIED CARD OF 'conduitlaw12.RulePaths'. -/
def rulePathsCard : Claim7 := { stood := { row := rulePathsRow, standIns := [], harness := (true, "24b6421a4ae9e444f6c73551c630dd63609bba960e934d7f62ed46c4865506d7"), looks := true }, kinds := [], alts := [], laidByText := true, laidKinds := [.data, .pinned], laidTests := true, laidLooks := .later }
def RulePathsCardSaid : Prop := Claim7.holds Tryd.pinned (.plain (OpenSpec.ofChange rulePathsSpec)) rulePathsCard

/-- THE TIED CARD OF 'conduitlaw12.RuleWares'. -/
def ruleWaresCard : Claim7 := { stood := { row := ruleWaresRow, standIns := [], harness := (true, "24b6421a4ae9e444f6c73551c630dd63609bba960e934d7f62ed46c4865506d7"), looks := true }, kinds := [], alts := [], laidByText := true, laidKinds := [.data, .pinned], laidTests := true, laidLooks := .later }
def RuleWaresCardSaid : Prop := Claim7.holds Tryd.pinned (.plain (OpenSpec.ofChange ruleWaresSpec)) ruleWaresCard

/-- THE TIED CARD OF 'conduitlaw12.RuleExts'. -/
def ruleExtsCard : Claim7 := { stood := { row := ruleExtsRow, standIns := [], harness := (true, "24b6421a4ae9e444f6c73551c630dd63609bba960e934d7f62ed46c4865506d7"), looks := true }, kinds := [], alts := [], laidByText := true, laidKinds := [.data, .pinned], laidTests := true, laidLooks := .later }
def RuleExtsCardSaid : Prop := Claim7.holds Tryd.pinned (.plain (OpenSpec.ofChange ruleExtsSpec)) ruleExtsCard

/-- THE TIED CARD OF 'conduitlaw12.RuleSegs'. -/
def ruleSegsCard : Claim7 := { stood := { row := ruleSegsRow, standIns := [], harness := (true, "24b6421a4ae9e444f6c73551c630dd63609bba960e934d7f62ed46c4865506d7"), looks := true }, kinds := [], alts := [], laidByText := true, laidKinds := [.data, .pinned], laidTests := true, laidLooks := .later }
def RuleSegsCardSaid : Prop := Claim7.holds Tryd.pinned (.plain (OpenSpec.ofChange ruleSegsSpec)) ruleSegsCard

/-- THE TIED CARD OF 'conduitlaw13.RouteFirst'. -/
def routeFirstCard : Claim7 := { stood := { row := routeFirstRow, standIns := [], harness := (true, "24b6421a4ae9e444f6c73551c630dd63609bba960e934d7f62ed46c4865506d7"), looks := true }, kinds := [], alts := [], laidByText := true, laidKinds := [.data, .pinned], laidTests := true, laidLooks := .later }
def RouteFirstCardSaid : Prop := Claim7.holds Tryd.pinned (.plain (OpenSpec.ofChange routeFirstSpec)) routeFirstCard

/-- THE TIED CARD OF 'conduitlaw13.RouteNames'. -/
def routeNamesCard : Claim7 := { stood := { row := routeNamesRow, standIns := [], harness := (true, "24b6421a4ae9e444f6c73551c630dd63609bba960e934d7f62ed46c4865506d7"), looks := true }, kinds := [], alts := [], laidByText := true, laidKinds := [.data, .pinned], laidTests := true, laidLooks := .later }
def RouteNamesCardSaid : Prop := Claim7.holds Tryd.pinned (.plain (OpenSpec.ofChange routeNamesSpec)) routeNamesCard

/-- THE TIED CARD OF 'conduitlaw13.RouteLongest'. -/
def routeLongestCard : Claim7 := { stood := { row := routeLongestRow, standIns := [], harness := (true, "24b6421a4ae9e444f6c73551c630dd63609bba960e934d7f62ed46c4865506d7"), looks := true }, kinds := [], alts := [], laidByText := true, laidKinds := [.data, .pinned], laidTests := true, laidLooks := .later }
def RouteLongestCardSaid : Prop := Claim7.holds Tryd.pinned (.plain (OpenSpec.ofChange routeLongestSpec)) routeLongestCard

/-- THE TIED CARD OF 'conduitlaw13.RouteHosts'. -/
def routeHostsCard : Claim7 := { stood := { row := routeHostsRow, standIns := [], harness := (true, "24b6421a4ae9e444f6c73551c630dd63609bba960e934d7f62ed46c4865506d7"), looks := true }, kinds := [], alts := [], laidByText := true, laidKinds := [.data, .pinned], laidTests := true, laidLooks := .later }
def RouteHostsCardSaid : Prop := Claim7.holds Tryd.pinned (.plain (OpenSpec.ofChange routeHostsSpec)) routeHostsCard

/-- THE TIED CARD OF 'conduitlaw15.VarsJoin'. -/
def varsJoinCard : Claim7 := { stood := { row := varsJoinRow, standIns := [], harness := (true, "24b6421a4ae9e444f6c73551c630dd63609bba960e934d7f62ed46c4865506d7"), looks := true }, kinds := [], alts := [], laidByText := true, laidKinds := [.data, .data, .data], laidTests := true, laidLooks := .later }
def VarsJoinCardSaid : Prop := Claim7.holds Tryd.pinned (.plain (OpenSpec.ofChange varsJoinSpec)) varsJoinCard

/-- THE TIED CARD OF 'conduitlaw16.CgiNumbers'. -/
def cgiNumbersCard : Claim7 := { stood := { row := cgiNumbersRow, standIns := [], harness := (true, "24b6421a4ae9e444f6c73551c630dd63609bba960e934d7f62ed46c4865506d7"), looks := true }, kinds := [], alts := [], laidByText := true, laidKinds := [.data, .handle, .pinned], laidTests := true, laidLooks := .later }
def CgiNumbersCardSaid : Prop := Claim7.holds Tryd.pinned (.plain (OpenSpec.ofChange cgiNumbersSpec)) cgiNumbersCard

/-- THE TIED CARD OF 'conduitlaw17.ConfBounds'. -/
def confBoundsCard : Claim7 := { stood := { row := confBoundsRow, standIns := [], harness := (true, "24b6421a4ae9e444f6c73551c630dd63609bba960e934d7f62ed46c4865506d7"), looks := true }, kinds := [], alts := [], laidByText := true, laidKinds := [.data, .pinned], laidTests := true, laidLooks := .later }
def ConfBoundsCardSaid : Prop := Claim7.holds Tryd.pinned (.plain (OpenSpec.ofChange confBoundsSpec)) confBoundsCard

/-- THE SECOND FORM's CARD OF 'conduitlaw12.RulePaths'. -/
def rulePathsUptoCard : Claim7 := { stood := { row := rulePathsUptoRow, standIns := [], harness := (true, "24b6421a4ae9e444f6c73551c630dd63609bba960e934d7f62ed46c4865506d7"), looks := true }, kinds := [], alts := [], laidByText := true, laidKinds := [.data, .pinned], laidTests := true, laidLooks := .later }
def RulePathsUptoCardSaid : Prop := Claim7.holds Tryd.pinned (.plain (OpenSpec.upto rulePathsSpec)) rulePathsUptoCard

/-- THE SECOND FORM's CARD OF 'conduitlaw12.RuleWares'. -/
def ruleWaresUptoCard : Claim7 := { stood := { row := ruleWaresUptoRow, standIns := [], harness := (true, "24b6421a4ae9e444f6c73551c630dd63609bba960e934d7f62ed46c4865506d7"), looks := true }, kinds := [], alts := [], laidByText := true, laidKinds := [.data, .pinned], laidTests := true, laidLooks := .later }
def RuleWaresUptoCardSaid : Prop := Claim7.holds Tryd.pinned (.plain (OpenSpec.upto ruleWaresSpec)) ruleWaresUptoCard

/-- THE SECOND FORM's CARD OF 'conduitlaw12.RuleExts'. -/
def ruleExtsUptoCard : Claim7 := { stood := { row := ruleExtsUptoRow, standIns := [], harness := (true, "24b6421a4ae9e444f6c73551c630dd63609bba960e934d7f62ed46c4865506d7"), looks := true }, kinds := [], alts := [], laidByText := true, laidKinds := [.data, .pinned], laidTests := true, laidLooks := .later }
def RuleExtsUptoCardSaid : Prop := Claim7.holds Tryd.pinned (.plain (OpenSpec.upto ruleExtsSpec)) ruleExtsUptoCard

/-- THE SECOND FORM's CARD OF 'conduitlaw12.RuleSegs'. -/
def ruleSegsUptoCard : Claim7 := { stood := { row := ruleSegsUptoRow, standIns := [], harness := (true, "24b6421a4ae9e444f6c73551c630dd63609bba960e934d7f62ed46c4865506d7"), looks := true }, kinds := [], alts := [], laidByText := true, laidKinds := [.data, .pinned], laidTests := true, laidLooks := .later }
def RuleSegsUptoCardSaid : Prop := Claim7.holds Tryd.pinned (.plain (OpenSpec.upto ruleSegsSpec)) ruleSegsUptoCard

/-- THE SECOND FORM's CARD OF 'conduitlaw13.RouteFirst'. -/
def routeFirstUptoCard : Claim7 := { stood := { row := routeFirstUptoRow, standIns := [], harness := (true, "24b6421a4ae9e444f6c73551c630dd63609bba960e934d7f62ed46c4865506d7"), looks := true }, kinds := [], alts := [], laidByText := true, laidKinds := [.data, .pinned], laidTests := true, laidLooks := .later }
def RouteFirstUptoCardSaid : Prop := Claim7.holds Tryd.pinned (.plain (OpenSpec.upto routeFirstSpec)) routeFirstUptoCard

/-- THE SECOND FORM's CARD OF 'conduitlaw13.RouteNames'. -/
def routeNamesUptoCard : Claim7 := { stood := { row := routeNamesUptoRow, standIns := [], harness := (true, "24b6421a4ae9e444f6c73551c630dd63609bba960e934d7f62ed46c4865506d7"), looks := true }, kinds := [], alts := [], laidByText := true, laidKinds := [.data, .pinned], laidTests := true, laidLooks := .later }
def RouteNamesUptoCardSaid : Prop := Claim7.holds Tryd.pinned (.plain (OpenSpec.upto routeNamesSpec)) routeNamesUptoCard

/-- THE SECOND FORM's CARD OF 'conduitlaw13.RouteLongest'. -/
def routeLongestUptoCard : Claim7 := { stood := { row := routeLongestUptoRow, standIns := [], harness := (true, "24b6421a4ae9e444f6c73551c630dd63609bba960e934d7f62ed46c4865506d7"), looks := true }, kinds := [], alts := [], laidByText := true, laidKinds := [.data, .pinned], laidTests := true, laidLooks := .later }
def RouteLongestUptoCardSaid : Prop := Claim7.holds Tryd.pinned (.plain (OpenSpec.upto routeLongestSpec)) routeLongestUptoCard

/-- THE SECOND FORM's CARD OF 'conduitlaw13.RouteHosts'. -/
def routeHostsUptoCard : Claim7 := { stood := { row := routeHostsUptoRow, standIns := [], harness := (true, "24b6421a4ae9e444f6c73551c630dd63609bba960e934d7f62ed46c4865506d7"), looks := true }, kinds := [], alts := [], laidByText := true, laidKinds := [.data, .pinned], laidTests := true, laidLooks := .later }
def RouteHostsUptoCardSaid : Prop := Claim7.holds Tryd.pinned (.plain (OpenSpec.upto routeHostsSpec)) routeHostsUptoCard

/-- THE SECOND FORM's CARD OF 'conduitlaw15.VarsJoin'. -/
def varsJoinUptoCard : Claim7 := { stood := { row := varsJoinUptoRow, standIns := [], harness := (true, "24b6421a4ae9e444f6c73551c630dd63609bba960e934d7f62ed46c4865506d7"), looks := true }, kinds := [], alts := [], laidByText := true, laidKinds := [.data, .data, .data], laidTests := true, laidLooks := .later }
def VarsJoinUptoCardSaid : Prop := Claim7.holds Tryd.pinned (.plain (OpenSpec.upto varsJoinSpec)) varsJoinUptoCard

/-- THE SECOND FORM's CARD OF 'conduitlaw16.CgiNumbers'. -/
def cgiNumbersUptoCard : Claim7 := { stood := { row := cgiNumbersUptoRow, standIns := [], harness := (true, "24b6421a4ae9e444f6c73551c630dd63609bba960e934d7f62ed46c4865506d7"), looks := true }, kinds := [], alts := [], laidByText := true, laidKinds := [.data, .handle, .pinned], laidTests := true, laidLooks := .later }
def CgiNumbersUptoCardSaid : Prop := Claim7.holds Tryd.pinned (.plain (OpenSpec.upto cgiNumbersSpec)) cgiNumbersUptoCard

/-- THE SECOND FORM's CARD OF 'conduitlaw17.ConfBounds'. -/
def confBoundsUptoCard : Claim7 := { stood := { row := confBoundsUptoRow, standIns := [], harness := (true, "24b6421a4ae9e444f6c73551c630dd63609bba960e934d7f62ed46c4865506d7"), looks := true }, kinds := [], alts := [], laidByText := true, laidKinds := [.data, .pinned], laidTests := true, laidLooks := .later }
def ConfBoundsUptoCardSaid : Prop := Claim7.holds Tryd.pinned (.plain (OpenSpec.upto confBoundsSpec)) confBoundsUptoCard
end Rows
end Go.Proofs.YtckjigiafmiieaaDoor
