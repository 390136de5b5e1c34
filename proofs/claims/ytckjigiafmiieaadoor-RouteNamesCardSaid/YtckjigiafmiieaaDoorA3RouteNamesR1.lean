/- A part of the proof: an interpreter of the model's own code on partly known states, and that what it answers is what the program answers. No condition of its own. -/
import Derived.Test.YtckjigiafmiieaaDoorA3RouteNamesO
set_option maxRecDepth 100000
set_option linter.unusedVariables false
namespace Go.Proofs.YtckjigiafmiieaaDoor.routeNames
open Go Go.AX Go.Proofs Go.Proofs.YtckjigiafmiieaaDoor
theorem r25 : allN (runI ) 25 25 = true := by kernel_rfl
theorem r125 : allN (runI ) 125 25 = true := by kernel_rfl
theorem r225 : allN (runI ) 225 25 = true := by kernel_rfl
theorem r325 : allN (runI ) 325 25 = true := by kernel_rfl
theorem r425 : allN (runI ) 425 25 = true := by kernel_rfl
theorem r525 : allN (runI ) 525 25 = true := by kernel_rfl
theorem r625 : allN (runI ) 625 25 = true := by kernel_rfl
theorem r725 : allN (runI ) 725 25 = true := by kernel_rfl
theorem r825 : allN (runI ) 825 25 = true := by kernel_rfl
theorem r925 : allN (runI ) 925 25 = true := by kernel_rfl
theorem r1025 : allN (runI ) 1025 25 = true := by kernel_rfl
theorem r1125 : allN (runI ) 1125 25 = true := by kernel_rfl
end Go.Proofs.YtckjigiafmiieaaDoor.routeNames
