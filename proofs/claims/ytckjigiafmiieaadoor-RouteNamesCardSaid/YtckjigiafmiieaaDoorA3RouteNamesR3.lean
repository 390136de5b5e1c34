/- A part of the proof: an interpreter of the model's own code on partly known states, and that what it answers is what the program answers. No condition of its own. -/
import Derived.Test.YtckjigiafmiieaaDoorA3RouteNamesO
set_option maxRecDepth 100000
set_option linter.unusedVariables false
namespace Go.Proofs.YtckjigiafmiieaaDoor.routeNames
open Go Go.AX Go.Proofs Go.Proofs.YtckjigiafmiieaaDoor
theorem r75 : allN (runI ) 75 25 = true := by kernel_rfl
theorem r175 : allN (runI ) 175 25 = true := by kernel_rfl
theorem r275 : allN (runI ) 275 25 = true := by kernel_rfl
theorem r375 : allN (runI ) 375 25 = true := by kernel_rfl
theorem r475 : allN (runI ) 475 25 = true := by kernel_rfl
theorem r575 : allN (runI ) 575 25 = true := by kernel_rfl
theorem r675 : allN (runI ) 675 25 = true := by kernel_rfl
theorem r775 : allN (runI ) 775 25 = true := by kernel_rfl
theorem r875 : allN (runI ) 875 25 = true := by kernel_rfl
theorem r975 : allN (runI ) 975 25 = true := by kernel_rfl
theorem r1075 : allN (runI ) 1075 25 = true := by kernel_rfl
end Go.Proofs.YtckjigiafmiieaaDoor.routeNames
