/- A part of the proof: an interpreter of the model's own code on partly known states, and that what it answers is what the program answers. No condition of its own. -/
import Derived.Test.YtckjigiafmiieaaDoorA3RouteNamesO
set_option maxRecDepth 100000
set_option linter.unusedVariables false
namespace Go.Proofs.YtckjigiafmiieaaDoor.routeNames
open Go Go.AX Go.Proofs Go.Proofs.YtckjigiafmiieaaDoor
theorem r50 : allN (runI ) 50 25 = true := by kernel_rfl
theorem r150 : allN (runI ) 150 25 = true := by kernel_rfl
theorem r250 : allN (runI ) 250 25 = true := by kernel_rfl
theorem r350 : allN (runI ) 350 25 = true := by kernel_rfl
theorem r450 : allN (runI ) 450 25 = true := by kernel_rfl
theorem r550 : allN (runI ) 550 25 = true := by kernel_rfl
theorem r650 : allN (runI ) 650 25 = true := by kernel_rfl
theorem r750 : allN (runI ) 750 25 = true := by kernel_rfl
theorem r850 : allN (runI ) 850 25 = true := by kernel_rfl
theorem r950 : allN (runI ) 950 25 = true := by kernel_rfl
theorem r1050 : allN (runI ) 1050 25 = true := by kernel_rfl
theorem r1150 : allN (runI ) 1150 2 = true := by kernel_rfl
end Go.Proofs.YtckjigiafmiieaaDoor.routeNames
