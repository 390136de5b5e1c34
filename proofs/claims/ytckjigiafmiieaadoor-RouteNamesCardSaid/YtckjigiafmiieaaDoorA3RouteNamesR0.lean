/- A part of the proof: an interpreter of the model's own code on partly known states, and that what it answers is what the program answers. No condition of its own. -/
import Derived.Test.YtckjigiafmiieaaDoorA3RouteNamesO
set_option maxRecDepth 100000
set_option linter.unusedVariables false
namespace Go.Proofs.YtckjigiafmiieaaDoor.routeNames
open Go Go.AX Go.Proofs Go.Proofs.YtckjigiafmiieaaDoor
theorem r0 : allN (runI ) 0 25 = true := by kernel_rfl
theorem r100 : allN (runI ) 100 25 = true := by kernel_rfl
theorem r200 : allN (runI ) 200 25 = true := by kernel_rfl
theorem r300 : allN (runI ) 300 25 = true := by kernel_rfl
theorem r400 : allN (runI ) 400 25 = true := by kernel_rfl
theorem r500 : allN (runI ) 500 25 = true := by kernel_rfl
theorem r600 : allN (runI ) 600 25 = true := by kernel_rfl
theorem r700 : allN (runI ) 700 25 = true := by kernel_rfl
theorem r800 : allN (runI ) 800 25 = true := by kernel_rfl
theorem r900 : allN (runI ) 900 25 = true := by kernel_rfl
theorem r1000 : allN (runI ) 1000 25 = true := by kernel_rfl
theorem r1100 : allN (runI ) 1100 25 = true := by kernel_rfl
end Go.Proofs.YtckjigiafmiieaaDoor.routeNames
