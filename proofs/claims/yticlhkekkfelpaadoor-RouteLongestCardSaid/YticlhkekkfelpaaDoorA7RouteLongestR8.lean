/- A part of the proof: an interpreter of the model's own code on partly known states, and that what it answers is what the program answers. No condition of its own. -/
import Derived.Test.YticlhkekkfelpaaDoorA7RouteLongestO
set_option maxRecDepth 100000
set_option linter.unusedVariables false
namespace Go.Proofs.YticlhkekkfelpaaDoor.routeLongest
open Go Go.AX Go.Proofs Go.Proofs.YticlhkekkfelpaaDoor
theorem r40 : allN (runI ) 40 5 = true := by kernel_rfl
theorem r120 : allN (runI ) 120 5 = true := by kernel_rfl
theorem r200 : allN (runI ) 200 5 = true := by kernel_rfl
theorem r280 : allN (runI ) 280 5 = true := by kernel_rfl
theorem r360 : allN (runI ) 360 5 = true := by kernel_rfl
theorem r440 : allN (runI ) 440 5 = true := by kernel_rfl
theorem r520 : allN (runI ) 520 5 = true := by kernel_rfl
theorem r600 : allN (runI ) 600 5 = true := by kernel_rfl
theorem r680 : allN (runI ) 680 5 = true := by kernel_rfl
theorem r760 : allN (runI ) 760 5 = true := by kernel_rfl
theorem r840 : allN (runI ) 840 5 = true := by kernel_rfl
theorem r920 : allN (runI ) 920 5 = true := by kernel_rfl
theorem r1000 : allN (runI ) 1000 5 = true := by kernel_rfl
end Go.Proofs.YticlhkekkfelpaaDoor.routeLongest
