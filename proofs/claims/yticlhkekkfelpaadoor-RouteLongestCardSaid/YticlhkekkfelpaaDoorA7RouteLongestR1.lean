/- A part of the proof: an interpreter of the model's own code on partly known states, and that what it answers is what the program answers. No condition of its own. -/
import Derived.Test.YticlhkekkfelpaaDoorA7RouteLongestO
set_option maxRecDepth 100000
set_option linter.unusedVariables false
namespace Go.Proofs.YticlhkekkfelpaaDoor.routeLongest
open Go Go.AX Go.Proofs Go.Proofs.YticlhkekkfelpaaDoor
theorem r5 : allN (runI ) 5 5 = true := by kernel_rfl
theorem r85 : allN (runI ) 85 5 = true := by kernel_rfl
theorem r165 : allN (runI ) 165 5 = true := by kernel_rfl
theorem r245 : allN (runI ) 245 5 = true := by kernel_rfl
theorem r325 : allN (runI ) 325 5 = true := by kernel_rfl
theorem r405 : allN (runI ) 405 5 = true := by kernel_rfl
theorem r485 : allN (runI ) 485 5 = true := by kernel_rfl
theorem r565 : allN (runI ) 565 5 = true := by kernel_rfl
theorem r645 : allN (runI ) 645 5 = true := by kernel_rfl
theorem r725 : allN (runI ) 725 5 = true := by kernel_rfl
theorem r805 : allN (runI ) 805 5 = true := by kernel_rfl
theorem r885 : allN (runI ) 885 5 = true := by kernel_rfl
theorem r965 : allN (runI ) 965 5 = true := by kernel_rfl
end Go.Proofs.YticlhkekkfelpaaDoor.routeLongest
