/- A part of the proof: an interpreter of the model's own code on partly known states, and that what it answers is what the program answers. No condition of its own. -/
import Derived.Test.YticlhkekkfelpaaDoorA7RouteLongestO
set_option maxRecDepth 100000
set_option linter.unusedVariables false
namespace Go.Proofs.YticlhkekkfelpaaDoor.routeLongest
open Go Go.AX Go.Proofs Go.Proofs.YticlhkekkfelpaaDoor
theorem r55 : allN (runI ) 55 5 = true := by kernel_rfl
theorem r135 : allN (runI ) 135 5 = true := by kernel_rfl
theorem r215 : allN (runI ) 215 5 = true := by kernel_rfl
theorem r295 : allN (runI ) 295 5 = true := by kernel_rfl
theorem r375 : allN (runI ) 375 5 = true := by kernel_rfl
theorem r455 : allN (runI ) 455 5 = true := by kernel_rfl
theorem r535 : allN (runI ) 535 5 = true := by kernel_rfl
theorem r615 : allN (runI ) 615 5 = true := by kernel_rfl
theorem r695 : allN (runI ) 695 5 = true := by kernel_rfl
theorem r775 : allN (runI ) 775 5 = true := by kernel_rfl
theorem r855 : allN (runI ) 855 5 = true := by kernel_rfl
theorem r935 : allN (runI ) 935 5 = true := by kernel_rfl
end Go.Proofs.YticlhkekkfelpaaDoor.routeLongest
