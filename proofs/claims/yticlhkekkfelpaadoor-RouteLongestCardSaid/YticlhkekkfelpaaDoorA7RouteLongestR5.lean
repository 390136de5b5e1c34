/- A part of the proof: an interpreter of the model's own code on partly known states, and that what it answers is what the program answers. No condition of its own. -/
import Derived.Test.YticlhkekkfelpaaDoorA7RouteLongestO
set_option maxRecDepth 100000
set_option linter.unusedVariables false
namespace Go.Proofs.YticlhkekkfelpaaDoor.routeLongest
open Go Go.AX Go.Proofs Go.Proofs.YticlhkekkfelpaaDoor
theorem r25 : allN (runI ) 25 5 = true := by kernel_rfl
theorem r105 : allN (runI ) 105 5 = true := by kernel_rfl
theorem r185 : allN (runI ) 185 5 = true := by kernel_rfl
theorem r265 : allN (runI ) 265 5 = true := by kernel_rfl
theorem r345 : allN (runI ) 345 5 = true := by kernel_rfl
theorem r425 : allN (runI ) 425 5 = true := by kernel_rfl
theorem r505 : allN (runI ) 505 5 = true := by kernel_rfl
theorem r585 : allN (runI ) 585 5 = true := by kernel_rfl
theorem r665 : allN (runI ) 665 5 = true := by kernel_rfl
theorem r745 : allN (runI ) 745 5 = true := by kernel_rfl
theorem r825 : allN (runI ) 825 5 = true := by kernel_rfl
theorem r905 : allN (runI ) 905 5 = true := by kernel_rfl
theorem r985 : allN (runI ) 985 5 = true := by kernel_rfl
end Go.Proofs.YticlhkekkfelpaaDoor.routeLongest
