/- A part of the proof: an interpreter of the model's own code on partly known states, and that what it answers is what the program answers. No condition of its own. -/
import Derived.Test.YticlhkekkfelpaaDoorA7RouteLongestO
set_option maxRecDepth 100000
set_option linter.unusedVariables false
namespace Go.Proofs.YticlhkekkfelpaaDoor.routeLongest
open Go Go.AX Go.Proofs Go.Proofs.YticlhkekkfelpaaDoor
theorem r35 : allN (runI ) 35 5 = true := by kernel_rfl
theorem r115 : allN (runI ) 115 5 = true := by kernel_rfl
theorem r195 : allN (runI ) 195 5 = true := by kernel_rfl
theorem r275 : allN (runI ) 275 5 = true := by kernel_rfl
theorem r355 : allN (runI ) 355 5 = true := by kernel_rfl
theorem r435 : allN (runI ) 435 5 = true := by kernel_rfl
theorem r515 : allN (runI ) 515 5 = true := by kernel_rfl
theorem r595 : allN (runI ) 595 5 = true := by kernel_rfl
theorem r675 : allN (runI ) 675 5 = true := by kernel_rfl
theorem r755 : allN (runI ) 755 5 = true := by kernel_rfl
theorem r835 : allN (runI ) 835 5 = true := by kernel_rfl
theorem r915 : allN (runI ) 915 5 = true := by kernel_rfl
theorem r995 : allN (runI ) 995 5 = true := by kernel_rfl
end Go.Proofs.YticlhkekkfelpaaDoor.routeLongest
