/- A part of the proof: an interpreter of the model's own code on partly known states, and that what it answers is what the program answers. No condition of its own. -/
import Derived.Test.YticlhkekkfelpaaDoorA7RouteLongestO
set_option maxRecDepth 100000
set_option linter.unusedVariables false
namespace Go.Proofs.YticlhkekkfelpaaDoor.routeLongest
open Go Go.AX Go.Proofs Go.Proofs.YticlhkekkfelpaaDoor
theorem r70 : allN (runI ) 70 5 = true := by kernel_rfl
theorem r150 : allN (runI ) 150 5 = true := by kernel_rfl
theorem r230 : allN (runI ) 230 5 = true := by kernel_rfl
theorem r310 : allN (runI ) 310 5 = true := by kernel_rfl
theorem r390 : allN (runI ) 390 5 = true := by kernel_rfl
theorem r470 : allN (runI ) 470 5 = true := by kernel_rfl
theorem r550 : allN (runI ) 550 5 = true := by kernel_rfl
theorem r630 : allN (runI ) 630 5 = true := by kernel_rfl
theorem r710 : allN (runI ) 710 5 = true := by kernel_rfl
theorem r790 : allN (runI ) 790 5 = true := by kernel_rfl
theorem r870 : allN (runI ) 870 5 = true := by kernel_rfl
theorem r950 : allN (runI ) 950 5 = true := by kernel_rfl
end Go.Proofs.YticlhkekkfelpaaDoor.routeLongest
