/- A part of the proof: an interpreter of the model's own code on partly known states, and that what it answers is what the program answers. No condition of its own. -/
import Derived.Test.YticlhkekkfelpaaDoorA7RouteLongestO
set_option maxRecDepth 100000
set_option linter.unusedVariables false
namespace Go.Proofs.YticlhkekkfelpaaDoor.routeLongest
open Go Go.AX Go.Proofs Go.Proofs.YticlhkekkfelpaaDoor
theorem r50 : allN (runI ) 50 5 = true := by kernel_rfl
theorem r130 : allN (runI ) 130 5 = true := by kernel_rfl
theorem r210 : allN (runI ) 210 5 = true := by kernel_rfl
theorem r290 : allN (runI ) 290 5 = true := by kernel_rfl
theorem r370 : allN (runI ) 370 5 = true := by kernel_rfl
theorem r450 : allN (runI ) 450 5 = true := by kernel_rfl
theorem r530 : allN (runI ) 530 5 = true := by kernel_rfl
theorem r610 : allN (runI ) 610 5 = true := by kernel_rfl
theorem r690 : allN (runI ) 690 5 = true := by kernel_rfl
theorem r770 : allN (runI ) 770 5 = true := by kernel_rfl
theorem r850 : allN (runI ) 850 5 = true := by kernel_rfl
theorem r930 : allN (runI ) 930 5 = true := by kernel_rfl
end Go.Proofs.YticlhkekkfelpaaDoor.routeLongest
