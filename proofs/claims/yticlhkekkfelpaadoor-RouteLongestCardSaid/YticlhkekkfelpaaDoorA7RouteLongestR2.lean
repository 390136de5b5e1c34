/- A part of the proof: an interpreter of the model's own code on partly known states, and that what it answers is what the program answers. No condition of its own. -/
import Derived.Test.YticlhkekkfelpaaDoorA7RouteLongestO
set_option maxRecDepth 100000
set_option linter.unusedVariables false
namespace Go.Proofs.YticlhkekkfelpaaDoor.routeLongest
open Go Go.AX Go.Proofs Go.Proofs.YticlhkekkfelpaaDoor
theorem r10 : allN (runI ) 10 5 = true := by kernel_rfl
theorem r90 : allN (runI ) 90 5 = true := by kernel_rfl
theorem r170 : allN (runI ) 170 5 = true := by kernel_rfl
theorem r250 : allN (runI ) 250 5 = true := by kernel_rfl
theorem r330 : allN (runI ) 330 5 = true := by kernel_rfl
theorem r410 : allN (runI ) 410 5 = true := by kernel_rfl
theorem r490 : allN (runI ) 490 5 = true := by kernel_rfl
theorem r570 : allN (runI ) 570 5 = true := by kernel_rfl
theorem r650 : allN (runI ) 650 5 = true := by kernel_rfl
theorem r730 : allN (runI ) 730 5 = true := by kernel_rfl
theorem r810 : allN (runI ) 810 5 = true := by kernel_rfl
theorem r890 : allN (runI ) 890 5 = true := by kernel_rfl
theorem r970 : allN (runI ) 970 5 = true := by kernel_rfl
end Go.Proofs.YticlhkekkfelpaaDoor.routeLongest
