/- A part of the proof: an interpreter of the model's own code on partly known states, and that what it answers is what the program answers. No condition of its own. -/
import Derived.Test.YticlhkekkfelpaaDoorA7RouteLongestO
set_option maxRecDepth 100000
set_option linter.unusedVariables false
namespace Go.Proofs.YticlhkekkfelpaaDoor.routeLongest
open Go Go.AX Go.Proofs Go.Proofs.YticlhkekkfelpaaDoor
theorem r20 : allN (runI ) 20 5 = true := by kernel_rfl
theorem r100 : allN (runI ) 100 5 = true := by kernel_rfl
theorem r180 : allN (runI ) 180 5 = true := by kernel_rfl
theorem r260 : allN (runI ) 260 5 = true := by kernel_rfl
theorem r340 : allN (runI ) 340 5 = true := by kernel_rfl
theorem r420 : allN (runI ) 420 5 = true := by kernel_rfl
theorem r500 : allN (runI ) 500 5 = true := by kernel_rfl
theorem r580 : allN (runI ) 580 5 = true := by kernel_rfl
theorem r660 : allN (runI ) 660 5 = true := by kernel_rfl
theorem r740 : allN (runI ) 740 5 = true := by kernel_rfl
theorem r820 : allN (runI ) 820 5 = true := by kernel_rfl
theorem r900 : allN (runI ) 900 5 = true := by kernel_rfl
theorem r980 : allN (runI ) 980 5 = true := by kernel_rfl
end Go.Proofs.YticlhkekkfelpaaDoor.routeLongest
