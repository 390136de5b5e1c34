/- A part of the proof: an interpreter of the model's own code on partly known states, and that what it answers is what the program answers. No condition of its own. -/
import Derived.Test.YticlhkekkfelpaaDoorA7RouteLongestO
set_option maxRecDepth 100000
set_option linter.unusedVariables false
namespace Go.Proofs.YticlhkekkfelpaaDoor.routeLongest
open Go Go.AX Go.Proofs Go.Proofs.YticlhkekkfelpaaDoor
theorem r30 : allN (runI ) 30 5 = true := by kernel_rfl
theorem r110 : allN (runI ) 110 5 = true := by kernel_rfl
theorem r190 : allN (runI ) 190 5 = true := by kernel_rfl
theorem r270 : allN (runI ) 270 5 = true := by kernel_rfl
theorem r350 : allN (runI ) 350 5 = true := by kernel_rfl
theorem r430 : allN (runI ) 430 5 = true := by kernel_rfl
theorem r510 : allN (runI ) 510 5 = true := by kernel_rfl
theorem r590 : allN (runI ) 590 5 = true := by kernel_rfl
theorem r670 : allN (runI ) 670 5 = true := by kernel_rfl
theorem r750 : allN (runI ) 750 5 = true := by kernel_rfl
theorem r830 : allN (runI ) 830 5 = true := by kernel_rfl
theorem r910 : allN (runI ) 910 5 = true := by kernel_rfl
theorem r990 : allN (runI ) 990 5 = true := by kernel_rfl
end Go.Proofs.YticlhkekkfelpaaDoor.routeLongest
