/- A part of the proof: an interpreter of the model's own code on partly known states, and that what it answers is what the program answers. No condition of its own. -/
import Derived.Test.YticlhkekkfelpaaDoorA7RouteLongestO
set_option maxRecDepth 100000
set_option linter.unusedVariables false
namespace Go.Proofs.YticlhkekkfelpaaDoor.routeLongest
open Go Go.AX Go.Proofs Go.Proofs.YticlhkekkfelpaaDoor
theorem r15 : allN (runI ) 15 5 = true := by kernel_rfl
theorem r95 : allN (runI ) 95 5 = true := by kernel_rfl
theorem r175 : allN (runI ) 175 5 = true := by kernel_rfl
theorem r255 : allN (runI ) 255 5 = true := by kernel_rfl
theorem r335 : allN (runI ) 335 5 = true := by kernel_rfl
theorem r415 : allN (runI ) 415 5 = true := by kernel_rfl
theorem r495 : allN (runI ) 495 5 = true := by kernel_rfl
theorem r575 : allN (runI ) 575 5 = true := by kernel_rfl
theorem r655 : allN (runI ) 655 5 = true := by kernel_rfl
theorem r735 : allN (runI ) 735 5 = true := by kernel_rfl
theorem r815 : allN (runI ) 815 5 = true := by kernel_rfl
theorem r895 : allN (runI ) 895 5 = true := by kernel_rfl
theorem r975 : allN (runI ) 975 5 = true := by kernel_rfl
end Go.Proofs.YticlhkekkfelpaaDoor.routeLongest
