/- A part of the proof: an interpreter of the model's own code on partly known states, and that what it answers is what the program answers. No condition of its own. -/
import Derived.Test.YticlhkekkfelpaaGreatDoorA8ClientContinuesO
set_option maxRecDepth 100000
set_option linter.unusedVariables false
namespace Go.Proofs.YticlhkekkfelpaaGreatDoor.clientContinues
open Go Go.AX Go.Proofs Go.Proofs.YticlhkekkfelpaaGreatDoor
theorem r9 : allN (runI ) 9 1 = true := by kernel_rfl
theorem r21 : allN (runI ) 21 1 = true := by kernel_rfl
theorem r33 : allN (runI ) 33 1 = true := by kernel_rfl
theorem r45 : allN (runI ) 45 1 = true := by kernel_rfl
theorem r57 : allN (runI ) 57 1 = true := by kernel_rfl
theorem r69 : allN (runI ) 69 1 = true := by kernel_rfl
theorem r81 : allN (runI ) 81 1 = true := by kernel_rfl
theorem r93 : allN (runI ) 93 1 = true := by kernel_rfl
theorem r105 : allN (runI ) 105 1 = true := by kernel_rfl
theorem r117 : allN (runI ) 117 1 = true := by kernel_rfl
theorem r129 : allN (runI ) 129 1 = true := by kernel_rfl
theorem r141 : allN (runI ) 141 1 = true := by kernel_rfl
theorem r153 : allN (runI ) 153 1 = true := by kernel_rfl
theorem r165 : allN (runI ) 165 1 = true := by kernel_rfl
theorem r177 : allN (runI ) 177 1 = true := by kernel_rfl
theorem r189 : allN (runI ) 189 1 = true := by kernel_rfl
theorem r201 : allN (runI ) 201 1 = true := by kernel_rfl
end Go.Proofs.YticlhkekkfelpaaGreatDoor.clientContinues
