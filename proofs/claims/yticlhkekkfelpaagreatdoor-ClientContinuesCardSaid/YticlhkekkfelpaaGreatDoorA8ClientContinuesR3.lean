/- A part of the proof: an interpreter of the model's own code on partly known states, and that what it answers is what the program answers. No condition of its own. -/
import Derived.Test.YticlhkekkfelpaaGreatDoorA8ClientContinuesO
set_option maxRecDepth 100000
set_option linter.unusedVariables false
namespace Go.Proofs.YticlhkekkfelpaaGreatDoor.clientContinues
open Go Go.AX Go.Proofs Go.Proofs.YticlhkekkfelpaaGreatDoor
theorem r3 : allN (runI ) 3 1 = true := by kernel_rfl
theorem r15 : allN (runI ) 15 1 = true := by kernel_rfl
theorem r27 : allN (runI ) 27 1 = true := by kernel_rfl
theorem r39 : allN (runI ) 39 1 = true := by kernel_rfl
theorem r51 : allN (runI ) 51 1 = true := by kernel_rfl
theorem r63 : allN (runI ) 63 1 = true := by kernel_rfl
theorem r75 : allN (runI ) 75 1 = true := by kernel_rfl
theorem r87 : allN (runI ) 87 1 = true := by kernel_rfl
theorem r99 : allN (runI ) 99 1 = true := by kernel_rfl
theorem r111 : allN (runI ) 111 1 = true := by kernel_rfl
theorem r123 : allN (runI ) 123 1 = true := by kernel_rfl
theorem r135 : allN (runI ) 135 1 = true := by kernel_rfl
theorem r147 : allN (runI ) 147 1 = true := by kernel_rfl
theorem r159 : allN (runI ) 159 1 = true := by kernel_rfl
theorem r171 : allN (runI ) 171 1 = true := by kernel_rfl
theorem r183 : allN (runI ) 183 1 = true := by kernel_rfl
theorem r195 : allN (runI ) 195 1 = true := by kernel_rfl
end Go.Proofs.YticlhkekkfelpaaGreatDoor.clientContinues
