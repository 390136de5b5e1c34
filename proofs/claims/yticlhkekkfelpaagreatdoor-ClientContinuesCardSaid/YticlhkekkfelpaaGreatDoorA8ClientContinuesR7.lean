/- A part of the proof: an interpreter of the model's own code on partly known states, and that what it answers is what the program answers. No condition of its own. -/
import Derived.Test.YticlhkekkfelpaaGreatDoorA8ClientContinuesO
set_option maxRecDepth 100000
set_option linter.unusedVariables false
namespace Go.Proofs.YticlhkekkfelpaaGreatDoor.clientContinues
open Go Go.AX Go.Proofs Go.Proofs.YticlhkekkfelpaaGreatDoor
theorem r7 : allN (runI ) 7 1 = true := by kernel_rfl
theorem r19 : allN (runI ) 19 1 = true := by kernel_rfl
theorem r31 : allN (runI ) 31 1 = true := by kernel_rfl
theorem r43 : allN (runI ) 43 1 = true := by kernel_rfl
theorem r55 : allN (runI ) 55 1 = true := by kernel_rfl
theorem r67 : allN (runI ) 67 1 = true := by kernel_rfl
theorem r79 : allN (runI ) 79 1 = true := by kernel_rfl
theorem r91 : allN (runI ) 91 1 = true := by kernel_rfl
theorem r103 : allN (runI ) 103 1 = true := by kernel_rfl
theorem r115 : allN (runI ) 115 1 = true := by kernel_rfl
theorem r127 : allN (runI ) 127 1 = true := by kernel_rfl
theorem r139 : allN (runI ) 139 1 = true := by kernel_rfl
theorem r151 : allN (runI ) 151 1 = true := by kernel_rfl
theorem r163 : allN (runI ) 163 1 = true := by kernel_rfl
theorem r175 : allN (runI ) 175 1 = true := by kernel_rfl
theorem r187 : allN (runI ) 187 1 = true := by kernel_rfl
theorem r199 : allN (runI ) 199 1 = true := by kernel_rfl
end Go.Proofs.YticlhkekkfelpaaGreatDoor.clientContinues
