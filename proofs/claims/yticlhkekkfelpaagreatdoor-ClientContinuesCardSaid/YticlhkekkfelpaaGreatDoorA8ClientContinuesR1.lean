/- A part of the proof: an interpreter of the model's own code on partly known states, and that what it answers is what the program answers. No condition of its own. -/
import Derived.Test.YticlhkekkfelpaaGreatDoorA8ClientContinuesO
set_option maxRecDepth 100000
set_option linter.unusedVariables false
namespace Go.Proofs.YticlhkekkfelpaaGreatDoor.clientContinues
open Go Go.AX Go.Proofs Go.Proofs.YticlhkekkfelpaaGreatDoor
theorem r1 : allN (runI ) 1 1 = true := by kernel_rfl
theorem r13 : allN (runI ) 13 1 = true := by kernel_rfl
theorem r25 : allN (runI ) 25 1 = true := by kernel_rfl
theorem r37 : allN (runI ) 37 1 = true := by kernel_rfl
theorem r49 : allN (runI ) 49 1 = true := by kernel_rfl
theorem r61 : allN (runI ) 61 1 = true := by kernel_rfl
theorem r73 : allN (runI ) 73 1 = true := by kernel_rfl
theorem r85 : allN (runI ) 85 1 = true := by kernel_rfl
theorem r97 : allN (runI ) 97 1 = true := by kernel_rfl
theorem r109 : allN (runI ) 109 1 = true := by kernel_rfl
theorem r121 : allN (runI ) 121 1 = true := by kernel_rfl
theorem r133 : allN (runI ) 133 1 = true := by kernel_rfl
theorem r145 : allN (runI ) 145 1 = true := by kernel_rfl
theorem r157 : allN (runI ) 157 1 = true := by kernel_rfl
theorem r169 : allN (runI ) 169 1 = true := by kernel_rfl
theorem r181 : allN (runI ) 181 1 = true := by kernel_rfl
theorem r193 : allN (runI ) 193 1 = true := by kernel_rfl
end Go.Proofs.YticlhkekkfelpaaGreatDoor.clientContinues
