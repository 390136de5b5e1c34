/- A part of the proof: an interpreter of the model's own code on partly known states, and that what it answers is what the program answers. No condition of its own. -/
import Derived.Test.YticlhkekkfelpaaGreatDoorA8ClientContinuesO
set_option maxRecDepth 100000
set_option linter.unusedVariables false
namespace Go.Proofs.YticlhkekkfelpaaGreatDoor.clientContinues
open Go Go.AX Go.Proofs Go.Proofs.YticlhkekkfelpaaGreatDoor
theorem r6 : allN (runI ) 6 1 = true := by kernel_rfl
theorem r18 : allN (runI ) 18 1 = true := by kernel_rfl
theorem r30 : allN (runI ) 30 1 = true := by kernel_rfl
theorem r42 : allN (runI ) 42 1 = true := by kernel_rfl
theorem r54 : allN (runI ) 54 1 = true := by kernel_rfl
theorem r66 : allN (runI ) 66 1 = true := by kernel_rfl
theorem r78 : allN (runI ) 78 1 = true := by kernel_rfl
theorem r90 : allN (runI ) 90 1 = true := by kernel_rfl
theorem r102 : allN (runI ) 102 1 = true := by kernel_rfl
theorem r114 : allN (runI ) 114 1 = true := by kernel_rfl
theorem r126 : allN (runI ) 126 1 = true := by kernel_rfl
theorem r138 : allN (runI ) 138 1 = true := by kernel_rfl
theorem r150 : allN (runI ) 150 1 = true := by kernel_rfl
theorem r162 : allN (runI ) 162 1 = true := by kernel_rfl
theorem r174 : allN (runI ) 174 1 = true := by kernel_rfl
theorem r186 : allN (runI ) 186 1 = true := by kernel_rfl
theorem r198 : allN (runI ) 198 1 = true := by kernel_rfl
end Go.Proofs.YticlhkekkfelpaaGreatDoor.clientContinues
