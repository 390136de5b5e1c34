/- A part of the proof: an interpreter of the model's own code on partly known states, and that what it answers is what the program answers. No condition of its own. -/
import Derived.Test.YticlhkekkfelpaaGreatDoorA8ClientContinuesO
set_option maxRecDepth 100000
set_option linter.unusedVariables false
namespace Go.Proofs.YticlhkekkfelpaaGreatDoor.clientContinues
open Go Go.AX Go.Proofs Go.Proofs.YticlhkekkfelpaaGreatDoor
theorem r11 : allN (runI ) 11 1 = true := by kernel_rfl
theorem r23 : allN (runI ) 23 1 = true := by kernel_rfl
theorem r35 : allN (runI ) 35 1 = true := by kernel_rfl
theorem r47 : allN (runI ) 47 1 = true := by kernel_rfl
theorem r59 : allN (runI ) 59 1 = true := by kernel_rfl
theorem r71 : allN (runI ) 71 1 = true := by kernel_rfl
theorem r83 : allN (runI ) 83 1 = true := by kernel_rfl
theorem r95 : allN (runI ) 95 1 = true := by kernel_rfl
theorem r107 : allN (runI ) 107 1 = true := by kernel_rfl
theorem r119 : allN (runI ) 119 1 = true := by kernel_rfl
theorem r131 : allN (runI ) 131 1 = true := by kernel_rfl
theorem r143 : allN (runI ) 143 1 = true := by kernel_rfl
theorem r155 : allN (runI ) 155 1 = true := by kernel_rfl
theorem r167 : allN (runI ) 167 1 = true := by kernel_rfl
theorem r179 : allN (runI ) 179 1 = true := by kernel_rfl
theorem r191 : allN (runI ) 191 1 = true := by kernel_rfl
theorem r203 : allN (runI ) 203 1 = true := by kernel_rfl
end Go.Proofs.YticlhkekkfelpaaGreatDoor.clientContinues
