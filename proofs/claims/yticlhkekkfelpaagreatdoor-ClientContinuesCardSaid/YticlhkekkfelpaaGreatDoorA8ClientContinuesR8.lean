/- A part of the proof: an interpreter of the model's own code on partly known states, and that what it answers is what the program answers. No condition of its own. -/
import Derived.Test.YticlhkekkfelpaaGreatDoorA8ClientContinuesO
set_option maxRecDepth 100000
set_option linter.unusedVariables false
namespace Go.Proofs.YticlhkekkfelpaaGreatDoor.clientContinues
open Go Go.AX Go.Proofs Go.Proofs.YticlhkekkfelpaaGreatDoor
theorem r8 : allN (runI ) 8 1 = true := by kernel_rfl
theorem r20 : allN (runI ) 20 1 = true := by kernel_rfl
theorem r32 : allN (runI ) 32 1 = true := by kernel_rfl
theorem r44 : allN (runI ) 44 1 = true := by kernel_rfl
theorem r56 : allN (runI ) 56 1 = true := by kernel_rfl
theorem r68 : allN (runI ) 68 1 = true := by kernel_rfl
theorem r80 : allN (runI ) 80 1 = true := by kernel_rfl
theorem r92 : allN (runI ) 92 1 = true := by kernel_rfl
theorem r104 : allN (runI ) 104 1 = true := by kernel_rfl
theorem r116 : allN (runI ) 116 1 = true := by kernel_rfl
theorem r128 : allN (runI ) 128 1 = true := by kernel_rfl
theorem r140 : allN (runI ) 140 1 = true := by kernel_rfl
theorem r152 : allN (runI ) 152 1 = true := by kernel_rfl
theorem r164 : allN (runI ) 164 1 = true := by kernel_rfl
theorem r176 : allN (runI ) 176 1 = true := by kernel_rfl
theorem r188 : allN (runI ) 188 1 = true := by kernel_rfl
theorem r200 : allN (runI ) 200 1 = true := by kernel_rfl
end Go.Proofs.YticlhkekkfelpaaGreatDoor.clientContinues
