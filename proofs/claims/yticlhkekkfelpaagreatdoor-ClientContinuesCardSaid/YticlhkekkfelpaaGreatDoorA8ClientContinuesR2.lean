/- A part of the proof: an interpreter of the model's own code on partly known states, and that what it answers is what the program answers. No condition of its own. -/
import Derived.Test.YticlhkekkfelpaaGreatDoorA8ClientContinuesO
set_option maxRecDepth 100000
set_option linter.unusedVariables false
namespace Go.Proofs.YticlhkekkfelpaaGreatDoor.clientContinues
open Go Go.AX Go.Proofs Go.Proofs.YticlhkekkfelpaaGreatDoor
theorem r2 : allN (runI ) 2 1 = true := by kernel_rfl
theorem r14 : allN (runI ) 14 1 = true := by kernel_rfl
theorem r26 : allN (runI ) 26 1 = true := by kernel_rfl
theorem r38 : allN (runI ) 38 1 = true := by kernel_rfl
theorem r50 : allN (runI ) 50 1 = true := by kernel_rfl
theorem r62 : allN (runI ) 62 1 = true := by kernel_rfl
theorem r74 : allN (runI ) 74 1 = true := by kernel_rfl
theorem r86 : allN (runI ) 86 1 = true := by kernel_rfl
theorem r98 : allN (runI ) 98 1 = true := by kernel_rfl
theorem r110 : allN (runI ) 110 1 = true := by kernel_rfl
theorem r122 : allN (runI ) 122 1 = true := by kernel_rfl
theorem r134 : allN (runI ) 134 1 = true := by kernel_rfl
theorem r146 : allN (runI ) 146 1 = true := by kernel_rfl
theorem r158 : allN (runI ) 158 1 = true := by kernel_rfl
theorem r170 : allN (runI ) 170 1 = true := by kernel_rfl
theorem r182 : allN (runI ) 182 1 = true := by kernel_rfl
theorem r194 : allN (runI ) 194 1 = true := by kernel_rfl
end Go.Proofs.YticlhkekkfelpaaGreatDoor.clientContinues
