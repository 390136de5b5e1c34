/- A part of the proof: an interpreter of the model's own code on partly known states, and that what it answers is what the program answers. No condition of its own. -/
import Derived.Test.YticlhkekkfelpaaGreatDoorA8ClientContinuesO
set_option maxRecDepth 100000
set_option linter.unusedVariables false
namespace Go.Proofs.YticlhkekkfelpaaGreatDoor.clientContinues
open Go Go.AX Go.Proofs Go.Proofs.YticlhkekkfelpaaGreatDoor
theorem r10 : allN (runI ) 10 1 = true := by kernel_rfl
theorem r22 : allN (runI ) 22 1 = true := by kernel_rfl
theorem r34 : allN (runI ) 34 1 = true := by kernel_rfl
theorem r46 : allN (runI ) 46 1 = true := by kernel_rfl
theorem r58 : allN (runI ) 58 1 = true := by kernel_rfl
theorem r70 : allN (runI ) 70 1 = true := by kernel_rfl
theorem r82 : allN (runI ) 82 1 = true := by kernel_rfl
theorem r94 : allN (runI ) 94 1 = true := by kernel_rfl
theorem r106 : allN (runI ) 106 1 = true := by kernel_rfl
theorem r118 : allN (runI ) 118 1 = true := by kernel_rfl
theorem r130 : allN (runI ) 130 1 = true := by kernel_rfl
theorem r142 : allN (runI ) 142 1 = true := by kernel_rfl
theorem r154 : allN (runI ) 154 1 = true := by kernel_rfl
theorem r166 : allN (runI ) 166 1 = true := by kernel_rfl
theorem r178 : allN (runI ) 178 1 = true := by kernel_rfl
theorem r190 : allN (runI ) 190 1 = true := by kernel_rfl
theorem r202 : allN (runI ) 202 1 = true := by kernel_rfl
end Go.Proofs.YticlhkekkfelpaaGreatDoor.clientContinues
