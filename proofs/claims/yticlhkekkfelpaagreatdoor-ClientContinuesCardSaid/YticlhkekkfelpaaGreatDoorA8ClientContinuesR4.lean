/- A part of the proof: an interpreter of the model's own code on partly known states, and that what it answers is what the program answers. No condition of its own. -/
import Derived.Test.YticlhkekkfelpaaGreatDoorA8ClientContinuesO
set_option maxRecDepth 100000
set_option linter.unusedVariables false
namespace Go.Proofs.YticlhkekkfelpaaGreatDoor.clientContinues
open Go Go.AX Go.Proofs Go.Proofs.YticlhkekkfelpaaGreatDoor
theorem r4 : allN (runI ) 4 1 = true := by kernel_rfl
theorem r16 : allN (runI ) 16 1 = true := by kernel_rfl
theorem r28 : allN (runI ) 28 1 = true := by kernel_rfl
theorem r40 : allN (runI ) 40 1 = true := by kernel_rfl
theorem r52 : allN (runI ) 52 1 = true := by kernel_rfl
theorem r64 : allN (runI ) 64 1 = true := by kernel_rfl
theorem r76 : allN (runI ) 76 1 = true := by kernel_rfl
theorem r88 : allN (runI ) 88 1 = true := by kernel_rfl
theorem r100 : allN (runI ) 100 1 = true := by kernel_rfl
theorem r112 : allN (runI ) 112 1 = true := by kernel_rfl
theorem r124 : allN (runI ) 124 1 = true := by kernel_rfl
theorem r136 : allN (runI ) 136 1 = true := by kernel_rfl
theorem r148 : allN (runI ) 148 1 = true := by kernel_rfl
theorem r160 : allN (runI ) 160 1 = true := by kernel_rfl
theorem r172 : allN (runI ) 172 1 = true := by kernel_rfl
theorem r184 : allN (runI ) 184 1 = true := by kernel_rfl
theorem r196 : allN (runI ) 196 1 = true := by kernel_rfl
end Go.Proofs.YticlhkekkfelpaaGreatDoor.clientContinues
