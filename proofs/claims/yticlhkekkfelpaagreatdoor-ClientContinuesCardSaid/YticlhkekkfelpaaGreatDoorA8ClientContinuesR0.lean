/- A part of the proof: an interpreter of the model's own code on partly known states, and that what it answers is what the program answers. No condition of its own. -/
import Derived.Test.YticlhkekkfelpaaGreatDoorA8ClientContinuesO
set_option maxRecDepth 100000
set_option linter.unusedVariables false
namespace Go.Proofs.YticlhkekkfelpaaGreatDoor.clientContinues
open Go Go.AX Go.Proofs Go.Proofs.YticlhkekkfelpaaGreatDoor
theorem r0 : allN (runI ) 0 1 = true := by kernel_rfl
theorem r12 : allN (runI ) 12 1 = true := by kernel_rfl
theorem r24 : allN (runI ) 24 1 = true := by kernel_rfl
theorem r36 : allN (runI ) 36 1 = true := by kernel_rfl
theorem r48 : allN (runI ) 48 1 = true := by kernel_rfl
theorem r60 : allN (runI ) 60 1 = true := by kernel_rfl
theorem r72 : allN (runI ) 72 1 = true := by kernel_rfl
theorem r84 : allN (runI ) 84 1 = true := by kernel_rfl
theorem r96 : allN (runI ) 96 1 = true := by kernel_rfl
theorem r108 : allN (runI ) 108 1 = true := by kernel_rfl
theorem r120 : allN (runI ) 120 1 = true := by kernel_rfl
theorem r132 : allN (runI ) 132 1 = true := by kernel_rfl
theorem r144 : allN (runI ) 144 1 = true := by kernel_rfl
theorem r156 : allN (runI ) 156 1 = true := by kernel_rfl
theorem r168 : allN (runI ) 168 1 = true := by kernel_rfl
theorem r180 : allN (runI ) 180 1 = true := by kernel_rfl
theorem r192 : allN (runI ) 192 1 = true := by kernel_rfl
end Go.Proofs.YticlhkekkfelpaaGreatDoor.clientContinues
