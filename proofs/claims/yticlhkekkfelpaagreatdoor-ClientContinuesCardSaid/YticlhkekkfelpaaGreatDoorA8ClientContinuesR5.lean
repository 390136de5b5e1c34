/- A part of the proof: an interpreter of the model's own code on partly known states, and that what it answers is what the program answers. No condition of its own. -/
import Derived.Test.YticlhkekkfelpaaGreatDoorA8ClientContinuesO
set_option maxRecDepth 100000
set_option linter.unusedVariables false
namespace Go.Proofs.YticlhkekkfelpaaGreatDoor.clientContinues
open Go Go.AX Go.Proofs Go.Proofs.YticlhkekkfelpaaGreatDoor
theorem r5 : allN (runI ) 5 1 = true := by kernel_rfl
theorem r17 : allN (runI ) 17 1 = true := by kernel_rfl
theorem r29 : allN (runI ) 29 1 = true := by kernel_rfl
theorem r41 : allN (runI ) 41 1 = true := by kernel_rfl
theorem r53 : allN (runI ) 53 1 = true := by kernel_rfl
theorem r65 : allN (runI ) 65 1 = true := by kernel_rfl
theorem r77 : allN (runI ) 77 1 = true := by kernel_rfl
theorem r89 : allN (runI ) 89 1 = true := by kernel_rfl
theorem r101 : allN (runI ) 101 1 = true := by kernel_rfl
theorem r113 : allN (runI ) 113 1 = true := by kernel_rfl
theorem r125 : allN (runI ) 125 1 = true := by kernel_rfl
theorem r137 : allN (runI ) 137 1 = true := by kernel_rfl
theorem r149 : allN (runI ) 149 1 = true := by kernel_rfl
theorem r161 : allN (runI ) 161 1 = true := by kernel_rfl
theorem r173 : allN (runI ) 173 1 = true := by kernel_rfl
theorem r185 : allN (runI ) 185 1 = true := by kernel_rfl
theorem r197 : allN (runI ) 197 1 = true := by kernel_rfl
end Go.Proofs.YticlhkekkfelpaaGreatDoor.clientContinues
