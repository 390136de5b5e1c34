/- A part of the proof: an interpreter of the model's own code on partly known states, and that what it answers is what the program answers. No condition of its own. -/
import Derived.Test.YtkhcgoeccmkmdaaGreatDoorA9RequestHeadsO
set_option maxRecDepth 100000
set_option linter.unusedVariables false
namespace Go.Proofs.YtkhcgoeccmkmdaaGreatDoor.requestHeads
open Go Go.AX Go.Proofs Go.Proofs.YtkhcgoeccmkmdaaGreatDoor
theorem r14 : allN (runI ) 14 1 = true := by kernel_rfl
theorem r54 : allN (runI ) 54 1 = true := by kernel_rfl
theorem r94 : allN (runI ) 94 1 = true := by kernel_rfl
end Go.Proofs.YtkhcgoeccmkmdaaGreatDoor.requestHeads
