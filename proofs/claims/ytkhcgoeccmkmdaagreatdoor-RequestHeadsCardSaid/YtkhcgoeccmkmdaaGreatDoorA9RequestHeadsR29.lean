/- A part of the proof: an interpreter of the model's own code on partly known states, and that what it answers is what the program answers. No condition of its own. -/
import Derived.Test.YtkhcgoeccmkmdaaGreatDoorA9RequestHeadsO
set_option maxRecDepth 100000
set_option linter.unusedVariables false
namespace Go.Proofs.YtkhcgoeccmkmdaaGreatDoor.requestHeads
open Go Go.AX Go.Proofs Go.Proofs.YtkhcgoeccmkmdaaGreatDoor
theorem r29 : allN (runI ) 29 1 = true := by kernel_rfl
theorem r69 : allN (runI ) 69 1 = true := by kernel_rfl
theorem r109 : allN (runI ) 109 1 = true := by kernel_rfl
end Go.Proofs.YtkhcgoeccmkmdaaGreatDoor.requestHeads
