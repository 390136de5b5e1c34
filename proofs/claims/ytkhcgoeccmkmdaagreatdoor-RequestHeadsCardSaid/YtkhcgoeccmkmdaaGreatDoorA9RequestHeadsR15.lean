/- A part of the proof: an interpreter of the model's own code on partly known states, and that what it answers is what the program answers. No condition of its own. -/
import Derived.Test.YtkhcgoeccmkmdaaGreatDoorA9RequestHeadsO
set_option maxRecDepth 100000
set_option linter.unusedVariables false
namespace Go.Proofs.YtkhcgoeccmkmdaaGreatDoor.requestHeads
open Go Go.AX Go.Proofs Go.Proofs.YtkhcgoeccmkmdaaGreatDoor
theorem r15 : allN (runI ) 15 1 = true := by kernel_rfl
theorem r55 : allN (runI ) 55 1 = true := by kernel_rfl
theorem r95 : allN (runI ) 95 1 = true := by kernel_rfl
end Go.Proofs.YtkhcgoeccmkmdaaGreatDoor.requestHeads
