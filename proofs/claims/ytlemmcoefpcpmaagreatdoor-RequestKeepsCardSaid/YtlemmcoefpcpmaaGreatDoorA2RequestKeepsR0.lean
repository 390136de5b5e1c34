/- A part of the proof: an interpreter of the model's own code on partly known states, and that what it answers is what the program answers. No condition of its own. -/
import Derived.Test.YtlemmcoefpcpmaaGreatDoorA2RequestKeepsO
set_option maxRecDepth 100000
set_option linter.unusedVariables false
namespace Go.Proofs.YtlemmcoefpcpmaaGreatDoor.requestKeeps
open Go Go.AX Go.Proofs Go.Proofs.YtlemmcoefpcpmaaGreatDoor
theorem r0 : allN (runI ) 0 12 = true := by kernel_rfl
end Go.Proofs.YtlemmcoefpcpmaaGreatDoor.requestKeeps
