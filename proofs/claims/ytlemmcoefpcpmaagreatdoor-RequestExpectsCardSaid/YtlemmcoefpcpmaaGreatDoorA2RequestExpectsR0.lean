/- A part of the proof: an interpreter of the model's own code on partly known states, and that what it answers is what the program answers. No condition of its own. -/
import Derived.Test.YtlemmcoefpcpmaaGreatDoorA2RequestExpectsO
set_option maxRecDepth 100000
set_option linter.unusedVariables false
namespace Go.Proofs.YtlemmcoefpcpmaaGreatDoor.requestExpects
open Go Go.AX Go.Proofs Go.Proofs.YtlemmcoefpcpmaaGreatDoor
theorem r0 : allN (runI ) 0 2 = true := by kernel_rfl
theorem r8 : allN (runI ) 8 2 = true := by kernel_rfl
theorem r16 : allN (runI ) 16 2 = true := by kernel_rfl
end Go.Proofs.YtlemmcoefpcpmaaGreatDoor.requestExpects
