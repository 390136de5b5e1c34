/- A part of the proof: an interpreter of the model's own code on partly known states, and that what it answers is what the program answers. No condition of its own. -/
import Derived.Test.YtlemmcoefpcpmaaGreatDoorA2RequestExpectsO
set_option maxRecDepth 100000
set_option linter.unusedVariables false
namespace Go.Proofs.YtlemmcoefpcpmaaGreatDoor.requestExpects
open Go Go.AX Go.Proofs Go.Proofs.YtlemmcoefpcpmaaGreatDoor
theorem r2 : allN (runI ) 2 2 = true := by kernel_rfl
theorem r10 : allN (runI ) 10 2 = true := by kernel_rfl
theorem r18 : allN (runI ) 18 2 = true := by kernel_rfl
end Go.Proofs.YtlemmcoefpcpmaaGreatDoor.requestExpects
