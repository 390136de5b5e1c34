/- A part of the proof: an interpreter of the model's own code on partly known states, and that what it answers is what the program answers. No condition of its own. -/
import Derived.Test.YtlemmcoefpcpmaaDoorA1FieldLimitsO
set_option maxRecDepth 100000
set_option linter.unusedVariables false
namespace Go.Proofs.YtlemmcoefpcpmaaDoor.fieldLimits
open Go Go.AX Go.Proofs Go.Proofs.YtlemmcoefpcpmaaDoor
theorem r1 : allN (runI ) 1 1 = true := by kernel_rfl
theorem r5 : allN (runI ) 5 1 = true := by kernel_rfl
end Go.Proofs.YtlemmcoefpcpmaaDoor.fieldLimits
