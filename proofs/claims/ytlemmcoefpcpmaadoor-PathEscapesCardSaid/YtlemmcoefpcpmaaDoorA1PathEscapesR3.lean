/- A part of the proof: an interpreter of the model's own code on partly known states, and that what it answers is what the program answers. No condition of its own. -/
import Derived.Test.YtlemmcoefpcpmaaDoorA1PathEscapesO
set_option maxRecDepth 100000
set_option linter.unusedVariables false
namespace Go.Proofs.YtlemmcoefpcpmaaDoor.pathEscapes
open Go Go.AX Go.Proofs Go.Proofs.YtlemmcoefpcpmaaDoor
theorem r93 : allN (runI ) 93 31 = true := by kernel_rfl
theorem r217 : allN (runI ) 217 31 = true := by kernel_rfl
end Go.Proofs.YtlemmcoefpcpmaaDoor.pathEscapes
