/- A part of the proof: an interpreter of the model's own code on partly known states, and that what it answers is what the program answers. No condition of its own. -/
import Derived.Test.YtlemmcoefpcpmaaDoorA1PathEscapesO
set_option maxRecDepth 100000
set_option linter.unusedVariables false
namespace Go.Proofs.YtlemmcoefpcpmaaDoor.pathEscapes
open Go Go.AX Go.Proofs Go.Proofs.YtlemmcoefpcpmaaDoor
theorem r62 : allN (runI ) 62 31 = true := by kernel_rfl
theorem r186 : allN (runI ) 186 31 = true := by kernel_rfl
end Go.Proofs.YtlemmcoefpcpmaaDoor.pathEscapes
