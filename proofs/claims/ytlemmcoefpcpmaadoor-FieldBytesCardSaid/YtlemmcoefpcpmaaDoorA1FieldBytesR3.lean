/- A part of the proof: an interpreter of the model's own code on partly known states, and that what it answers is what the program answers. No condition of its own. -/
import Derived.Test.YtlemmcoefpcpmaaDoorA1FieldBytesO
set_option maxRecDepth 100000
set_option linter.unusedVariables false
namespace Go.Proofs.YtlemmcoefpcpmaaDoor.fieldBytes
open Go Go.AX Go.Proofs Go.Proofs.YtlemmcoefpcpmaaDoor
theorem r75 : allN (runI ) 75 25 = true := by kernel_rfl
theorem r175 : allN (runI ) 175 25 = true := by kernel_rfl
end Go.Proofs.YtlemmcoefpcpmaaDoor.fieldBytes
