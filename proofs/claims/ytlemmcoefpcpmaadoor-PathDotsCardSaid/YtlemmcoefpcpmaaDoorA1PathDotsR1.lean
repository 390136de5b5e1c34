/- A part of the proof: an interpreter of the model's own code on partly known states, and that what it answers is what the program answers. No condition of its own. -/
import Derived.Test.YtlemmcoefpcpmaaDoorA1PathDotsO
set_option maxRecDepth 100000
set_option linter.unusedVariables false
namespace Go.Proofs.YtlemmcoefpcpmaaDoor.pathDots
open Go Go.AX Go.Proofs Go.Proofs.YtlemmcoefpcpmaaDoor
theorem r7 : allN (runI ) 7 7 = true := by kernel_rfl
theorem r35 : allN (runI ) 35 7 = true := by kernel_rfl
theorem r63 : allN (runI ) 63 7 = true := by kernel_rfl
theorem r91 : allN (runI ) 91 7 = true := by kernel_rfl
theorem r119 : allN (runI ) 119 7 = true := by kernel_rfl
theorem r147 : allN (runI ) 147 7 = true := by kernel_rfl
theorem r175 : allN (runI ) 175 7 = true := by kernel_rfl
end Go.Proofs.YtlemmcoefpcpmaaDoor.pathDots
