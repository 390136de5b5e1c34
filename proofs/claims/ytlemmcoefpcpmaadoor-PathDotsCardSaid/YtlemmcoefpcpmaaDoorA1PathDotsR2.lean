/- A part of the proof: an interpreter of the model's own code on partly known states, and that what it answers is what the program answers. No condition of its own. -/
import Derived.Test.YtlemmcoefpcpmaaDoorA1PathDotsO
set_option maxRecDepth 100000
set_option linter.unusedVariables false
namespace Go.Proofs.YtlemmcoefpcpmaaDoor.pathDots
open Go Go.AX Go.Proofs Go.Proofs.YtlemmcoefpcpmaaDoor
theorem r14 : allN (runI ) 14 7 = true := by kernel_rfl
theorem r42 : allN (runI ) 42 7 = true := by kernel_rfl
theorem r70 : allN (runI ) 70 7 = true := by kernel_rfl
theorem r98 : allN (runI ) 98 7 = true := by kernel_rfl
theorem r126 : allN (runI ) 126 7 = true := by kernel_rfl
theorem r154 : allN (runI ) 154 7 = true := by kernel_rfl
theorem r182 : allN (runI ) 182 7 = true := by kernel_rfl
end Go.Proofs.YtlemmcoefpcpmaaDoor.pathDots
