/- A part of the proof: an interpreter of the model's own code on partly known states, and that what it answers is what the program answers. No condition of its own. -/
import Derived.Test.YtlemmcoefpcpmaaDoorA1PathDotsO
set_option maxRecDepth 100000
set_option linter.unusedVariables false
namespace Go.Proofs.YtlemmcoefpcpmaaDoor.pathDots
open Go Go.AX Go.Proofs Go.Proofs.YtlemmcoefpcpmaaDoor
theorem r0 : allN (runI ) 0 7 = true := by kernel_rfl
theorem r28 : allN (runI ) 28 7 = true := by kernel_rfl
theorem r56 : allN (runI ) 56 7 = true := by kernel_rfl
theorem r84 : allN (runI ) 84 7 = true := by kernel_rfl
theorem r112 : allN (runI ) 112 7 = true := by kernel_rfl
theorem r140 : allN (runI ) 140 7 = true := by kernel_rfl
theorem r168 : allN (runI ) 168 7 = true := by kernel_rfl
theorem r196 : allN (runI ) 196 4 = true := by kernel_rfl
end Go.Proofs.YtlemmcoefpcpmaaDoor.pathDots
