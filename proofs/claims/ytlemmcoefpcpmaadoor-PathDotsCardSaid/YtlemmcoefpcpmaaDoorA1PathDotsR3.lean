/- A part of the proof: an interpreter of the model's own code on partly known states, and that what it answers is what the program answers. No condition of its own. -/
import Derived.Test.YtlemmcoefpcpmaaDoorA1PathDotsO
set_option maxRecDepth 100000
set_option linter.unusedVariables false
namespace Go.Proofs.YtlemmcoefpcpmaaDoor.pathDots
open Go Go.AX Go.Proofs Go.Proofs.YtlemmcoefpcpmaaDoor
theorem r21 : allN (runI ) 21 7 = true := by kernel_rfl
theorem r49 : allN (runI ) 49 7 = true := by kernel_rfl
theorem r77 : allN (runI ) 77 7 = true := by kernel_rfl
theorem r105 : allN (runI ) 105 7 = true := by kernel_rfl
theorem r133 : allN (runI ) 133 7 = true := by kernel_rfl
theorem r161 : allN (runI ) 161 7 = true := by kernel_rfl
theorem r189 : allN (runI ) 189 7 = true := by kernel_rfl
end Go.Proofs.YtlemmcoefpcpmaaDoor.pathDots
