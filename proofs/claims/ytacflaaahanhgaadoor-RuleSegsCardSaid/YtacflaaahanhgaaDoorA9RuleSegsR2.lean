/- A part of the proof: an interpreter of the model's own code on partly known states, and that what it answers is what the program answers. No condition of its own. -/
import Derived.Test.YtacflaaahanhgaaDoorA9RuleSegsO
set_option maxRecDepth 100000
set_option linter.unusedVariables false
namespace Go.Proofs.YtacflaaahanhgaaDoor.ruleSegs
open Go Go.AX Go.Proofs Go.Proofs.YtacflaaahanhgaaDoor
theorem r22 : allN (runI ) 22 11 = true := by kernel_rfl
theorem r198 : allN (runI ) 198 11 = true := by kernel_rfl
theorem r374 : allN (runI ) 374 11 = true := by kernel_rfl
theorem r550 : allN (runI ) 550 11 = true := by kernel_rfl
theorem r726 : allN (runI ) 726 11 = true := by kernel_rfl
theorem r902 : allN (runI ) 902 11 = true := by kernel_rfl
theorem r1078 : allN (runI ) 1078 11 = true := by kernel_rfl
theorem r1254 : allN (runI ) 1254 11 = true := by kernel_rfl
theorem r1430 : allN (runI ) 1430 11 = true := by kernel_rfl
theorem r1606 : allN (runI ) 1606 11 = true := by kernel_rfl
theorem r1782 : allN (runI ) 1782 11 = true := by kernel_rfl
theorem r1958 : allN (runI ) 1958 11 = true := by kernel_rfl
theorem r2134 : allN (runI ) 2134 11 = true := by kernel_rfl
theorem r2310 : allN (runI ) 2310 11 = true := by kernel_rfl
theorem r2486 : allN (runI ) 2486 11 = true := by kernel_rfl
theorem r2662 : allN (runI ) 2662 11 = true := by kernel_rfl
theorem r2838 : allN (runI ) 2838 11 = true := by kernel_rfl
theorem r3014 : allN (runI ) 3014 11 = true := by kernel_rfl
theorem r3190 : allN (runI ) 3190 11 = true := by kernel_rfl
theorem r3366 : allN (runI ) 3366 11 = true := by kernel_rfl
theorem r3542 : allN (runI ) 3542 11 = true := by kernel_rfl
theorem r3718 : allN (runI ) 3718 11 = true := by kernel_rfl
theorem r3894 : allN (runI ) 3894 11 = true := by kernel_rfl
theorem r4070 : allN (runI ) 4070 11 = true := by kernel_rfl
end Go.Proofs.YtacflaaahanhgaaDoor.ruleSegs
