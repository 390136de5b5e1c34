/- A part of the proof: an interpreter of the model's own code on partly known states, and that what it answers is what the program answers. No condition of its own. -/
import Derived.Test.YtacflaaahanhgaaDoorA9RuleSegsO
set_option maxRecDepth 100000
set_option linter.unusedVariables false
namespace Go.Proofs.YtacflaaahanhgaaDoor.ruleSegs
open Go Go.AX Go.Proofs Go.Proofs.YtacflaaahanhgaaDoor
theorem r165 : allN (runI ) 165 11 = true := by kernel_rfl
theorem r341 : allN (runI ) 341 11 = true := by kernel_rfl
theorem r517 : allN (runI ) 517 11 = true := by kernel_rfl
theorem r693 : allN (runI ) 693 11 = true := by kernel_rfl
theorem r869 : allN (runI ) 869 11 = true := by kernel_rfl
theorem r1045 : allN (runI ) 1045 11 = true := by kernel_rfl
theorem r1221 : allN (runI ) 1221 11 = true := by kernel_rfl
theorem r1397 : allN (runI ) 1397 11 = true := by kernel_rfl
theorem r1573 : allN (runI ) 1573 11 = true := by kernel_rfl
theorem r1749 : allN (runI ) 1749 11 = true := by kernel_rfl
theorem r1925 : allN (runI ) 1925 11 = true := by kernel_rfl
theorem r2101 : allN (runI ) 2101 11 = true := by kernel_rfl
theorem r2277 : allN (runI ) 2277 11 = true := by kernel_rfl
theorem r2453 : allN (runI ) 2453 11 = true := by kernel_rfl
theorem r2629 : allN (runI ) 2629 11 = true := by kernel_rfl
theorem r2805 : allN (runI ) 2805 11 = true := by kernel_rfl
theorem r2981 : allN (runI ) 2981 11 = true := by kernel_rfl
theorem r3157 : allN (runI ) 3157 11 = true := by kernel_rfl
theorem r3333 : allN (runI ) 3333 11 = true := by kernel_rfl
theorem r3509 : allN (runI ) 3509 11 = true := by kernel_rfl
theorem r3685 : allN (runI ) 3685 11 = true := by kernel_rfl
theorem r3861 : allN (runI ) 3861 11 = true := by kernel_rfl
theorem r4037 : allN (runI ) 4037 11 = true := by kernel_rfl
end Go.Proofs.YtacflaaahanhgaaDoor.ruleSegs
