/- A part of the proof: an interpreter of the model's own code on partly known states, and that what it answers is what the program answers. No condition of its own. -/
import Derived.Test.YtacflaaahanhgaaDoorA9RuleSegsO
set_option maxRecDepth 100000
set_option linter.unusedVariables false
namespace Go.Proofs.YtacflaaahanhgaaDoor.ruleSegs
open Go Go.AX Go.Proofs Go.Proofs.YtacflaaahanhgaaDoor
theorem r121 : allN (runI ) 121 11 = true := by kernel_rfl
theorem r297 : allN (runI ) 297 11 = true := by kernel_rfl
theorem r473 : allN (runI ) 473 11 = true := by kernel_rfl
theorem r649 : allN (runI ) 649 11 = true := by kernel_rfl
theorem r825 : allN (runI ) 825 11 = true := by kernel_rfl
theorem r1001 : allN (runI ) 1001 11 = true := by kernel_rfl
theorem r1177 : allN (runI ) 1177 11 = true := by kernel_rfl
theorem r1353 : allN (runI ) 1353 11 = true := by kernel_rfl
theorem r1529 : allN (runI ) 1529 11 = true := by kernel_rfl
theorem r1705 : allN (runI ) 1705 11 = true := by kernel_rfl
theorem r1881 : allN (runI ) 1881 11 = true := by kernel_rfl
theorem r2057 : allN (runI ) 2057 11 = true := by kernel_rfl
theorem r2233 : allN (runI ) 2233 11 = true := by kernel_rfl
theorem r2409 : allN (runI ) 2409 11 = true := by kernel_rfl
theorem r2585 : allN (runI ) 2585 11 = true := by kernel_rfl
theorem r2761 : allN (runI ) 2761 11 = true := by kernel_rfl
theorem r2937 : allN (runI ) 2937 11 = true := by kernel_rfl
theorem r3113 : allN (runI ) 3113 11 = true := by kernel_rfl
theorem r3289 : allN (runI ) 3289 11 = true := by kernel_rfl
theorem r3465 : allN (runI ) 3465 11 = true := by kernel_rfl
theorem r3641 : allN (runI ) 3641 11 = true := by kernel_rfl
theorem r3817 : allN (runI ) 3817 11 = true := by kernel_rfl
theorem r3993 : allN (runI ) 3993 11 = true := by kernel_rfl
end Go.Proofs.YtacflaaahanhgaaDoor.ruleSegs
