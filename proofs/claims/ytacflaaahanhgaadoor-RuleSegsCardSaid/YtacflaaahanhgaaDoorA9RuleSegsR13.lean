/- A part of the proof: an interpreter of the model's own code on partly known states, and that what it answers is what the program answers. No condition of its own. -/
import Derived.Test.YtacflaaahanhgaaDoorA9RuleSegsO
set_option maxRecDepth 100000
set_option linter.unusedVariables false
namespace Go.Proofs.YtacflaaahanhgaaDoor.ruleSegs
open Go Go.AX Go.Proofs Go.Proofs.YtacflaaahanhgaaDoor
theorem r143 : allN (runI ) 143 11 = true := by kernel_rfl
theorem r319 : allN (runI ) 319 11 = true := by kernel_rfl
theorem r495 : allN (runI ) 495 11 = true := by kernel_rfl
theorem r671 : allN (runI ) 671 11 = true := by kernel_rfl
theorem r847 : allN (runI ) 847 11 = true := by kernel_rfl
theorem r1023 : allN (runI ) 1023 11 = true := by kernel_rfl
theorem r1199 : allN (runI ) 1199 11 = true := by kernel_rfl
theorem r1375 : allN (runI ) 1375 11 = true := by kernel_rfl
theorem r1551 : allN (runI ) 1551 11 = true := by kernel_rfl
theorem r1727 : allN (runI ) 1727 11 = true := by kernel_rfl
theorem r1903 : allN (runI ) 1903 11 = true := by kernel_rfl
theorem r2079 : allN (runI ) 2079 11 = true := by kernel_rfl
theorem r2255 : allN (runI ) 2255 11 = true := by kernel_rfl
theorem r2431 : allN (runI ) 2431 11 = true := by kernel_rfl
theorem r2607 : allN (runI ) 2607 11 = true := by kernel_rfl
theorem r2783 : allN (runI ) 2783 11 = true := by kernel_rfl
theorem r2959 : allN (runI ) 2959 11 = true := by kernel_rfl
theorem r3135 : allN (runI ) 3135 11 = true := by kernel_rfl
theorem r3311 : allN (runI ) 3311 11 = true := by kernel_rfl
theorem r3487 : allN (runI ) 3487 11 = true := by kernel_rfl
theorem r3663 : allN (runI ) 3663 11 = true := by kernel_rfl
theorem r3839 : allN (runI ) 3839 11 = true := by kernel_rfl
theorem r4015 : allN (runI ) 4015 11 = true := by kernel_rfl
end Go.Proofs.YtacflaaahanhgaaDoor.ruleSegs
