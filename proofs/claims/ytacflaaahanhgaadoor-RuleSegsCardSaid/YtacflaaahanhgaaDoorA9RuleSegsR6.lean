/- A part of the proof: an interpreter of the model's own code on partly known states, and that what it answers is what the program answers. No condition of its own. -/
import Derived.Test.YtacflaaahanhgaaDoorA9RuleSegsO
set_option maxRecDepth 100000
set_option linter.unusedVariables false
namespace Go.Proofs.YtacflaaahanhgaaDoor.ruleSegs
open Go Go.AX Go.Proofs Go.Proofs.YtacflaaahanhgaaDoor
theorem r66 : allN (runI ) 66 11 = true := by kernel_rfl
theorem r242 : allN (runI ) 242 11 = true := by kernel_rfl
theorem r418 : allN (runI ) 418 11 = true := by kernel_rfl
theorem r594 : allN (runI ) 594 11 = true := by kernel_rfl
theorem r770 : allN (runI ) 770 11 = true := by kernel_rfl
theorem r946 : allN (runI ) 946 11 = true := by kernel_rfl
theorem r1122 : allN (runI ) 1122 11 = true := by kernel_rfl
theorem r1298 : allN (runI ) 1298 11 = true := by kernel_rfl
theorem r1474 : allN (runI ) 1474 11 = true := by kernel_rfl
theorem r1650 : allN (runI ) 1650 11 = true := by kernel_rfl
theorem r1826 : allN (runI ) 1826 11 = true := by kernel_rfl
theorem r2002 : allN (runI ) 2002 11 = true := by kernel_rfl
theorem r2178 : allN (runI ) 2178 11 = true := by kernel_rfl
theorem r2354 : allN (runI ) 2354 11 = true := by kernel_rfl
theorem r2530 : allN (runI ) 2530 11 = true := by kernel_rfl
theorem r2706 : allN (runI ) 2706 11 = true := by kernel_rfl
theorem r2882 : allN (runI ) 2882 11 = true := by kernel_rfl
theorem r3058 : allN (runI ) 3058 11 = true := by kernel_rfl
theorem r3234 : allN (runI ) 3234 11 = true := by kernel_rfl
theorem r3410 : allN (runI ) 3410 11 = true := by kernel_rfl
theorem r3586 : allN (runI ) 3586 11 = true := by kernel_rfl
theorem r3762 : allN (runI ) 3762 11 = true := by kernel_rfl
theorem r3938 : allN (runI ) 3938 11 = true := by kernel_rfl
end Go.Proofs.YtacflaaahanhgaaDoor.ruleSegs
