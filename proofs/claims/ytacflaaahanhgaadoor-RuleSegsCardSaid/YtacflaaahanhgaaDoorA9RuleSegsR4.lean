/- A part of the proof: an interpreter of the model's own code on partly known states, and that what it answers is what the program answers. No condition of its own. -/
import Derived.Test.YtacflaaahanhgaaDoorA9RuleSegsO
set_option maxRecDepth 100000
set_option linter.unusedVariables false
namespace Go.Proofs.YtacflaaahanhgaaDoor.ruleSegs
open Go Go.AX Go.Proofs Go.Proofs.YtacflaaahanhgaaDoor
theorem r44 : allN (runI ) 44 11 = true := by kernel_rfl
theorem r220 : allN (runI ) 220 11 = true := by kernel_rfl
theorem r396 : allN (runI ) 396 11 = true := by kernel_rfl
theorem r572 : allN (runI ) 572 11 = true := by kernel_rfl
theorem r748 : allN (runI ) 748 11 = true := by kernel_rfl
theorem r924 : allN (runI ) 924 11 = true := by kernel_rfl
theorem r1100 : allN (runI ) 1100 11 = true := by kernel_rfl
theorem r1276 : allN (runI ) 1276 11 = true := by kernel_rfl
theorem r1452 : allN (runI ) 1452 11 = true := by kernel_rfl
theorem r1628 : allN (runI ) 1628 11 = true := by kernel_rfl
theorem r1804 : allN (runI ) 1804 11 = true := by kernel_rfl
theorem r1980 : allN (runI ) 1980 11 = true := by kernel_rfl
theorem r2156 : allN (runI ) 2156 11 = true := by kernel_rfl
theorem r2332 : allN (runI ) 2332 11 = true := by kernel_rfl
theorem r2508 : allN (runI ) 2508 11 = true := by kernel_rfl
theorem r2684 : allN (runI ) 2684 11 = true := by kernel_rfl
theorem r2860 : allN (runI ) 2860 11 = true := by kernel_rfl
theorem r3036 : allN (runI ) 3036 11 = true := by kernel_rfl
theorem r3212 : allN (runI ) 3212 11 = true := by kernel_rfl
theorem r3388 : allN (runI ) 3388 11 = true := by kernel_rfl
theorem r3564 : allN (runI ) 3564 11 = true := by kernel_rfl
theorem r3740 : allN (runI ) 3740 11 = true := by kernel_rfl
theorem r3916 : allN (runI ) 3916 11 = true := by kernel_rfl
end Go.Proofs.YtacflaaahanhgaaDoor.ruleSegs
