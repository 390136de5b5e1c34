/- A part of the proof: an interpreter of the model's own code on partly known states, and that what it answers is what the program answers. No condition of its own. -/
import Derived.Test.YtacflaaahanhgaaDoorA9RuleSegsO
set_option maxRecDepth 100000
set_option linter.unusedVariables false
namespace Go.Proofs.YtacflaaahanhgaaDoor.ruleSegs
open Go Go.AX Go.Proofs Go.Proofs.YtacflaaahanhgaaDoor
theorem r154 : allN (runI ) 154 11 = true := by kernel_rfl
theorem r330 : allN (runI ) 330 11 = true := by kernel_rfl
theorem r506 : allN (runI ) 506 11 = true := by kernel_rfl
theorem r682 : allN (runI ) 682 11 = true := by kernel_rfl
theorem r858 : allN (runI ) 858 11 = true := by kernel_rfl
theorem r1034 : allN (runI ) 1034 11 = true := by kernel_rfl
theorem r1210 : allN (runI ) 1210 11 = true := by kernel_rfl
theorem r1386 : allN (runI ) 1386 11 = true := by kernel_rfl
theorem r1562 : allN (runI ) 1562 11 = true := by kernel_rfl
theorem r1738 : allN (runI ) 1738 11 = true := by kernel_rfl
theorem r1914 : allN (runI ) 1914 11 = true := by kernel_rfl
theorem r2090 : allN (runI ) 2090 11 = true := by kernel_rfl
theorem r2266 : allN (runI ) 2266 11 = true := by kernel_rfl
theorem r2442 : allN (runI ) 2442 11 = true := by kernel_rfl
theorem r2618 : allN (runI ) 2618 11 = true := by kernel_rfl
theorem r2794 : allN (runI ) 2794 11 = true := by kernel_rfl
theorem r2970 : allN (runI ) 2970 11 = true := by kernel_rfl
theorem r3146 : allN (runI ) 3146 11 = true := by kernel_rfl
theorem r3322 : allN (runI ) 3322 11 = true := by kernel_rfl
theorem r3498 : allN (runI ) 3498 11 = true := by kernel_rfl
theorem r3674 : allN (runI ) 3674 11 = true := by kernel_rfl
theorem r3850 : allN (runI ) 3850 11 = true := by kernel_rfl
theorem r4026 : allN (runI ) 4026 11 = true := by kernel_rfl
end Go.Proofs.YtacflaaahanhgaaDoor.ruleSegs
