/- A part of the proof: an interpreter of the model's own code on partly known states, and that what it answers is what the program answers. No condition of its own. -/
import Derived.Test.YtacflaaahanhgaaDoorA9RuleSegsO
set_option maxRecDepth 100000
set_option linter.unusedVariables false
namespace Go.Proofs.YtacflaaahanhgaaDoor.ruleSegs
open Go Go.AX Go.Proofs Go.Proofs.YtacflaaahanhgaaDoor
theorem r11 : allN (runI ) 11 11 = true := by kernel_rfl
theorem r187 : allN (runI ) 187 11 = true := by kernel_rfl
theorem r363 : allN (runI ) 363 11 = true := by kernel_rfl
theorem r539 : allN (runI ) 539 11 = true := by kernel_rfl
theorem r715 : allN (runI ) 715 11 = true := by kernel_rfl
theorem r891 : allN (runI ) 891 11 = true := by kernel_rfl
theorem r1067 : allN (runI ) 1067 11 = true := by kernel_rfl
theorem r1243 : allN (runI ) 1243 11 = true := by kernel_rfl
theorem r1419 : allN (runI ) 1419 11 = true := by kernel_rfl
theorem r1595 : allN (runI ) 1595 11 = true := by kernel_rfl
theorem r1771 : allN (runI ) 1771 11 = true := by kernel_rfl
theorem r1947 : allN (runI ) 1947 11 = true := by kernel_rfl
theorem r2123 : allN (runI ) 2123 11 = true := by kernel_rfl
theorem r2299 : allN (runI ) 2299 11 = true := by kernel_rfl
theorem r2475 : allN (runI ) 2475 11 = true := by kernel_rfl
theorem r2651 : allN (runI ) 2651 11 = true := by kernel_rfl
theorem r2827 : allN (runI ) 2827 11 = true := by kernel_rfl
theorem r3003 : allN (runI ) 3003 11 = true := by kernel_rfl
theorem r3179 : allN (runI ) 3179 11 = true := by kernel_rfl
theorem r3355 : allN (runI ) 3355 11 = true := by kernel_rfl
theorem r3531 : allN (runI ) 3531 11 = true := by kernel_rfl
theorem r3707 : allN (runI ) 3707 11 = true := by kernel_rfl
theorem r3883 : allN (runI ) 3883 11 = true := by kernel_rfl
theorem r4059 : allN (runI ) 4059 11 = true := by kernel_rfl
end Go.Proofs.YtacflaaahanhgaaDoor.ruleSegs
