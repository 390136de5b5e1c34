/- A part of the proof: an interpreter of the model's own code on partly known states, and that what it answers is what the program answers. No condition of its own. -/
import Derived.Test.YtacflaaahanhgaaDoorA9RuleSegsO
set_option maxRecDepth 100000
set_option linter.unusedVariables false
namespace Go.Proofs.YtacflaaahanhgaaDoor.ruleSegs
open Go Go.AX Go.Proofs Go.Proofs.YtacflaaahanhgaaDoor
theorem r110 : allN (runI ) 110 11 = true := by kernel_rfl
theorem r286 : allN (runI ) 286 11 = true := by kernel_rfl
theorem r462 : allN (runI ) 462 11 = true := by kernel_rfl
theorem r638 : allN (runI ) 638 11 = true := by kernel_rfl
theorem r814 : allN (runI ) 814 11 = true := by kernel_rfl
theorem r990 : allN (runI ) 990 11 = true := by kernel_rfl
theorem r1166 : allN (runI ) 1166 11 = true := by kernel_rfl
theorem r1342 : allN (runI ) 1342 11 = true := by kernel_rfl
theorem r1518 : allN (runI ) 1518 11 = true := by kernel_rfl
theorem r1694 : allN (runI ) 1694 11 = true := by kernel_rfl
theorem r1870 : allN (runI ) 1870 11 = true := by kernel_rfl
theorem r2046 : allN (runI ) 2046 11 = true := by kernel_rfl
theorem r2222 : allN (runI ) 2222 11 = true := by kernel_rfl
theorem r2398 : allN (runI ) 2398 11 = true := by kernel_rfl
theorem r2574 : allN (runI ) 2574 11 = true := by kernel_rfl
theorem r2750 : allN (runI ) 2750 11 = true := by kernel_rfl
theorem r2926 : allN (runI ) 2926 11 = true := by kernel_rfl
theorem r3102 : allN (runI ) 3102 11 = true := by kernel_rfl
theorem r3278 : allN (runI ) 3278 11 = true := by kernel_rfl
theorem r3454 : allN (runI ) 3454 11 = true := by kernel_rfl
theorem r3630 : allN (runI ) 3630 11 = true := by kernel_rfl
theorem r3806 : allN (runI ) 3806 11 = true := by kernel_rfl
theorem r3982 : allN (runI ) 3982 11 = true := by kernel_rfl
end Go.Proofs.YtacflaaahanhgaaDoor.ruleSegs
