/- A part of the proof: an interpreter of the model's own code on partly known states, and that what it answers is what the program answers. No condition of its own. -/
import Derived.Test.YtacflaaahanhgaaDoorA9RuleSegsO
set_option maxRecDepth 100000
set_option linter.unusedVariables false
namespace Go.Proofs.YtacflaaahanhgaaDoor.ruleSegs
open Go Go.AX Go.Proofs Go.Proofs.YtacflaaahanhgaaDoor
theorem r55 : allN (runI ) 55 11 = true := by kernel_rfl
theorem r231 : allN (runI ) 231 11 = true := by kernel_rfl
theorem r407 : allN (runI ) 407 11 = true := by kernel_rfl
theorem r583 : allN (runI ) 583 11 = true := by kernel_rfl
theorem r759 : allN (runI ) 759 11 = true := by kernel_rfl
theorem r935 : allN (runI ) 935 11 = true := by kernel_rfl
theorem r1111 : allN (runI ) 1111 11 = true := by kernel_rfl
theorem r1287 : allN (runI ) 1287 11 = true := by kernel_rfl
theorem r1463 : allN (runI ) 1463 11 = true := by kernel_rfl
theorem r1639 : allN (runI ) 1639 11 = true := by kernel_rfl
theorem r1815 : allN (runI ) 1815 11 = true := by kernel_rfl
theorem r1991 : allN (runI ) 1991 11 = true := by kernel_rfl
theorem r2167 : allN (runI ) 2167 11 = true := by kernel_rfl
theorem r2343 : allN (runI ) 2343 11 = true := by kernel_rfl
theorem r2519 : allN (runI ) 2519 11 = true := by kernel_rfl
theorem r2695 : allN (runI ) 2695 11 = true := by kernel_rfl
theorem r2871 : allN (runI ) 2871 11 = true := by kernel_rfl
theorem r3047 : allN (runI ) 3047 11 = true := by kernel_rfl
theorem r3223 : allN (runI ) 3223 11 = true := by kernel_rfl
theorem r3399 : allN (runI ) 3399 11 = true := by kernel_rfl
theorem r3575 : allN (runI ) 3575 11 = true := by kernel_rfl
theorem r3751 : allN (runI ) 3751 11 = true := by kernel_rfl
theorem r3927 : allN (runI ) 3927 11 = true := by kernel_rfl
end Go.Proofs.YtacflaaahanhgaaDoor.ruleSegs
