/- A part of the proof: an interpreter of the model's own code on partly known states, and that what it answers is what the program answers. No condition of its own. -/
import Derived.Test.YtacflaaahanhgaaDoorA9RuleSegsO
set_option maxRecDepth 100000
set_option linter.unusedVariables false
namespace Go.Proofs.YtacflaaahanhgaaDoor.ruleSegs
open Go Go.AX Go.Proofs Go.Proofs.YtacflaaahanhgaaDoor
theorem r132 : allN (runI ) 132 11 = true := by kernel_rfl
theorem r308 : allN (runI ) 308 11 = true := by kernel_rfl
theorem r484 : allN (runI ) 484 11 = true := by kernel_rfl
theorem r660 : allN (runI ) 660 11 = true := by kernel_rfl
theorem r836 : allN (runI ) 836 11 = true := by kernel_rfl
theorem r1012 : allN (runI ) 1012 11 = true := by kernel_rfl
theorem r1188 : allN (runI ) 1188 11 = true := by kernel_rfl
theorem r1364 : allN (runI ) 1364 11 = true := by kernel_rfl
theorem r1540 : allN (runI ) 1540 11 = true := by kernel_rfl
theorem r1716 : allN (runI ) 1716 11 = true := by kernel_rfl
theorem r1892 : allN (runI ) 1892 11 = true := by kernel_rfl
theorem r2068 : allN (runI ) 2068 11 = true := by kernel_rfl
theorem r2244 : allN (runI ) 2244 11 = true := by kernel_rfl
theorem r2420 : allN (runI ) 2420 11 = true := by kernel_rfl
theorem r2596 : allN (runI ) 2596 11 = true := by kernel_rfl
theorem r2772 : allN (runI ) 2772 11 = true := by kernel_rfl
theorem r2948 : allN (runI ) 2948 11 = true := by kernel_rfl
theorem r3124 : allN (runI ) 3124 11 = true := by kernel_rfl
theorem r3300 : allN (runI ) 3300 11 = true := by kernel_rfl
theorem r3476 : allN (runI ) 3476 11 = true := by kernel_rfl
theorem r3652 : allN (runI ) 3652 11 = true := by kernel_rfl
theorem r3828 : allN (runI ) 3828 11 = true := by kernel_rfl
theorem r4004 : allN (runI ) 4004 11 = true := by kernel_rfl
end Go.Proofs.YtacflaaahanhgaaDoor.ruleSegs
