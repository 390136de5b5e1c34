/- A part of the proof: an interpreter of the model's own code on partly known states, and that what it answers is what the program answers. No condition of its own. -/
import Derived.Test.YtacflaaahanhgaaDoorA9RuleSegsO
set_option maxRecDepth 100000
set_option linter.unusedVariables false
namespace Go.Proofs.YtacflaaahanhgaaDoor.ruleSegs
open Go Go.AX Go.Proofs Go.Proofs.YtacflaaahanhgaaDoor
theorem r0 : allN (runI ) 0 11 = true := by kernel_rfl
theorem r176 : allN (runI ) 176 11 = true := by kernel_rfl
theorem r352 : allN (runI ) 352 11 = true := by kernel_rfl
theorem r528 : allN (runI ) 528 11 = true := by kernel_rfl
theorem r704 : allN (runI ) 704 11 = true := by kernel_rfl
theorem r880 : allN (runI ) 880 11 = true := by kernel_rfl
theorem r1056 : allN (runI ) 1056 11 = true := by kernel_rfl
theorem r1232 : allN (runI ) 1232 11 = true := by kernel_rfl
theorem r1408 : allN (runI ) 1408 11 = true := by kernel_rfl
theorem r1584 : allN (runI ) 1584 11 = true := by kernel_rfl
theorem r1760 : allN (runI ) 1760 11 = true := by kernel_rfl
theorem r1936 : allN (runI ) 1936 11 = true := by kernel_rfl
theorem r2112 : allN (runI ) 2112 11 = true := by kernel_rfl
theorem r2288 : allN (runI ) 2288 11 = true := by kernel_rfl
theorem r2464 : allN (runI ) 2464 11 = true := by kernel_rfl
theorem r2640 : allN (runI ) 2640 11 = true := by kernel_rfl
theorem r2816 : allN (runI ) 2816 11 = true := by kernel_rfl
theorem r2992 : allN (runI ) 2992 11 = true := by kernel_rfl
theorem r3168 : allN (runI ) 3168 11 = true := by kernel_rfl
theorem r3344 : allN (runI ) 3344 11 = true := by kernel_rfl
theorem r3520 : allN (runI ) 3520 11 = true := by kernel_rfl
theorem r3696 : allN (runI ) 3696 11 = true := by kernel_rfl
theorem r3872 : allN (runI ) 3872 11 = true := by kernel_rfl
theorem r4048 : allN (runI ) 4048 11 = true := by kernel_rfl
end Go.Proofs.YtacflaaahanhgaaDoor.ruleSegs
