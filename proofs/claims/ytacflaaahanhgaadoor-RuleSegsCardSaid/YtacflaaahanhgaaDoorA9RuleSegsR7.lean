/- A part of the proof: an interpreter of the model's own code on partly known states, and that what it answers is what the program answers. No condition of its own. -/
import Derived.Test.YtacflaaahanhgaaDoorA9RuleSegsO
set_option maxRecDepth 100000
set_option linter.unusedVariables false
namespace Go.Proofs.YtacflaaahanhgaaDoor.ruleSegs
open Go Go.AX Go.Proofs Go.Proofs.YtacflaaahanhgaaDoor
theorem r77 : allN (runI ) 77 11 = true := by kernel_rfl
theorem r253 : allN (runI ) 253 11 = true := by kernel_rfl
theorem r429 : allN (runI ) 429 11 = true := by kernel_rfl
theorem r605 : allN (runI ) 605 11 = true := by kernel_rfl
theorem r781 : allN (runI ) 781 11 = true := by kernel_rfl
theorem r957 : allN (runI ) 957 11 = true := by kernel_rfl
theorem r1133 : allN (runI ) 1133 11 = true := by kernel_rfl
theorem r1309 : allN (runI ) 1309 11 = true := by kernel_rfl
theorem r1485 : allN (runI ) 1485 11 = true := by kernel_rfl
theorem r1661 : allN (runI ) 1661 11 = true := by kernel_rfl
theorem r1837 : allN (runI ) 1837 11 = true := by kernel_rfl
theorem r2013 : allN (runI ) 2013 11 = true := by kernel_rfl
theorem r2189 : allN (runI ) 2189 11 = true := by kernel_rfl
theorem r2365 : allN (runI ) 2365 11 = true := by kernel_rfl
theorem r2541 : allN (runI ) 2541 11 = true := by kernel_rfl
theorem r2717 : allN (runI ) 2717 11 = true := by kernel_rfl
theorem r2893 : allN (runI ) 2893 11 = true := by kernel_rfl
theorem r3069 : allN (runI ) 3069 11 = true := by kernel_rfl
theorem r3245 : allN (runI ) 3245 11 = true := by kernel_rfl
theorem r3421 : allN (runI ) 3421 11 = true := by kernel_rfl
theorem r3597 : allN (runI ) 3597 11 = true := by kernel_rfl
theorem r3773 : allN (runI ) 3773 11 = true := by kernel_rfl
theorem r3949 : allN (runI ) 3949 11 = true := by kernel_rfl
end Go.Proofs.YtacflaaahanhgaaDoor.ruleSegs
