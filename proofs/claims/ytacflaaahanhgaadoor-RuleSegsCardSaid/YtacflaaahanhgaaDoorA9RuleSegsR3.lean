/- A part of the proof: an interpreter of the model's own code on partly known states, and that what it answers is what the program answers. No condition of its own. -/
import Derived.Test.YtacflaaahanhgaaDoorA9RuleSegsO
set_option maxRecDepth 100000
set_option linter.unusedVariables false
namespace Go.Proofs.YtacflaaahanhgaaDoor.ruleSegs
open Go Go.AX Go.Proofs Go.Proofs.YtacflaaahanhgaaDoor
theorem r33 : allN (runI ) 33 11 = true := by kernel_rfl
theorem r209 : allN (runI ) 209 11 = true := by kernel_rfl
theorem r385 : allN (runI ) 385 11 = true := by kernel_rfl
theorem r561 : allN (runI ) 561 11 = true := by kernel_rfl
theorem r737 : allN (runI ) 737 11 = true := by kernel_rfl
theorem r913 : allN (runI ) 913 11 = true := by kernel_rfl
theorem r1089 : allN (runI ) 1089 11 = true := by kernel_rfl
theorem r1265 : allN (runI ) 1265 11 = true := by kernel_rfl
theorem r1441 : allN (runI ) 1441 11 = true := by kernel_rfl
theorem r1617 : allN (runI ) 1617 11 = true := by kernel_rfl
theorem r1793 : allN (runI ) 1793 11 = true := by kernel_rfl
theorem r1969 : allN (runI ) 1969 11 = true := by kernel_rfl
theorem r2145 : allN (runI ) 2145 11 = true := by kernel_rfl
theorem r2321 : allN (runI ) 2321 11 = true := by kernel_rfl
theorem r2497 : allN (runI ) 2497 11 = true := by kernel_rfl
theorem r2673 : allN (runI ) 2673 11 = true := by kernel_rfl
theorem r2849 : allN (runI ) 2849 11 = true := by kernel_rfl
theorem r3025 : allN (runI ) 3025 11 = true := by kernel_rfl
theorem r3201 : allN (runI ) 3201 11 = true := by kernel_rfl
theorem r3377 : allN (runI ) 3377 11 = true := by kernel_rfl
theorem r3553 : allN (runI ) 3553 11 = true := by kernel_rfl
theorem r3729 : allN (runI ) 3729 11 = true := by kernel_rfl
theorem r3905 : allN (runI ) 3905 11 = true := by kernel_rfl
theorem r4081 : allN (runI ) 4081 11 = true := by kernel_rfl
end Go.Proofs.YtacflaaahanhgaaDoor.ruleSegs
