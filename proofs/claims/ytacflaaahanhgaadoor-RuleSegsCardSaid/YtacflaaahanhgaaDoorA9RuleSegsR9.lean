/- A part of the proof: an interpreter of the model's own code on partly known states, and that what it answers is what the program answers. No condition of its own. -/
import Derived.Test.YtacflaaahanhgaaDoorA9RuleSegsO
set_option maxRecDepth 100000
set_option linter.unusedVariables false
namespace Go.Proofs.YtacflaaahanhgaaDoor.ruleSegs
open Go Go.AX Go.Proofs Go.Proofs.YtacflaaahanhgaaDoor
theorem r99 : allN (runI ) 99 11 = true := by kernel_rfl
theorem r275 : allN (runI ) 275 11 = true := by kernel_rfl
theorem r451 : allN (runI ) 451 11 = true := by kernel_rfl
theorem r627 : allN (runI ) 627 11 = true := by kernel_rfl
theorem r803 : allN (runI ) 803 11 = true := by kernel_rfl
theorem r979 : allN (runI ) 979 11 = true := by kernel_rfl
theorem r1155 : allN (runI ) 1155 11 = true := by kernel_rfl
theorem r1331 : allN (runI ) 1331 11 = true := by kernel_rfl
theorem r1507 : allN (runI ) 1507 11 = true := by kernel_rfl
theorem r1683 : allN (runI ) 1683 11 = true := by kernel_rfl
theorem r1859 : allN (runI ) 1859 11 = true := by kernel_rfl
theorem r2035 : allN (runI ) 2035 11 = true := by kernel_rfl
theorem r2211 : allN (runI ) 2211 11 = true := by kernel_rfl
theorem r2387 : allN (runI ) 2387 11 = true := by kernel_rfl
theorem r2563 : allN (runI ) 2563 11 = true := by kernel_rfl
theorem r2739 : allN (runI ) 2739 11 = true := by kernel_rfl
theorem r2915 : allN (runI ) 2915 11 = true := by kernel_rfl
theorem r3091 : allN (runI ) 3091 11 = true := by kernel_rfl
theorem r3267 : allN (runI ) 3267 11 = true := by kernel_rfl
theorem r3443 : allN (runI ) 3443 11 = true := by kernel_rfl
theorem r3619 : allN (runI ) 3619 11 = true := by kernel_rfl
theorem r3795 : allN (runI ) 3795 11 = true := by kernel_rfl
theorem r3971 : allN (runI ) 3971 11 = true := by kernel_rfl
end Go.Proofs.YtacflaaahanhgaaDoor.ruleSegs
