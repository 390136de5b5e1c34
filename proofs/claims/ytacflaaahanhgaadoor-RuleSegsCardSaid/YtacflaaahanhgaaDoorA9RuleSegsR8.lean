/- A part of the proof: an interpreter of the model's own code on partly known states, and that what it answers is what the program answers. No condition of its own. -/
import Derived.Test.YtacflaaahanhgaaDoorA9RuleSegsO
set_option maxRecDepth 100000
set_option linter.unusedVariables false
namespace Go.Proofs.YtacflaaahanhgaaDoor.ruleSegs
open Go Go.AX Go.Proofs Go.Proofs.YtacflaaahanhgaaDoor
theorem r88 : allN (runI ) 88 11 = true := by kernel_rfl
theorem r264 : allN (runI ) 264 11 = true := by kernel_rfl
theorem r440 : allN (runI ) 440 11 = true := by kernel_rfl
theorem r616 : allN (runI ) 616 11 = true := by kernel_rfl
theorem r792 : allN (runI ) 792 11 = true := by kernel_rfl
theorem r968 : allN (runI ) 968 11 = true := by kernel_rfl
theorem r1144 : allN (runI ) 1144 11 = true := by kernel_rfl
theorem r1320 : allN (runI ) 1320 11 = true := by kernel_rfl
theorem r1496 : allN (runI ) 1496 11 = true := by kernel_rfl
theorem r1672 : allN (runI ) 1672 11 = true := by kernel_rfl
theorem r1848 : allN (runI ) 1848 11 = true := by kernel_rfl
theorem r2024 : allN (runI ) 2024 11 = true := by kernel_rfl
theorem r2200 : allN (runI ) 2200 11 = true := by kernel_rfl
theorem r2376 : allN (runI ) 2376 11 = true := by kernel_rfl
theorem r2552 : allN (runI ) 2552 11 = true := by kernel_rfl
theorem r2728 : allN (runI ) 2728 11 = true := by kernel_rfl
theorem r2904 : allN (runI ) 2904 11 = true := by kernel_rfl
theorem r3080 : allN (runI ) 3080 11 = true := by kernel_rfl
theorem r3256 : allN (runI ) 3256 11 = true := by kernel_rfl
theorem r3432 : allN (runI ) 3432 11 = true := by kernel_rfl
theorem r3608 : allN (runI ) 3608 11 = true := by kernel_rfl
theorem r3784 : allN (runI ) 3784 11 = true := by kernel_rfl
theorem r3960 : allN (runI ) 3960 11 = true := by kernel_rfl
end Go.Proofs.YtacflaaahanhgaaDoor.ruleSegs
