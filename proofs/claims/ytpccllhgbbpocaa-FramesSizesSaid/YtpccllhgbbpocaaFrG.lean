/- A part of the proof: an interpreter of the model's own code on partly known states, and that what it answers is what the program answers. No condition of its own. -/
import Derived.Test.YtpccllhgbbpocaaFSeat
set_option maxRecDepth 100000
set_option linter.unusedVariables false
namespace Go.Proofs.Ytpccllhgbbpocaa
open Go Go.AX Go.Proofs
namespace framesSizes
theorem r2250 : allN run 2250 25 = true := by kernel_rfl
theorem r2275 : allN run 2275 25 = true := by kernel_rfl
theorem r2300 : allN run 2300 25 = true := by kernel_rfl
theorem r2325 : allN run 2325 25 = true := by kernel_rfl
theorem r2350 : allN run 2350 25 = true := by kernel_rfl
theorem r2375 : allN run 2375 25 = true := by kernel_rfl
theorem r2400 : allN run 2400 25 = true := by kernel_rfl
theorem r2425 : allN run 2425 25 = true := by kernel_rfl
theorem r2450 : allN run 2450 25 = true := by kernel_rfl
theorem r2475 : allN run 2475 25 = true := by kernel_rfl
theorem r2500 : allN run 2500 25 = true := by kernel_rfl
theorem r2525 : allN run 2525 25 = true := by kernel_rfl
theorem r2550 : allN run 2550 25 = true := by kernel_rfl
theorem r2575 : allN run 2575 25 = true := by kernel_rfl
theorem r2600 : allN run 2600 25 = true := by kernel_rfl
end framesSizes
end Go.Proofs.Ytpccllhgbbpocaa
