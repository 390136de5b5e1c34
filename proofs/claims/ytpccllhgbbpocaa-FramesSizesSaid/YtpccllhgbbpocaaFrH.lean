/- A part of the proof: an interpreter of the model's own code on partly known states, and that what it answers is what the program answers. No condition of its own. -/
import Derived.Test.YtpccllhgbbpocaaFSeat
set_option maxRecDepth 100000
set_option linter.unusedVariables false
namespace Go.Proofs.Ytpccllhgbbpocaa
open Go Go.AX Go.Proofs
namespace framesSizes
theorem r2625 : allN run 2625 25 = true := by kernel_rfl
theorem r2650 : allN run 2650 25 = true := by kernel_rfl
theorem r2675 : allN run 2675 25 = true := by kernel_rfl
theorem r2700 : allN run 2700 25 = true := by kernel_rfl
theorem r2725 : allN run 2725 25 = true := by kernel_rfl
theorem r2750 : allN run 2750 25 = true := by kernel_rfl
theorem r2775 : allN run 2775 25 = true := by kernel_rfl
theorem r2800 : allN run 2800 25 = true := by kernel_rfl
theorem r2825 : allN run 2825 25 = true := by kernel_rfl
theorem r2850 : allN run 2850 25 = true := by kernel_rfl
theorem r2875 : allN run 2875 25 = true := by kernel_rfl
theorem r2900 : allN run 2900 25 = true := by kernel_rfl
theorem r2925 : allN run 2925 25 = true := by kernel_rfl
theorem r2950 : allN run 2950 25 = true := by kernel_rfl
theorem r2975 : allN run 2975 25 = true := by kernel_rfl
end framesSizes
end Go.Proofs.Ytpccllhgbbpocaa
