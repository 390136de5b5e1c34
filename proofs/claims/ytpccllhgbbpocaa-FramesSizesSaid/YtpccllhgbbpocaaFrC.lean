/- A part of the proof: an interpreter of the model's own code on partly known states, and that what it answers is what the program answers. No condition of its own. -/
import Derived.Test.YtpccllhgbbpocaaFSeat
set_option maxRecDepth 100000
set_option linter.unusedVariables false
namespace Go.Proofs.Ytpccllhgbbpocaa
open Go Go.AX Go.Proofs
namespace framesSizes
theorem r750 : allN run 750 25 = true := by kernel_rfl
theorem r775 : allN run 775 25 = true := by kernel_rfl
theorem r800 : allN run 800 25 = true := by kernel_rfl
theorem r825 : allN run 825 25 = true := by kernel_rfl
theorem r850 : allN run 850 25 = true := by kernel_rfl
theorem r875 : allN run 875 25 = true := by kernel_rfl
theorem r900 : allN run 900 25 = true := by kernel_rfl
theorem r925 : allN run 925 25 = true := by kernel_rfl
theorem r950 : allN run 950 25 = true := by kernel_rfl
theorem r975 : allN run 975 25 = true := by kernel_rfl
theorem r1000 : allN run 1000 25 = true := by kernel_rfl
theorem r1025 : allN run 1025 25 = true := by kernel_rfl
theorem r1050 : allN run 1050 25 = true := by kernel_rfl
theorem r1075 : allN run 1075 25 = true := by kernel_rfl
theorem r1100 : allN run 1100 25 = true := by kernel_rfl
end framesSizes
end Go.Proofs.Ytpccllhgbbpocaa
