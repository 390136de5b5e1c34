/- A part of the proof: an interpreter of the model's own code on partly known states, and that what it answers is what the program answers. No condition of its own. -/
import Derived.Test.YtpccllhgbbpocaaFSeat
set_option maxRecDepth 100000
set_option linter.unusedVariables false
namespace Go.Proofs.Ytpccllhgbbpocaa
open Go Go.AX Go.Proofs
namespace framesSizes
theorem r1500 : allN run 1500 25 = true := by kernel_rfl
theorem r1525 : allN run 1525 25 = true := by kernel_rfl
theorem r1550 : allN run 1550 25 = true := by kernel_rfl
theorem r1575 : allN run 1575 25 = true := by kernel_rfl
theorem r1600 : allN run 1600 25 = true := by kernel_rfl
theorem r1625 : allN run 1625 25 = true := by kernel_rfl
theorem r1650 : allN run 1650 25 = true := by kernel_rfl
theorem r1675 : allN run 1675 25 = true := by kernel_rfl
theorem r1700 : allN run 1700 25 = true := by kernel_rfl
theorem r1725 : allN run 1725 25 = true := by kernel_rfl
theorem r1750 : allN run 1750 25 = true := by kernel_rfl
theorem r1775 : allN run 1775 25 = true := by kernel_rfl
theorem r1800 : allN run 1800 25 = true := by kernel_rfl
theorem r1825 : allN run 1825 25 = true := by kernel_rfl
theorem r1850 : allN run 1850 25 = true := by kernel_rfl
end framesSizes
end Go.Proofs.Ytpccllhgbbpocaa
