/- A part of the proof: an interpreter of the model's own code on partly known states, and that what it answers is what the program answers. No condition of its own. -/
import Derived.Test.YtpccllhgbbpocaaFSeat
set_option maxRecDepth 100000
set_option linter.unusedVariables false
namespace Go.Proofs.Ytpccllhgbbpocaa
open Go Go.AX Go.Proofs
namespace framesSizes
theorem r375 : allN run 375 25 = true := by kernel_rfl
theorem r400 : allN run 400 25 = true := by kernel_rfl
theorem r425 : allN run 425 25 = true := by kernel_rfl
theorem r450 : allN run 450 25 = true := by kernel_rfl
theorem r475 : allN run 475 25 = true := by kernel_rfl
theorem r500 : allN run 500 25 = true := by kernel_rfl
theorem r525 : allN run 525 25 = true := by kernel_rfl
theorem r550 : allN run 550 25 = true := by kernel_rfl
theorem r575 : allN run 575 25 = true := by kernel_rfl
theorem r600 : allN run 600 25 = true := by kernel_rfl
theorem r625 : allN run 625 25 = true := by kernel_rfl
theorem r650 : allN run 650 25 = true := by kernel_rfl
theorem r675 : allN run 675 25 = true := by kernel_rfl
theorem r700 : allN run 700 25 = true := by kernel_rfl
theorem r725 : allN run 725 25 = true := by kernel_rfl
end framesSizes
end Go.Proofs.Ytpccllhgbbpocaa
