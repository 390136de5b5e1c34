/- A part of the proof: an interpreter of the model's own code on partly known states, and that what it answers is what the program answers. No condition of its own. -/
import Derived.Test.YtpccllhgbbpocaaFSeat
set_option maxRecDepth 100000
set_option linter.unusedVariables false
namespace Go.Proofs.Ytpccllhgbbpocaa
open Go Go.AX Go.Proofs
namespace framesSizes
theorem r1125 : allN run 1125 25 = true := by kernel_rfl
theorem r1150 : allN run 1150 25 = true := by kernel_rfl
theorem r1175 : allN run 1175 25 = true := by kernel_rfl
theorem r1200 : allN run 1200 25 = true := by kernel_rfl
theorem r1225 : allN run 1225 25 = true := by kernel_rfl
theorem r1250 : allN run 1250 25 = true := by kernel_rfl
theorem r1275 : allN run 1275 25 = true := by kernel_rfl
theorem r1300 : allN run 1300 25 = true := by kernel_rfl
theorem r1325 : allN run 1325 25 = true := by kernel_rfl
theorem r1350 : allN run 1350 25 = true := by kernel_rfl
theorem r1375 : allN run 1375 25 = true := by kernel_rfl
theorem r1400 : allN run 1400 25 = true := by kernel_rfl
theorem r1425 : allN run 1425 25 = true := by kernel_rfl
theorem r1450 : allN run 1450 25 = true := by kernel_rfl
theorem r1475 : allN run 1475 25 = true := by kernel_rfl
end framesSizes
end Go.Proofs.Ytpccllhgbbpocaa
