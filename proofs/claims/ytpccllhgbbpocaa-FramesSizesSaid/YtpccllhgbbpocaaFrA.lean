/- A part of the proof: an interpreter of the model's own code on partly known states, and that what it answers is what the program answers. No condition of its own. -/
import Derived.Test.YtpccllhgbbpocaaFSeat
set_option maxRecDepth 100000
set_option linter.unusedVariables false
namespace Go.Proofs.Ytpccllhgbbpocaa
open Go Go.AX Go.Proofs
namespace framesSizes
theorem r0 : allN run 0 25 = true := by kernel_rfl
theorem r25 : allN run 25 25 = true := by kernel_rfl
theorem r50 : allN run 50 25 = true := by kernel_rfl
theorem r75 : allN run 75 25 = true := by kernel_rfl
theorem r100 : allN run 100 25 = true := by kernel_rfl
theorem r125 : allN run 125 25 = true := by kernel_rfl
theorem r150 : allN run 150 25 = true := by kernel_rfl
theorem r175 : allN run 175 25 = true := by kernel_rfl
theorem r200 : allN run 200 25 = true := by kernel_rfl
theorem r225 : allN run 225 25 = true := by kernel_rfl
theorem r250 : allN run 250 25 = true := by kernel_rfl
theorem r275 : allN run 275 25 = true := by kernel_rfl
theorem r300 : allN run 300 25 = true := by kernel_rfl
theorem r325 : allN run 325 25 = true := by kernel_rfl
theorem r350 : allN run 350 25 = true := by kernel_rfl
end framesSizes
end Go.Proofs.Ytpccllhgbbpocaa
