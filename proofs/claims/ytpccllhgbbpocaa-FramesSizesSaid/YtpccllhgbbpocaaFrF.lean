/- A part of the proof: an interpreter of the model's own code on partly known states, and that what it answers is what the program answers. No condition of its own. -/
import Derived.Test.YtpccllhgbbpocaaFSeat
set_option maxRecDepth 100000
set_option linter.unusedVariables false
namespace Go.Proofs.Ytpccllhgbbpocaa
open Go Go.AX Go.Proofs
namespace framesSizes
theorem r1875 : allN run 1875 25 = true := by kernel_rfl
theorem r1900 : allN run 1900 25 = true := by kernel_rfl
theorem r1925 : allN run 1925 25 = true := by kernel_rfl
theorem r1950 : allN run 1950 25 = true := by kernel_rfl
theorem r1975 : allN run 1975 25 = true := by kernel_rfl
theorem r2000 : allN run 2000 25 = true := by kernel_rfl
theorem r2025 : allN run 2025 25 = true := by kernel_rfl
theorem r2050 : allN run 2050 25 = true := by kernel_rfl
theorem r2075 : allN run 2075 25 = true := by kernel_rfl
theorem r2100 : allN run 2100 25 = true := by kernel_rfl
theorem r2125 : allN run 2125 25 = true := by kernel_rfl
theorem r2150 : allN run 2150 25 = true := by kernel_rfl
theorem r2175 : allN run 2175 25 = true := by kernel_rfl
theorem r2200 : allN run 2200 25 = true := by kernel_rfl
theorem r2225 : allN run 2225 25 = true := by kernel_rfl
end framesSizes
end Go.Proofs.Ytpccllhgbbpocaa
