/- A part of the proof: an interpreter of the model's own code on partly known states, and that what it answers is what the program answers. No condition of its own. -/
import Derived.Test.YtpccllhgbbpocaaDoorPMO
set_option maxRecDepth 100000
set_option linter.unusedVariables false
namespace Go.Proofs.YtpccllhgbbpocaaDoor
open Go Go.AX Go.Proofs
namespace pairMany
theorem r0 (e : Nat) : run e 0 = true := by kernel_rfl
end pairMany
end Go.Proofs.YtpccllhgbbpocaaDoor
