/- A part of the proof: an interpreter of the model's own code on partly known states, and that what it answers is what the program answers. No condition of its own. -/
import Derived.Test.YtpccllhgbbpocaaDoorSLO
set_option maxRecDepth 100000
set_option linter.unusedVariables false
namespace Go.Proofs.YtpccllhgbbpocaaDoor
open Go Go.AX Go.Proofs
namespace startTargets
noncomputable def run (e : Nat) (i : Nat) : Bool := (cs tab7 9000).call 7 [.i .u8 (.ofNat i), .b false] isB ⟨H0 e, 7, 0, 0⟩
theorem star (e : Nat) : (cs tab7 9000).call 7 [.x 0, .b true] isB ⟨H0 e, 7, 0, 0⟩ = true := by kernel_rfl
end startTargets
end Go.Proofs.YtpccllhgbbpocaaDoor
