/- A part of the proof: an interpreter of the model's own code on partly known states, and that what it answers is what the program answers. No condition of its own. -/
import Derived.Test.YtpccllhgbbpocaaDoorSTO
set_option maxRecDepth 100000
set_option linter.unusedVariables false
namespace Go.Proofs.YtpccllhgbbpocaaDoor
open Go Go.AX Go.Proofs
namespace startTargets
theorem r128 (e : Nat) : allN (run e) 128 8 = true := by kernel_rfl
theorem r136 (e : Nat) : allN (run e) 136 8 = true := by kernel_rfl
theorem r144 (e : Nat) : allN (run e) 144 8 = true := by kernel_rfl
theorem r152 (e : Nat) : allN (run e) 152 8 = true := by kernel_rfl
theorem r160 (e : Nat) : allN (run e) 160 8 = true := by kernel_rfl
theorem r168 (e : Nat) : allN (run e) 168 8 = true := by kernel_rfl
theorem r176 (e : Nat) : allN (run e) 176 8 = true := by kernel_rfl
theorem r184 (e : Nat) : allN (run e) 184 8 = true := by kernel_rfl
end startTargets
end Go.Proofs.YtpccllhgbbpocaaDoor
