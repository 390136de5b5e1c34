/- A part of the proof: an interpreter of the model's own code on partly known states, and that what it answers is what the program answers. No condition of its own. -/
import Derived.Test.YtpccllhgbbpocaaDoorSTO
set_option maxRecDepth 100000
set_option linter.unusedVariables false
namespace Go.Proofs.YtpccllhgbbpocaaDoor
open Go Go.AX Go.Proofs
namespace startTargets
theorem r0 (e : Nat) : allN (run e) 0 8 = true := by kernel_rfl
theorem r8 (e : Nat) : allN (run e) 8 8 = true := by kernel_rfl
theorem r16 (e : Nat) : allN (run e) 16 8 = true := by kernel_rfl
theorem r24 (e : Nat) : allN (run e) 24 8 = true := by kernel_rfl
theorem r32 (e : Nat) : allN (run e) 32 8 = true := by kernel_rfl
theorem r40 (e : Nat) : allN (run e) 40 8 = true := by kernel_rfl
theorem r48 (e : Nat) : allN (run e) 48 8 = true := by kernel_rfl
theorem r56 (e : Nat) : allN (run e) 56 8 = true := by kernel_rfl
end startTargets
end Go.Proofs.YtpccllhgbbpocaaDoor
