/- A part of the proof: an interpreter of the model's own code on partly known states, and that what it answers is what the program answers. No condition of its own. -/
import Derived.Test.YtpccllhgbbpocaaDoorSTO
set_option maxRecDepth 100000
set_option linter.unusedVariables false
namespace Go.Proofs.YtpccllhgbbpocaaDoor
open Go Go.AX Go.Proofs
namespace startTargets
theorem r64 (e : Nat) : allN (run e) 64 8 = true := by kernel_rfl
theorem r72 (e : Nat) : allN (run e) 72 8 = true := by kernel_rfl
theorem r80 (e : Nat) : allN (run e) 80 8 = true := by kernel_rfl
theorem r88 (e : Nat) : allN (run e) 88 8 = true := by kernel_rfl
theorem r96 (e : Nat) : allN (run e) 96 8 = true := by kernel_rfl
theorem r104 (e : Nat) : allN (run e) 104 8 = true := by kernel_rfl
theorem r112 (e : Nat) : allN (run e) 112 8 = true := by kernel_rfl
theorem r120 (e : Nat) : allN (run e) 120 8 = true := by kernel_rfl
end startTargets
end Go.Proofs.YtpccllhgbbpocaaDoor
