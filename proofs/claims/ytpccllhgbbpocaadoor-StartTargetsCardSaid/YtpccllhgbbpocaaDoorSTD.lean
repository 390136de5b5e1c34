/- A part of the proof: an interpreter of the model's own code on partly known states, and that what it answers is what the program answers. No condition of its own. -/
import Derived.Test.YtpccllhgbbpocaaDoorSTO
set_option maxRecDepth 100000
set_option linter.unusedVariables false
namespace Go.Proofs.YtpccllhgbbpocaaDoor
open Go Go.AX Go.Proofs
namespace startTargets
theorem r192 (e : Nat) : allN (run e) 192 8 = true := by kernel_rfl
theorem r200 (e : Nat) : allN (run e) 200 8 = true := by kernel_rfl
theorem r208 (e : Nat) : allN (run e) 208 8 = true := by kernel_rfl
theorem r216 (e : Nat) : allN (run e) 216 8 = true := by kernel_rfl
theorem r224 (e : Nat) : allN (run e) 224 8 = true := by kernel_rfl
theorem r232 (e : Nat) : allN (run e) 232 8 = true := by kernel_rfl
theorem r240 (e : Nat) : allN (run e) 240 8 = true := by kernel_rfl
theorem r248 (e : Nat) : allN (run e) 248 8 = true := by kernel_rfl
end startTargets
end Go.Proofs.YtpccllhgbbpocaaDoor
