/- A part of the proof: an interpreter of the model's own code on partly known states, and that what it answers is what the program answers. No condition of its own. -/
import Derived.Test.YtpccllhgbbpocaaDoorMuxO
set_option maxRecDepth 100000
set_option linter.unusedVariables false
namespace Go.Proofs.YtpccllhgbbpocaaDoor
open Go Go.AX Go.Proofs
namespace muxOthers
theorem f10_0 (e : Nat) : runF e 10 0 := by unfold runF; kernel_rfl
theorem f10_1 (e : Nat) : runF e 10 1 := by unfold runF; kernel_rfl
theorem f10_2 (e : Nat) : runF e 10 2 := by unfold runF; kernel_rfl
theorem f10_3 (e : Nat) : runF e 10 3 := by unfold runF; kernel_rfl
theorem t10 (e : Nat) : runT e 10 := by unfold runT; kernel_rfl
theorem f11_0 (e : Nat) : runF e 11 0 := by unfold runF; kernel_rfl
theorem f11_1 (e : Nat) : runF e 11 1 := by unfold runF; kernel_rfl
theorem f11_2 (e : Nat) : runF e 11 2 := by unfold runF; kernel_rfl
theorem f11_3 (e : Nat) : runF e 11 3 := by unfold runF; kernel_rfl
theorem t11 (e : Nat) : runT e 11 := by unfold runT; kernel_rfl
theorem f12_0 (e : Nat) : runF e 12 0 := by unfold runF; kernel_rfl
theorem f12_1 (e : Nat) : runF e 12 1 := by unfold runF; kernel_rfl
theorem f12_2 (e : Nat) : runF e 12 2 := by unfold runF; kernel_rfl
theorem f12_3 (e : Nat) : runF e 12 3 := by unfold runF; kernel_rfl
theorem t12 (e : Nat) : runT e 12 := by unfold runT; kernel_rfl
end muxOthers
end Go.Proofs.YtpccllhgbbpocaaDoor
