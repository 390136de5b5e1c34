/- A part of the proof: an interpreter of the model's own code on partly known states, and that what it answers is what the program answers. No condition of its own. -/
import Derived.Test.YtpccllhgbbpocaaDoorMuxO
set_option maxRecDepth 100000
set_option linter.unusedVariables false
namespace Go.Proofs.YtpccllhgbbpocaaDoor
open Go Go.AX Go.Proofs
namespace muxOthers
theorem f4_0 (e : Nat) : runF e 4 0 := by unfold runF; kernel_rfl
theorem f4_1 (e : Nat) : runF e 4 1 := by unfold runF; kernel_rfl
theorem f4_2 (e : Nat) : runF e 4 2 := by unfold runF; kernel_rfl
theorem f4_3 (e : Nat) : runF e 4 3 := by unfold runF; kernel_rfl
theorem t4 (e : Nat) : runT e 4 := by unfold runT; kernel_rfl
theorem f5_0 (e : Nat) : runF e 5 0 := by unfold runF; kernel_rfl
theorem f5_1 (e : Nat) : runF e 5 1 := by unfold runF; kernel_rfl
theorem f5_2 (e : Nat) : runF e 5 2 := by unfold runF; kernel_rfl
theorem f5_3 (e : Nat) : runF e 5 3 := by unfold runF; kernel_rfl
theorem t5 (e : Nat) : runT e 5 := by unfold runT; kernel_rfl
theorem f6_0 (e : Nat) : runF e 6 0 := by unfold runF; kernel_rfl
theorem f6_1 (e : Nat) : runF e 6 1 := by unfold runF; kernel_rfl
theorem f6_2 (e : Nat) : runF e 6 2 := by unfold runF; kernel_rfl
theorem f6_3 (e : Nat) : runF e 6 3 := by unfold runF; kernel_rfl
theorem t6 (e : Nat) : runT e 6 := by unfold runT; kernel_rfl
end muxOthers
end Go.Proofs.YtpccllhgbbpocaaDoor
