/- A part of the proof: an interpreter of the model's own code on partly known states, and that what it answers is what the program answers. No condition of its own. -/
import Derived.Test.YtpccllhgbbpocaaDoorMuxO
set_option maxRecDepth 100000
set_option linter.unusedVariables false
namespace Go.Proofs.YtpccllhgbbpocaaDoor
open Go Go.AX Go.Proofs
namespace muxOthers
theorem f0_0 (e : Nat) : runF e 0 0 := by unfold runF; kernel_rfl
theorem f0_1 (e : Nat) : runF e 0 1 := by unfold runF; kernel_rfl
theorem f0_2 (e : Nat) : runF e 0 2 := by unfold runF; kernel_rfl
theorem f0_3 (e : Nat) : runF e 0 3 := by unfold runF; kernel_rfl
theorem t0 (e : Nat) : runT e 0 := by unfold runT; kernel_rfl
theorem f1_0 (e : Nat) : runF e 1 0 := by unfold runF; kernel_rfl
theorem f1_1 (e : Nat) : runF e 1 1 := by unfold runF; kernel_rfl
theorem f1_2 (e : Nat) : runF e 1 2 := by unfold runF; kernel_rfl
theorem f1_3 (e : Nat) : runF e 1 3 := by unfold runF; kernel_rfl
theorem t1 (e : Nat) : runT e 1 := by unfold runT; kernel_rfl
theorem f2_0 (e : Nat) : runF e 2 0 := by unfold runF; kernel_rfl
theorem f2_1 (e : Nat) : runF e 2 1 := by unfold runF; kernel_rfl
theorem f2_2 (e : Nat) : runF e 2 2 := by unfold runF; kernel_rfl
theorem f2_3 (e : Nat) : runF e 2 3 := by unfold runF; kernel_rfl
theorem t2 (e : Nat) : runT e 2 := by unfold runT; kernel_rfl
theorem f3_0 (e : Nat) : runF e 3 0 := by unfold runF; kernel_rfl
theorem f3_1 (e : Nat) : runF e 3 1 := by unfold runF; kernel_rfl
theorem f3_2 (e : Nat) : runF e 3 2 := by unfold runF; kernel_rfl
theorem f3_3 (e : Nat) : runF e 3 3 := by unfold runF; kernel_rfl
theorem t3 (e : Nat) : runT e 3 := by unfold runT; kernel_rfl
end muxOthers
end Go.Proofs.YtpccllhgbbpocaaDoor
