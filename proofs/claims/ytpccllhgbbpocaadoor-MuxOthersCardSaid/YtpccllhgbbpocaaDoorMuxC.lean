/- A part of the proof: an interpreter of the model's own code on partly known states, and that what it answers is what the program answers. No condition of its own. -/
import Derived.Test.YtpccllhgbbpocaaDoorMuxO
set_option maxRecDepth 100000
set_option linter.unusedVariables false
namespace Go.Proofs.YtpccllhgbbpocaaDoor
open Go Go.AX Go.Proofs
namespace muxOthers
theorem f7_0 (e : Nat) : runF e 7 0 := by unfold runF; kernel_rfl
theorem f7_1 (e : Nat) : runF e 7 1 := by unfold runF; kernel_rfl
theorem f7_2 (e : Nat) : runF e 7 2 := by unfold runF; kernel_rfl
theorem f7_3 (e : Nat) : runF e 7 3 := by unfold runF; kernel_rfl
theorem t7 (e : Nat) : runT e 7 := by unfold runT; kernel_rfl
theorem f8_0 (e : Nat) : runF e 8 0 := by unfold runF; kernel_rfl
theorem f8_1 (e : Nat) : runF e 8 1 := by unfold runF; kernel_rfl
theorem f8_2 (e : Nat) : runF e 8 2 := by unfold runF; kernel_rfl
theorem f8_3 (e : Nat) : runF e 8 3 := by unfold runF; kernel_rfl
theorem t8 (e : Nat) : runT e 8 := by unfold runT; kernel_rfl
theorem f9_0 (e : Nat) : runF e 9 0 := by unfold runF; kernel_rfl
theorem f9_1 (e : Nat) : runF e 9 1 := by unfold runF; kernel_rfl
theorem f9_2 (e : Nat) : runF e 9 2 := by unfold runF; kernel_rfl
theorem f9_3 (e : Nat) : runF e 9 3 := by unfold runF; kernel_rfl
theorem t9 (e : Nat) : runT e 9 := by unfold runT; kernel_rfl
end muxOthers
end Go.Proofs.YtpccllhgbbpocaaDoor
