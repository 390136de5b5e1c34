/- A part of the proof: an interpreter of the model's own code on partly known states, and that what it answers is what the program answers. No condition of its own. -/
import Derived.Test.YtpccllhgbbpocaaDoorCSO
set_option maxRecDepth 100000
set_option linter.unusedVariables false
namespace Go.Proofs.YtpccllhgbbpocaaDoor
open Go Go.AX Go.Proofs
namespace cgiStatus
theorem r_tfff (e : Nat) : run e true false false false = true := by kernel_rfl
theorem r_tfft (e : Nat) : run e true false false true = true := by kernel_rfl
theorem r_tftf (e : Nat) : run e true false true false = true := by kernel_rfl
theorem r_tftt (e : Nat) : run e true false true true = true := by kernel_rfl
theorem r_ttff (e : Nat) : run e true true false false = true := by kernel_rfl
theorem r_ttft (e : Nat) : run e true true false true = true := by kernel_rfl
theorem r_tttf (e : Nat) : run e true true true false = true := by kernel_rfl
theorem r_tttt (e : Nat) : run e true true true true = true := by kernel_rfl
end cgiStatus
end Go.Proofs.YtpccllhgbbpocaaDoor
