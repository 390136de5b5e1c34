/- A part of the proof: an interpreter of the model's own code on partly known states, and that what it answers is what the program answers. No condition of its own. -/
import Derived.Test.YtpccllhgbbpocaaDoorCSO
set_option maxRecDepth 100000
set_option linter.unusedVariables false
namespace Go.Proofs.YtpccllhgbbpocaaDoor
open Go Go.AX Go.Proofs
namespace cgiStatus
theorem r_ffff (e : Nat) : run e false false false false = true := by kernel_rfl
theorem r_ffft (e : Nat) : run e false false false true = true := by kernel_rfl
theorem r_fftf (e : Nat) : run e false false true false = true := by kernel_rfl
theorem r_fftt (e : Nat) : run e false false true true = true := by kernel_rfl
theorem r_ftff (e : Nat) : run e false true false false = true := by kernel_rfl
theorem r_ftft (e : Nat) : run e false true false true = true := by kernel_rfl
theorem r_fttf (e : Nat) : run e false true true false = true := by kernel_rfl
theorem r_fttt (e : Nat) : run e false true true true = true := by kernel_rfl
end cgiStatus
end Go.Proofs.YtpccllhgbbpocaaDoor
