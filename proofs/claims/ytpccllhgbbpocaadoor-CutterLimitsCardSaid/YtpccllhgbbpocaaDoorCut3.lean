/- A part of the proof: an interpreter of the model's own code on partly known states, and that what it answers is what the program answers. No condition of its own. -/
import Derived.Test.YtpccllhgbbpocaaDoorCutO
set_option maxRecDepth 100000
set_option linter.unusedVariables false
namespace Go.Proofs.YtpccllhgbbpocaaDoor
open Go Go.AX Go.Proofs
namespace cutterLimits
theorem r_false_0 (e : Nat) : allN (run e false) 0 25 = true := by kernel_rfl
theorem r_false_25 (e : Nat) : allN (run e false) 25 25 = true := by kernel_rfl
theorem r_false_50 (e : Nat) : allN (run e false) 50 25 = true := by kernel_rfl
theorem r_false_75 (e : Nat) : allN (run e false) 75 25 = true := by kernel_rfl
theorem r_false_100 (e : Nat) : allN (run e false) 100 25 = true := by kernel_rfl
theorem r_false_125 (e : Nat) : allN (run e false) 125 25 = true := by kernel_rfl
theorem r_false_150 (e : Nat) : allN (run e false) 150 25 = true := by kernel_rfl
theorem r_false_175 (e : Nat) : allN (run e false) 175 25 = true := by kernel_rfl
theorem r_false_200 (e : Nat) : allN (run e false) 200 25 = true := by kernel_rfl
theorem r_false_225 (e : Nat) : allN (run e false) 225 25 = true := by kernel_rfl
theorem r_false_250 (e : Nat) : allN (run e false) 250 25 = true := by kernel_rfl
theorem r_false_275 (e : Nat) : allN (run e false) 275 25 = true := by kernel_rfl
theorem r_false_300 (e : Nat) : allN (run e false) 300 25 = true := by kernel_rfl
theorem r_false_325 (e : Nat) : allN (run e false) 325 25 = true := by kernel_rfl
theorem r_false_350 (e : Nat) : allN (run e false) 350 25 = true := by kernel_rfl
theorem r_false_375 (e : Nat) : allN (run e false) 375 25 = true := by kernel_rfl
theorem r_false_400 (e : Nat) : allN (run e false) 400 25 = true := by kernel_rfl
theorem r_false_425 (e : Nat) : allN (run e false) 425 25 = true := by kernel_rfl
theorem r_false_450 (e : Nat) : allN (run e false) 450 25 = true := by kernel_rfl
theorem r_false_475 (e : Nat) : allN (run e false) 475 25 = true := by kernel_rfl
end cutterLimits
end Go.Proofs.YtpccllhgbbpocaaDoor
