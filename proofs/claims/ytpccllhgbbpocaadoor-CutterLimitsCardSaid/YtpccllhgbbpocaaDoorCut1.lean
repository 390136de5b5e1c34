/- A part of the proof: an interpreter of the model's own code on partly known states, and that what it answers is what the program answers. No condition of its own. -/
import Derived.Test.YtpccllhgbbpocaaDoorCutO
set_option maxRecDepth 100000
set_option linter.unusedVariables false
namespace Go.Proofs.YtpccllhgbbpocaaDoor
open Go Go.AX Go.Proofs
namespace cutterLimits
theorem r_true_0 (e : Nat) : allN (run e true) 0 25 = true := by kernel_rfl
theorem r_true_25 (e : Nat) : allN (run e true) 25 25 = true := by kernel_rfl
theorem r_true_50 (e : Nat) : allN (run e true) 50 25 = true := by kernel_rfl
theorem r_true_75 (e : Nat) : allN (run e true) 75 25 = true := by kernel_rfl
theorem r_true_100 (e : Nat) : allN (run e true) 100 25 = true := by kernel_rfl
theorem r_true_125 (e : Nat) : allN (run e true) 125 25 = true := by kernel_rfl
theorem r_true_150 (e : Nat) : allN (run e true) 150 25 = true := by kernel_rfl
theorem r_true_175 (e : Nat) : allN (run e true) 175 25 = true := by kernel_rfl
theorem r_true_200 (e : Nat) : allN (run e true) 200 25 = true := by kernel_rfl
theorem r_true_225 (e : Nat) : allN (run e true) 225 25 = true := by kernel_rfl
theorem r_true_250 (e : Nat) : allN (run e true) 250 25 = true := by kernel_rfl
theorem r_true_275 (e : Nat) : allN (run e true) 275 25 = true := by kernel_rfl
theorem r_true_300 (e : Nat) : allN (run e true) 300 25 = true := by kernel_rfl
theorem r_true_325 (e : Nat) : allN (run e true) 325 25 = true := by kernel_rfl
theorem r_true_350 (e : Nat) : allN (run e true) 350 25 = true := by kernel_rfl
theorem r_true_375 (e : Nat) : allN (run e true) 375 25 = true := by kernel_rfl
theorem r_true_400 (e : Nat) : allN (run e true) 400 25 = true := by kernel_rfl
theorem r_true_425 (e : Nat) : allN (run e true) 425 25 = true := by kernel_rfl
theorem r_true_450 (e : Nat) : allN (run e true) 450 25 = true := by kernel_rfl
theorem r_true_475 (e : Nat) : allN (run e true) 475 25 = true := by kernel_rfl
end cutterLimits
end Go.Proofs.YtpccllhgbbpocaaDoor
