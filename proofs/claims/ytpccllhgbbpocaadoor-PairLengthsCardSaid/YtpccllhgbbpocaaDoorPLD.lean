/- A part of the proof: an interpreter of the model's own code on partly known states, and that what it answers is what the program answers. No condition of its own. -/
import Derived.Test.YtpccllhgbbpocaaDoorPLO
set_option maxRecDepth 100000
set_option linter.unusedVariables false
namespace Go.Proofs.YtpccllhgbbpocaaDoor
open Go Go.AX Go.Proofs
namespace pairLengths
theorem r_true_350 (e : Nat) : allN (run e true) 350 25 = true := by kernel_rfl
theorem r_true_375 (e : Nat) : allN (run e true) 375 25 = true := by kernel_rfl
theorem r_true_400 (e : Nat) : allN (run e true) 400 25 = true := by kernel_rfl
theorem r_true_425 (e : Nat) : allN (run e true) 425 25 = true := by kernel_rfl
theorem r_true_450 (e : Nat) : allN (run e true) 450 25 = true := by kernel_rfl
theorem r_true_475 (e : Nat) : allN (run e true) 475 25 = true := by kernel_rfl
theorem r_true_500 (e : Nat) : allN (run e true) 500 25 = true := by kernel_rfl
theorem r_true_525 (e : Nat) : allN (run e true) 525 25 = true := by kernel_rfl
theorem r_true_550 (e : Nat) : allN (run e true) 550 25 = true := by kernel_rfl
theorem r_true_575 (e : Nat) : allN (run e true) 575 25 = true := by kernel_rfl
theorem r_true_600 (e : Nat) : allN (run e true) 600 25 = true := by kernel_rfl
theorem r_true_625 (e : Nat) : allN (run e true) 625 25 = true := by kernel_rfl
theorem r_true_650 (e : Nat) : allN (run e true) 650 25 = true := by kernel_rfl
theorem r_true_675 (e : Nat) : allN (run e true) 675 25 = true := by kernel_rfl
end pairLengths
end Go.Proofs.YtpccllhgbbpocaaDoor
