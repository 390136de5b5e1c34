/- A part of the proof: an interpreter of the model's own code on partly known states, and that what it answers is what the program answers. No condition of its own. -/
import Derived.Test.YtpccllhgbbpocaaDoorPLO
set_option maxRecDepth 100000
set_option linter.unusedVariables false
namespace Go.Proofs.YtpccllhgbbpocaaDoor
open Go Go.AX Go.Proofs
namespace pairLengths
theorem r_false_350 (e : Nat) : allN (run e false) 350 25 = true := by kernel_rfl
theorem r_false_375 (e : Nat) : allN (run e false) 375 25 = true := by kernel_rfl
theorem r_false_400 (e : Nat) : allN (run e false) 400 25 = true := by kernel_rfl
theorem r_false_425 (e : Nat) : allN (run e false) 425 25 = true := by kernel_rfl
theorem r_false_450 (e : Nat) : allN (run e false) 450 25 = true := by kernel_rfl
theorem r_false_475 (e : Nat) : allN (run e false) 475 25 = true := by kernel_rfl
theorem r_false_500 (e : Nat) : allN (run e false) 500 25 = true := by kernel_rfl
theorem r_false_525 (e : Nat) : allN (run e false) 525 25 = true := by kernel_rfl
theorem r_false_550 (e : Nat) : allN (run e false) 550 25 = true := by kernel_rfl
theorem r_false_575 (e : Nat) : allN (run e false) 575 25 = true := by kernel_rfl
theorem r_false_600 (e : Nat) : allN (run e false) 600 25 = true := by kernel_rfl
theorem r_false_625 (e : Nat) : allN (run e false) 625 25 = true := by kernel_rfl
theorem r_false_650 (e : Nat) : allN (run e false) 650 25 = true := by kernel_rfl
theorem r_false_675 (e : Nat) : allN (run e false) 675 25 = true := by kernel_rfl
end pairLengths
end Go.Proofs.YtpccllhgbbpocaaDoor
