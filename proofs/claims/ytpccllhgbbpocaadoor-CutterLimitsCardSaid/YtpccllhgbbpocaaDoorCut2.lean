/- A part of the proof: an interpreter of the model's own code on partly known states, and that what it answers is what the program answers. No condition of its own. -/
import Derived.Test.YtpccllhgbbpocaaDoorCutO
set_option maxRecDepth 100000
set_option linter.unusedVariables false
namespace Go.Proofs.YtpccllhgbbpocaaDoor
open Go Go.AX Go.Proofs
namespace cutterLimits
theorem r_true_500 (e : Nat) : allN (run e true) 500 25 = true := by kernel_rfl
theorem r_true_525 (e : Nat) : allN (run e true) 525 25 = true := by kernel_rfl
theorem r_true_550 (e : Nat) : allN (run e true) 550 25 = true := by kernel_rfl
theorem r_true_575 (e : Nat) : allN (run e true) 575 25 = true := by kernel_rfl
theorem r_true_600 (e : Nat) : allN (run e true) 600 25 = true := by kernel_rfl
theorem r_true_625 (e : Nat) : allN (run e true) 625 25 = true := by kernel_rfl
theorem r_true_650 (e : Nat) : allN (run e true) 650 25 = true := by kernel_rfl
theorem r_true_675 (e : Nat) : allN (run e true) 675 25 = true := by kernel_rfl
theorem r_true_700 (e : Nat) : allN (run e true) 700 25 = true := by kernel_rfl
theorem r_true_725 (e : Nat) : allN (run e true) 725 25 = true := by kernel_rfl
theorem r_true_750 (e : Nat) : allN (run e true) 750 25 = true := by kernel_rfl
theorem r_true_775 (e : Nat) : allN (run e true) 775 25 = true := by kernel_rfl
theorem r_true_800 (e : Nat) : allN (run e true) 800 25 = true := by kernel_rfl
theorem r_true_825 (e : Nat) : allN (run e true) 825 25 = true := by kernel_rfl
theorem r_true_850 (e : Nat) : allN (run e true) 850 25 = true := by kernel_rfl
theorem r_true_875 (e : Nat) : allN (run e true) 875 25 = true := by kernel_rfl
theorem r_true_900 (e : Nat) : allN (run e true) 900 25 = true := by kernel_rfl
theorem r_true_925 (e : Nat) : allN (run e true) 925 25 = true := by kernel_rfl
theorem r_true_950 (e : Nat) : allN (run e true) 950 25 = true := by kernel_rfl
theorem r_true_975 (e : Nat) : allN (run e true) 975 25 = true := by kernel_rfl
end cutterLimits
end Go.Proofs.YtpccllhgbbpocaaDoor
