/- A part of the proof: an interpreter of the model's own code on partly known states, and that what it answers is what the program answers. No condition of its own. -/
import Derived.Test.YtpccllhgbbpocaaDoorCutO
set_option maxRecDepth 100000
set_option linter.unusedVariables false
namespace Go.Proofs.YtpccllhgbbpocaaDoor
open Go Go.AX Go.Proofs
namespace cutterLimits
theorem r_false_500 (e : Nat) : allN (run e false) 500 25 = true := by kernel_rfl
theorem r_false_525 (e : Nat) : allN (run e false) 525 25 = true := by kernel_rfl
theorem r_false_550 (e : Nat) : allN (run e false) 550 25 = true := by kernel_rfl
theorem r_false_575 (e : Nat) : allN (run e false) 575 25 = true := by kernel_rfl
theorem r_false_600 (e : Nat) : allN (run e false) 600 25 = true := by kernel_rfl
theorem r_false_625 (e : Nat) : allN (run e false) 625 25 = true := by kernel_rfl
theorem r_false_650 (e : Nat) : allN (run e false) 650 25 = true := by kernel_rfl
theorem r_false_675 (e : Nat) : allN (run e false) 675 25 = true := by kernel_rfl
theorem r_false_700 (e : Nat) : allN (run e false) 700 25 = true := by kernel_rfl
theorem r_false_725 (e : Nat) : allN (run e false) 725 25 = true := by kernel_rfl
theorem r_false_750 (e : Nat) : allN (run e false) 750 25 = true := by kernel_rfl
theorem r_false_775 (e : Nat) : allN (run e false) 775 25 = true := by kernel_rfl
theorem r_false_800 (e : Nat) : allN (run e false) 800 25 = true := by kernel_rfl
theorem r_false_825 (e : Nat) : allN (run e false) 825 25 = true := by kernel_rfl
theorem r_false_850 (e : Nat) : allN (run e false) 850 25 = true := by kernel_rfl
theorem r_false_875 (e : Nat) : allN (run e false) 875 25 = true := by kernel_rfl
theorem r_false_900 (e : Nat) : allN (run e false) 900 25 = true := by kernel_rfl
theorem r_false_925 (e : Nat) : allN (run e false) 925 25 = true := by kernel_rfl
theorem r_false_950 (e : Nat) : allN (run e false) 950 25 = true := by kernel_rfl
theorem r_false_975 (e : Nat) : allN (run e false) 975 25 = true := by kernel_rfl
end cutterLimits
end Go.Proofs.YtpccllhgbbpocaaDoor
