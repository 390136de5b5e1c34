/- A part of the proof: an interpreter of the model's own code on partly known states, and that what it answers is what the program answers. No condition of its own. -/
import Derived.Test.YticlhkekkfelpaaDoorA7RouteLongestO
set_option maxRecDepth 100000
set_option linter.unusedVariables false
namespace Go.Proofs.YticlhkekkfelpaaDoor.routeLongest
open Go Go.AX Go.Proofs Go.Proofs.YticlhkekkfelpaaDoor
theorem r45 : allN (runI ) 45 5 = true := by kernel_rfl
theorem r125 : allN (runI ) 125 5 = true := by kernel_rfl
theorem r205 : allN (runI ) 205 5 = true := by kernel_rfl
theorem r285 : allN (runI ) 285 5 = true := by kernel_rfl
theorem r365 : allN (runI ) 365 5 = true := by kernel_rfl
theorem r445 : allN (runI ) 445 5 = true := by kernel_rfl
theorem r525 : allN (runI ) 525 5 = true := by kernel_rfl
theorem r605 : allN (runI ) 605 5 = true := by kernel_rfl
theorem r685 : allN (runI ) 685 5 = true := by kernel_rfl
theorem r765 : allN (runI ) 765 5 = true := by kernel_rfl
theorem r845 : allN (runI ) 845 5 = true := by kernel_rfl
theorem r925 : allN (runI ) 925 5 = true := by kernel_rfl
theorem r1005 : allN (runI ) 1005 3 = true := by kernel_rfl
end Go.Proofs.YticlhkekkfelpaaDoor.routeLongest
