/- A part of the proof: an interpreter of the model's own code on partly known states, and that what it answers is what the program answers. No condition of its own. -/
import Derived.Test.YticlhkekkfelpaaDoorA7RouteLongestO
set_option maxRecDepth 100000
set_option linter.unusedVariables false
namespace Go.Proofs.YticlhkekkfelpaaDoor.routeLongest
open Go Go.AX Go.Proofs Go.Proofs.YticlhkekkfelpaaDoor
theorem r75 : allN (runI ) 75 5 = true := by kernel_rfl
theorem r155 : allN (runI ) 155 5 = true := by kernel_rfl
theorem r235 : allN (runI ) 235 5 = true := by kernel_rfl
theorem r315 : allN (runI ) 315 5 = true := by kernel_rfl
theorem r395 : allN (runI ) 395 5 = true := by kernel_rfl
theorem r475 : allN (runI ) 475 5 = true := by kernel_rfl
theorem r555 : allN (runI ) 555 5 = true := by kernel_rfl
theorem r635 : allN (runI ) 635 5 = true := by kernel_rfl
theorem r715 : allN (runI ) 715 5 = true := by kernel_rfl
theorem r795 : allN (runI ) 795 5 = true := by kernel_rfl
theorem r875 : allN (runI ) 875 5 = true := by kernel_rfl
theorem r955 : allN (runI ) 955 5 = true := by kernel_rfl
end Go.Proofs.YticlhkekkfelpaaDoor.routeLongest
