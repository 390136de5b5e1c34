/- A part of the proof: an interpreter of the model's own code on partly known states, and that what it answers is what the program answers. No condition of its own. -/
import Derived.Test.YticlhkekkfelpaaDoorA7RouteLongestO
set_option maxRecDepth 100000
set_option linter.unusedVariables false
namespace Go.Proofs.YticlhkekkfelpaaDoor.routeLongest
open Go Go.AX Go.Proofs Go.Proofs.YticlhkekkfelpaaDoor
theorem r60 : allN (runI ) 60 5 = true := by kernel_rfl
theorem r140 : allN (runI ) 140 5 = true := by kernel_rfl
theorem r220 : allN (runI ) 220 5 = true := by kernel_rfl
theorem r300 : allN (runI ) 300 5 = true := by kernel_rfl
theorem r380 : allN (runI ) 380 5 = true := by kernel_rfl
theorem r460 : allN (runI ) 460 5 = true := by kernel_rfl
theorem r540 : allN (runI ) 540 5 = true := by kernel_rfl
theorem r620 : allN (runI ) 620 5 = true := by kernel_rfl
theorem r700 : allN (runI ) 700 5 = true := by kernel_rfl
theorem r780 : allN (runI ) 780 5 = true := by kernel_rfl
theorem r860 : allN (runI ) 860 5 = true := by kernel_rfl
theorem r940 : allN (runI ) 940 5 = true := by kernel_rfl
end Go.Proofs.YticlhkekkfelpaaDoor.routeLongest
