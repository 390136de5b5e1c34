/- A part of the proof: an interpreter of the model's own code on partly known states, and that what it answers is what the program answers. No condition of its own. -/
import Derived.Test.YticlhkekkfelpaaDoorA7RouteLongestO
set_option maxRecDepth 100000
set_option linter.unusedVariables false
namespace Go.Proofs.YticlhkekkfelpaaDoor.routeLongest
open Go Go.AX Go.Proofs Go.Proofs.YticlhkekkfelpaaDoor
theorem r0 : allN (runI ) 0 5 = true := by kernel_rfl
theorem r80 : allN (runI ) 80 5 = true := by kernel_rfl
theorem r160 : allN (runI ) 160 5 = true := by kernel_rfl
theorem r240 : allN (runI ) 240 5 = true := by kernel_rfl
theorem r320 : allN (runI ) 320 5 = true := by kernel_rfl
theorem r400 : allN (runI ) 400 5 = true := by kernel_rfl
theorem r480 : allN (runI ) 480 5 = true := by kernel_rfl
theorem r560 : allN (runI ) 560 5 = true := by kernel_rfl
theorem r640 : allN (runI ) 640 5 = true := by kernel_rfl
theorem r720 : allN (runI ) 720 5 = true := by kernel_rfl
theorem r800 : allN (runI ) 800 5 = true := by kernel_rfl
theorem r880 : allN (runI ) 880 5 = true := by kernel_rfl
theorem r960 : allN (runI ) 960 5 = true := by kernel_rfl
end Go.Proofs.YticlhkekkfelpaaDoor.routeLongest
