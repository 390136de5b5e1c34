/- A part of the proof: an interpreter of the model's own code on partly known states, and that what it answers is what the program answers. No condition of its own. -/
import Derived.Test.YticlhkekkfelpaaDoorA7RouteLongestO
set_option maxRecDepth 100000
set_option linter.unusedVariables false
namespace Go.Proofs.YticlhkekkfelpaaDoor.routeLongest
open Go Go.AX Go.Proofs Go.Proofs.YticlhkekkfelpaaDoor
theorem r65 : allN (runI ) 65 5 = true := by kernel_rfl
theorem r145 : allN (runI ) 145 5 = true := by kernel_rfl
theorem r225 : allN (runI ) 225 5 = true := by kernel_rfl
theorem r305 : allN (runI ) 305 5 = true := by kernel_rfl
theorem r385 : allN (runI ) 385 5 = true := by kernel_rfl
theorem r465 : allN (runI ) 465 5 = true := by kernel_rfl
theorem r545 : allN (runI ) 545 5 = true := by kernel_rfl
theorem r625 : allN (runI ) 625 5 = true := by kernel_rfl
theorem r705 : allN (runI ) 705 5 = true := by kernel_rfl
theorem r785 : allN (runI ) 785 5 = true := by kernel_rfl
theorem r865 : allN (runI ) 865 5 = true := by kernel_rfl
theorem r945 : allN (runI ) 945 5 = true := by kernel_rfl
end Go.Proofs.YticlhkekkfelpaaDoor.routeLongest
