/- A part of the proof: an interpreter of the model's own code on partly known states, and that what it answers is what the program answers. No condition of its own. -/
import Derived.Test.YticlhkekkfelpaaDoorA7ChunkLimitsO
set_option maxRecDepth 100000
set_option linter.unusedVariables false
namespace Go.Proofs.YticlhkekkfelpaaDoor.chunkLimits
open Go Go.AX Go.Proofs Go.Proofs.YticlhkekkfelpaaDoor
theorem r192 (e6 : Nat) : allN (runI e6) 192 16 = true := by kernel_rfl
theorem r512 (e6 : Nat) : allN (runI e6) 512 16 = true := by kernel_rfl
theorem r832 (e6 : Nat) : allN (runI e6) 832 16 = true := by kernel_rfl
theorem r1152 (e6 : Nat) : allN (runI e6) 1152 16 = true := by kernel_rfl
theorem r1472 (e6 : Nat) : allN (runI e6) 1472 16 = true := by kernel_rfl
end Go.Proofs.YticlhkekkfelpaaDoor.chunkLimits
