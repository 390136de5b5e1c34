/- A part of the proof: an interpreter of the model's own code on partly known states, and that what it answers is what the program answers. No condition of its own. -/
import Derived.Test.YticlhkekkfelpaaDoorA7ChunkLimitsO
set_option maxRecDepth 100000
set_option linter.unusedVariables false
namespace Go.Proofs.YticlhkekkfelpaaDoor.chunkLimits
open Go Go.AX Go.Proofs Go.Proofs.YticlhkekkfelpaaDoor
theorem r272 (e6 : Nat) : allN (runI e6) 272 16 = true := by kernel_rfl
theorem r592 (e6 : Nat) : allN (runI e6) 592 16 = true := by kernel_rfl
theorem r912 (e6 : Nat) : allN (runI e6) 912 16 = true := by kernel_rfl
theorem r1232 (e6 : Nat) : allN (runI e6) 1232 16 = true := by kernel_rfl
end Go.Proofs.YticlhkekkfelpaaDoor.chunkLimits
