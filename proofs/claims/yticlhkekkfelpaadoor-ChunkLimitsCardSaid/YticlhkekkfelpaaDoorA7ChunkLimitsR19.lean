/- A part of the proof: an interpreter of the model's own code on partly known states, and that what it answers is what the program answers. No condition of its own. -/
import Derived.Test.YticlhkekkfelpaaDoorA7ChunkLimitsO
set_option maxRecDepth 100000
set_option linter.unusedVariables false
namespace Go.Proofs.YticlhkekkfelpaaDoor.chunkLimits
open Go Go.AX Go.Proofs Go.Proofs.YticlhkekkfelpaaDoor
theorem r304 (e6 : Nat) : allN (runI e6) 304 16 = true := by kernel_rfl
theorem r624 (e6 : Nat) : allN (runI e6) 624 16 = true := by kernel_rfl
theorem r944 (e6 : Nat) : allN (runI e6) 944 16 = true := by kernel_rfl
theorem r1264 (e6 : Nat) : allN (runI e6) 1264 16 = true := by kernel_rfl
end Go.Proofs.YticlhkekkfelpaaDoor.chunkLimits
