/- A part of the proof: an interpreter of the model's own code on partly known states, and that what it answers is what the program answers. No condition of its own. -/
import Derived.Test.YticlhkekkfelpaaDoorA7ChunkLimitsO
set_option maxRecDepth 100000
set_option linter.unusedVariables false
namespace Go.Proofs.YticlhkekkfelpaaDoor.chunkLimits
open Go Go.AX Go.Proofs Go.Proofs.YticlhkekkfelpaaDoor
theorem r224 (e6 : Nat) : allN (runI e6) 224 16 = true := by kernel_rfl
theorem r544 (e6 : Nat) : allN (runI e6) 544 16 = true := by kernel_rfl
theorem r864 (e6 : Nat) : allN (runI e6) 864 16 = true := by kernel_rfl
theorem r1184 (e6 : Nat) : allN (runI e6) 1184 16 = true := by kernel_rfl
end Go.Proofs.YticlhkekkfelpaaDoor.chunkLimits
