/- A part of the proof: an interpreter of the model's own code on partly known states, and that what it answers is what the program answers. No condition of its own. -/
import Derived.Test.YticlhkekkfelpaaDoorA7ChunkLimitsO
set_option maxRecDepth 100000
set_option linter.unusedVariables false
namespace Go.Proofs.YticlhkekkfelpaaDoor.chunkLimits
open Go Go.AX Go.Proofs Go.Proofs.YticlhkekkfelpaaDoor
theorem r240 (e6 : Nat) : allN (runI e6) 240 16 = true := by kernel_rfl
theorem r560 (e6 : Nat) : allN (runI e6) 560 16 = true := by kernel_rfl
theorem r880 (e6 : Nat) : allN (runI e6) 880 16 = true := by kernel_rfl
theorem r1200 (e6 : Nat) : allN (runI e6) 1200 16 = true := by kernel_rfl
end Go.Proofs.YticlhkekkfelpaaDoor.chunkLimits
