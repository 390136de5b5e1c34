/- A part of the proof: an interpreter of the model's own code on partly known states, and that what it answers is what the program answers. No condition of its own. -/
import Derived.Test.YticlhkekkfelpaaDoorA7ChunkLimitsO
set_option maxRecDepth 100000
set_option linter.unusedVariables false
namespace Go.Proofs.YticlhkekkfelpaaDoor.chunkLimits
open Go Go.AX Go.Proofs Go.Proofs.YticlhkekkfelpaaDoor
theorem r48 (e6 : Nat) : allN (runI e6) 48 16 = true := by kernel_rfl
theorem r368 (e6 : Nat) : allN (runI e6) 368 16 = true := by kernel_rfl
theorem r688 (e6 : Nat) : allN (runI e6) 688 16 = true := by kernel_rfl
theorem r1008 (e6 : Nat) : allN (runI e6) 1008 16 = true := by kernel_rfl
theorem r1328 (e6 : Nat) : allN (runI e6) 1328 16 = true := by kernel_rfl
end Go.Proofs.YticlhkekkfelpaaDoor.chunkLimits
