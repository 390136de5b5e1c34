/- A part of the proof: an interpreter of the model's own code on partly known states, and that what it answers is what the program answers. No condition of its own. -/
import Derived.Test.YticlhkekkfelpaaDoorA7ChunkLimitsO
set_option maxRecDepth 100000
set_option linter.unusedVariables false
namespace Go.Proofs.YticlhkekkfelpaaDoor.chunkLimits
open Go Go.AX Go.Proofs Go.Proofs.YticlhkekkfelpaaDoor
theorem r144 (e6 : Nat) : allN (runI e6) 144 16 = true := by kernel_rfl
theorem r464 (e6 : Nat) : allN (runI e6) 464 16 = true := by kernel_rfl
theorem r784 (e6 : Nat) : allN (runI e6) 784 16 = true := by kernel_rfl
theorem r1104 (e6 : Nat) : allN (runI e6) 1104 16 = true := by kernel_rfl
theorem r1424 (e6 : Nat) : allN (runI e6) 1424 16 = true := by kernel_rfl
end Go.Proofs.YticlhkekkfelpaaDoor.chunkLimits
