/- A part of the proof: an interpreter of the model's own code on partly known states, and that what it answers is what the program answers. No condition of its own. -/
import Derived.Test.YticlhkekkfelpaaDoorA7ChunkLimitsO
set_option maxRecDepth 100000
set_option linter.unusedVariables false
namespace Go.Proofs.YticlhkekkfelpaaDoor.chunkLimits
open Go Go.AX Go.Proofs Go.Proofs.YticlhkekkfelpaaDoor
theorem r128 (e6 : Nat) : allN (runI e6) 128 16 = true := by kernel_rfl
theorem r448 (e6 : Nat) : allN (runI e6) 448 16 = true := by kernel_rfl
theorem r768 (e6 : Nat) : allN (runI e6) 768 16 = true := by kernel_rfl
theorem r1088 (e6 : Nat) : allN (runI e6) 1088 16 = true := by kernel_rfl
theorem r1408 (e6 : Nat) : allN (runI e6) 1408 16 = true := by kernel_rfl
end Go.Proofs.YticlhkekkfelpaaDoor.chunkLimits
