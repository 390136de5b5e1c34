/- A part of the proof: an interpreter of the model's own code on partly known states, and that what it answers is what the program answers. No condition of its own. -/
import Derived.Test.YticlhkekkfelpaaDoorA7ChunkLimitsO
set_option maxRecDepth 100000
set_option linter.unusedVariables false
namespace Go.Proofs.YticlhkekkfelpaaDoor.chunkLimits
open Go Go.AX Go.Proofs Go.Proofs.YticlhkekkfelpaaDoor
theorem r96 (e6 : Nat) : allN (runI e6) 96 16 = true := by kernel_rfl
theorem r416 (e6 : Nat) : allN (runI e6) 416 16 = true := by kernel_rfl
theorem r736 (e6 : Nat) : allN (runI e6) 736 16 = true := by kernel_rfl
theorem r1056 (e6 : Nat) : allN (runI e6) 1056 16 = true := by kernel_rfl
theorem r1376 (e6 : Nat) : allN (runI e6) 1376 16 = true := by kernel_rfl
end Go.Proofs.YticlhkekkfelpaaDoor.chunkLimits
