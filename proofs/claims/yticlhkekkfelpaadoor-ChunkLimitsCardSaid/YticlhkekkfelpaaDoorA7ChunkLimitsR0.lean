/- A part of the proof: an interpreter of the model's own code on partly known states, and that what it answers is what the program answers. No condition of its own. -/
import Derived.Test.YticlhkekkfelpaaDoorA7ChunkLimitsO
set_option maxRecDepth 100000
set_option linter.unusedVariables false
namespace Go.Proofs.YticlhkekkfelpaaDoor.chunkLimits
open Go Go.AX Go.Proofs Go.Proofs.YticlhkekkfelpaaDoor
theorem r0 (e6 : Nat) : allN (runI e6) 0 16 = true := by kernel_rfl
theorem r320 (e6 : Nat) : allN (runI e6) 320 16 = true := by kernel_rfl
theorem r640 (e6 : Nat) : allN (runI e6) 640 16 = true := by kernel_rfl
theorem r960 (e6 : Nat) : allN (runI e6) 960 16 = true := by kernel_rfl
theorem r1280 (e6 : Nat) : allN (runI e6) 1280 16 = true := by kernel_rfl
end Go.Proofs.YticlhkekkfelpaaDoor.chunkLimits
