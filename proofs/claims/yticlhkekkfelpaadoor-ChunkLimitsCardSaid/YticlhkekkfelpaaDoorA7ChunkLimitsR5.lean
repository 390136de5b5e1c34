/- A part of the proof: an interpreter of the model's own code on partly known states, and that what it answers is what the program answers. No condition of its own. -/
import Derived.Test.YticlhkekkfelpaaDoorA7ChunkLimitsO
set_option maxRecDepth 100000
set_option linter.unusedVariables false
namespace Go.Proofs.YticlhkekkfelpaaDoor.chunkLimits
open Go Go.AX Go.Proofs Go.Proofs.YticlhkekkfelpaaDoor
theorem r80 (e6 : Nat) : allN (runI e6) 80 16 = true := by kernel_rfl
theorem r400 (e6 : Nat) : allN (runI e6) 400 16 = true := by kernel_rfl
theorem r720 (e6 : Nat) : allN (runI e6) 720 16 = true := by kernel_rfl
theorem r1040 (e6 : Nat) : allN (runI e6) 1040 16 = true := by kernel_rfl
theorem r1360 (e6 : Nat) : allN (runI e6) 1360 16 = true := by kernel_rfl
end Go.Proofs.YticlhkekkfelpaaDoor.chunkLimits
