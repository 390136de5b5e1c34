/- A part of the proof: an interpreter of the model's own code on partly known states, and that what it answers is what the program answers. No condition of its own. -/
import Derived.Test.YticlhkekkfelpaaDoorA7ChunkLimitsO
set_option maxRecDepth 100000
set_option linter.unusedVariables false
namespace Go.Proofs.YticlhkekkfelpaaDoor.chunkLimits
open Go Go.AX Go.Proofs Go.Proofs.YticlhkekkfelpaaDoor
theorem r112 (e6 : Nat) : allN (runI e6) 112 16 = true := by kernel_rfl
theorem r432 (e6 : Nat) : allN (runI e6) 432 16 = true := by kernel_rfl
theorem r752 (e6 : Nat) : allN (runI e6) 752 16 = true := by kernel_rfl
theorem r1072 (e6 : Nat) : allN (runI e6) 1072 16 = true := by kernel_rfl
theorem r1392 (e6 : Nat) : allN (runI e6) 1392 16 = true := by kernel_rfl
end Go.Proofs.YticlhkekkfelpaaDoor.chunkLimits
