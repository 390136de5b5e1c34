/- A part of the proof: an interpreter of the model's own code on partly known states, and that what it answers is what the program answers. No condition of its own. -/
import Derived.Test.YticlhkekkfelpaaDoorA7ChunkLimitsO
set_option maxRecDepth 100000
set_option linter.unusedVariables false
namespace Go.Proofs.YticlhkekkfelpaaDoor.chunkLimits
open Go Go.AX Go.Proofs Go.Proofs.YticlhkekkfelpaaDoor
theorem r16 (e6 : Nat) : allN (runI e6) 16 16 = true := by kernel_rfl
theorem r336 (e6 : Nat) : allN (runI e6) 336 16 = true := by kernel_rfl
theorem r656 (e6 : Nat) : allN (runI e6) 656 16 = true := by kernel_rfl
theorem r976 (e6 : Nat) : allN (runI e6) 976 16 = true := by kernel_rfl
theorem r1296 (e6 : Nat) : allN (runI e6) 1296 16 = true := by kernel_rfl
end Go.Proofs.YticlhkekkfelpaaDoor.chunkLimits
