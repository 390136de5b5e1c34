/- A part of the proof: an interpreter of the model's own code on partly known states, and that what it answers is what the program answers. No condition of its own. -/
import Derived.Test.YticlhkekkfelpaaDoorA7ChunkLimitsO
set_option maxRecDepth 100000
set_option linter.unusedVariables false
namespace Go.Proofs.YticlhkekkfelpaaDoor.chunkLimits
open Go Go.AX Go.Proofs Go.Proofs.YticlhkekkfelpaaDoor
theorem r208 (e6 : Nat) : allN (runI e6) 208 16 = true := by kernel_rfl
theorem r528 (e6 : Nat) : allN (runI e6) 528 16 = true := by kernel_rfl
theorem r848 (e6 : Nat) : allN (runI e6) 848 16 = true := by kernel_rfl
theorem r1168 (e6 : Nat) : allN (runI e6) 1168 16 = true := by kernel_rfl
theorem r1488 (e6 : Nat) : allN (runI e6) 1488 12 = true := by kernel_rfl
end Go.Proofs.YticlhkekkfelpaaDoor.chunkLimits
