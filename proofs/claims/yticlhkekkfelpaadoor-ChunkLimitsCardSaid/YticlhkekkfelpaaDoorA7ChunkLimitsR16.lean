/- A part of the proof: an interpreter of the model's own code on partly known states, and that what it answers is what the program answers. No condition of its own. -/
import Derived.Test.YticlhkekkfelpaaDoorA7ChunkLimitsO
set_option maxRecDepth 100000
set_option linter.unusedVariables false
namespace Go.Proofs.YticlhkekkfelpaaDoor.chunkLimits
open Go Go.AX Go.Proofs Go.Proofs.YticlhkekkfelpaaDoor
theorem r256 (e6 : Nat) : allN (runI e6) 256 16 = true := by kernel_rfl
theorem r576 (e6 : Nat) : allN (runI e6) 576 16 = true := by kernel_rfl
theorem r896 (e6 : Nat) : allN (runI e6) 896 16 = true := by kernel_rfl
theorem r1216 (e6 : Nat) : allN (runI e6) 1216 16 = true := by kernel_rfl
end Go.Proofs.YticlhkekkfelpaaDoor.chunkLimits
