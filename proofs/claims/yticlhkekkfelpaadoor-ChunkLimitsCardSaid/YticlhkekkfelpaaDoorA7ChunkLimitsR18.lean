/- A part of the proof: an interpreter of the model's own code on partly known states, and that what it answers is what the program answers. No condition of its own. -/
import Derived.Test.YticlhkekkfelpaaDoorA7ChunkLimitsO
set_option maxRecDepth 100000
set_option linter.unusedVariables false
namespace Go.Proofs.YticlhkekkfelpaaDoor.chunkLimits
open Go Go.AX Go.Proofs Go.Proofs.YticlhkekkfelpaaDoor
theorem r288 (e6 : Nat) : allN (runI e6) 288 16 = true := by kernel_rfl
theorem r608 (e6 : Nat) : allN (runI e6) 608 16 = true := by kernel_rfl
theorem r928 (e6 : Nat) : allN (runI e6) 928 16 = true := by kernel_rfl
theorem r1248 (e6 : Nat) : allN (runI e6) 1248 16 = true := by kernel_rfl
end Go.Proofs.YticlhkekkfelpaaDoor.chunkLimits
