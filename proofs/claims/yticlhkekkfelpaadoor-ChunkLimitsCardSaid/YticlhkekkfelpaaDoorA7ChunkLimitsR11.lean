/- A part of the proof: an interpreter of the model's own code on partly known states, and that what it answers is what the program answers. No condition of its own. -/
import Derived.Test.YticlhkekkfelpaaDoorA7ChunkLimitsO
set_option maxRecDepth 100000
set_option linter.unusedVariables false
namespace Go.Proofs.YticlhkekkfelpaaDoor.chunkLimits
open Go Go.AX Go.Proofs Go.Proofs.YticlhkekkfelpaaDoor
theorem r176 (e6 : Nat) : allN (runI e6) 176 16 = true := by kernel_rfl
theorem r496 (e6 : Nat) : allN (runI e6) 496 16 = true := by kernel_rfl
theorem r816 (e6 : Nat) : allN (runI e6) 816 16 = true := by kernel_rfl
theorem r1136 (e6 : Nat) : allN (runI e6) 1136 16 = true := by kernel_rfl
theorem r1456 (e6 : Nat) : allN (runI e6) 1456 16 = true := by kernel_rfl
end Go.Proofs.YticlhkekkfelpaaDoor.chunkLimits
