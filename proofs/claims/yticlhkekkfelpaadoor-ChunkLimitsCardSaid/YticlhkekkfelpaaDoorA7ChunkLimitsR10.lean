/- A part of the proof: an interpreter of the model's own code on partly known states, and that what it answers is what the program answers. No condition of its own. -/
import Derived.Test.YticlhkekkfelpaaDoorA7ChunkLimitsO
set_option maxRecDepth 100000
set_option linter.unusedVariables false
namespace Go.Proofs.YticlhkekkfelpaaDoor.chunkLimits
open Go Go.AX Go.Proofs Go.Proofs.YticlhkekkfelpaaDoor
theorem r160 (e6 : Nat) : allN (runI e6) 160 16 = true := by kernel_rfl
theorem r480 (e6 : Nat) : allN (runI e6) 480 16 = true := by kernel_rfl
theorem r800 (e6 : Nat) : allN (runI e6) 800 16 = true := by kernel_rfl
theorem r1120 (e6 : Nat) : allN (runI e6) 1120 16 = true := by kernel_rfl
theorem r1440 (e6 : Nat) : allN (runI e6) 1440 16 = true := by kernel_rfl
end Go.Proofs.YticlhkekkfelpaaDoor.chunkLimits
