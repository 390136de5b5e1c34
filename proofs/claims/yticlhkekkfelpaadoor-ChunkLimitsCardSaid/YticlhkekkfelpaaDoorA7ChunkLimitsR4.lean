/- A part of the proof: an interpreter of the model's own code on partly known states, and that what it answers is what the program answers. No condition of its own. -/
import Derived.Test.YticlhkekkfelpaaDoorA7ChunkLimitsO
set_option maxRecDepth 100000
set_option linter.unusedVariables false
namespace Go.Proofs.YticlhkekkfelpaaDoor.chunkLimits
open Go Go.AX Go.Proofs Go.Proofs.YticlhkekkfelpaaDoor
theorem r64 (e6 : Nat) : allN (runI e6) 64 16 = true := by kernel_rfl
theorem r384 (e6 : Nat) : allN (runI e6) 384 16 = true := by kernel_rfl
theorem r704 (e6 : Nat) : allN (runI e6) 704 16 = true := by kernel_rfl
theorem r1024 (e6 : Nat) : allN (runI e6) 1024 16 = true := by kernel_rfl
theorem r1344 (e6 : Nat) : allN (runI e6) 1344 16 = true := by kernel_rfl
end Go.Proofs.YticlhkekkfelpaaDoor.chunkLimits
