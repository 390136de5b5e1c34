/- A part of the proof: an interpreter of the model's own code on partly known states, and that what it answers is what the program answers. No condition of its own. -/
import Derived.Test.YticlhkekkfelpaaDoorA7ChunkLimitsO
set_option maxRecDepth 100000
set_option linter.unusedVariables false
namespace Go.Proofs.YticlhkekkfelpaaDoor.chunkLimits
open Go Go.AX Go.Proofs Go.Proofs.YticlhkekkfelpaaDoor
theorem r32 (e6 : Nat) : allN (runI e6) 32 16 = true := by kernel_rfl
theorem r352 (e6 : Nat) : allN (runI e6) 352 16 = true := by kernel_rfl
theorem r672 (e6 : Nat) : allN (runI e6) 672 16 = true := by kernel_rfl
theorem r992 (e6 : Nat) : allN (runI e6) 992 16 = true := by kernel_rfl
theorem r1312 (e6 : Nat) : allN (runI e6) 1312 16 = true := by kernel_rfl
end Go.Proofs.YticlhkekkfelpaaDoor.chunkLimits
