/- A part of the proof: an interpreter of the model's own code on partly known states, and that what it answers is what the program answers. No condition of its own. -/
import Derived.Test.YtgimfcnobfelbaaL1LaneGrammarO
set_option maxRecDepth 100000
set_option linter.unusedVariables false
set_option linter.unusedSimpArgs false
set_option maxHeartbeats 4000000
namespace Go.Proofs.Ytgimfcnobfelbaa.laneGrammar
open Go Go.AX Go.Proofs Go.Proofs.Ytgimfcnobfelbaa
theorem rl0 : allN rnA 0 4 = true := by kernel_rfl
theorem rl32 : allN rnA 32 4 = true := by kernel_rfl
theorem rl64 : allN rnA 64 4 = true := by kernel_rfl
theorem rl96 : allN rnA 96 4 = true := by kernel_rfl
theorem rl128 : allN rnA 128 4 = true := by kernel_rfl
theorem rl160 : allN rnA 160 2 = true := by kernel_rfl
end Go.Proofs.Ytgimfcnobfelbaa.laneGrammar
