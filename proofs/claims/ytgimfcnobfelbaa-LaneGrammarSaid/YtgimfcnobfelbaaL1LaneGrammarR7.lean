/- A part of the proof: an interpreter of the model's own code on partly known states, and that what it answers is what the program answers. No condition of its own. -/
import Derived.Test.YtgimfcnobfelbaaL1LaneGrammarO
set_option maxRecDepth 100000
set_option linter.unusedVariables false
set_option linter.unusedSimpArgs false
set_option maxHeartbeats 4000000
namespace Go.Proofs.Ytgimfcnobfelbaa.laneGrammar
open Go Go.AX Go.Proofs Go.Proofs.Ytgimfcnobfelbaa
theorem rl28 : allN rnA 28 4 = true := by kernel_rfl
theorem rl60 : allN rnA 60 4 = true := by kernel_rfl
theorem rl92 : allN rnA 92 4 = true := by kernel_rfl
theorem rl124 : allN rnA 124 4 = true := by kernel_rfl
theorem rl156 : allN rnA 156 4 = true := by kernel_rfl
end Go.Proofs.Ytgimfcnobfelbaa.laneGrammar
