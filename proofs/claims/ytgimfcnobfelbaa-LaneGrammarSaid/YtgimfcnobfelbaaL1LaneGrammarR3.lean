/- A part of the proof: an interpreter of the model's own code on partly known states, and that what it answers is what the program answers. No condition of its own. -/
import Derived.Test.YtgimfcnobfelbaaL1LaneGrammarO
set_option maxRecDepth 100000
set_option linter.unusedVariables false
set_option linter.unusedSimpArgs false
set_option maxHeartbeats 4000000
namespace Go.Proofs.Ytgimfcnobfelbaa.laneGrammar
open Go Go.AX Go.Proofs Go.Proofs.Ytgimfcnobfelbaa
theorem rl12 : allN rnA 12 4 = true := by kernel_rfl
theorem rl44 : allN rnA 44 4 = true := by kernel_rfl
theorem rl76 : allN rnA 76 4 = true := by kernel_rfl
theorem rl108 : allN rnA 108 4 = true := by kernel_rfl
theorem rl140 : allN rnA 140 4 = true := by kernel_rfl
end Go.Proofs.Ytgimfcnobfelbaa.laneGrammar
