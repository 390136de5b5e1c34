/- A part of the proof: an interpreter of the model's own code on partly known states, and that what it answers is what the program answers. No condition of its own. -/
import Derived.Test.YtgimfcnobfelbaaL1LaneGrammarO
set_option maxRecDepth 100000
set_option linter.unusedVariables false
set_option linter.unusedSimpArgs false
set_option maxHeartbeats 4000000
namespace Go.Proofs.Ytgimfcnobfelbaa.laneGrammar
open Go Go.AX Go.Proofs Go.Proofs.Ytgimfcnobfelbaa
theorem rl20 : allN rnA 20 4 = true := by kernel_rfl
theorem rl52 : allN rnA 52 4 = true := by kernel_rfl
theorem rl84 : allN rnA 84 4 = true := by kernel_rfl
theorem rl116 : allN rnA 116 4 = true := by kernel_rfl
theorem rl148 : allN rnA 148 4 = true := by kernel_rfl
end Go.Proofs.Ytgimfcnobfelbaa.laneGrammar
