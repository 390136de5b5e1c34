/- A part of the proof: an interpreter of the model's own code on partly known states, and that what it answers is what the program answers. No condition of its own. -/
import Derived.Test.YtgimfcnobfelbaaL1LaneGrammarO
set_option maxRecDepth 100000
set_option linter.unusedVariables false
set_option linter.unusedSimpArgs false
set_option maxHeartbeats 4000000
namespace Go.Proofs.Ytgimfcnobfelbaa.laneGrammar
open Go Go.AX Go.Proofs Go.Proofs.Ytgimfcnobfelbaa
theorem rl4 : allN rnA 4 4 = true := by kernel_rfl
theorem rl36 : allN rnA 36 4 = true := by kernel_rfl
theorem rl68 : allN rnA 68 4 = true := by kernel_rfl
theorem rl100 : allN rnA 100 4 = true := by kernel_rfl
theorem rl132 : allN rnA 132 4 = true := by kernel_rfl
end Go.Proofs.Ytgimfcnobfelbaa.laneGrammar
