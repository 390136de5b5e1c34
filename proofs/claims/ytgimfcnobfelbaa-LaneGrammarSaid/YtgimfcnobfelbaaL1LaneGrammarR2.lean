/- A part of the proof: an interpreter of the model's own code on partly known states, and that what it answers is what the program answers. No condition of its own. -/
import Derived.Test.YtgimfcnobfelbaaL1LaneGrammarO
set_option maxRecDepth 100000
set_option linter.unusedVariables false
set_option linter.unusedSimpArgs false
set_option maxHeartbeats 4000000
namespace Go.Proofs.Ytgimfcnobfelbaa.laneGrammar
open Go Go.AX Go.Proofs Go.Proofs.Ytgimfcnobfelbaa
theorem rl8 : allN rnA 8 4 = true := by kernel_rfl
theorem rl40 : allN rnA 40 4 = true := by kernel_rfl
theorem rl72 : allN rnA 72 4 = true := by kernel_rfl
theorem rl104 : allN rnA 104 4 = true := by kernel_rfl
theorem rl136 : allN rnA 136 4 = true := by kernel_rfl
end Go.Proofs.Ytgimfcnobfelbaa.laneGrammar
