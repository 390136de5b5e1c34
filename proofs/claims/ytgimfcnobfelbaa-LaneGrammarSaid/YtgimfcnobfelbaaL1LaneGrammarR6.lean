/- A part of the proof: an interpreter of the model's own code on partly known states, and that what it answers is what the program answers. No condition of its own. -/
import Derived.Test.YtgimfcnobfelbaaL1LaneGrammarO
set_option maxRecDepth 100000
set_option linter.unusedVariables false
set_option linter.unusedSimpArgs false
set_option maxHeartbeats 4000000
namespace Go.Proofs.Ytgimfcnobfelbaa.laneGrammar
open Go Go.AX Go.Proofs Go.Proofs.Ytgimfcnobfelbaa
theorem rl24 : allN rnA 24 4 = true := by kernel_rfl
theorem rl56 : allN rnA 56 4 = true := by kernel_rfl
theorem rl88 : allN rnA 88 4 = true := by kernel_rfl
theorem rl120 : allN rnA 120 4 = true := by kernel_rfl
theorem rl152 : allN rnA 152 4 = true := by kernel_rfl
end Go.Proofs.Ytgimfcnobfelbaa.laneGrammar
