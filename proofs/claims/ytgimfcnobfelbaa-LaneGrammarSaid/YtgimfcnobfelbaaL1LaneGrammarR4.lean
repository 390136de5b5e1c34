/- A part of the proof: an interpreter of the model's own code on partly known states, and that what it answers is what the program answers. No condition of its own. -/
import Derived.Test.YtgimfcnobfelbaaL1LaneGrammarO
set_option maxRecDepth 100000
set_option linter.unusedVariables false
set_option linter.unusedSimpArgs false
set_option maxHeartbeats 4000000
namespace Go.Proofs.Ytgimfcnobfelbaa.laneGrammar
open Go Go.AX Go.Proofs Go.Proofs.Ytgimfcnobfelbaa
theorem rl16 : allN rnA 16 4 = true := by kernel_rfl
theorem rl48 : allN rnA 48 4 = true := by kernel_rfl
theorem rl80 : allN rnA 80 4 = true := by kernel_rfl
theorem rl112 : allN rnA 112 4 = true := by kernel_rfl
theorem rl144 : allN rnA 144 4 = true := by kernel_rfl
end Go.Proofs.Ytgimfcnobfelbaa.laneGrammar
