/- A part of the proof: an interpreter of the model's own code on partly known states, and that what it answers is what the program answers. No condition of its own. -/
import Derived.Test.YtabnmohghnnjaaaGreatDoorN1AnswerBodyO3
set_option maxRecDepth 100000
set_option linter.unusedVariables false
set_option linter.unusedSimpArgs false
set_option maxHeartbeats 4000000
namespace Go.Proofs.YtabnmohghnnjaaaGreatDoor.answerBody
open Go Go.AX Go.Proofs Go.Proofs.YtabnmohghnnjaaaGreatDoor
theorem ht0_1 : allN (rnHH 0 true 1) 2 24 = true := by kernel_rfl
theorem ht0_5 : allN (rnHH 0 true 5) 6 20 = true := by kernel_rfl
theorem ht0_8 : allN (rnHH 0 true 8) 9 17 = true := by kernel_rfl
theorem btt0_22 : allN (rnHB 0 true true) 22 2 = true := by kernel_rfl
theorem btf0_24 : allN (rnHB 0 true false) 24 2 = true := by kernel_rfl
theorem btt1_24 : allN (rnHB 1 true true) 24 2 = true := by kernel_rfl
theorem ht2_9 : allN (rnHH 2 true 9) 10 16 = true := by kernel_rfl
theorem btf2_0 : allN (rnHB 2 true false) 0 2 = true := by kernel_rfl
theorem btt3_0 : allN (rnHB 3 true true) 0 2 = true := by kernel_rfl
theorem btf3_2 : allN (rnHB 3 true false) 2 2 = true := by kernel_rfl
theorem ht2_10 : allN (rnHH 2 true 10) 11 15 = true := by kernel_rfl
theorem ht2_14 : allN (rnHH 2 true 14) 15 11 = true := by kernel_rfl
theorem bft0_25 : rnHB 0 false true 25 = true := by kernel_rfl
theorem bft3_25 : rnHB 3 false true 25 = true := by kernel_rfl
theorem ht0_22 : allN (rnHH 0 true 22) 23 3 = true := by kernel_rfl
theorem c_8 : allN (chI 8) 9 17 = true := by kernel_rfl
theorem c_14 : allN (chI 14) 15 11 = true := by kernel_rfl
theorem hf0_1 : allN (rnHH 0 false 1) 2 1 = true := by kernel_rfl
theorem hf0_14 : allN (rnHH 0 false 14) 15 1 = true := by kernel_rfl
theorem hf1_2 : allN (rnHH 1 false 2) 3 1 = true := by kernel_rfl
theorem hf1_16 : allN (rnHH 1 false 16) 17 1 = true := by kernel_rfl
theorem hf2_4 : allN (rnHH 2 false 4) 5 1 = true := by kernel_rfl
theorem hf2_18 : allN (rnHH 2 false 18) 19 1 = true := by kernel_rfl
theorem hf3_6 : allN (rnHH 3 false 6) 7 1 = true := by kernel_rfl
theorem hf3_20 : allN (rnHH 3 false 20) 21 1 = true := by kernel_rfl
end Go.Proofs.YtabnmohghnnjaaaGreatDoor.answerBody
