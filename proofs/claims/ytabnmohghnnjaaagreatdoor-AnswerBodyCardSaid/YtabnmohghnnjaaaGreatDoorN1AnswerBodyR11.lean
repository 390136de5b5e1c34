/- A part of the proof: an interpreter of the model's own code on partly known states, and that what it answers is what the program answers. No condition of its own. -/
import Derived.Test.YtabnmohghnnjaaaGreatDoorN1AnswerBodyO3
set_option maxRecDepth 100000
set_option linter.unusedVariables false
set_option linter.unusedSimpArgs false
set_option maxHeartbeats 4000000
namespace Go.Proofs.YtabnmohghnnjaaaGreatDoor.answerBody
open Go Go.AX Go.Proofs Go.Proofs.YtabnmohghnnjaaaGreatDoor
theorem ht3_2 : allN (rnHH 3 true 2) 3 23 = true := by kernel_rfl
theorem ht3_4 : allN (rnHH 3 true 4) 5 21 = true := by kernel_rfl
theorem btt0_4 : allN (rnHB 0 true true) 4 2 = true := by kernel_rfl
theorem btt0_16 : allN (rnHB 0 true true) 16 2 = true := by kernel_rfl
theorem btf0_18 : allN (rnHB 0 true false) 18 2 = true := by kernel_rfl
theorem btt1_18 : allN (rnHB 1 true true) 18 2 = true := by kernel_rfl
theorem btf1_20 : allN (rnHB 1 true false) 20 2 = true := by kernel_rfl
theorem btt2_20 : allN (rnHB 2 true true) 20 2 = true := by kernel_rfl
theorem btf2_22 : allN (rnHB 2 true false) 22 2 = true := by kernel_rfl
theorem btt3_22 : allN (rnHB 3 true true) 22 2 = true := by kernel_rfl
theorem btf3_24 : allN (rnHB 3 true false) 24 2 = true := by kernel_rfl
theorem ht2_15 : allN (rnHH 2 true 15) 16 10 = true := by kernel_rfl
theorem ht2_16 : allN (rnHH 2 true 16) 17 9 = true := by kernel_rfl
theorem ht0_19 : allN (rnHH 0 true 19) 20 6 = true := by kernel_rfl
theorem ht2_21 : allN (rnHH 2 true 21) 22 4 = true := by kernel_rfl
theorem c_3 : allN (chI 3) 4 22 = true := by kernel_rfl
theorem c_10 : allN (chI 10) 11 15 = true := by kernel_rfl
theorem hf0_9 : allN (rnHH 0 false 9) 10 1 = true := by kernel_rfl
theorem hf0_22 : allN (rnHH 0 false 22) 23 1 = true := by kernel_rfl
theorem hf1_10 : allN (rnHH 1 false 10) 11 1 = true := by kernel_rfl
theorem hf1_24 : allN (rnHH 1 false 24) 25 1 = true := by kernel_rfl
theorem hf2_12 : allN (rnHH 2 false 12) 13 1 = true := by kernel_rfl
theorem hf3_0 : allN (rnHH 3 false 0) 1 1 = true := by kernel_rfl
theorem hf3_14 : allN (rnHH 3 false 14) 15 1 = true := by kernel_rfl
theorem c_21 : allN (chI 21) 22 4 = true := by kernel_rfl
end Go.Proofs.YtabnmohghnnjaaaGreatDoor.answerBody
