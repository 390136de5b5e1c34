/- A part of the proof: an interpreter of the model's own code on partly known states, and that what it answers is what the program answers. No condition of its own. -/
import Derived.Test.YtabnmohghnnjaaaGreatDoorN1AnswerBodyO3
set_option maxRecDepth 100000
set_option linter.unusedVariables false
set_option linter.unusedSimpArgs false
set_option maxHeartbeats 4000000
namespace Go.Proofs.YtabnmohghnnjaaaGreatDoor.answerBody
open Go Go.AX Go.Proofs Go.Proofs.YtabnmohghnnjaaaGreatDoor
theorem ht3_0 : allN (rnHH 3 true 0) 1 25 = true := by kernel_rfl
theorem ht3_6 : allN (rnHH 3 true 6) 7 19 = true := by kernel_rfl
theorem ht3_7 : allN (rnHH 3 true 7) 8 18 = true := by kernel_rfl
theorem btf0_10 : allN (rnHB 0 true false) 10 2 = true := by kernel_rfl
theorem btt1_10 : allN (rnHB 1 true true) 10 2 = true := by kernel_rfl
theorem btf1_12 : allN (rnHB 1 true false) 12 2 = true := by kernel_rfl
theorem btt2_12 : allN (rnHB 2 true true) 12 2 = true := by kernel_rfl
theorem btf2_14 : allN (rnHB 2 true false) 14 2 = true := by kernel_rfl
theorem btt3_14 : allN (rnHB 3 true true) 14 2 = true := by kernel_rfl
theorem btf3_16 : allN (rnHB 3 true false) 16 2 = true := by kernel_rfl
theorem ht1_12 : allN (rnHH 1 true 12) 13 13 = true := by kernel_rfl
theorem ht3_12 : allN (rnHH 3 true 12) 13 13 = true := by kernel_rfl
theorem bff2_25 : rnHB 2 false false 25 = true := by kernel_rfl
theorem ht1_20 : allN (rnHH 1 true 20) 21 5 = true := by kernel_rfl
theorem ht0_21 : allN (rnHH 0 true 21) 22 4 = true := by kernel_rfl
theorem ht3_22 : allN (rnHH 3 true 22) 23 3 = true := by kernel_rfl
theorem c_12 : allN (chI 12) 13 13 = true := by kernel_rfl
theorem hf0_10 : allN (rnHH 0 false 10) 11 1 = true := by kernel_rfl
theorem hf0_24 : allN (rnHH 0 false 24) 25 1 = true := by kernel_rfl
theorem hf1_12 : allN (rnHH 1 false 12) 13 1 = true := by kernel_rfl
theorem hf2_0 : allN (rnHH 2 false 0) 1 1 = true := by kernel_rfl
theorem hf2_14 : allN (rnHH 2 false 14) 15 1 = true := by kernel_rfl
theorem hf3_2 : allN (rnHH 3 false 2) 3 1 = true := by kernel_rfl
theorem hf3_16 : allN (rnHH 3 false 16) 17 1 = true := by kernel_rfl
theorem c_23 : allN (chI 23) 24 2 = true := by kernel_rfl
end Go.Proofs.YtabnmohghnnjaaaGreatDoor.answerBody
