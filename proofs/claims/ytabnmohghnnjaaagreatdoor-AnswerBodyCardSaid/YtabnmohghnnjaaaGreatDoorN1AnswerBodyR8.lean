/- A part of the proof: an interpreter of the model's own code on partly known states, and that what it answers is what the program answers. No condition of its own. -/
import Derived.Test.YtabnmohghnnjaaaGreatDoorN1AnswerBodyO3
set_option maxRecDepth 100000
set_option linter.unusedVariables false
set_option linter.unusedSimpArgs false
set_option maxHeartbeats 4000000
namespace Go.Proofs.YtabnmohghnnjaaaGreatDoor.answerBody
open Go Go.AX Go.Proofs Go.Proofs.YtabnmohghnnjaaaGreatDoor
theorem ht0_2 : allN (rnHH 0 true 2) 3 23 = true := by kernel_rfl
theorem ht0_4 : allN (rnHH 0 true 4) 5 21 = true := by kernel_rfl
theorem ht0_9 : allN (rnHH 0 true 9) 10 16 = true := by kernel_rfl
theorem btt0_10 : allN (rnHB 0 true true) 10 2 = true := by kernel_rfl
theorem btf0_12 : allN (rnHB 0 true false) 12 2 = true := by kernel_rfl
theorem btt1_12 : allN (rnHB 1 true true) 12 2 = true := by kernel_rfl
theorem btf1_14 : allN (rnHB 1 true false) 14 2 = true := by kernel_rfl
theorem btt2_14 : allN (rnHB 2 true true) 14 2 = true := by kernel_rfl
theorem btf2_16 : allN (rnHB 2 true false) 16 2 = true := by kernel_rfl
theorem btt3_16 : allN (rnHB 3 true true) 16 2 = true := by kernel_rfl
theorem btf3_18 : allN (rnHB 3 true false) 18 2 = true := by kernel_rfl
theorem yI : ryI = true := by kernel_rfl
theorem ht3_15 : allN (rnHH 3 true 15) 16 10 = true := by kernel_rfl
theorem ht2_20 : allN (rnHH 2 true 20) 21 5 = true := by kernel_rfl
theorem ht1_21 : allN (rnHH 1 true 21) 22 4 = true := by kernel_rfl
theorem c_2 : allN (chI 2) 3 23 = true := by kernel_rfl
theorem c_11 : allN (chI 11) 12 14 = true := by kernel_rfl
theorem hf0_11 : allN (rnHH 0 false 11) 12 1 = true := by kernel_rfl
theorem ht1_24 : allN (rnHH 1 true 24) 25 1 = true := by kernel_rfl
theorem hf1_13 : allN (rnHH 1 false 13) 14 1 = true := by kernel_rfl
theorem hf2_1 : allN (rnHH 2 false 1) 2 1 = true := by kernel_rfl
theorem hf2_15 : allN (rnHH 2 false 15) 16 1 = true := by kernel_rfl
theorem hf3_3 : allN (rnHH 3 false 3) 4 1 = true := by kernel_rfl
theorem hf3_17 : allN (rnHH 3 false 17) 18 1 = true := by kernel_rfl
theorem c_24 : allN (chI 24) 25 1 = true := by kernel_rfl
end Go.Proofs.YtabnmohghnnjaaaGreatDoor.answerBody
