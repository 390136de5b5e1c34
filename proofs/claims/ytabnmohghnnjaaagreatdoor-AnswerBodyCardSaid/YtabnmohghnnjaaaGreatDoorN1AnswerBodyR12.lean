/- A part of the proof: an interpreter of the model's own code on partly known states, and that what it answers is what the program answers. No condition of its own. -/
import Derived.Test.YtabnmohghnnjaaaGreatDoorN1AnswerBodyO3
set_option maxRecDepth 100000
set_option linter.unusedVariables false
set_option linter.unusedSimpArgs false
set_option maxHeartbeats 4000000
namespace Go.Proofs.YtabnmohghnnjaaaGreatDoor.answerBody
open Go Go.AX Go.Proofs Go.Proofs.YtabnmohghnnjaaaGreatDoor
theorem ht0_3 : allN (rnHH 0 true 3) 4 22 = true := by kernel_rfl
theorem ht2_3 : allN (rnHH 2 true 3) 4 22 = true := by kernel_rfl
theorem btt0_6 : allN (rnHB 0 true true) 6 2 = true := by kernel_rfl
theorem btt0_18 : allN (rnHB 0 true true) 18 2 = true := by kernel_rfl
theorem btf0_20 : allN (rnHB 0 true false) 20 2 = true := by kernel_rfl
theorem btt1_20 : allN (rnHB 1 true true) 20 2 = true := by kernel_rfl
theorem btf1_22 : allN (rnHB 1 true false) 22 2 = true := by kernel_rfl
theorem btt2_22 : allN (rnHB 2 true true) 22 2 = true := by kernel_rfl
theorem btf2_24 : allN (rnHB 2 true false) 24 2 = true := by kernel_rfl
theorem btt3_24 : allN (rnHB 3 true true) 24 2 = true := by kernel_rfl
theorem ht0_10 : allN (rnHH 0 true 10) 11 15 = true := by kernel_rfl
theorem ht2_13 : allN (rnHH 2 true 13) 14 12 = true := by kernel_rfl
theorem bff1_25 : rnHB 1 false false 25 = true := by kernel_rfl
theorem ht1_19 : allN (rnHH 1 true 19) 20 6 = true := by kernel_rfl
theorem ht3_21 : allN (rnHH 3 true 21) 22 4 = true := by kernel_rfl
theorem c_4 : allN (chI 4) 5 21 = true := by kernel_rfl
theorem ht3_23 : allN (rnHH 3 true 23) 24 2 = true := by kernel_rfl
theorem hf0_8 : allN (rnHH 0 false 8) 9 1 = true := by kernel_rfl
theorem hf0_21 : allN (rnHH 0 false 21) 22 1 = true := by kernel_rfl
theorem hf1_9 : allN (rnHH 1 false 9) 10 1 = true := by kernel_rfl
theorem hf1_23 : allN (rnHH 1 false 23) 24 1 = true := by kernel_rfl
theorem hf2_11 : allN (rnHH 2 false 11) 12 1 = true := by kernel_rfl
theorem ht3_24 : allN (rnHH 3 true 24) 25 1 = true := by kernel_rfl
theorem hf3_13 : allN (rnHH 3 false 13) 14 1 = true := by kernel_rfl
theorem c_20 : allN (chI 20) 21 5 = true := by kernel_rfl
end Go.Proofs.YtabnmohghnnjaaaGreatDoor.answerBody
