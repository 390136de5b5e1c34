/- A part of the proof: an interpreter of the model's own code on partly known states, and that what it answers is what the program answers. No condition of its own. -/
import Derived.Test.YtabnmohghnnjaaaGreatDoorN1AnswerBodyO3
set_option maxRecDepth 100000
set_option linter.unusedVariables false
set_option linter.unusedSimpArgs false
set_option maxHeartbeats 4000000
namespace Go.Proofs.YtabnmohghnnjaaaGreatDoor.answerBody
open Go Go.AX Go.Proofs Go.Proofs.YtabnmohghnnjaaaGreatDoor
theorem ht1_3 : allN (rnHH 1 true 3) 4 22 = true := by kernel_rfl
theorem ht3_3 : allN (rnHH 3 true 3) 4 22 = true := by kernel_rfl
theorem btt0_8 : allN (rnHB 0 true true) 8 2 = true := by kernel_rfl
theorem btt0_20 : allN (rnHB 0 true true) 20 2 = true := by kernel_rfl
theorem btf0_22 : allN (rnHB 0 true false) 22 2 = true := by kernel_rfl
theorem btt1_22 : allN (rnHB 1 true true) 22 2 = true := by kernel_rfl
theorem btf1_24 : allN (rnHB 1 true false) 24 2 = true := by kernel_rfl
theorem btt2_24 : allN (rnHB 2 true true) 24 2 = true := by kernel_rfl
theorem ht3_9 : allN (rnHH 3 true 9) 10 16 = true := by kernel_rfl
theorem btf3_0 : allN (rnHB 3 true false) 0 2 = true := by kernel_rfl
theorem ht1_10 : allN (rnHH 1 true 10) 11 15 = true := by kernel_rfl
theorem ht3_13 : allN (rnHH 3 true 13) 14 12 = true := by kernel_rfl
theorem ht2_17 : allN (rnHH 2 true 17) 18 8 = true := by kernel_rfl
theorem ht2_19 : allN (rnHH 2 true 19) 20 6 = true := by kernel_rfl
theorem i_1 : allN rnI 8 9 = true := by kernel_rfl
theorem ht2_22 : allN (rnHH 2 true 22) 23 3 = true := by kernel_rfl
theorem ht1_23 : allN (rnHH 1 true 23) 24 2 = true := by kernel_rfl
theorem hf0_6 : allN (rnHH 0 false 6) 7 1 = true := by kernel_rfl
theorem hf0_19 : allN (rnHH 0 false 19) 20 1 = true := by kernel_rfl
theorem hf1_7 : allN (rnHH 1 false 7) 8 1 = true := by kernel_rfl
theorem hf1_21 : allN (rnHH 1 false 21) 22 1 = true := by kernel_rfl
theorem hf2_9 : allN (rnHH 2 false 9) 10 1 = true := by kernel_rfl
theorem hf2_23 : allN (rnHH 2 false 23) 24 1 = true := by kernel_rfl
theorem hf3_11 : allN (rnHH 3 false 11) 12 1 = true := by kernel_rfl
theorem c_18 : allN (chI 18) 19 7 = true := by kernel_rfl
end Go.Proofs.YtabnmohghnnjaaaGreatDoor.answerBody
