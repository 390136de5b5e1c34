/- A part of the proof: an interpreter of the model's own code on partly known states, and that what it answers is what the program answers. No condition of its own. -/
import Derived.Test.YtabnmohghnnjaaaGreatDoorN1AnswerBodyO3
set_option maxRecDepth 100000
set_option linter.unusedVariables false
set_option linter.unusedSimpArgs false
set_option maxHeartbeats 4000000
namespace Go.Proofs.YtabnmohghnnjaaaGreatDoor.answerBody
open Go Go.AX Go.Proofs Go.Proofs.YtabnmohghnnjaaaGreatDoor
theorem ht1_1 : allN (rnHH 1 true 1) 2 24 = true := by kernel_rfl
theorem ht1_5 : allN (rnHH 1 true 5) 6 20 = true := by kernel_rfl
theorem ht1_8 : allN (rnHH 1 true 8) 9 17 = true := by kernel_rfl
theorem btt0_24 : allN (rnHB 0 true true) 24 2 = true := by kernel_rfl
theorem ht1_9 : allN (rnHH 1 true 9) 10 16 = true := by kernel_rfl
theorem btf1_0 : allN (rnHB 1 true false) 0 2 = true := by kernel_rfl
theorem btt2_0 : allN (rnHB 2 true true) 0 2 = true := by kernel_rfl
theorem btf2_2 : allN (rnHB 2 true false) 2 2 = true := by kernel_rfl
theorem btt3_2 : allN (rnHB 3 true true) 2 2 = true := by kernel_rfl
theorem btf3_4 : allN (rnHB 3 true false) 4 2 = true := by kernel_rfl
theorem ht3_10 : allN (rnHH 3 true 10) 11 15 = true := by kernel_rfl
theorem ht3_14 : allN (rnHH 3 true 14) 15 11 = true := by kernel_rfl
theorem bff0_25 : rnHB 0 false false 25 = true := by kernel_rfl
theorem bff3_25 : rnHB 3 false false 25 = true := by kernel_rfl
theorem ht1_22 : allN (rnHH 1 true 22) 23 3 = true := by kernel_rfl
theorem c_9 : allN (chI 9) 10 16 = true := by kernel_rfl
theorem c_13 : allN (chI 13) 14 12 = true := by kernel_rfl
theorem hf0_2 : allN (rnHH 0 false 2) 3 1 = true := by kernel_rfl
theorem hf0_15 : allN (rnHH 0 false 15) 16 1 = true := by kernel_rfl
theorem hf1_3 : allN (rnHH 1 false 3) 4 1 = true := by kernel_rfl
theorem hf1_17 : allN (rnHH 1 false 17) 18 1 = true := by kernel_rfl
theorem hf2_5 : allN (rnHH 2 false 5) 6 1 = true := by kernel_rfl
theorem hf2_19 : allN (rnHH 2 false 19) 20 1 = true := by kernel_rfl
theorem hf3_7 : allN (rnHH 3 false 7) 8 1 = true := by kernel_rfl
theorem hf3_21 : allN (rnHH 3 false 21) 22 1 = true := by kernel_rfl
end Go.Proofs.YtabnmohghnnjaaaGreatDoor.answerBody
