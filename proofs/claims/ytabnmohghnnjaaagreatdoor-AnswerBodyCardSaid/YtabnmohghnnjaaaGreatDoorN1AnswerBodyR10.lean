/- A part of the proof: an interpreter of the model's own code on partly known states, and that what it answers is what the program answers. No condition of its own. -/
import Derived.Test.YtabnmohghnnjaaaGreatDoorN1AnswerBodyO3
set_option maxRecDepth 100000
set_option linter.unusedVariables false
set_option linter.unusedSimpArgs false
set_option maxHeartbeats 4000000
namespace Go.Proofs.YtabnmohghnnjaaaGreatDoor.answerBody
open Go Go.AX Go.Proofs Go.Proofs.YtabnmohghnnjaaaGreatDoor
theorem ht2_2 : allN (rnHH 2 true 2) 3 23 = true := by kernel_rfl
theorem ht2_4 : allN (rnHH 2 true 4) 5 21 = true := by kernel_rfl
theorem btt0_2 : allN (rnHB 0 true true) 2 2 = true := by kernel_rfl
theorem btt0_14 : allN (rnHB 0 true true) 14 2 = true := by kernel_rfl
theorem btf0_16 : allN (rnHB 0 true false) 16 2 = true := by kernel_rfl
theorem btt1_16 : allN (rnHB 1 true true) 16 2 = true := by kernel_rfl
theorem btf1_18 : allN (rnHB 1 true false) 18 2 = true := by kernel_rfl
theorem btt2_18 : allN (rnHB 2 true true) 18 2 = true := by kernel_rfl
theorem btf2_20 : allN (rnHB 2 true false) 20 2 = true := by kernel_rfl
theorem btt3_20 : allN (rnHB 3 true true) 20 2 = true := by kernel_rfl
theorem btf3_22 : allN (rnHB 3 true false) 22 2 = true := by kernel_rfl
theorem ht1_15 : allN (rnHH 1 true 15) 16 10 = true := by kernel_rfl
theorem ht1_16 : allN (rnHH 1 true 16) 17 9 = true := by kernel_rfl
theorem ht3_18 : allN (rnHH 3 true 18) 19 7 = true := by kernel_rfl
theorem c_0 : allN (chI 0) 1 25 = true := by kernel_rfl
theorem c_5 : allN (chI 5) 6 20 = true := by kernel_rfl
theorem ht2_23 : allN (rnHH 2 true 23) 24 2 = true := by kernel_rfl
theorem hf0_7 : allN (rnHH 0 false 7) 8 1 = true := by kernel_rfl
theorem hf0_20 : allN (rnHH 0 false 20) 21 1 = true := by kernel_rfl
theorem hf1_8 : allN (rnHH 1 false 8) 9 1 = true := by kernel_rfl
theorem hf1_22 : allN (rnHH 1 false 22) 23 1 = true := by kernel_rfl
theorem hf2_10 : allN (rnHH 2 false 10) 11 1 = true := by kernel_rfl
theorem hf2_24 : allN (rnHH 2 false 24) 25 1 = true := by kernel_rfl
theorem hf3_12 : allN (rnHH 3 false 12) 13 1 = true := by kernel_rfl
theorem c_19 : allN (chI 19) 20 6 = true := by kernel_rfl
end Go.Proofs.YtabnmohghnnjaaaGreatDoor.answerBody
