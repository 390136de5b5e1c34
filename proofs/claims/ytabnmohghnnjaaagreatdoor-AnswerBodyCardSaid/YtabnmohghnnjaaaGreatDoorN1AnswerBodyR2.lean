/- A part of the proof: an interpreter of the model's own code on partly known states, and that what it answers is what the program answers. No condition of its own. -/
import Derived.Test.YtabnmohghnnjaaaGreatDoorN1AnswerBodyO3
set_option maxRecDepth 100000
set_option linter.unusedVariables false
set_option linter.unusedSimpArgs false
set_option maxHeartbeats 4000000
namespace Go.Proofs.YtabnmohghnnjaaaGreatDoor.answerBody
open Go Go.AX Go.Proofs Go.Proofs.YtabnmohghnnjaaaGreatDoor
theorem ht2_0 : allN (rnHH 2 true 0) 1 25 = true := by kernel_rfl
theorem ht2_6 : allN (rnHH 2 true 6) 7 19 = true := by kernel_rfl
theorem ht2_7 : allN (rnHH 2 true 7) 8 18 = true := by kernel_rfl
theorem btf0_8 : allN (rnHB 0 true false) 8 2 = true := by kernel_rfl
theorem btt1_8 : allN (rnHB 1 true true) 8 2 = true := by kernel_rfl
theorem btf1_10 : allN (rnHB 1 true false) 10 2 = true := by kernel_rfl
theorem btt2_10 : allN (rnHB 2 true true) 10 2 = true := by kernel_rfl
theorem btf2_12 : allN (rnHB 2 true false) 12 2 = true := by kernel_rfl
theorem btt3_12 : allN (rnHB 3 true true) 12 2 = true := by kernel_rfl
theorem btf3_14 : allN (rnHB 3 true false) 14 2 = true := by kernel_rfl
theorem ht0_12 : allN (rnHH 0 true 12) 13 13 = true := by kernel_rfl
theorem ht2_12 : allN (rnHH 2 true 12) 13 13 = true := by kernel_rfl
theorem bft2_25 : rnHB 2 false true 25 = true := by kernel_rfl
theorem ht0_20 : allN (rnHH 0 true 20) 21 5 = true := by kernel_rfl
theorem ht3_20 : allN (rnHH 3 true 20) 21 5 = true := by kernel_rfl
theorem c_7 : allN (chI 7) 8 18 = true := by kernel_rfl
theorem c_15 : allN (chI 15) 16 10 = true := by kernel_rfl
theorem hf0_0 : allN (rnHH 0 false 0) 1 1 = true := by kernel_rfl
theorem hf0_13 : allN (rnHH 0 false 13) 14 1 = true := by kernel_rfl
theorem hf1_1 : allN (rnHH 1 false 1) 2 1 = true := by kernel_rfl
theorem hf1_15 : allN (rnHH 1 false 15) 16 1 = true := by kernel_rfl
theorem hf2_3 : allN (rnHH 2 false 3) 4 1 = true := by kernel_rfl
theorem hf2_17 : allN (rnHH 2 false 17) 18 1 = true := by kernel_rfl
theorem hf3_5 : allN (rnHH 3 false 5) 6 1 = true := by kernel_rfl
theorem hf3_19 : allN (rnHH 3 false 19) 20 1 = true := by kernel_rfl
end Go.Proofs.YtabnmohghnnjaaaGreatDoor.answerBody
