/- A part of the proof: an interpreter of the model's own code on partly known states, and that what it answers is what the program answers. No condition of its own. -/
import Derived.Test.YtabnmohghnnjaaaGreatDoorN1AnswerBodyO3
set_option maxRecDepth 100000
set_option linter.unusedVariables false
set_option linter.unusedSimpArgs false
set_option maxHeartbeats 4000000
namespace Go.Proofs.YtabnmohghnnjaaaGreatDoor.answerBody
open Go Go.AX Go.Proofs Go.Proofs.YtabnmohghnnjaaaGreatDoor
theorem ht0_0 : allN (rnHH 0 true 0) 1 25 = true := by kernel_rfl
theorem ht0_6 : allN (rnHH 0 true 6) 7 19 = true := by kernel_rfl
theorem ht0_7 : allN (rnHH 0 true 7) 8 18 = true := by kernel_rfl
theorem btf0_4 : allN (rnHB 0 true false) 4 2 = true := by kernel_rfl
theorem btt1_4 : allN (rnHB 1 true true) 4 2 = true := by kernel_rfl
theorem btf1_6 : allN (rnHB 1 true false) 6 2 = true := by kernel_rfl
theorem btt2_6 : allN (rnHB 2 true true) 6 2 = true := by kernel_rfl
theorem btf2_8 : allN (rnHB 2 true false) 8 2 = true := by kernel_rfl
theorem btt3_8 : allN (rnHB 3 true true) 8 2 = true := by kernel_rfl
theorem btf3_10 : allN (rnHB 3 true false) 10 2 = true := by kernel_rfl
theorem ht2_11 : allN (rnHH 2 true 11) 12 14 = true := by kernel_rfl
theorem ht0_14 : allN (rnHH 0 true 14) 15 11 = true := by kernel_rfl
theorem ht3_16 : allN (rnHH 3 true 16) 17 9 = true := by kernel_rfl
theorem ht3_19 : allN (rnHH 3 true 19) 20 6 = true := by kernel_rfl
theorem i_0 : allN rnI 0 8 = true := by kernel_rfl
theorem c_6 : allN (chI 6) 7 19 = true := by kernel_rfl
theorem i_3 : allN rnI 18 5 = true := by kernel_rfl
theorem c_17 : allN (chI 17) 18 8 = true := by kernel_rfl
theorem hf0_23 : allN (rnHH 0 false 23) 24 1 = true := by kernel_rfl
theorem hf1_11 : allN (rnHH 1 false 11) 12 1 = true := by kernel_rfl
theorem ht2_24 : allN (rnHH 2 true 24) 25 1 = true := by kernel_rfl
theorem hf2_13 : allN (rnHH 2 false 13) 14 1 = true := by kernel_rfl
theorem hf3_1 : allN (rnHH 3 false 1) 2 1 = true := by kernel_rfl
theorem hf3_15 : allN (rnHH 3 false 15) 16 1 = true := by kernel_rfl
theorem c_22 : allN (chI 22) 23 3 = true := by kernel_rfl
end Go.Proofs.YtabnmohghnnjaaaGreatDoor.answerBody
