/- A part of the proof: an interpreter of the model's own code on partly known states, and that what it answers is what the program answers. No condition of its own. -/
import Derived.Test.YtabnmohghnnjaaaGreatDoorN1AnswerBodyO3
set_option maxRecDepth 100000
set_option linter.unusedVariables false
set_option linter.unusedSimpArgs false
set_option maxHeartbeats 4000000
namespace Go.Proofs.YtabnmohghnnjaaaGreatDoor.answerBody
open Go Go.AX Go.Proofs Go.Proofs.YtabnmohghnnjaaaGreatDoor
theorem ht1_0 : allN (rnHH 1 true 0) 1 25 = true := by kernel_rfl
theorem ht1_6 : allN (rnHH 1 true 6) 7 19 = true := by kernel_rfl
theorem ht1_7 : allN (rnHH 1 true 7) 8 18 = true := by kernel_rfl
theorem btf0_6 : allN (rnHB 0 true false) 6 2 = true := by kernel_rfl
theorem btt1_6 : allN (rnHB 1 true true) 6 2 = true := by kernel_rfl
theorem btf1_8 : allN (rnHB 1 true false) 8 2 = true := by kernel_rfl
theorem btt2_8 : allN (rnHB 2 true true) 8 2 = true := by kernel_rfl
theorem btf2_10 : allN (rnHB 2 true false) 10 2 = true := by kernel_rfl
theorem btt3_10 : allN (rnHB 3 true true) 10 2 = true := by kernel_rfl
theorem btf3_12 : allN (rnHB 3 true false) 12 2 = true := by kernel_rfl
theorem ht3_11 : allN (rnHH 3 true 11) 12 14 = true := by kernel_rfl
theorem ht1_14 : allN (rnHH 1 true 14) 15 11 = true := by kernel_rfl
theorem ht0_17 : allN (rnHH 0 true 17) 18 8 = true := by kernel_rfl
theorem ht3_17 : allN (rnHH 3 true 17) 18 8 = true := by kernel_rfl
theorem c_1 : allN (chI 1) 2 24 = true := by kernel_rfl
theorem B3 : (rnBB 3 true && rnBB 3 false && (rxO 3 true && rxO 3 false)) = true := by kernel_rfl
theorem c_16 : allN (chI 16) 17 9 = true := by kernel_rfl
theorem ht0_24 : allN (rnHH 0 true 24) 25 1 = true := by kernel_rfl
theorem hf0_12 : allN (rnHH 0 false 12) 13 1 = true := by kernel_rfl
theorem hf1_0 : allN (rnHH 1 false 0) 1 1 = true := by kernel_rfl
theorem hf1_14 : allN (rnHH 1 false 14) 15 1 = true := by kernel_rfl
theorem hf2_2 : allN (rnHH 2 false 2) 3 1 = true := by kernel_rfl
theorem hf2_16 : allN (rnHH 2 false 16) 17 1 = true := by kernel_rfl
theorem hf3_4 : allN (rnHH 3 false 4) 5 1 = true := by kernel_rfl
theorem hf3_18 : allN (rnHH 3 false 18) 19 1 = true := by kernel_rfl
end Go.Proofs.YtabnmohghnnjaaaGreatDoor.answerBody
