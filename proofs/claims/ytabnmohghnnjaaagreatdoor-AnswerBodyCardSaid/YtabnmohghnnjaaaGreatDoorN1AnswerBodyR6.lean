/- A part of the proof: an interpreter of the model's own code on partly known states, and that what it answers is what the program answers. No condition of its own. -/
import Derived.Test.YtabnmohghnnjaaaGreatDoorN1AnswerBodyO3
set_option maxRecDepth 100000
set_option linter.unusedVariables false
set_option linter.unusedSimpArgs false
set_option maxHeartbeats 4000000
namespace Go.Proofs.YtabnmohghnnjaaaGreatDoor.answerBody
open Go Go.AX Go.Proofs Go.Proofs.YtabnmohghnnjaaaGreatDoor
theorem ht2_1 : allN (rnHH 2 true 1) 2 24 = true := by kernel_rfl
theorem ht2_5 : allN (rnHH 2 true 5) 6 20 = true := by kernel_rfl
theorem ht2_8 : allN (rnHH 2 true 8) 9 17 = true := by kernel_rfl
theorem btf0_0 : allN (rnHB 0 true false) 0 2 = true := by kernel_rfl
theorem btt1_0 : allN (rnHB 1 true true) 0 2 = true := by kernel_rfl
theorem btf1_2 : allN (rnHB 1 true false) 2 2 = true := by kernel_rfl
theorem btt2_2 : allN (rnHB 2 true true) 2 2 = true := by kernel_rfl
theorem btf2_4 : allN (rnHB 2 true false) 4 2 = true := by kernel_rfl
theorem btt3_4 : allN (rnHB 3 true true) 4 2 = true := by kernel_rfl
theorem btf3_6 : allN (rnHB 3 true false) 6 2 = true := by kernel_rfl
theorem ht0_11 : allN (rnHH 0 true 11) 12 14 = true := by kernel_rfl
theorem ht0_13 : allN (rnHH 0 true 13) 14 12 = true := by kernel_rfl
theorem ht1_17 : allN (rnHH 1 true 17) 18 8 = true := by kernel_rfl
theorem ht0_18 : allN (rnHH 0 true 18) 19 7 = true := by kernel_rfl
theorem i_2 : allN rnI 17 1 = true := by kernel_rfl
theorem B0 : (rnBB 0 true && rnBB 0 false && (rxO 0 true && rxO 0 false)) = true := by kernel_rfl
theorem xI : allN rxI 1 25 = true := by kernel_rfl
theorem hf0_3 : allN (rnHH 0 false 3) 4 1 = true := by kernel_rfl
theorem hf0_16 : allN (rnHH 0 false 16) 17 1 = true := by kernel_rfl
theorem hf1_4 : allN (rnHH 1 false 4) 5 1 = true := by kernel_rfl
theorem hf1_18 : allN (rnHH 1 false 18) 19 1 = true := by kernel_rfl
theorem hf2_6 : allN (rnHH 2 false 6) 7 1 = true := by kernel_rfl
theorem hf2_20 : allN (rnHH 2 false 20) 21 1 = true := by kernel_rfl
theorem hf3_8 : allN (rnHH 3 false 8) 9 1 = true := by kernel_rfl
theorem hf3_22 : allN (rnHH 3 false 22) 23 1 = true := by kernel_rfl
end Go.Proofs.YtabnmohghnnjaaaGreatDoor.answerBody
