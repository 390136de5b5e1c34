/- A part of the proof: an interpreter of the model's own code on partly known states, and that what it answers is what the program answers. No condition of its own. -/
import Derived.Test.YtabnmohghnnjaaaGreatDoorN1AnswerBodyO3
set_option maxRecDepth 100000
set_option linter.unusedVariables false
set_option linter.unusedSimpArgs false
set_option maxHeartbeats 4000000
namespace Go.Proofs.YtabnmohghnnjaaaGreatDoor.answerBody
open Go Go.AX Go.Proofs Go.Proofs.YtabnmohghnnjaaaGreatDoor
theorem ht1_2 : allN (rnHH 1 true 2) 3 23 = true := by kernel_rfl
theorem ht1_4 : allN (rnHH 1 true 4) 5 21 = true := by kernel_rfl
theorem btt0_0 : allN (rnHB 0 true true) 0 2 = true := by kernel_rfl
theorem btt0_12 : allN (rnHB 0 true true) 12 2 = true := by kernel_rfl
theorem btf0_14 : allN (rnHB 0 true false) 14 2 = true := by kernel_rfl
theorem btt1_14 : allN (rnHB 1 true true) 14 2 = true := by kernel_rfl
theorem btf1_16 : allN (rnHB 1 true false) 16 2 = true := by kernel_rfl
theorem btt2_16 : allN (rnHB 2 true true) 16 2 = true := by kernel_rfl
theorem btf2_18 : allN (rnHB 2 true false) 18 2 = true := by kernel_rfl
theorem btt3_18 : allN (rnHB 3 true true) 18 2 = true := by kernel_rfl
theorem btf3_20 : allN (rnHB 3 true false) 20 2 = true := by kernel_rfl
theorem ht0_15 : allN (rnHH 0 true 15) 16 10 = true := by kernel_rfl
theorem ht0_16 : allN (rnHH 0 true 16) 17 9 = true := by kernel_rfl
theorem ht2_18 : allN (rnHH 2 true 18) 19 7 = true := by kernel_rfl
theorem i_5 : allN rnI 24 1 = true := by kernel_rfl
theorem B2 : (rnBB 2 true && rnBB 2 false && (rxO 2 true && rxO 2 false)) = true := by kernel_rfl
theorem ht0_23 : allN (rnHH 0 true 23) 24 2 = true := by kernel_rfl
theorem hf0_5 : allN (rnHH 0 false 5) 6 1 = true := by kernel_rfl
theorem hf0_18 : allN (rnHH 0 false 18) 19 1 = true := by kernel_rfl
theorem hf1_6 : allN (rnHH 1 false 6) 7 1 = true := by kernel_rfl
theorem hf1_20 : allN (rnHH 1 false 20) 21 1 = true := by kernel_rfl
theorem hf2_8 : allN (rnHH 2 false 8) 9 1 = true := by kernel_rfl
theorem hf2_22 : allN (rnHH 2 false 22) 23 1 = true := by kernel_rfl
theorem hf3_10 : allN (rnHH 3 false 10) 11 1 = true := by kernel_rfl
theorem hf3_24 : allN (rnHH 3 false 24) 25 1 = true := by kernel_rfl
end Go.Proofs.YtabnmohghnnjaaaGreatDoor.answerBody
