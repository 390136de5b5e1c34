/- A part of the proof: an interpreter of the model's own code on partly known states, and that what it answers is what the program answers. No condition of its own. -/
import Derived.Test.YtabnmohghnnjaaaGreatDoorN1AnswerBodyO3
set_option maxRecDepth 100000
set_option linter.unusedVariables false
set_option linter.unusedSimpArgs false
set_option maxHeartbeats 4000000
namespace Go.Proofs.YtabnmohghnnjaaaGreatDoor.answerBody
open Go Go.AX Go.Proofs Go.Proofs.YtabnmohghnnjaaaGreatDoor
theorem ht3_1 : allN (rnHH 3 true 1) 2 24 = true := by kernel_rfl
theorem ht3_5 : allN (rnHH 3 true 5) 6 20 = true := by kernel_rfl
theorem ht3_8 : allN (rnHH 3 true 8) 9 17 = true := by kernel_rfl
theorem btf0_2 : allN (rnHB 0 true false) 2 2 = true := by kernel_rfl
theorem btt1_2 : allN (rnHB 1 true true) 2 2 = true := by kernel_rfl
theorem btf1_4 : allN (rnHB 1 true false) 4 2 = true := by kernel_rfl
theorem btt2_4 : allN (rnHB 2 true true) 4 2 = true := by kernel_rfl
theorem btf2_6 : allN (rnHB 2 true false) 6 2 = true := by kernel_rfl
theorem btt3_6 : allN (rnHB 3 true true) 6 2 = true := by kernel_rfl
theorem btf3_8 : allN (rnHB 3 true false) 8 2 = true := by kernel_rfl
theorem ht1_11 : allN (rnHH 1 true 11) 12 14 = true := by kernel_rfl
theorem ht1_13 : allN (rnHH 1 true 13) 14 12 = true := by kernel_rfl
theorem bft1_25 : rnHB 1 false true 25 = true := by kernel_rfl
theorem ht1_18 : allN (rnHH 1 true 18) 19 7 = true := by kernel_rfl
theorem i_4 : allN rnI 23 1 = true := by kernel_rfl
theorem B1 : (rnBB 1 true && rnBB 1 false && (rxO 1 true && rxO 1 false)) = true := by kernel_rfl
theorem cR : allN chR 0 26 = true := by kernel_rfl
theorem hf0_4 : allN (rnHH 0 false 4) 5 1 = true := by kernel_rfl
theorem hf0_17 : allN (rnHH 0 false 17) 18 1 = true := by kernel_rfl
theorem hf1_5 : allN (rnHH 1 false 5) 6 1 = true := by kernel_rfl
theorem hf1_19 : allN (rnHH 1 false 19) 20 1 = true := by kernel_rfl
theorem hf2_7 : allN (rnHH 2 false 7) 8 1 = true := by kernel_rfl
theorem hf2_21 : allN (rnHH 2 false 21) 22 1 = true := by kernel_rfl
theorem hf3_9 : allN (rnHH 3 false 9) 10 1 = true := by kernel_rfl
theorem hf3_23 : allN (rnHH 3 false 23) 24 1 = true := by kernel_rfl
end Go.Proofs.YtabnmohghnnjaaaGreatDoor.answerBody
