/- A part of the proof: an interpreter of the model's own code on partly known states, and that what it answers is what the program answers. No condition of its own. -/
import Derived.Test.YtabnmohghnnjaaaGreatDoorN1ClientRowO
set_option maxRecDepth 100000
set_option linter.unusedVariables false
set_option linter.unusedSimpArgs false
set_option maxHeartbeats 4000000
namespace Go.Proofs.YtabnmohghnnjaaaGreatDoor.clientRow
open Go Go.AX Go.Proofs Go.Proofs.YtabnmohghnnjaaaGreatDoor
theorem ot5_0 : allN (rnO true 5 0) 1 28 = true := by kernel_rfl
theorem ot3_4 : allN (rnO true 3 4) 5 24 = true := by kernel_rfl
theorem ot1_5 : allN (rnO true 1 5) 6 23 = true := by kernel_rfl
theorem ot5_7 : allN (rnO true 5 7) 8 21 = true := by kernel_rfl
theorem ot3_11 : allN (rnO true 3 11) 12 17 = true := by kernel_rfl
theorem ot1_12 : allN (rnO true 1 12) 13 16 = true := by kernel_rfl
theorem ot5_14 : allN (rnO true 5 14) 15 14 = true := by kernel_rfl
theorem ot3_18 : allN (rnO true 3 18) 19 10 = true := by kernel_rfl
theorem ot1_19 : allN (rnO true 1 19) 20 9 = true := by kernel_rfl
theorem ot5_21 : allN (rnO true 5 21) 22 7 = true := by kernel_rfl
theorem ot3_24 : allN (rnO true 3 24) 25 4 = true := by kernel_rfl
theorem k1_0 : allN (chI (HS 22 1) (HS 60 1) 0) 1 28 = true := by kernel_rfl
theorem i1_3 : allN (rnI (HS 60 1) 1) 17 8 = true := by kernel_rfl
theorem k1_3 : allN (chI (HS 22 1) (HS 60 1) 3) 4 25 = true := by kernel_rfl
theorem k5_4 : allN (chI (HS 22 5) (HS 60 5) 4) 5 24 = true := by kernel_rfl
theorem k5_7 : allN (chI (HS 22 5) (HS 60 5) 7) 8 21 = true := by kernel_rfl
theorem i2_6 : allN (rnI (HS 60 2) 2) 27 1 = true := by kernel_rfl
theorem k4_8 : allN (chI (HS 22 4) (HS 60 4) 8) 9 20 = true := by kernel_rfl
theorem k1_10 : allN (chI (HS 22 1) (HS 60 1) 10) 11 18 = true := by kernel_rfl
theorem k5_11 : allN (chI (HS 22 5) (HS 60 5) 11) 12 17 = true := by kernel_rfl
theorem k3_14 : allN (chI (HS 22 3) (HS 60 3) 14) 15 14 = true := by kernel_rfl
theorem k3_15 : allN (chI (HS 22 3) (HS 60 3) 15) 16 13 = true := by kernel_rfl
theorem k1_19 : allN (chI (HS 22 1) (HS 60 1) 19) 20 9 = true := by kernel_rfl
theorem k5_19 : allN (chI (HS 22 5) (HS 60 5) 19) 20 9 = true := by kernel_rfl
theorem of0_14 : allN (rnO false 0 14) 15 1 = true := by kernel_rfl
theorem ot1_27 : allN (rnO true 1 27) 28 1 = true := by kernel_rfl
theorem of1_13 : allN (rnO false 1 13) 14 1 = true := by kernel_rfl
theorem of1_27 : allN (rnO false 1 27) 28 1 = true := by kernel_rfl
theorem of2_12 : allN (rnO false 2 12) 13 1 = true := by kernel_rfl
theorem of2_26 : allN (rnO false 2 26) 27 1 = true := by kernel_rfl
theorem of3_11 : allN (rnO false 3 11) 12 1 = true := by kernel_rfl
theorem of3_25 : allN (rnO false 3 25) 26 1 = true := by kernel_rfl
theorem of4_10 : allN (rnO false 4 10) 11 1 = true := by kernel_rfl
theorem of4_24 : allN (rnO false 4 24) 25 1 = true := by kernel_rfl
theorem of5_9 : allN (rnO false 5 9) 10 1 = true := by kernel_rfl
theorem of5_23 : allN (rnO false 5 23) 24 1 = true := by kernel_rfl
theorem k5_21 : allN (chI (HS 22 5) (HS 60 5) 21) 22 7 = true := by kernel_rfl
theorem k1_24 : allN (chI (HS 22 1) (HS 60 1) 24) 25 4 = true := by kernel_rfl
theorem k5_24 : allN (chI (HS 22 5) (HS 60 5) 24) 25 4 = true := by kernel_rfl
theorem k1_27 : allN (chI (HS 22 1) (HS 60 1) 27) 28 1 = true := by kernel_rfl
end Go.Proofs.YtabnmohghnnjaaaGreatDoor.clientRow
