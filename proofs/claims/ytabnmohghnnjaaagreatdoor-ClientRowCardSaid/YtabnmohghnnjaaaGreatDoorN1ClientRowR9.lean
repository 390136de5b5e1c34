/- A part of the proof: an interpreter of the model's own code on partly known states, and that what it answers is what the program answers. No condition of its own. -/
import Derived.Test.YtabnmohghnnjaaaGreatDoorN1ClientRowO
set_option maxRecDepth 100000
set_option linter.unusedVariables false
set_option linter.unusedSimpArgs false
set_option maxHeartbeats 4000000
namespace Go.Proofs.YtabnmohghnnjaaaGreatDoor.clientRow
open Go Go.AX Go.Proofs Go.Proofs.YtabnmohghnnjaaaGreatDoor
theorem ot3_1 : allN (rnO true 3 1) 2 27 = true := by kernel_rfl
theorem ot1_3 : allN (rnO true 1 3) 4 25 = true := by kernel_rfl
theorem ot3_5 : allN (rnO true 3 5) 6 23 = true := by kernel_rfl
theorem ot3_8 : allN (rnO true 3 8) 9 20 = true := by kernel_rfl
theorem ot1_10 : allN (rnO true 1 10) 11 18 = true := by kernel_rfl
theorem ot3_12 : allN (rnO true 3 12) 13 16 = true := by kernel_rfl
theorem ot3_15 : allN (rnO true 3 15) 16 13 = true := by kernel_rfl
theorem ot1_17 : allN (rnO true 1 17) 18 11 = true := by kernel_rfl
theorem ot3_19 : allN (rnO true 3 19) 20 9 = true := by kernel_rfl
theorem ot3_22 : allN (rnO true 3 22) 23 6 = true := by kernel_rfl
theorem i5_0 : allN (rnI (HS 60 5) 5) 0 14 = true := by kernel_rfl
theorem k5_1 : allN (chI (HS 22 5) (HS 60 5) 1) 2 27 = true := by kernel_rfl
theorem k5_2 : allN (chI (HS 22 5) (HS 60 5) 2) 3 26 = true := by kernel_rfl
theorem k1_4 : allN (chI (HS 22 1) (HS 60 1) 4) 5 24 = true := by kernel_rfl
theorem k5_5 : allN (chI (HS 22 5) (HS 60 5) 5) 6 23 = true := by kernel_rfl
theorem i0_6 : allN (rnI (HS 60 0) 0) 27 1 = true := by kernel_rfl
theorem k2_8 : allN (chI (HS 22 2) (HS 60 2) 8) 9 20 = true := by kernel_rfl
theorem i5_4 : allN (rnI (HS 60 5) 5) 25 1 = true := by kernel_rfl
theorem k3_10 : allN (chI (HS 22 3) (HS 60 3) 10) 11 18 = true := by kernel_rfl
theorem ot5_26 : allN (rnO true 5 26) 27 2 = true := by kernel_rfl
theorem k5_14 : allN (chI (HS 22 5) (HS 60 5) 14) 15 14 = true := by kernel_rfl
theorem k5_15 : allN (chI (HS 22 5) (HS 60 5) 15) 16 13 = true := by kernel_rfl
theorem k3_19 : allN (chI (HS 22 3) (HS 60 3) 19) 20 9 = true := by kernel_rfl
theorem of0_0 : allN (rnO false 0 0) 1 1 = true := by kernel_rfl
theorem of0_12 : allN (rnO false 0 12) 13 1 = true := by kernel_rfl
theorem of0_26 : allN (rnO false 0 26) 27 1 = true := by kernel_rfl
theorem of1_11 : allN (rnO false 1 11) 12 1 = true := by kernel_rfl
theorem of1_25 : allN (rnO false 1 25) 26 1 = true := by kernel_rfl
theorem of2_10 : allN (rnO false 2 10) 11 1 = true := by kernel_rfl
theorem of2_24 : allN (rnO false 2 24) 25 1 = true := by kernel_rfl
theorem of3_9 : allN (rnO false 3 9) 10 1 = true := by kernel_rfl
theorem of3_23 : allN (rnO false 3 23) 24 1 = true := by kernel_rfl
theorem of4_8 : allN (rnO false 4 8) 9 1 = true := by kernel_rfl
theorem of4_22 : allN (rnO false 4 22) 23 1 = true := by kernel_rfl
theorem of5_7 : allN (rnO false 5 7) 8 1 = true := by kernel_rfl
theorem of5_21 : allN (rnO false 5 21) 22 1 = true := by kernel_rfl
theorem k1_21 : allN (chI (HS 22 1) (HS 60 1) 21) 22 7 = true := by kernel_rfl
theorem k3_22 : allN (chI (HS 22 3) (HS 60 3) 22) 23 6 = true := by kernel_rfl
theorem k3_25 : allN (chI (HS 22 3) (HS 60 3) 25) 26 3 = true := by kernel_rfl
theorem k5_27 : allN (chI (HS 22 5) (HS 60 5) 27) 28 1 = true := by kernel_rfl
end Go.Proofs.YtabnmohghnnjaaaGreatDoor.clientRow
