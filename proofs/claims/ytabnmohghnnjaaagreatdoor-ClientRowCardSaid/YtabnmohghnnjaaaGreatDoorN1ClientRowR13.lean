/- A part of the proof: an interpreter of the model's own code on partly known states, and that what it answers is what the program answers. No condition of its own. -/
import Derived.Test.YtabnmohghnnjaaaGreatDoorN1ClientRowO
set_option maxRecDepth 100000
set_option linter.unusedVariables false
set_option linter.unusedSimpArgs false
set_option maxHeartbeats 4000000
namespace Go.Proofs.YtabnmohghnnjaaaGreatDoor.clientRow
open Go Go.AX Go.Proofs Go.Proofs.YtabnmohghnnjaaaGreatDoor
theorem ot1_2 : allN (rnO true 1 2) 3 26 = true := by kernel_rfl
theorem ot3_2 : allN (rnO true 3 2) 3 26 = true := by kernel_rfl
theorem ot1_6 : allN (rnO true 1 6) 7 22 = true := by kernel_rfl
theorem ot1_7 : allN (rnO true 1 7) 8 21 = true := by kernel_rfl
theorem ot5_10 : allN (rnO true 5 10) 11 18 = true := by kernel_rfl
theorem ot1_13 : allN (rnO true 1 13) 14 15 = true := by kernel_rfl
theorem ot1_14 : allN (rnO true 1 14) 15 14 = true := by kernel_rfl
theorem ot5_17 : allN (rnO true 5 17) 18 11 = true := by kernel_rfl
theorem ot1_20 : allN (rnO true 1 20) 21 8 = true := by kernel_rfl
theorem ot1_21 : allN (rnO true 1 21) 22 7 = true := by kernel_rfl
theorem ot3_23 : allN (rnO true 3 23) 24 5 = true := by kernel_rfl
theorem k5_0 : allN (chI (HS 22 5) (HS 60 5) 0) 1 28 = true := by kernel_rfl
theorem i5_3 : allN (rnI (HS 60 5) 5) 17 8 = true := by kernel_rfl
theorem k3_3 : allN (chI (HS 22 3) (HS 60 3) 3) 4 25 = true := by kernel_rfl
theorem k3_5 : allN (chI (HS 22 3) (HS 60 3) 5) 6 23 = true := by kernel_rfl
theorem k3_7 : allN (chI (HS 22 3) (HS 60 3) 7) 8 21 = true := by kernel_rfl
theorem k1_8 : allN (chI (HS 22 1) (HS 60 1) 8) 9 20 = true := by kernel_rfl
theorem i4_4 : allN (rnI (HS 60 4) 4) 25 1 = true := by kernel_rfl
theorem k3_9 : allN (chI (HS 22 3) (HS 60 3) 9) 10 19 = true := by kernel_rfl
theorem ot3_26 : allN (rnO true 3 26) 27 2 = true := by kernel_rfl
theorem k5_13 : allN (chI (HS 22 5) (HS 60 5) 13) 14 15 = true := by kernel_rfl
theorem k5_16 : allN (chI (HS 22 5) (HS 60 5) 16) 17 12 = true := by kernel_rfl
theorem k5_18 : allN (chI (HS 22 5) (HS 60 5) 18) 19 10 = true := by kernel_rfl
theorem of0_6 : allN (rnO false 0 6) 7 1 = true := by kernel_rfl
theorem of0_20 : allN (rnO false 0 20) 21 1 = true := by kernel_rfl
theorem of1_5 : allN (rnO false 1 5) 6 1 = true := by kernel_rfl
theorem of1_19 : allN (rnO false 1 19) 20 1 = true := by kernel_rfl
theorem of2_4 : allN (rnO false 2 4) 5 1 = true := by kernel_rfl
theorem of2_18 : allN (rnO false 2 18) 19 1 = true := by kernel_rfl
theorem of3_3 : allN (rnO false 3 3) 4 1 = true := by kernel_rfl
theorem of3_17 : allN (rnO false 3 17) 18 1 = true := by kernel_rfl
theorem of4_2 : allN (rnO false 4 2) 3 1 = true := by kernel_rfl
theorem of4_16 : allN (rnO false 4 16) 17 1 = true := by kernel_rfl
theorem of5_1 : allN (rnO false 5 1) 2 1 = true := by kernel_rfl
theorem of5_15 : allN (rnO false 5 15) 16 1 = true := by kernel_rfl
theorem k1_20 : allN (chI (HS 22 1) (HS 60 1) 20) 21 8 = true := by kernel_rfl
theorem k3_21 : allN (chI (HS 22 3) (HS 60 3) 21) 22 7 = true := by kernel_rfl
theorem k5_23 : allN (chI (HS 22 5) (HS 60 5) 23) 24 5 = true := by kernel_rfl
theorem k1_25 : allN (chI (HS 22 1) (HS 60 1) 25) 26 3 = true := by kernel_rfl
theorem k3_26 : allN (chI (HS 22 3) (HS 60 3) 26) 27 2 = true := by kernel_rfl
end Go.Proofs.YtabnmohghnnjaaaGreatDoor.clientRow
