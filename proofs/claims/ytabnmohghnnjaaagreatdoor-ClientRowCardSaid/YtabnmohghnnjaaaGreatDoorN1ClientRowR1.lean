/- A part of the proof: an interpreter of the model's own code on partly known states, and that what it answers is what the program answers. No condition of its own. -/
import Derived.Test.YtabnmohghnnjaaaGreatDoorN1ClientRowO
set_option maxRecDepth 100000
set_option linter.unusedVariables false
set_option linter.unusedSimpArgs false
set_option maxHeartbeats 4000000
namespace Go.Proofs.YtabnmohghnnjaaaGreatDoor.clientRow
open Go Go.AX Go.Proofs Go.Proofs.YtabnmohghnnjaaaGreatDoor
theorem ot1_0 : allN (rnO true 1 0) 1 28 = true := by kernel_rfl
theorem ot5_3 : allN (rnO true 5 3) 4 25 = true := by kernel_rfl
theorem ot3_6 : allN (rnO true 3 6) 7 22 = true := by kernel_rfl
theorem ot3_7 : allN (rnO true 3 7) 8 21 = true := by kernel_rfl
theorem ot1_11 : allN (rnO true 1 11) 12 17 = true := by kernel_rfl
theorem ot5_11 : allN (rnO true 5 11) 12 17 = true := by kernel_rfl
theorem ot1_16 : allN (rnO true 1 16) 17 12 = true := by kernel_rfl
theorem ot3_16 : allN (rnO true 3 16) 17 12 = true := by kernel_rfl
theorem ot3_20 : allN (rnO true 3 20) 21 8 = true := by kernel_rfl
theorem ot3_21 : allN (rnO true 3 21) 22 7 = true := by kernel_rfl
theorem ot1_24 : allN (rnO true 1 24) 25 4 = true := by kernel_rfl
theorem ot5_24 : allN (rnO true 5 24) 25 4 = true := by kernel_rfl
theorem k0_3 : allN (chI (HS 22 0) (HS 60 0) 3) 4 25 = true := by kernel_rfl
theorem k3_4 : allN (chI (HS 22 3) (HS 60 3) 4) 5 24 = true := by kernel_rfl
theorem k1_6 : allN (chI (HS 22 1) (HS 60 1) 6) 7 22 = true := by kernel_rfl
theorem i0_4 : allN (rnI (HS 60 0) 0) 25 1 = true := by kernel_rfl
theorem i2_4 : allN (rnI (HS 60 2) 2) 25 1 = true := by kernel_rfl
theorem i4_6 : allN (rnI (HS 60 4) 4) 27 1 = true := by kernel_rfl
theorem k5_9 : allN (chI (HS 22 5) (HS 60 5) 9) 10 19 = true := by kernel_rfl
theorem k3_12 : allN (chI (HS 22 3) (HS 60 3) 12) 13 16 = true := by kernel_rfl
theorem k1_14 : allN (chI (HS 22 1) (HS 60 1) 14) 15 14 = true := by kernel_rfl
theorem k1_15 : allN (chI (HS 22 1) (HS 60 1) 15) 16 13 = true := by kernel_rfl
theorem k1_18 : allN (chI (HS 22 1) (HS 60 1) 18) 19 10 = true := by kernel_rfl
theorem of0_2 : allN (rnO false 0 2) 3 1 = true := by kernel_rfl
theorem of0_16 : allN (rnO false 0 16) 17 1 = true := by kernel_rfl
theorem of1_1 : allN (rnO false 1 1) 2 1 = true := by kernel_rfl
theorem of1_15 : allN (rnO false 1 15) 16 1 = true := by kernel_rfl
theorem of2_0 : allN (rnO false 2 0) 1 1 = true := by kernel_rfl
theorem of2_14 : allN (rnO false 2 14) 15 1 = true := by kernel_rfl
theorem ot3_27 : allN (rnO true 3 27) 28 1 = true := by kernel_rfl
theorem of3_13 : allN (rnO false 3 13) 14 1 = true := by kernel_rfl
theorem of3_27 : allN (rnO false 3 27) 28 1 = true := by kernel_rfl
theorem of4_12 : allN (rnO false 4 12) 13 1 = true := by kernel_rfl
theorem of4_26 : allN (rnO false 4 26) 27 1 = true := by kernel_rfl
theorem of5_11 : allN (rnO false 5 11) 12 1 = true := by kernel_rfl
theorem of5_25 : allN (rnO false 5 25) 26 1 = true := by kernel_rfl
theorem i1_1 : allN (rnI (HS 60 1) 1) 14 2 = true := by kernel_rfl
theorem k1_23 : allN (chI (HS 22 1) (HS 60 1) 23) 24 5 = true := by kernel_rfl
theorem y4 : (rxO true 4 && rxO false 4) = true := by kernel_rfl
theorem k5_26 : allN (chI (HS 22 5) (HS 60 5) 26) 27 2 = true := by kernel_rfl
end Go.Proofs.YtabnmohghnnjaaaGreatDoor.clientRow
