/- A part of the proof: an interpreter of the model's own code on partly known states, and that what it answers is what the program answers. No condition of its own. -/
import Derived.Test.YtabnmohghnnjaaaGreatDoorN1ClientRowO
set_option maxRecDepth 100000
set_option linter.unusedVariables false
set_option linter.unusedSimpArgs false
set_option maxHeartbeats 4000000
namespace Go.Proofs.YtabnmohghnnjaaaGreatDoor.clientRow
open Go Go.AX Go.Proofs Go.Proofs.YtabnmohghnnjaaaGreatDoor
theorem ot3_0 : allN (rnO true 3 0) 1 28 = true := by kernel_rfl
theorem ot1_4 : allN (rnO true 1 4) 5 24 = true := by kernel_rfl
theorem ot5_4 : allN (rnO true 5 4) 5 24 = true := by kernel_rfl
theorem ot1_9 : allN (rnO true 1 9) 10 19 = true := by kernel_rfl
theorem ot3_9 : allN (rnO true 3 9) 10 19 = true := by kernel_rfl
theorem ot3_13 : allN (rnO true 3 13) 14 15 = true := by kernel_rfl
theorem ot3_14 : allN (rnO true 3 14) 15 14 = true := by kernel_rfl
theorem ot1_18 : allN (rnO true 1 18) 19 10 = true := by kernel_rfl
theorem ot5_18 : allN (rnO true 5 18) 19 10 = true := by kernel_rfl
theorem i1_0 : allN (rnI (HS 60 1) 1) 0 14 = true := by kernel_rfl
theorem ot5_23 : allN (rnO true 5 23) 24 5 = true := by kernel_rfl
theorem k1_1 : allN (chI (HS 22 1) (HS 60 1) 1) 2 27 = true := by kernel_rfl
theorem k1_2 : allN (chI (HS 22 1) (HS 60 1) 2) 3 26 = true := by kernel_rfl
theorem k4_3 : allN (chI (HS 22 4) (HS 60 4) 3) 4 25 = true := by kernel_rfl
theorem k3_6 : allN (chI (HS 22 3) (HS 60 3) 6) 7 22 = true := by kernel_rfl
theorem k0_8 : allN (chI (HS 22 0) (HS 60 0) 8) 9 20 = true := by kernel_rfl
theorem i3_4 : allN (rnI (HS 60 3) 3) 25 1 = true := by kernel_rfl
theorem i5_6 : allN (rnI (HS 60 5) 5) 27 1 = true := by kernel_rfl
theorem k5_10 : allN (chI (HS 22 5) (HS 60 5) 10) 11 18 = true := by kernel_rfl
theorem k1_12 : allN (chI (HS 22 1) (HS 60 1) 12) 13 16 = true := by kernel_rfl
theorem k5_12 : allN (chI (HS 22 5) (HS 60 5) 12) 13 16 = true := by kernel_rfl
theorem k1_17 : allN (chI (HS 22 1) (HS 60 1) 17) 18 11 = true := by kernel_rfl
theorem k3_17 : allN (chI (HS 22 3) (HS 60 3) 17) 18 11 = true := by kernel_rfl
theorem of0_8 : allN (rnO false 0 8) 9 1 = true := by kernel_rfl
theorem of0_22 : allN (rnO false 0 22) 23 1 = true := by kernel_rfl
theorem of1_7 : allN (rnO false 1 7) 8 1 = true := by kernel_rfl
theorem of1_21 : allN (rnO false 1 21) 22 1 = true := by kernel_rfl
theorem of2_6 : allN (rnO false 2 6) 7 1 = true := by kernel_rfl
theorem of2_20 : allN (rnO false 2 20) 21 1 = true := by kernel_rfl
theorem of3_5 : allN (rnO false 3 5) 6 1 = true := by kernel_rfl
theorem of3_19 : allN (rnO false 3 19) 20 1 = true := by kernel_rfl
theorem of4_4 : allN (rnO false 4 4) 5 1 = true := by kernel_rfl
theorem of4_18 : allN (rnO false 4 18) 19 1 = true := by kernel_rfl
theorem of5_3 : allN (rnO false 5 3) 4 1 = true := by kernel_rfl
theorem of5_17 : allN (rnO false 5 17) 18 1 = true := by kernel_rfl
theorem k3_20 : allN (chI (HS 22 3) (HS 60 3) 20) 21 8 = true := by kernel_rfl
theorem i5_1 : allN (rnI (HS 60 5) 5) 14 2 = true := by kernel_rfl
theorem k3_24 : allN (chI (HS 22 3) (HS 60 3) 24) 25 4 = true := by kernel_rfl
theorem y2 : (rxO true 2 && rxO false 2) = true := by kernel_rfl
theorem k1_26 : allN (chI (HS 22 1) (HS 60 1) 26) 27 2 = true := by kernel_rfl
end Go.Proofs.YtabnmohghnnjaaaGreatDoor.clientRow
