/- A part of the proof: an interpreter of the model's own code on partly known states, and that what it answers is what the program answers. No condition of its own. -/
import Derived.Test.YtabnmohghnnjaaaGreatDoorN1ClientRowO
set_option maxRecDepth 100000
set_option linter.unusedVariables false
set_option linter.unusedSimpArgs false
set_option maxHeartbeats 4000000
namespace Go.Proofs.YtabnmohghnnjaaaGreatDoor.clientRow
open Go Go.AX Go.Proofs Go.Proofs.YtabnmohghnnjaaaGreatDoor
theorem ot5_1 : allN (rnO true 5 1) 2 27 = true := by kernel_rfl
theorem ot3_3 : allN (rnO true 3 3) 4 25 = true := by kernel_rfl
theorem ot5_5 : allN (rnO true 5 5) 6 23 = true := by kernel_rfl
theorem ot5_8 : allN (rnO true 5 8) 9 20 = true := by kernel_rfl
theorem ot3_10 : allN (rnO true 3 10) 11 18 = true := by kernel_rfl
theorem ot5_12 : allN (rnO true 5 12) 13 16 = true := by kernel_rfl
theorem ot5_15 : allN (rnO true 5 15) 16 13 = true := by kernel_rfl
theorem ot3_17 : allN (rnO true 3 17) 18 11 = true := by kernel_rfl
theorem ot5_19 : allN (rnO true 5 19) 20 9 = true := by kernel_rfl
theorem ot5_22 : allN (rnO true 5 22) 23 6 = true := by kernel_rfl
theorem ot1_23 : allN (rnO true 1 23) 24 5 = true := by kernel_rfl
theorem k3_0 : allN (chI (HS 22 3) (HS 60 3) 0) 1 28 = true := by kernel_rfl
theorem i3_3 : allN (rnI (HS 60 3) 3) 17 8 = true := by kernel_rfl
theorem k2_3 : allN (chI (HS 22 2) (HS 60 2) 3) 4 25 = true := by kernel_rfl
theorem k1_5 : allN (chI (HS 22 1) (HS 60 1) 5) 6 23 = true := by kernel_rfl
theorem k1_7 : allN (chI (HS 22 1) (HS 60 1) 7) 8 21 = true := by kernel_rfl
theorem i1_6 : allN (rnI (HS 60 1) 1) 27 1 = true := by kernel_rfl
theorem k3_8 : allN (chI (HS 22 3) (HS 60 3) 8) 9 20 = true := by kernel_rfl
theorem k1_9 : allN (chI (HS 22 1) (HS 60 1) 9) 10 19 = true := by kernel_rfl
theorem ot1_26 : allN (rnO true 1 26) 27 2 = true := by kernel_rfl
theorem k3_13 : allN (chI (HS 22 3) (HS 60 3) 13) 14 15 = true := by kernel_rfl
theorem k3_16 : allN (chI (HS 22 3) (HS 60 3) 16) 17 12 = true := by kernel_rfl
theorem k3_18 : allN (chI (HS 22 3) (HS 60 3) 18) 19 10 = true := by kernel_rfl
theorem of0_4 : allN (rnO false 0 4) 5 1 = true := by kernel_rfl
theorem of0_18 : allN (rnO false 0 18) 19 1 = true := by kernel_rfl
theorem of1_3 : allN (rnO false 1 3) 4 1 = true := by kernel_rfl
theorem of1_17 : allN (rnO false 1 17) 18 1 = true := by kernel_rfl
theorem of2_2 : allN (rnO false 2 2) 3 1 = true := by kernel_rfl
theorem of2_16 : allN (rnO false 2 16) 17 1 = true := by kernel_rfl
theorem of3_1 : allN (rnO false 3 1) 2 1 = true := by kernel_rfl
theorem of3_15 : allN (rnO false 3 15) 16 1 = true := by kernel_rfl
theorem of4_0 : allN (rnO false 4 0) 1 1 = true := by kernel_rfl
theorem of4_14 : allN (rnO false 4 14) 15 1 = true := by kernel_rfl
theorem ot5_27 : allN (rnO true 5 27) 28 1 = true := by kernel_rfl
theorem of5_13 : allN (rnO false 5 13) 14 1 = true := by kernel_rfl
theorem of5_27 : allN (rnO false 5 27) 28 1 = true := by kernel_rfl
theorem i3_1 : allN (rnI (HS 60 3) 3) 14 2 = true := by kernel_rfl
theorem k3_23 : allN (chI (HS 22 3) (HS 60 3) 23) 24 5 = true := by kernel_rfl
theorem y6 : (rxO true 6 && rxO false 6) = true := by kernel_rfl
theorem k3_27 : allN (chI (HS 22 3) (HS 60 3) 27) 28 1 = true := by kernel_rfl
end Go.Proofs.YtabnmohghnnjaaaGreatDoor.clientRow
