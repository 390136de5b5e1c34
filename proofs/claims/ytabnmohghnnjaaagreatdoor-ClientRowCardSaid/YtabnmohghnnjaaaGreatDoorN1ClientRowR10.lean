/- A part of the proof: an interpreter of the model's own code on partly known states, and that what it answers is what the program answers. No condition of its own. -/
import Derived.Test.YtabnmohghnnjaaaGreatDoorN1ClientRowO
set_option maxRecDepth 100000
set_option linter.unusedVariables false
set_option linter.unusedSimpArgs false
set_option maxHeartbeats 4000000
namespace Go.Proofs.YtabnmohghnnjaaaGreatDoor.clientRow
open Go Go.AX Go.Proofs Go.Proofs.YtabnmohghnnjaaaGreatDoor
theorem ot4_1 : allN (rnO true 4 1) 2 27 = true := by kernel_rfl
theorem ot2_3 : allN (rnO true 2 3) 4 25 = true := by kernel_rfl
theorem ot4_5 : allN (rnO true 4 5) 6 23 = true := by kernel_rfl
theorem ot4_8 : allN (rnO true 4 8) 9 20 = true := by kernel_rfl
theorem ot2_10 : allN (rnO true 2 10) 11 18 = true := by kernel_rfl
theorem ot4_12 : allN (rnO true 4 12) 13 16 = true := by kernel_rfl
theorem ot4_15 : allN (rnO true 4 15) 16 13 = true := by kernel_rfl
theorem ot2_17 : allN (rnO true 2 17) 18 11 = true := by kernel_rfl
theorem ot4_19 : allN (rnO true 4 19) 20 9 = true := by kernel_rfl
theorem ot4_22 : allN (rnO true 4 22) 23 6 = true := by kernel_rfl
theorem ot0_23 : allN (rnO true 0 23) 24 5 = true := by kernel_rfl
theorem k2_0 : allN (chI (HS 22 2) (HS 60 2) 0) 1 28 = true := by kernel_rfl
theorem i2_3 : allN (rnI (HS 60 2) 2) 17 8 = true := by kernel_rfl
theorem ot2_25 : allN (rnO true 2 25) 26 3 = true := by kernel_rfl
theorem k0_5 : allN (chI (HS 22 0) (HS 60 0) 5) 6 23 = true := by kernel_rfl
theorem k0_7 : allN (chI (HS 22 0) (HS 60 0) 7) 8 21 = true := by kernel_rfl
theorem i1_5 : allN (rnI (HS 60 1) 1) 26 1 = true := by kernel_rfl
theorem x3 : (allN (rxI (HS 60 3) false) 1 28 && rxI (HS 60 3) true 28) = true := by kernel_rfl
theorem k0_9 : allN (chI (HS 22 0) (HS 60 0) 9) 10 19 = true := by kernel_rfl
theorem ot0_26 : allN (rnO true 0 26) 27 2 = true := by kernel_rfl
theorem k2_13 : allN (chI (HS 22 2) (HS 60 2) 13) 14 15 = true := by kernel_rfl
theorem k2_16 : allN (chI (HS 22 2) (HS 60 2) 16) 17 12 = true := by kernel_rfl
theorem k2_18 : allN (chI (HS 22 2) (HS 60 2) 18) 19 10 = true := by kernel_rfl
theorem of0_3 : allN (rnO false 0 3) 4 1 = true := by kernel_rfl
theorem of0_17 : allN (rnO false 0 17) 18 1 = true := by kernel_rfl
theorem of1_2 : allN (rnO false 1 2) 3 1 = true := by kernel_rfl
theorem of1_16 : allN (rnO false 1 16) 17 1 = true := by kernel_rfl
theorem of2_1 : allN (rnO false 2 1) 2 1 = true := by kernel_rfl
theorem of2_15 : allN (rnO false 2 15) 16 1 = true := by kernel_rfl
theorem of3_0 : allN (rnO false 3 0) 1 1 = true := by kernel_rfl
theorem of3_14 : allN (rnO false 3 14) 15 1 = true := by kernel_rfl
theorem ot4_27 : allN (rnO true 4 27) 28 1 = true := by kernel_rfl
theorem of4_13 : allN (rnO false 4 13) 14 1 = true := by kernel_rfl
theorem of4_27 : allN (rnO false 4 27) 28 1 = true := by kernel_rfl
theorem of5_12 : allN (rnO false 5 12) 13 1 = true := by kernel_rfl
theorem of5_26 : allN (rnO false 5 26) 27 1 = true := by kernel_rfl
theorem i2_1 : allN (rnI (HS 60 2) 2) 14 2 = true := by kernel_rfl
theorem k2_23 : allN (chI (HS 22 2) (HS 60 2) 23) 24 5 = true := by kernel_rfl
theorem y5 : (rxO true 5 && rxO false 5) = true := by kernel_rfl
theorem k2_27 : allN (chI (HS 22 2) (HS 60 2) 27) 28 1 = true := by kernel_rfl
end Go.Proofs.YtabnmohghnnjaaaGreatDoor.clientRow
