/- A part of the proof: an interpreter of the model's own code on partly known states, and that what it answers is what the program answers. No condition of its own. -/
import Derived.Test.YtabnmohghnnjaaaGreatDoorN1ClientRowO
set_option maxRecDepth 100000
set_option linter.unusedVariables false
set_option linter.unusedSimpArgs false
set_option maxHeartbeats 4000000
namespace Go.Proofs.YtabnmohghnnjaaaGreatDoor.clientRow
open Go Go.AX Go.Proofs Go.Proofs.YtabnmohghnnjaaaGreatDoor
theorem ot0_0 : allN (rnO true 0 0) 1 28 = true := by kernel_rfl
theorem ot4_3 : allN (rnO true 4 3) 4 25 = true := by kernel_rfl
theorem ot2_6 : allN (rnO true 2 6) 7 22 = true := by kernel_rfl
theorem ot2_7 : allN (rnO true 2 7) 8 21 = true := by kernel_rfl
theorem ot0_11 : allN (rnO true 0 11) 12 17 = true := by kernel_rfl
theorem ot4_11 : allN (rnO true 4 11) 12 17 = true := by kernel_rfl
theorem ot0_16 : allN (rnO true 0 16) 17 12 = true := by kernel_rfl
theorem ot2_16 : allN (rnO true 2 16) 17 12 = true := by kernel_rfl
theorem ot2_20 : allN (rnO true 2 20) 21 8 = true := by kernel_rfl
theorem ot2_21 : allN (rnO true 2 21) 22 7 = true := by kernel_rfl
theorem ot0_24 : allN (rnO true 0 24) 25 4 = true := by kernel_rfl
theorem ot4_24 : allN (rnO true 4 24) 25 4 = true := by kernel_rfl
theorem ot0_25 : allN (rnO true 0 25) 26 3 = true := by kernel_rfl
theorem k2_4 : allN (chI (HS 22 2) (HS 60 2) 4) 5 24 = true := by kernel_rfl
theorem k0_6 : allN (chI (HS 22 0) (HS 60 0) 6) 7 22 = true := by kernel_rfl
theorem i0_2 : allN (rnI (HS 60 0) 0) 16 1 = true := by kernel_rfl
theorem i2_2 : allN (rnI (HS 60 2) 2) 16 1 = true := by kernel_rfl
theorem i4_5 : allN (rnI (HS 60 4) 4) 26 1 = true := by kernel_rfl
theorem k4_9 : allN (chI (HS 22 4) (HS 60 4) 9) 10 19 = true := by kernel_rfl
theorem k2_12 : allN (chI (HS 22 2) (HS 60 2) 12) 13 16 = true := by kernel_rfl
theorem k0_14 : allN (chI (HS 22 0) (HS 60 0) 14) 15 14 = true := by kernel_rfl
theorem k0_15 : allN (chI (HS 22 0) (HS 60 0) 15) 16 13 = true := by kernel_rfl
theorem k0_18 : allN (chI (HS 22 0) (HS 60 0) 18) 19 10 = true := by kernel_rfl
theorem of0_1 : allN (rnO false 0 1) 2 1 = true := by kernel_rfl
theorem of0_15 : allN (rnO false 0 15) 16 1 = true := by kernel_rfl
theorem of1_0 : allN (rnO false 1 0) 1 1 = true := by kernel_rfl
theorem of1_14 : allN (rnO false 1 14) 15 1 = true := by kernel_rfl
theorem ot2_27 : allN (rnO true 2 27) 28 1 = true := by kernel_rfl
theorem of2_13 : allN (rnO false 2 13) 14 1 = true := by kernel_rfl
theorem of2_27 : allN (rnO false 2 27) 28 1 = true := by kernel_rfl
theorem of3_12 : allN (rnO false 3 12) 13 1 = true := by kernel_rfl
theorem of3_26 : allN (rnO false 3 26) 27 1 = true := by kernel_rfl
theorem of4_11 : allN (rnO false 4 11) 12 1 = true := by kernel_rfl
theorem of4_25 : allN (rnO false 4 25) 26 1 = true := by kernel_rfl
theorem of5_10 : allN (rnO false 5 10) 11 1 = true := by kernel_rfl
theorem of5_24 : allN (rnO false 5 24) 25 1 = true := by kernel_rfl
theorem i0_1 : allN (rnI (HS 60 0) 0) 14 2 = true := by kernel_rfl
theorem k0_23 : allN (chI (HS 22 0) (HS 60 0) 23) 24 5 = true := by kernel_rfl
theorem y3 : (rxO true 3 && rxO false 3) = true := by kernel_rfl
theorem k4_26 : allN (chI (HS 22 4) (HS 60 4) 26) 27 2 = true := by kernel_rfl
end Go.Proofs.YtabnmohghnnjaaaGreatDoor.clientRow
