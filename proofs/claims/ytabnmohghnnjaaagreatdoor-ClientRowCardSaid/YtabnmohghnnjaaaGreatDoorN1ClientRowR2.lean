/- A part of the proof: an interpreter of the model's own code on partly known states, and that what it answers is what the program answers. No condition of its own. -/
import Derived.Test.YtabnmohghnnjaaaGreatDoorN1ClientRowO
set_option maxRecDepth 100000
set_option linter.unusedVariables false
set_option linter.unusedSimpArgs false
set_option maxHeartbeats 4000000
namespace Go.Proofs.YtabnmohghnnjaaaGreatDoor.clientRow
open Go Go.AX Go.Proofs Go.Proofs.YtabnmohghnnjaaaGreatDoor
theorem ot2_0 : allN (rnO true 2 0) 1 28 = true := by kernel_rfl
theorem ot0_4 : allN (rnO true 0 4) 5 24 = true := by kernel_rfl
theorem ot4_4 : allN (rnO true 4 4) 5 24 = true := by kernel_rfl
theorem ot0_9 : allN (rnO true 0 9) 10 19 = true := by kernel_rfl
theorem ot2_9 : allN (rnO true 2 9) 10 19 = true := by kernel_rfl
theorem ot2_13 : allN (rnO true 2 13) 14 15 = true := by kernel_rfl
theorem ot2_14 : allN (rnO true 2 14) 15 14 = true := by kernel_rfl
theorem ot0_18 : allN (rnO true 0 18) 19 10 = true := by kernel_rfl
theorem ot4_18 : allN (rnO true 4 18) 19 10 = true := by kernel_rfl
theorem i0_0 : allN (rnI (HS 60 0) 0) 0 14 = true := by kernel_rfl
theorem ot4_23 : allN (rnO true 4 23) 24 5 = true := by kernel_rfl
theorem k0_1 : allN (chI (HS 22 0) (HS 60 0) 1) 2 27 = true := by kernel_rfl
theorem k0_2 : allN (chI (HS 22 0) (HS 60 0) 2) 3 26 = true := by kernel_rfl
theorem ot4_25 : allN (rnO true 4 25) 26 3 = true := by kernel_rfl
theorem k2_6 : allN (chI (HS 22 2) (HS 60 2) 6) 7 22 = true := by kernel_rfl
theorem x0 : (allN (rxI (HS 60 0) false) 1 28 && rxI (HS 60 0) true 28) = true := by kernel_rfl
theorem i3_2 : allN (rnI (HS 60 3) 3) 16 1 = true := by kernel_rfl
theorem i5_5 : allN (rnI (HS 60 5) 5) 26 1 = true := by kernel_rfl
theorem k4_10 : allN (chI (HS 22 4) (HS 60 4) 10) 11 18 = true := by kernel_rfl
theorem k0_12 : allN (chI (HS 22 0) (HS 60 0) 12) 13 16 = true := by kernel_rfl
theorem k4_12 : allN (chI (HS 22 4) (HS 60 4) 12) 13 16 = true := by kernel_rfl
theorem k0_17 : allN (chI (HS 22 0) (HS 60 0) 17) 18 11 = true := by kernel_rfl
theorem k2_17 : allN (chI (HS 22 2) (HS 60 2) 17) 18 11 = true := by kernel_rfl
theorem of0_7 : allN (rnO false 0 7) 8 1 = true := by kernel_rfl
theorem of0_21 : allN (rnO false 0 21) 22 1 = true := by kernel_rfl
theorem of1_6 : allN (rnO false 1 6) 7 1 = true := by kernel_rfl
theorem of1_20 : allN (rnO false 1 20) 21 1 = true := by kernel_rfl
theorem of2_5 : allN (rnO false 2 5) 6 1 = true := by kernel_rfl
theorem of2_19 : allN (rnO false 2 19) 20 1 = true := by kernel_rfl
theorem of3_4 : allN (rnO false 3 4) 5 1 = true := by kernel_rfl
theorem of3_18 : allN (rnO false 3 18) 19 1 = true := by kernel_rfl
theorem of4_3 : allN (rnO false 4 3) 4 1 = true := by kernel_rfl
theorem of4_17 : allN (rnO false 4 17) 18 1 = true := by kernel_rfl
theorem of5_2 : allN (rnO false 5 2) 3 1 = true := by kernel_rfl
theorem of5_16 : allN (rnO false 5 16) 17 1 = true := by kernel_rfl
theorem k2_20 : allN (chI (HS 22 2) (HS 60 2) 20) 21 8 = true := by kernel_rfl
theorem i4_1 : allN (rnI (HS 60 4) 4) 14 2 = true := by kernel_rfl
theorem k2_24 : allN (chI (HS 22 2) (HS 60 2) 24) 25 4 = true := by kernel_rfl
theorem y1 : (rxO true 1 && rxO false 1) = true := by kernel_rfl
theorem k0_26 : allN (chI (HS 22 0) (HS 60 0) 26) 27 2 = true := by kernel_rfl
end Go.Proofs.YtabnmohghnnjaaaGreatDoor.clientRow
