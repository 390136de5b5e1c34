/- A part of the proof: an interpreter of the model's own code on partly known states, and that what it answers is what the program answers. No condition of its own. -/
import Derived.Test.YtabnmohghnnjaaaGreatDoorN1ClientRowO
set_option maxRecDepth 100000
set_option linter.unusedVariables false
set_option linter.unusedSimpArgs false
set_option maxHeartbeats 4000000
namespace Go.Proofs.YtabnmohghnnjaaaGreatDoor.clientRow
open Go Go.AX Go.Proofs Go.Proofs.YtabnmohghnnjaaaGreatDoor
theorem ot2_1 : allN (rnO true 2 1) 2 27 = true := by kernel_rfl
theorem ot0_3 : allN (rnO true 0 3) 4 25 = true := by kernel_rfl
theorem ot2_5 : allN (rnO true 2 5) 6 23 = true := by kernel_rfl
theorem ot2_8 : allN (rnO true 2 8) 9 20 = true := by kernel_rfl
theorem ot0_10 : allN (rnO true 0 10) 11 18 = true := by kernel_rfl
theorem ot2_12 : allN (rnO true 2 12) 13 16 = true := by kernel_rfl
theorem ot2_15 : allN (rnO true 2 15) 16 13 = true := by kernel_rfl
theorem ot0_17 : allN (rnO true 0 17) 18 11 = true := by kernel_rfl
theorem ot2_19 : allN (rnO true 2 19) 20 9 = true := by kernel_rfl
theorem ot2_22 : allN (rnO true 2 22) 23 6 = true := by kernel_rfl
theorem i4_0 : allN (rnI (HS 60 4) 4) 0 14 = true := by kernel_rfl
theorem k4_1 : allN (chI (HS 22 4) (HS 60 4) 1) 2 27 = true := by kernel_rfl
theorem k4_2 : allN (chI (HS 22 4) (HS 60 4) 2) 3 26 = true := by kernel_rfl
theorem k0_4 : allN (chI (HS 22 0) (HS 60 0) 4) 5 24 = true := by kernel_rfl
theorem k4_5 : allN (chI (HS 22 4) (HS 60 4) 5) 6 23 = true := by kernel_rfl
theorem i0_5 : allN (rnI (HS 60 0) 0) 26 1 = true := by kernel_rfl
theorem x2 : (allN (rxI (HS 60 2) false) 1 28 && rxI (HS 60 2) true 28) = true := by kernel_rfl
theorem i5_2 : allN (rnI (HS 60 5) 5) 16 1 = true := by kernel_rfl
theorem k2_10 : allN (chI (HS 22 2) (HS 60 2) 10) 11 18 = true := by kernel_rfl
theorem ot4_26 : allN (rnO true 4 26) 27 2 = true := by kernel_rfl
theorem k4_14 : allN (chI (HS 22 4) (HS 60 4) 14) 15 14 = true := by kernel_rfl
theorem k4_15 : allN (chI (HS 22 4) (HS 60 4) 15) 16 13 = true := by kernel_rfl
theorem k2_19 : allN (chI (HS 22 2) (HS 60 2) 19) 20 9 = true := by kernel_rfl
theorem ot0_27 : allN (rnO true 0 27) 28 1 = true := by kernel_rfl
theorem of0_11 : allN (rnO false 0 11) 12 1 = true := by kernel_rfl
theorem of0_25 : allN (rnO false 0 25) 26 1 = true := by kernel_rfl
theorem of1_10 : allN (rnO false 1 10) 11 1 = true := by kernel_rfl
theorem of1_24 : allN (rnO false 1 24) 25 1 = true := by kernel_rfl
theorem of2_9 : allN (rnO false 2 9) 10 1 = true := by kernel_rfl
theorem of2_23 : allN (rnO false 2 23) 24 1 = true := by kernel_rfl
theorem of3_8 : allN (rnO false 3 8) 9 1 = true := by kernel_rfl
theorem of3_22 : allN (rnO false 3 22) 23 1 = true := by kernel_rfl
theorem of4_7 : allN (rnO false 4 7) 8 1 = true := by kernel_rfl
theorem of4_21 : allN (rnO false 4 21) 22 1 = true := by kernel_rfl
theorem of5_6 : allN (rnO false 5 6) 7 1 = true := by kernel_rfl
theorem of5_20 : allN (rnO false 5 20) 21 1 = true := by kernel_rfl
theorem k0_21 : allN (chI (HS 22 0) (HS 60 0) 21) 22 7 = true := by kernel_rfl
theorem k2_22 : allN (chI (HS 22 2) (HS 60 2) 22) 23 6 = true := by kernel_rfl
theorem k2_25 : allN (chI (HS 22 2) (HS 60 2) 25) 26 3 = true := by kernel_rfl
theorem k4_27 : allN (chI (HS 22 4) (HS 60 4) 27) 28 1 = true := by kernel_rfl
end Go.Proofs.YtabnmohghnnjaaaGreatDoor.clientRow
