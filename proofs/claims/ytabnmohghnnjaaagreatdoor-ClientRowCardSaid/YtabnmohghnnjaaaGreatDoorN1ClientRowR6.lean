/- A part of the proof: an interpreter of the model's own code on partly known states, and that what it answers is what the program answers. No condition of its own. -/
import Derived.Test.YtabnmohghnnjaaaGreatDoorN1ClientRowO
set_option maxRecDepth 100000
set_option linter.unusedVariables false
set_option linter.unusedSimpArgs false
set_option maxHeartbeats 4000000
namespace Go.Proofs.YtabnmohghnnjaaaGreatDoor.clientRow
open Go Go.AX Go.Proofs Go.Proofs.YtabnmohghnnjaaaGreatDoor
theorem ot0_1 : allN (rnO true 0 1) 2 27 = true := by kernel_rfl
theorem ot4_2 : allN (rnO true 4 2) 3 26 = true := by kernel_rfl
theorem ot4_6 : allN (rnO true 4 6) 7 22 = true := by kernel_rfl
theorem ot0_8 : allN (rnO true 0 8) 9 20 = true := by kernel_rfl
theorem ot4_9 : allN (rnO true 4 9) 10 19 = true := by kernel_rfl
theorem ot4_13 : allN (rnO true 4 13) 14 15 = true := by kernel_rfl
theorem ot0_15 : allN (rnO true 0 15) 16 13 = true := by kernel_rfl
theorem ot4_16 : allN (rnO true 4 16) 17 12 = true := by kernel_rfl
theorem ot4_20 : allN (rnO true 4 20) 21 8 = true := by kernel_rfl
theorem ot0_22 : allN (rnO true 0 22) 23 6 = true := by kernel_rfl
theorem i2_0 : allN (rnI (HS 60 2) 2) 0 14 = true := by kernel_rfl
theorem k2_1 : allN (chI (HS 22 2) (HS 60 2) 1) 2 27 = true := by kernel_rfl
theorem k2_2 : allN (chI (HS 22 2) (HS 60 2) 2) 3 26 = true := by kernel_rfl
theorem ot5_25 : allN (rnO true 5 25) 26 3 = true := by kernel_rfl
theorem k4_6 : allN (chI (HS 22 4) (HS 60 4) 6) 7 22 = true := by kernel_rfl
theorem i1_2 : allN (rnI (HS 60 1) 1) 16 1 = true := by kernel_rfl
theorem i3_5 : allN (rnI (HS 60 3) 3) 26 1 = true := by kernel_rfl
theorem x5 : (allN (rxI (HS 60 5) false) 1 28 && rxI (HS 60 5) true 28) = true := by kernel_rfl
theorem k0_11 : allN (chI (HS 22 0) (HS 60 0) 11) 12 17 = true := by kernel_rfl
theorem k2_11 : allN (chI (HS 22 2) (HS 60 2) 11) 12 17 = true := by kernel_rfl
theorem k0_13 : allN (chI (HS 22 0) (HS 60 0) 13) 14 15 = true := by kernel_rfl
theorem k0_16 : allN (chI (HS 22 0) (HS 60 0) 16) 17 12 = true := by kernel_rfl
theorem k4_17 : allN (chI (HS 22 4) (HS 60 4) 17) 18 11 = true := by kernel_rfl
theorem of0_9 : allN (rnO false 0 9) 10 1 = true := by kernel_rfl
theorem of0_23 : allN (rnO false 0 23) 24 1 = true := by kernel_rfl
theorem of1_8 : allN (rnO false 1 8) 9 1 = true := by kernel_rfl
theorem of1_22 : allN (rnO false 1 22) 23 1 = true := by kernel_rfl
theorem of2_7 : allN (rnO false 2 7) 8 1 = true := by kernel_rfl
theorem of2_21 : allN (rnO false 2 21) 22 1 = true := by kernel_rfl
theorem of3_6 : allN (rnO false 3 6) 7 1 = true := by kernel_rfl
theorem of3_20 : allN (rnO false 3 20) 21 1 = true := by kernel_rfl
theorem of4_5 : allN (rnO false 4 5) 6 1 = true := by kernel_rfl
theorem of4_19 : allN (rnO false 4 19) 20 1 = true := by kernel_rfl
theorem of5_4 : allN (rnO false 5 4) 5 1 = true := by kernel_rfl
theorem of5_18 : allN (rnO false 5 18) 19 1 = true := by kernel_rfl
theorem k4_20 : allN (chI (HS 22 4) (HS 60 4) 20) 21 8 = true := by kernel_rfl
theorem k0_22 : allN (chI (HS 22 0) (HS 60 0) 22) 23 6 = true := by kernel_rfl
theorem k4_22 : allN (chI (HS 22 4) (HS 60 4) 22) 23 6 = true := by kernel_rfl
theorem k4_25 : allN (chI (HS 22 4) (HS 60 4) 25) 26 3 = true := by kernel_rfl
end Go.Proofs.YtabnmohghnnjaaaGreatDoor.clientRow
