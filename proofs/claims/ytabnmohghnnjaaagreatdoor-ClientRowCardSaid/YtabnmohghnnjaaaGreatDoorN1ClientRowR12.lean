/- A part of the proof: an interpreter of the model's own code on partly known states, and that what it answers is what the program answers. No condition of its own. -/
import Derived.Test.YtabnmohghnnjaaaGreatDoorN1ClientRowO
set_option maxRecDepth 100000
set_option linter.unusedVariables false
set_option linter.unusedSimpArgs false
set_option maxHeartbeats 4000000
namespace Go.Proofs.YtabnmohghnnjaaaGreatDoor.clientRow
open Go Go.AX Go.Proofs Go.Proofs.YtabnmohghnnjaaaGreatDoor
theorem ot0_2 : allN (rnO true 0 2) 3 26 = true := by kernel_rfl
theorem ot2_2 : allN (rnO true 2 2) 3 26 = true := by kernel_rfl
theorem ot0_6 : allN (rnO true 0 6) 7 22 = true := by kernel_rfl
theorem ot0_7 : allN (rnO true 0 7) 8 21 = true := by kernel_rfl
theorem ot4_10 : allN (rnO true 4 10) 11 18 = true := by kernel_rfl
theorem ot0_13 : allN (rnO true 0 13) 14 15 = true := by kernel_rfl
theorem ot0_14 : allN (rnO true 0 14) 15 14 = true := by kernel_rfl
theorem ot4_17 : allN (rnO true 4 17) 18 11 = true := by kernel_rfl
theorem ot0_20 : allN (rnO true 0 20) 21 8 = true := by kernel_rfl
theorem ot0_21 : allN (rnO true 0 21) 22 7 = true := by kernel_rfl
theorem ot2_23 : allN (rnO true 2 23) 24 5 = true := by kernel_rfl
theorem k4_0 : allN (chI (HS 22 4) (HS 60 4) 0) 1 28 = true := by kernel_rfl
theorem i4_3 : allN (rnI (HS 60 4) 4) 17 8 = true := by kernel_rfl
theorem ot3_25 : allN (rnO true 3 25) 26 3 = true := by kernel_rfl
theorem k2_5 : allN (chI (HS 22 2) (HS 60 2) 5) 6 23 = true := by kernel_rfl
theorem k2_7 : allN (chI (HS 22 2) (HS 60 2) 7) 8 21 = true := by kernel_rfl
theorem x1 : (allN (rxI (HS 60 1) false) 1 28 && rxI (HS 60 1) true 28) = true := by kernel_rfl
theorem i4_2 : allN (rnI (HS 60 4) 4) 16 1 = true := by kernel_rfl
theorem k2_9 : allN (chI (HS 22 2) (HS 60 2) 9) 10 19 = true := by kernel_rfl
theorem ot2_26 : allN (rnO true 2 26) 27 2 = true := by kernel_rfl
theorem k4_13 : allN (chI (HS 22 4) (HS 60 4) 13) 14 15 = true := by kernel_rfl
theorem k4_16 : allN (chI (HS 22 4) (HS 60 4) 16) 17 12 = true := by kernel_rfl
theorem k4_18 : allN (chI (HS 22 4) (HS 60 4) 18) 19 10 = true := by kernel_rfl
theorem of0_5 : allN (rnO false 0 5) 6 1 = true := by kernel_rfl
theorem of0_19 : allN (rnO false 0 19) 20 1 = true := by kernel_rfl
theorem of1_4 : allN (rnO false 1 4) 5 1 = true := by kernel_rfl
theorem of1_18 : allN (rnO false 1 18) 19 1 = true := by kernel_rfl
theorem of2_3 : allN (rnO false 2 3) 4 1 = true := by kernel_rfl
theorem of2_17 : allN (rnO false 2 17) 18 1 = true := by kernel_rfl
theorem of3_2 : allN (rnO false 3 2) 3 1 = true := by kernel_rfl
theorem of3_16 : allN (rnO false 3 16) 17 1 = true := by kernel_rfl
theorem of4_1 : allN (rnO false 4 1) 2 1 = true := by kernel_rfl
theorem of4_15 : allN (rnO false 4 15) 16 1 = true := by kernel_rfl
theorem of5_0 : allN (rnO false 5 0) 1 1 = true := by kernel_rfl
theorem of5_14 : allN (rnO false 5 14) 15 1 = true := by kernel_rfl
theorem k0_20 : allN (chI (HS 22 0) (HS 60 0) 20) 21 8 = true := by kernel_rfl
theorem k2_21 : allN (chI (HS 22 2) (HS 60 2) 21) 22 7 = true := by kernel_rfl
theorem k4_23 : allN (chI (HS 22 4) (HS 60 4) 23) 24 5 = true := by kernel_rfl
theorem k0_25 : allN (chI (HS 22 0) (HS 60 0) 25) 26 3 = true := by kernel_rfl
theorem k2_26 : allN (chI (HS 22 2) (HS 60 2) 26) 27 2 = true := by kernel_rfl
end Go.Proofs.YtabnmohghnnjaaaGreatDoor.clientRow
