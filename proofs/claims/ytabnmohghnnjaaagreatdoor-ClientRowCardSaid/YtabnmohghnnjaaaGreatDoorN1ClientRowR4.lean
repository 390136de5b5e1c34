/- A part of the proof: an interpreter of the model's own code on partly known states, and that what it answers is what the program answers. No condition of its own. -/
import Derived.Test.YtabnmohghnnjaaaGreatDoorN1ClientRowO
set_option maxRecDepth 100000
set_option linter.unusedVariables false
set_option linter.unusedSimpArgs false
set_option maxHeartbeats 4000000
namespace Go.Proofs.YtabnmohghnnjaaaGreatDoor.clientRow
open Go Go.AX Go.Proofs Go.Proofs.YtabnmohghnnjaaaGreatDoor
theorem ot4_0 : allN (rnO true 4 0) 1 28 = true := by kernel_rfl
theorem ot2_4 : allN (rnO true 2 4) 5 24 = true := by kernel_rfl
theorem ot0_5 : allN (rnO true 0 5) 6 23 = true := by kernel_rfl
theorem ot4_7 : allN (rnO true 4 7) 8 21 = true := by kernel_rfl
theorem ot2_11 : allN (rnO true 2 11) 12 17 = true := by kernel_rfl
theorem ot0_12 : allN (rnO true 0 12) 13 16 = true := by kernel_rfl
theorem ot4_14 : allN (rnO true 4 14) 15 14 = true := by kernel_rfl
theorem ot2_18 : allN (rnO true 2 18) 19 10 = true := by kernel_rfl
theorem ot0_19 : allN (rnO true 0 19) 20 9 = true := by kernel_rfl
theorem ot4_21 : allN (rnO true 4 21) 22 7 = true := by kernel_rfl
theorem ot2_24 : allN (rnO true 2 24) 25 4 = true := by kernel_rfl
theorem k0_0 : allN (chI (HS 22 0) (HS 60 0) 0) 1 28 = true := by kernel_rfl
theorem i0_3 : allN (rnI (HS 60 0) 0) 17 8 = true := by kernel_rfl
theorem ot1_25 : allN (rnO true 1 25) 26 3 = true := by kernel_rfl
theorem k4_4 : allN (chI (HS 22 4) (HS 60 4) 4) 5 24 = true := by kernel_rfl
theorem k4_7 : allN (chI (HS 22 4) (HS 60 4) 7) 8 21 = true := by kernel_rfl
theorem i2_5 : allN (rnI (HS 60 2) 2) 26 1 = true := by kernel_rfl
theorem x4 : (allN (rxI (HS 60 4) false) 1 28 && rxI (HS 60 4) true 28) = true := by kernel_rfl
theorem k0_10 : allN (chI (HS 22 0) (HS 60 0) 10) 11 18 = true := by kernel_rfl
theorem k4_11 : allN (chI (HS 22 4) (HS 60 4) 11) 12 17 = true := by kernel_rfl
theorem k2_14 : allN (chI (HS 22 2) (HS 60 2) 14) 15 14 = true := by kernel_rfl
theorem k2_15 : allN (chI (HS 22 2) (HS 60 2) 15) 16 13 = true := by kernel_rfl
theorem k0_19 : allN (chI (HS 22 0) (HS 60 0) 19) 20 9 = true := by kernel_rfl
theorem k4_19 : allN (chI (HS 22 4) (HS 60 4) 19) 20 9 = true := by kernel_rfl
theorem of0_13 : allN (rnO false 0 13) 14 1 = true := by kernel_rfl
theorem of0_27 : allN (rnO false 0 27) 28 1 = true := by kernel_rfl
theorem of1_12 : allN (rnO false 1 12) 13 1 = true := by kernel_rfl
theorem of1_26 : allN (rnO false 1 26) 27 1 = true := by kernel_rfl
theorem of2_11 : allN (rnO false 2 11) 12 1 = true := by kernel_rfl
theorem of2_25 : allN (rnO false 2 25) 26 1 = true := by kernel_rfl
theorem of3_10 : allN (rnO false 3 10) 11 1 = true := by kernel_rfl
theorem of3_24 : allN (rnO false 3 24) 25 1 = true := by kernel_rfl
theorem of4_9 : allN (rnO false 4 9) 10 1 = true := by kernel_rfl
theorem of4_23 : allN (rnO false 4 23) 24 1 = true := by kernel_rfl
theorem of5_8 : allN (rnO false 5 8) 9 1 = true := by kernel_rfl
theorem of5_22 : allN (rnO false 5 22) 23 1 = true := by kernel_rfl
theorem k4_21 : allN (chI (HS 22 4) (HS 60 4) 21) 22 7 = true := by kernel_rfl
theorem k0_24 : allN (chI (HS 22 0) (HS 60 0) 24) 25 4 = true := by kernel_rfl
theorem k4_24 : allN (chI (HS 22 4) (HS 60 4) 24) 25 4 = true := by kernel_rfl
theorem k0_27 : allN (chI (HS 22 0) (HS 60 0) 27) 28 1 = true := by kernel_rfl
end Go.Proofs.YtabnmohghnnjaaaGreatDoor.clientRow
