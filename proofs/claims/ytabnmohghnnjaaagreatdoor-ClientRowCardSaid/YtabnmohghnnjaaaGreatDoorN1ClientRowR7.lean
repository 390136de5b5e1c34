/- A part of the proof: an interpreter of the model's own code on partly known states, and that what it answers is what the program answers. No condition of its own. -/
import Derived.Test.YtabnmohghnnjaaaGreatDoorN1ClientRowO
set_option maxRecDepth 100000
set_option linter.unusedVariables false
set_option linter.unusedSimpArgs false
set_option maxHeartbeats 4000000
namespace Go.Proofs.YtabnmohghnnjaaaGreatDoor.clientRow
open Go Go.AX Go.Proofs Go.Proofs.YtabnmohghnnjaaaGreatDoor
theorem ot1_1 : allN (rnO true 1 1) 2 27 = true := by kernel_rfl
theorem ot5_2 : allN (rnO true 5 2) 3 26 = true := by kernel_rfl
theorem ot5_6 : allN (rnO true 5 6) 7 22 = true := by kernel_rfl
theorem ot1_8 : allN (rnO true 1 8) 9 20 = true := by kernel_rfl
theorem ot5_9 : allN (rnO true 5 9) 10 19 = true := by kernel_rfl
theorem ot5_13 : allN (rnO true 5 13) 14 15 = true := by kernel_rfl
theorem ot1_15 : allN (rnO true 1 15) 16 13 = true := by kernel_rfl
theorem ot5_16 : allN (rnO true 5 16) 17 12 = true := by kernel_rfl
theorem ot5_20 : allN (rnO true 5 20) 21 8 = true := by kernel_rfl
theorem ot1_22 : allN (rnO true 1 22) 23 6 = true := by kernel_rfl
theorem i3_0 : allN (rnI (HS 60 3) 3) 0 14 = true := by kernel_rfl
theorem k3_1 : allN (chI (HS 22 3) (HS 60 3) 1) 2 27 = true := by kernel_rfl
theorem k3_2 : allN (chI (HS 22 3) (HS 60 3) 2) 3 26 = true := by kernel_rfl
theorem k5_3 : allN (chI (HS 22 5) (HS 60 5) 3) 4 25 = true := by kernel_rfl
theorem k5_6 : allN (chI (HS 22 5) (HS 60 5) 6) 7 22 = true := by kernel_rfl
theorem i1_4 : allN (rnI (HS 60 1) 1) 25 1 = true := by kernel_rfl
theorem i3_6 : allN (rnI (HS 60 3) 3) 27 1 = true := by kernel_rfl
theorem k5_8 : allN (chI (HS 22 5) (HS 60 5) 8) 9 20 = true := by kernel_rfl
theorem k1_11 : allN (chI (HS 22 1) (HS 60 1) 11) 12 17 = true := by kernel_rfl
theorem k3_11 : allN (chI (HS 22 3) (HS 60 3) 11) 12 17 = true := by kernel_rfl
theorem k1_13 : allN (chI (HS 22 1) (HS 60 1) 13) 14 15 = true := by kernel_rfl
theorem k1_16 : allN (chI (HS 22 1) (HS 60 1) 16) 17 12 = true := by kernel_rfl
theorem k5_17 : allN (chI (HS 22 5) (HS 60 5) 17) 18 11 = true := by kernel_rfl
theorem of0_10 : allN (rnO false 0 10) 11 1 = true := by kernel_rfl
theorem of0_24 : allN (rnO false 0 24) 25 1 = true := by kernel_rfl
theorem of1_9 : allN (rnO false 1 9) 10 1 = true := by kernel_rfl
theorem of1_23 : allN (rnO false 1 23) 24 1 = true := by kernel_rfl
theorem of2_8 : allN (rnO false 2 8) 9 1 = true := by kernel_rfl
theorem of2_22 : allN (rnO false 2 22) 23 1 = true := by kernel_rfl
theorem of3_7 : allN (rnO false 3 7) 8 1 = true := by kernel_rfl
theorem of3_21 : allN (rnO false 3 21) 22 1 = true := by kernel_rfl
theorem of4_6 : allN (rnO false 4 6) 7 1 = true := by kernel_rfl
theorem of4_20 : allN (rnO false 4 20) 21 1 = true := by kernel_rfl
theorem of5_5 : allN (rnO false 5 5) 6 1 = true := by kernel_rfl
theorem of5_19 : allN (rnO false 5 19) 20 1 = true := by kernel_rfl
theorem k5_20 : allN (chI (HS 22 5) (HS 60 5) 20) 21 8 = true := by kernel_rfl
theorem k1_22 : allN (chI (HS 22 1) (HS 60 1) 22) 23 6 = true := by kernel_rfl
theorem k5_22 : allN (chI (HS 22 5) (HS 60 5) 22) 23 6 = true := by kernel_rfl
theorem k5_25 : allN (chI (HS 22 5) (HS 60 5) 25) 26 3 = true := by kernel_rfl
end Go.Proofs.YtabnmohghnnjaaaGreatDoor.clientRow
