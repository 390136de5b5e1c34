/- A part of the proof: an interpreter of the model's own code on partly known states, and that what it answers is what the program answers. No condition of its own. -/
import Derived.Test.YtkhcgoeccmkmdaaGreatDoorM1MuxFairO
set_option maxRecDepth 100000
set_option linter.unusedVariables false
set_option linter.unusedSimpArgs false
set_option maxHeartbeats 4000000
namespace Go.Proofs.YtkhcgoeccmkmdaaGreatDoor.muxFair
open Go Go.AX Go.Proofs Go.Proofs.YtkhcgoeccmkmdaaGreatDoor
theorem d4_4_0 : allN (rnD 4 4 hD4_4) 0 8 = true := by kernel_rfl
theorem l4_4_0 : allN (rnL 4 4 hL4_4) 0 8 = true := by kernel_rfl
theorem d5_3_2 : allN (rnD 5 3 hD5_3) 14 7 = true := by kernel_rfl
theorem l5_3_2 : allN (rnL 5 3 hL5_3) 14 7 = true := by kernel_rfl
theorem d6_1_2 : allN (rnD 6 1 hD6_1) 12 6 = true := by kernel_rfl
theorem l6_1_2 : allN (rnL 6 1 hL6_1) 12 6 = true := by kernel_rfl
theorem d6_3_4 : allN (rnD 6 3 hD6_3) 24 6 = true := by kernel_rfl
theorem l6_3_4 : allN (rnL 6 3 hL6_3) 24 6 = true := by kernel_rfl
theorem d7_1_2 : allN (rnD 7 1 hD7_1) 10 5 = true := by kernel_rfl
theorem l7_1_2 : allN (rnL 7 1 hL7_1) 10 5 = true := by kernel_rfl
theorem d7_3_3 : allN (rnD 7 3 hD7_3) 15 5 = true := by kernel_rfl
theorem l7_3_3 : allN (rnL 7 3 hL7_3) 15 5 = true := by kernel_rfl
theorem d2_1_0 : allN (rnD 2 1 hD2_1) 0 8 = true := by kernel_rfl
theorem l2_1_0 : allN (rnL 2 1 hL2_1) 0 8 = true := by kernel_rfl
theorem e2_0 : (rxD hD2_0 6 && rxL 2 hL2_0 6) = true := by kernel_rfl
theorem e2_2 : (rxD hD2_2 10 && rxL 2 hL2_2 10) = true := by kernel_rfl
theorem e4_2 : (rxD hD4_2 20 && rxL 4 hL4_2 20) = true := by kernel_rfl
theorem e7_2 : (rxD hD7_2 35 && rxL 7 hL7_2 35) = true := by kernel_rfl
end Go.Proofs.YtkhcgoeccmkmdaaGreatDoor.muxFair
