/- A part of the proof: an interpreter of the model's own code on partly known states, and that what it answers is what the program answers. No condition of its own. -/
import Derived.Test.YtkhcgoeccmkmdaaGreatDoorM1MuxFairO
set_option maxRecDepth 100000
set_option linter.unusedVariables false
set_option linter.unusedSimpArgs false
set_option maxHeartbeats 4000000
namespace Go.Proofs.YtkhcgoeccmkmdaaGreatDoor.muxFair
open Go Go.AX Go.Proofs Go.Proofs.YtkhcgoeccmkmdaaGreatDoor
theorem d4_4_1 : allN (rnD 4 4 hD4_4) 8 8 = true := by kernel_rfl
theorem l4_4_1 : allN (rnL 4 4 hL4_4) 8 8 = true := by kernel_rfl
theorem d5_3_3 : allN (rnD 5 3 hD5_3) 21 7 = true := by kernel_rfl
theorem l5_3_3 : allN (rnL 5 3 hL5_3) 21 7 = true := by kernel_rfl
theorem d6_1_3 : allN (rnD 6 1 hD6_1) 18 6 = true := by kernel_rfl
theorem l6_1_3 : allN (rnL 6 1 hL6_1) 18 6 = true := by kernel_rfl
theorem d6_3_5 : allN (rnD 6 3 hD6_3) 30 6 = true := by kernel_rfl
theorem l6_3_5 : allN (rnL 6 3 hL6_3) 30 6 = true := by kernel_rfl
theorem d7_1_3 : allN (rnD 7 1 hD7_1) 15 5 = true := by kernel_rfl
theorem l7_1_3 : allN (rnL 7 1 hL7_1) 15 5 = true := by kernel_rfl
theorem d7_3_4 : allN (rnD 7 3 hD7_3) 20 5 = true := by kernel_rfl
theorem l7_3_4 : allN (rnL 7 3 hL7_3) 20 5 = true := by kernel_rfl
theorem d7_4_9 : allN (rnD 7 4 hD7_4) 45 4 = true := by kernel_rfl
theorem l7_4_9 : allN (rnL 7 4 hL7_4) 45 4 = true := by kernel_rfl
theorem d5_0_2 : allN (rnD 5 0 hD5_0) 14 1 = true := by kernel_rfl
theorem l5_0_2 : allN (rnL 5 0 hL5_0) 14 1 = true := by kernel_rfl
theorem e2_3 : (rxD hD2_3 12 && rxL 2 hL2_3 12) = true := by kernel_rfl
theorem e4_4 : (rxD hD4_4 28 && rxL 4 hL4_4 28) = true := by kernel_rfl
theorem e7_4 : (rxD hD7_4 49 && rxL 7 hL7_4 49) = true := by kernel_rfl
end Go.Proofs.YtkhcgoeccmkmdaaGreatDoor.muxFair
