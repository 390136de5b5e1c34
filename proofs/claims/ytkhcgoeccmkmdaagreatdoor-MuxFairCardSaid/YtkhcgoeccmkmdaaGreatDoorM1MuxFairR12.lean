/- A part of the proof: an interpreter of the model's own code on partly known states, and that what it answers is what the program answers. No condition of its own. -/
import Derived.Test.YtkhcgoeccmkmdaaGreatDoorM1MuxFairO
set_option maxRecDepth 100000
set_option linter.unusedVariables false
set_option linter.unusedSimpArgs false
set_option maxHeartbeats 4000000
namespace Go.Proofs.YtkhcgoeccmkmdaaGreatDoor.muxFair
open Go Go.AX Go.Proofs Go.Proofs.YtkhcgoeccmkmdaaGreatDoor
theorem d3_1_0 : allN (rnD 3 1 hD3_1) 0 9 = true := by kernel_rfl
theorem l3_1_0 : allN (rnL 3 1 hL3_1) 0 9 = true := by kernel_rfl
theorem d3_4_0 : allN (rnD 3 4 hD3_4) 0 9 = true := by kernel_rfl
theorem l3_4_0 : allN (rnL 3 4 hL3_4) 0 9 = true := by kernel_rfl
theorem d5_4_2 : allN (rnD 5 4 hD5_4) 14 7 = true := by kernel_rfl
theorem l5_4_2 : allN (rnL 5 4 hL5_4) 14 7 = true := by kernel_rfl
theorem d6_4_2 : allN (rnD 6 4 hD6_4) 12 6 = true := by kernel_rfl
theorem l6_4_2 : allN (rnL 6 4 hL6_4) 12 6 = true := by kernel_rfl
theorem d7_2_1 : allN (rnD 7 2 hD7_2) 5 5 = true := by kernel_rfl
theorem l7_2_1 : allN (rnL 7 2 hL7_2) 5 5 = true := by kernel_rfl
theorem d7_3_7 : allN (rnD 7 3 hD7_3) 35 5 = true := by kernel_rfl
theorem l7_3_7 : allN (rnL 7 3 hL7_3) 35 5 = true := by kernel_rfl
theorem d5_2_3 : allN (rnD 5 2 hD5_2) 21 4 = true := by kernel_rfl
theorem l5_2_3 : allN (rnL 5 2 hL5_2) 21 4 = true := by kernel_rfl
theorem d2_3_1 : allN (rnD 2 3 hD2_3) 10 2 = true := by kernel_rfl
theorem l2_3_1 : allN (rnL 2 3 hL2_3) 10 2 = true := by kernel_rfl
theorem e2_1 : (rxD hD2_1 8 && rxL 2 hL2_1 8) = true := by kernel_rfl
theorem e3_1 : (rxD hD3_1 12 && rxL 3 hL3_1 12) = true := by kernel_rfl
theorem e6_0 : (rxD hD6_0 18 && rxL 6 hL6_0 18) = true := by kernel_rfl
end Go.Proofs.YtkhcgoeccmkmdaaGreatDoor.muxFair
