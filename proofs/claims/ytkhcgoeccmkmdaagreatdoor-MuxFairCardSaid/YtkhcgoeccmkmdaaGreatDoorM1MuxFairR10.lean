/- A part of the proof: an interpreter of the model's own code on partly known states, and that what it answers is what the program answers. No condition of its own. -/
import Derived.Test.YtkhcgoeccmkmdaaGreatDoorM1MuxFairO
set_option maxRecDepth 100000
set_option linter.unusedVariables false
set_option linter.unusedSimpArgs false
set_option maxHeartbeats 4000000
namespace Go.Proofs.YtkhcgoeccmkmdaaGreatDoor.muxFair
open Go Go.AX Go.Proofs Go.Proofs.YtkhcgoeccmkmdaaGreatDoor
theorem d4_4_2 : allN (rnD 4 4 hD4_4) 16 8 = true := by kernel_rfl
theorem l4_4_2 : allN (rnL 4 4 hL4_4) 16 8 = true := by kernel_rfl
theorem d5_4_0 : allN (rnD 5 4 hD5_4) 0 7 = true := by kernel_rfl
theorem l5_4_0 : allN (rnL 5 4 hL5_4) 0 7 = true := by kernel_rfl
theorem d6_2_0 : allN (rnD 6 2 hD6_2) 0 6 = true := by kernel_rfl
theorem l6_2_0 : allN (rnL 6 2 hL6_2) 0 6 = true := by kernel_rfl
theorem d6_4_0 : allN (rnD 6 4 hD6_4) 0 6 = true := by kernel_rfl
theorem l6_4_0 : allN (rnL 6 4 hL6_4) 0 6 = true := by kernel_rfl
theorem d7_1_4 : allN (rnD 7 1 hD7_1) 20 5 = true := by kernel_rfl
theorem l7_1_4 : allN (rnL 7 1 hL7_1) 20 5 = true := by kernel_rfl
theorem d7_3_5 : allN (rnD 7 3 hD7_3) 25 5 = true := by kernel_rfl
theorem l7_3_5 : allN (rnL 7 3 hL7_3) 25 5 = true := by kernel_rfl
theorem d3_2_1 : allN (rnD 3 2 hD3_2) 9 6 = true := by kernel_rfl
theorem l3_2_1 : allN (rnL 3 2 hL3_2) 9 6 = true := by kernel_rfl
theorem d7_0_4 : allN (rnD 7 0 hD7_0) 20 1 = true := by kernel_rfl
theorem l7_0_4 : allN (rnL 7 0 hL7_0) 20 1 = true := by kernel_rfl
theorem e2_4 : (rxD hD2_4 14 && rxL 2 hL2_4 14) = true := by kernel_rfl
theorem e5_0 : (rxD hD5_0 15 && rxL 5 hL5_0 15) = true := by kernel_rfl
end Go.Proofs.YtkhcgoeccmkmdaaGreatDoor.muxFair
