/- A part of the proof: an interpreter of the model's own code on partly known states, and that what it answers is what the program answers. No condition of its own. -/
import Derived.Test.YtkhcgoeccmkmdaaGreatDoorM1MuxFairO
set_option maxRecDepth 100000
set_option linter.unusedVariables false
set_option linter.unusedSimpArgs false
set_option maxHeartbeats 4000000
namespace Go.Proofs.YtkhcgoeccmkmdaaGreatDoor.muxFair
open Go Go.AX Go.Proofs Go.Proofs.YtkhcgoeccmkmdaaGreatDoor
theorem d3_0_0 : allN (rnD 3 0 hD3_0) 0 9 = true := by kernel_rfl
theorem l3_0_0 : allN (rnL 3 0 hL3_0) 0 9 = true := by kernel_rfl
theorem d3_3_1 : allN (rnD 3 3 hD3_3) 9 9 = true := by kernel_rfl
theorem l3_3_1 : allN (rnL 3 3 hL3_3) 9 9 = true := by kernel_rfl
theorem d5_4_1 : allN (rnD 5 4 hD5_4) 7 7 = true := by kernel_rfl
theorem l5_4_1 : allN (rnL 5 4 hL5_4) 7 7 = true := by kernel_rfl
theorem d6_4_1 : allN (rnD 6 4 hD6_4) 6 6 = true := by kernel_rfl
theorem l6_4_1 : allN (rnL 6 4 hL6_4) 6 6 = true := by kernel_rfl
theorem d7_2_0 : allN (rnD 7 2 hD7_2) 0 5 = true := by kernel_rfl
theorem l7_2_0 : allN (rnL 7 2 hL7_2) 0 5 = true := by kernel_rfl
theorem d7_3_6 : allN (rnD 7 3 hD7_3) 30 5 = true := by kernel_rfl
theorem l7_3_6 : allN (rnL 7 3 hL7_3) 30 5 = true := by kernel_rfl
theorem d2_0_0 : allN (rnD 2 0 hD2_0) 0 6 = true := by kernel_rfl
theorem l2_0_0 : allN (rnL 2 0 hL2_0) 0 6 = true := by kernel_rfl
theorem d5_3_4 : allN (rnD 5 3 hD5_3) 28 2 = true := by kernel_rfl
theorem l5_3_4 : allN (rnL 5 3 hL5_3) 28 2 = true := by kernel_rfl
theorem e4_3 : (rxD hD4_3 24 && rxL 4 hL4_3 24) = true := by kernel_rfl
theorem e7_3 : (rxD hD7_3 42 && rxL 7 hL7_3 42) = true := by kernel_rfl
end Go.Proofs.YtkhcgoeccmkmdaaGreatDoor.muxFair
