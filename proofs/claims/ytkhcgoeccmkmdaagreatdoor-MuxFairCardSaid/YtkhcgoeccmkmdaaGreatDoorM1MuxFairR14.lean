/- A part of the proof: an interpreter of the model's own code on partly known states, and that what it answers is what the program answers. No condition of its own. -/
import Derived.Test.YtkhcgoeccmkmdaaGreatDoorM1MuxFairO
set_option maxRecDepth 100000
set_option linter.unusedVariables false
set_option linter.unusedSimpArgs false
set_option maxHeartbeats 4000000
namespace Go.Proofs.YtkhcgoeccmkmdaaGreatDoor.muxFair
open Go Go.AX Go.Proofs Go.Proofs.YtkhcgoeccmkmdaaGreatDoor
theorem d3_3_0 : allN (rnD 3 3 hD3_3) 0 9 = true := by kernel_rfl
theorem l3_3_0 : allN (rnL 3 3 hL3_3) 0 9 = true := by kernel_rfl
theorem d5_0_0 : allN (rnD 5 0 hD5_0) 0 7 = true := by kernel_rfl
theorem l5_0_0 : allN (rnL 5 0 hL5_0) 0 7 = true := by kernel_rfl
theorem d5_4_4 : allN (rnD 5 4 hD5_4) 28 7 = true := by kernel_rfl
theorem l5_4_4 : allN (rnL 5 4 hL5_4) 28 7 = true := by kernel_rfl
theorem d6_4_4 : allN (rnD 6 4 hD6_4) 24 6 = true := by kernel_rfl
theorem l6_4_4 : allN (rnL 6 4 hL6_4) 24 6 = true := by kernel_rfl
theorem d7_2_3 : allN (rnD 7 2 hD7_2) 15 5 = true := by kernel_rfl
theorem l7_2_3 : allN (rnL 7 2 hL7_2) 15 5 = true := by kernel_rfl
theorem d7_4_1 : allN (rnD 7 4 hD7_4) 5 5 = true := by kernel_rfl
theorem l7_4_1 : allN (rnL 7 4 hL7_4) 5 5 = true := by kernel_rfl
theorem d4_0_1 : allN (rnD 4 0 hD4_0) 8 4 = true := by kernel_rfl
theorem l4_0_1 : allN (rnL 4 0 hL4_0) 8 4 = true := by kernel_rfl
theorem d2_4_1 : allN (rnD 2 4 hD2_4) 10 4 = true := by kernel_rfl
theorem l2_4_1 : allN (rnL 2 4 hL2_4) 10 4 = true := by kernel_rfl
theorem e6_1 : (rxD hD6_1 24 && rxL 6 hL6_1 24) = true := by kernel_rfl
end Go.Proofs.YtkhcgoeccmkmdaaGreatDoor.muxFair
