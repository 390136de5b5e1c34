/- A part of the proof: an interpreter of the model's own code on partly known states, and that what it answers is what the program answers. No condition of its own. -/
import Derived.Test.YtkhcgoeccmkmdaaGreatDoorM1MuxFairO
set_option maxRecDepth 100000
set_option linter.unusedVariables false
set_option linter.unusedSimpArgs false
set_option maxHeartbeats 4000000
namespace Go.Proofs.YtkhcgoeccmkmdaaGreatDoor.muxFair
open Go Go.AX Go.Proofs Go.Proofs.YtkhcgoeccmkmdaaGreatDoor
theorem d4_0_0 : allN (rnD 4 0 hD4_0) 0 8 = true := by kernel_rfl
theorem l4_0_0 : allN (rnL 4 0 hL4_0) 0 8 = true := by kernel_rfl
theorem d5_0_1 : allN (rnD 5 0 hD5_0) 7 7 = true := by kernel_rfl
theorem l5_0_1 : allN (rnL 5 0 hL5_0) 7 7 = true := by kernel_rfl
theorem d2_2_0 : allN (rnD 2 2 hD2_2) 0 10 = true := by kernel_rfl
theorem l2_2_0 : allN (rnL 2 2 hL2_2) 0 10 = true := by kernel_rfl
theorem d6_2_1 : allN (rnD 6 2 hD6_2) 6 6 = true := by kernel_rfl
theorem l6_2_1 : allN (rnL 6 2 hL6_2) 6 6 = true := by kernel_rfl
theorem d6_4_5 : allN (rnD 6 4 hD6_4) 30 6 = true := by kernel_rfl
theorem l6_4_5 : allN (rnL 6 4 hL6_4) 30 6 = true := by kernel_rfl
theorem d7_4_2 : allN (rnD 7 4 hD7_4) 10 5 = true := by kernel_rfl
theorem l7_4_2 : allN (rnL 7 4 hL7_4) 10 5 = true := by kernel_rfl
theorem d4_2_2 : allN (rnD 4 2 hD4_2) 16 4 = true := by kernel_rfl
theorem l4_2_2 : allN (rnL 4 2 hL4_2) 16 4 = true := by kernel_rfl
theorem d3_1_1 : allN (rnD 3 1 hD3_1) 9 3 = true := by kernel_rfl
theorem l3_1_1 : allN (rnL 3 1 hL3_1) 9 3 = true := by kernel_rfl
theorem e5_2 : (rxD hD5_2 25 && rxL 5 hL5_2 25) = true := by kernel_rfl
end Go.Proofs.YtkhcgoeccmkmdaaGreatDoor.muxFair
