/- A part of the proof: an interpreter of the model's own code on partly known states, and that what it answers is what the program answers. No condition of its own. -/
import Derived.Test.YtkhcgoeccmkmdaaGreatDoorM1MuxFairO
set_option maxRecDepth 100000
set_option linter.unusedVariables false
set_option linter.unusedSimpArgs false
set_option maxHeartbeats 4000000
namespace Go.Proofs.YtkhcgoeccmkmdaaGreatDoor.muxFair
open Go Go.AX Go.Proofs Go.Proofs.YtkhcgoeccmkmdaaGreatDoor
theorem d3_2_0 : allN (rnD 3 2 hD3_2) 0 9 = true := by kernel_rfl
theorem l3_2_0 : allN (rnL 3 2 hL3_2) 0 9 = true := by kernel_rfl
theorem d3_4_1 : allN (rnD 3 4 hD3_4) 9 9 = true := by kernel_rfl
theorem l3_4_1 : allN (rnL 3 4 hL3_4) 9 9 = true := by kernel_rfl
theorem d5_4_3 : allN (rnD 5 4 hD5_4) 21 7 = true := by kernel_rfl
theorem l5_4_3 : allN (rnL 5 4 hL5_4) 21 7 = true := by kernel_rfl
theorem d6_4_3 : allN (rnD 6 4 hD6_4) 18 6 = true := by kernel_rfl
theorem l6_4_3 : allN (rnL 6 4 hL6_4) 18 6 = true := by kernel_rfl
theorem d7_2_2 : allN (rnD 7 2 hD7_2) 10 5 = true := by kernel_rfl
theorem l7_2_2 : allN (rnL 7 2 hL7_2) 10 5 = true := by kernel_rfl
theorem d7_4_0 : allN (rnD 7 4 hD7_4) 0 5 = true := by kernel_rfl
theorem l7_4_0 : allN (rnL 7 4 hL7_4) 0 5 = true := by kernel_rfl
theorem d7_1_5 : allN (rnD 7 1 hD7_1) 25 3 = true := by kernel_rfl
theorem l7_1_5 : allN (rnL 7 1 hL7_1) 25 3 = true := by kernel_rfl
theorem d7_3_8 : allN (rnD 7 3 hD7_3) 40 2 = true := by kernel_rfl
theorem l7_3_8 : allN (rnL 7 3 hL7_3) 40 2 = true := by kernel_rfl
theorem e5_1 : (rxD hD5_1 20 && rxL 5 hL5_1 20) = true := by kernel_rfl
end Go.Proofs.YtkhcgoeccmkmdaaGreatDoor.muxFair
