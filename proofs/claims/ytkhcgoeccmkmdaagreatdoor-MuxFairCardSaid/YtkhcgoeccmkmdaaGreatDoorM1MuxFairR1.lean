/- A part of the proof: an interpreter of the model's own code on partly known states, and that what it answers is what the program answers. No condition of its own. -/
import Derived.Test.YtkhcgoeccmkmdaaGreatDoorM1MuxFairO
set_option maxRecDepth 100000
set_option linter.unusedVariables false
set_option linter.unusedSimpArgs false
set_option maxHeartbeats 4000000
namespace Go.Proofs.YtkhcgoeccmkmdaaGreatDoor.muxFair
open Go Go.AX Go.Proofs Go.Proofs.YtkhcgoeccmkmdaaGreatDoor
theorem d4_1_0 : allN (rnD 4 1 hD4_1) 0 8 = true := by kernel_rfl
theorem l4_1_0 : allN (rnL 4 1 hL4_1) 0 8 = true := by kernel_rfl
theorem d5_1_0 : allN (rnD 5 1 hD5_1) 0 7 = true := by kernel_rfl
theorem l5_1_0 : allN (rnL 5 1 hL5_1) 0 7 = true := by kernel_rfl
theorem d2_3_0 : allN (rnD 2 3 hD2_3) 0 10 = true := by kernel_rfl
theorem l2_3_0 : allN (rnL 2 3 hL2_3) 0 10 = true := by kernel_rfl
theorem d6_2_2 : allN (rnD 6 2 hD6_2) 12 6 = true := by kernel_rfl
theorem l6_2_2 : allN (rnL 6 2 hL6_2) 12 6 = true := by kernel_rfl
theorem d6_4_6 : allN (rnD 6 4 hD6_4) 36 6 = true := by kernel_rfl
theorem l6_4_6 : allN (rnL 6 4 hL6_4) 36 6 = true := by kernel_rfl
theorem d7_4_3 : allN (rnD 7 4 hD7_4) 15 5 = true := by kernel_rfl
theorem l7_4_3 : allN (rnL 7 4 hL7_4) 15 5 = true := by kernel_rfl
theorem d4_4_3 : allN (rnD 4 4 hD4_4) 24 4 = true := by kernel_rfl
theorem l4_4_3 : allN (rnL 4 4 hL4_4) 24 4 = true := by kernel_rfl
theorem d3_4_2 : allN (rnD 3 4 hD3_4) 18 3 = true := by kernel_rfl
theorem l3_4_2 : allN (rnL 3 4 hL3_4) 18 3 = true := by kernel_rfl
theorem e5_3 : (rxD hD5_3 30 && rxL 5 hL5_3 30) = true := by kernel_rfl
end Go.Proofs.YtkhcgoeccmkmdaaGreatDoor.muxFair
