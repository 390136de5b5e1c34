/- A part of the proof: an interpreter of the model's own code on partly known states, and that what it answers is what the program answers. No condition of its own. -/
import Derived.Test.YtkhcgoeccmkmdaaGreatDoorM1MuxFairO
set_option maxRecDepth 100000
set_option linter.unusedVariables false
set_option linter.unusedSimpArgs false
set_option maxHeartbeats 4000000
namespace Go.Proofs.YtkhcgoeccmkmdaaGreatDoor.muxFair
open Go Go.AX Go.Proofs Go.Proofs.YtkhcgoeccmkmdaaGreatDoor
theorem d4_1_1 : allN (rnD 4 1 hD4_1) 8 8 = true := by kernel_rfl
theorem l4_1_1 : allN (rnL 4 1 hL4_1) 8 8 = true := by kernel_rfl
theorem d5_1_1 : allN (rnD 5 1 hD5_1) 7 7 = true := by kernel_rfl
theorem l5_1_1 : allN (rnL 5 1 hL5_1) 7 7 = true := by kernel_rfl
theorem d2_4_0 : allN (rnD 2 4 hD2_4) 0 10 = true := by kernel_rfl
theorem l2_4_0 : allN (rnL 2 4 hL2_4) 0 10 = true := by kernel_rfl
theorem d6_2_3 : allN (rnD 6 2 hD6_2) 18 6 = true := by kernel_rfl
theorem l6_2_3 : allN (rnL 6 2 hL6_2) 18 6 = true := by kernel_rfl
theorem d7_0_0 : allN (rnD 7 0 hD7_0) 0 5 = true := by kernel_rfl
theorem l7_0_0 : allN (rnL 7 0 hL7_0) 0 5 = true := by kernel_rfl
theorem d7_2_4 : allN (rnD 7 2 hD7_2) 20 5 = true := by kernel_rfl
theorem l7_2_4 : allN (rnL 7 2 hL7_2) 20 5 = true := by kernel_rfl
theorem d7_4_4 : allN (rnD 7 4 hD7_4) 20 5 = true := by kernel_rfl
theorem l7_4_4 : allN (rnL 7 4 hL7_4) 20 5 = true := by kernel_rfl
theorem e3_2 : (rxD hD3_2 15 && rxL 3 hL3_2 15) = true := by kernel_rfl
theorem e6_2 : (rxD hD6_2 30 && rxL 6 hL6_2 30) = true := by kernel_rfl
end Go.Proofs.YtkhcgoeccmkmdaaGreatDoor.muxFair
