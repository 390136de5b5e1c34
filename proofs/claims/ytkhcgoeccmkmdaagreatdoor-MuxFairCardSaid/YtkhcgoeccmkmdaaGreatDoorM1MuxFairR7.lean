/- A part of the proof: an interpreter of the model's own code on partly known states, and that what it answers is what the program answers. No condition of its own. -/
import Derived.Test.YtkhcgoeccmkmdaaGreatDoorM1MuxFairO
set_option maxRecDepth 100000
set_option linter.unusedVariables false
set_option linter.unusedSimpArgs false
set_option maxHeartbeats 4000000
namespace Go.Proofs.YtkhcgoeccmkmdaaGreatDoor.muxFair
open Go Go.AX Go.Proofs Go.Proofs.YtkhcgoeccmkmdaaGreatDoor
theorem d4_3_2 : allN (rnD 4 3 hD4_3) 16 8 = true := by kernel_rfl
theorem l4_3_2 : allN (rnL 4 3 hL4_3) 16 8 = true := by kernel_rfl
theorem d5_3_1 : allN (rnD 5 3 hD5_3) 7 7 = true := by kernel_rfl
theorem l5_3_1 : allN (rnL 5 3 hL5_3) 7 7 = true := by kernel_rfl
theorem d6_1_1 : allN (rnD 6 1 hD6_1) 6 6 = true := by kernel_rfl
theorem l6_1_1 : allN (rnL 6 1 hL6_1) 6 6 = true := by kernel_rfl
theorem d6_3_3 : allN (rnD 6 3 hD6_3) 18 6 = true := by kernel_rfl
theorem l6_3_3 : allN (rnL 6 3 hL6_3) 18 6 = true := by kernel_rfl
theorem d7_1_1 : allN (rnD 7 1 hD7_1) 5 5 = true := by kernel_rfl
theorem l7_1_1 : allN (rnL 7 1 hL7_1) 5 5 = true := by kernel_rfl
theorem d7_3_2 : allN (rnD 7 3 hD7_3) 10 5 = true := by kernel_rfl
theorem l7_3_2 : allN (rnL 7 3 hL7_3) 10 5 = true := by kernel_rfl
theorem d5_1_2 : allN (rnD 5 1 hD5_1) 14 6 = true := by kernel_rfl
theorem l5_1_2 : allN (rnL 5 1 hL5_1) 14 6 = true := by kernel_rfl
theorem e3_0 : (rxD hD3_0 9 && rxL 3 hL3_0 9) = true := by kernel_rfl
theorem e5_4 : (rxD hD5_4 35 && rxL 5 hL5_4 35) = true := by kernel_rfl
end Go.Proofs.YtkhcgoeccmkmdaaGreatDoor.muxFair
