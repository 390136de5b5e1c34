/- A part of the proof: an interpreter of the model's own code on partly known states, and that what it answers is what the program answers. No condition of its own. -/
import Derived.Test.YtkhcgoeccmkmdaaGreatDoorM1MuxFairO
set_option maxRecDepth 100000
set_option linter.unusedVariables false
set_option linter.unusedSimpArgs false
set_option maxHeartbeats 4000000
namespace Go.Proofs.YtkhcgoeccmkmdaaGreatDoor.muxFair
open Go Go.AX Go.Proofs Go.Proofs.YtkhcgoeccmkmdaaGreatDoor
theorem d4_3_0 : allN (rnD 4 3 hD4_3) 0 8 = true := by kernel_rfl
theorem l4_3_0 : allN (rnL 4 3 hL4_3) 0 8 = true := by kernel_rfl
theorem d5_2_2 : allN (rnD 5 2 hD5_2) 14 7 = true := by kernel_rfl
theorem l5_2_2 : allN (rnL 5 2 hL5_2) 14 7 = true := by kernel_rfl
theorem d6_0_2 : allN (rnD 6 0 hD6_0) 12 6 = true := by kernel_rfl
theorem l6_0_2 : allN (rnL 6 0 hL6_0) 12 6 = true := by kernel_rfl
theorem d6_3_1 : allN (rnD 6 3 hD6_3) 6 6 = true := by kernel_rfl
theorem l6_3_1 : allN (rnL 6 3 hL6_3) 6 6 = true := by kernel_rfl
theorem d7_0_3 : allN (rnD 7 0 hD7_0) 15 5 = true := by kernel_rfl
theorem l7_0_3 : allN (rnL 7 0 hL7_0) 15 5 = true := by kernel_rfl
theorem d7_3_0 : allN (rnD 7 3 hD7_3) 0 5 = true := by kernel_rfl
theorem l7_3_0 : allN (rnL 7 3 hL7_3) 0 5 = true := by kernel_rfl
theorem d7_4_7 : allN (rnD 7 4 hD7_4) 35 5 = true := by kernel_rfl
theorem l7_4_7 : allN (rnL 7 4 hL7_4) 35 5 = true := by kernel_rfl
theorem e4_0 : (rxD hD4_0 12 && rxL 4 hL4_0 12) = true := by kernel_rfl
theorem e7_0 : (rxD hD7_0 21 && rxL 7 hL7_0 21) = true := by kernel_rfl
end Go.Proofs.YtkhcgoeccmkmdaaGreatDoor.muxFair
