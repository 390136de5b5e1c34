/- A part of the proof: an interpreter of the model's own code on partly known states, and that what it answers is what the program answers. No condition of its own. -/
import Derived.Test.YtkhcgoeccmkmdaaGreatDoorM1MuxFairO
set_option maxRecDepth 100000
set_option linter.unusedVariables false
set_option linter.unusedSimpArgs false
set_option maxHeartbeats 4000000
namespace Go.Proofs.YtkhcgoeccmkmdaaGreatDoor.muxFair
open Go Go.AX Go.Proofs Go.Proofs.YtkhcgoeccmkmdaaGreatDoor
theorem d4_3_1 : allN (rnD 4 3 hD4_3) 8 8 = true := by kernel_rfl
theorem l4_3_1 : allN (rnL 4 3 hL4_3) 8 8 = true := by kernel_rfl
theorem d5_3_0 : allN (rnD 5 3 hD5_3) 0 7 = true := by kernel_rfl
theorem l5_3_0 : allN (rnL 5 3 hL5_3) 0 7 = true := by kernel_rfl
theorem d6_1_0 : allN (rnD 6 1 hD6_1) 0 6 = true := by kernel_rfl
theorem l6_1_0 : allN (rnL 6 1 hL6_1) 0 6 = true := by kernel_rfl
theorem d6_3_2 : allN (rnD 6 3 hD6_3) 12 6 = true := by kernel_rfl
theorem l6_3_2 : allN (rnL 6 3 hL6_3) 12 6 = true := by kernel_rfl
theorem d7_1_0 : allN (rnD 7 1 hD7_1) 0 5 = true := by kernel_rfl
theorem l7_1_0 : allN (rnL 7 1 hL7_1) 0 5 = true := by kernel_rfl
theorem d7_3_1 : allN (rnD 7 3 hD7_3) 5 5 = true := by kernel_rfl
theorem l7_3_1 : allN (rnL 7 3 hL7_3) 5 5 = true := by kernel_rfl
theorem d7_4_8 : allN (rnD 7 4 hD7_4) 40 5 = true := by kernel_rfl
theorem l7_4_8 : allN (rnL 7 4 hL7_4) 40 5 = true := by kernel_rfl
theorem e4_1 : (rxD hD4_1 16 && rxL 4 hL4_1 16) = true := by kernel_rfl
theorem e7_1 : (rxD hD7_1 28 && rxL 7 hL7_1 28) = true := by kernel_rfl
end Go.Proofs.YtkhcgoeccmkmdaaGreatDoor.muxFair
