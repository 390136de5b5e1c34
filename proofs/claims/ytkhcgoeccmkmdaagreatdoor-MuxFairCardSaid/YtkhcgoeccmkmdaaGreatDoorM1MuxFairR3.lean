/- A part of the proof: an interpreter of the model's own code on partly known states, and that what it answers is what the program answers. No condition of its own. -/
import Derived.Test.YtkhcgoeccmkmdaaGreatDoorM1MuxFairO
set_option maxRecDepth 100000
set_option linter.unusedVariables false
set_option linter.unusedSimpArgs false
set_option maxHeartbeats 4000000
namespace Go.Proofs.YtkhcgoeccmkmdaaGreatDoor.muxFair
open Go Go.AX Go.Proofs Go.Proofs.YtkhcgoeccmkmdaaGreatDoor
theorem d4_2_0 : allN (rnD 4 2 hD4_2) 0 8 = true := by kernel_rfl
theorem l4_2_0 : allN (rnL 4 2 hL4_2) 0 8 = true := by kernel_rfl
theorem d5_2_0 : allN (rnD 5 2 hD5_2) 0 7 = true := by kernel_rfl
theorem l5_2_0 : allN (rnL 5 2 hL5_2) 0 7 = true := by kernel_rfl
theorem d6_0_0 : allN (rnD 6 0 hD6_0) 0 6 = true := by kernel_rfl
theorem l6_0_0 : allN (rnL 6 0 hL6_0) 0 6 = true := by kernel_rfl
theorem d6_2_4 : allN (rnD 6 2 hD6_2) 24 6 = true := by kernel_rfl
theorem l6_2_4 : allN (rnL 6 2 hL6_2) 24 6 = true := by kernel_rfl
theorem d7_0_1 : allN (rnD 7 0 hD7_0) 5 5 = true := by kernel_rfl
theorem l7_0_1 : allN (rnL 7 0 hL7_0) 5 5 = true := by kernel_rfl
theorem d7_2_5 : allN (rnD 7 2 hD7_2) 25 5 = true := by kernel_rfl
theorem l7_2_5 : allN (rnL 7 2 hL7_2) 25 5 = true := by kernel_rfl
theorem d7_4_5 : allN (rnD 7 4 hD7_4) 25 5 = true := by kernel_rfl
theorem l7_4_5 : allN (rnL 7 4 hL7_4) 25 5 = true := by kernel_rfl
theorem e3_3 : (rxD hD3_3 18 && rxL 3 hL3_3 18) = true := by kernel_rfl
theorem e6_3 : (rxD hD6_3 36 && rxL 6 hL6_3 36) = true := by kernel_rfl
end Go.Proofs.YtkhcgoeccmkmdaaGreatDoor.muxFair
