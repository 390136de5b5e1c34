/- A part of the proof: an interpreter of the model's own code on partly known states, and that what it answers is what the program answers. No condition of its own. -/
import Derived.Test.YtkhcgoeccmkmdaaGreatDoorM1MuxFairO
set_option maxRecDepth 100000
set_option linter.unusedVariables false
set_option linter.unusedSimpArgs false
set_option maxHeartbeats 4000000
namespace Go.Proofs.YtkhcgoeccmkmdaaGreatDoor.muxFair
open Go Go.AX Go.Proofs Go.Proofs.YtkhcgoeccmkmdaaGreatDoor
theorem d4_2_1 : allN (rnD 4 2 hD4_2) 8 8 = true := by kernel_rfl
theorem l4_2_1 : allN (rnL 4 2 hL4_2) 8 8 = true := by kernel_rfl
theorem d5_2_1 : allN (rnD 5 2 hD5_2) 7 7 = true := by kernel_rfl
theorem l5_2_1 : allN (rnL 5 2 hL5_2) 7 7 = true := by kernel_rfl
theorem d6_0_1 : allN (rnD 6 0 hD6_0) 6 6 = true := by kernel_rfl
theorem l6_0_1 : allN (rnL 6 0 hL6_0) 6 6 = true := by kernel_rfl
theorem d6_3_0 : allN (rnD 6 3 hD6_3) 0 6 = true := by kernel_rfl
theorem l6_3_0 : allN (rnL 6 3 hL6_3) 0 6 = true := by kernel_rfl
theorem d7_0_2 : allN (rnD 7 0 hD7_0) 10 5 = true := by kernel_rfl
theorem l7_0_2 : allN (rnL 7 0 hL7_0) 10 5 = true := by kernel_rfl
theorem d7_2_6 : allN (rnD 7 2 hD7_2) 30 5 = true := by kernel_rfl
theorem l7_2_6 : allN (rnL 7 2 hL7_2) 30 5 = true := by kernel_rfl
theorem d7_4_6 : allN (rnD 7 4 hD7_4) 30 5 = true := by kernel_rfl
theorem l7_4_6 : allN (rnL 7 4 hL7_4) 30 5 = true := by kernel_rfl
theorem e3_4 : (rxD hD3_4 21 && rxL 3 hL3_4 21) = true := by kernel_rfl
theorem e6_4 : (rxD hD6_4 42 && rxL 6 hL6_4 42) = true := by kernel_rfl
end Go.Proofs.YtkhcgoeccmkmdaaGreatDoor.muxFair
