/- A part of the proof: an interpreter of the model's own code on partly known states, and that what it answers is what the program answers. No condition of its own. -/
import Derived.Test.YtkhcgoeccmkmdaaP1PoolBoundsO2
set_option maxRecDepth 100000
set_option linter.unusedVariables false
set_option linter.unusedSimpArgs false
set_option maxHeartbeats 4000000
namespace Go.Proofs.Ytkhcgoeccmkmdaa.poolBounds
open Go Go.AX Go.Proofs Go.Proofs.Ytkhcgoeccmkmdaa
theorem x4_4_0 : allN (chk 4 4 hs4_4) 0 5 = true := by kernel_rfl
theorem x4_8_3 : allN (chk 4 8 hs4_8) 8 2 = true := by kernel_rfl
theorem x4_6_5 : allN (chk 4 6 hs4_6) 12 2 = true := by kernel_rfl
theorem x1_7_0 : allN (chk 1 7 hs1_7) 0 5 = true := by kernel_rfl
theorem x3_3_0 : allN (chk 3 3 hs3_3) 0 5 = true := by kernel_rfl
theorem x3_5_5 : allN (chk 3 5 hs3_5) 14 2 = true := by kernel_rfl
theorem x4_4_4 : allN (chk 4 4 hs4_4) 12 2 = true := by kernel_rfl
theorem x4_8_25 : allN (chk 4 8 hs4_8) 31 1 = true := by kernel_rfl
theorem x4_8_22 : allN (chk 4 8 hs4_8) 28 1 = true := by kernel_rfl
theorem x3_7_2 : allN (chk 3 7 hs3_7) 6 2 = true := by kernel_rfl
theorem x4_5_2 : allN (chk 4 5 hs4_5) 6 2 = true := by kernel_rfl
theorem x4_8_16 : allN (chk 4 8 hs4_8) 22 1 = true := by kernel_rfl
theorem x4_8_14 : allN (chk 4 8 hs4_8) 20 1 = true := by kernel_rfl
theorem x3_8_12 : allN (chk 3 8 hs3_8) 21 1 = true := by kernel_rfl
theorem x4_8_9 : allN (chk 4 8 hs4_8) 15 1 = true := by kernel_rfl
theorem x3_1_0 : allN (chk 3 1 hs3_1) 0 4 = true := by kernel_rfl
theorem x3_8_8 : allN (chk 3 8 hs3_8) 17 1 = true := by kernel_rfl
theorem x4_2_2 : allN (chk 4 2 hs4_2) 8 1 = true := by kernel_rfl
end Go.Proofs.Ytkhcgoeccmkmdaa.poolBounds
