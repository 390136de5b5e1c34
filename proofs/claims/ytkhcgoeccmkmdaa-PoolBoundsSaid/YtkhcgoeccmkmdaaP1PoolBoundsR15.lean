/- A part of the proof: an interpreter of the model's own code on partly known states, and that what it answers is what the program answers. No condition of its own. -/
import Derived.Test.YtkhcgoeccmkmdaaP1PoolBoundsO2
set_option maxRecDepth 100000
set_option linter.unusedVariables false
set_option linter.unusedSimpArgs false
set_option maxHeartbeats 4000000
namespace Go.Proofs.Ytkhcgoeccmkmdaa.poolBounds
open Go Go.AX Go.Proofs Go.Proofs.Ytkhcgoeccmkmdaa
theorem x4_6_6 : allN (chk 4 6 hs4_6) 14 2 = true := by kernel_rfl
theorem x3_6_1 : allN (chk 3 6 hs3_6) 4 3 = true := by kernel_rfl
theorem x4_8_2 : allN (chk 4 8 hs4_8) 6 2 = true := by kernel_rfl
theorem x4_3_0 : allN (chk 4 3 hs4_3) 0 5 = true := by kernel_rfl
theorem x2_7_1 : allN (chk 2 7 hs2_7) 4 3 = true := by kernel_rfl
theorem x4_7_0 : allN (chk 4 7 hs4_7) 0 4 = true := by kernel_rfl
theorem x3_6_0 : allN (chk 3 6 hs3_6) 0 4 = true := by kernel_rfl
theorem x3_5_4 : allN (chk 3 5 hs3_5) 12 2 = true := by kernel_rfl
theorem x3_6_3 : allN (chk 3 6 hs3_6) 9 2 = true := by kernel_rfl
theorem x2_8_3 : allN (chk 2 8 hs2_8) 9 2 = true := by kernel_rfl
theorem x4_3_3 : allN (chk 4 3 hs4_3) 11 2 = true := by kernel_rfl
theorem x2_8_2 : allN (chk 2 8 hs2_8) 7 2 = true := by kernel_rfl
theorem x4_8_13 : allN (chk 4 8 hs4_8) 19 1 = true := by kernel_rfl
theorem x3_8_13 : allN (chk 3 8 hs3_8) 22 1 = true := by kernel_rfl
theorem x4_7_9 : allN (chk 4 7 hs4_7) 17 1 = true := by kernel_rfl
theorem x4_6_9 : allN (chk 4 6 hs4_6) 18 1 = true := by kernel_rfl
theorem x4_5_8 : allN (chk 4 5 hs4_5) 18 1 = true := by kernel_rfl
theorem x1_6_1 : allN (chk 1 6 hs1_6) 5 2 = true := by kernel_rfl
end Go.Proofs.Ytkhcgoeccmkmdaa.poolBounds
