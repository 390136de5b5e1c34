/- A part of the proof: an interpreter of the model's own code on partly known states, and that what it answers is what the program answers. No condition of its own. -/
import Derived.Test.YtkhcgoeccmkmdaaP1PoolBoundsO2
set_option maxRecDepth 100000
set_option linter.unusedVariables false
set_option linter.unusedSimpArgs false
set_option maxHeartbeats 4000000
namespace Go.Proofs.Ytkhcgoeccmkmdaa.poolBounds
open Go Go.AX Go.Proofs Go.Proofs.Ytkhcgoeccmkmdaa
theorem x3_2_0 : allN (chk 3 2 hs3_2) 0 6 = true := by kernel_rfl
theorem x4_3_2 : allN (chk 4 3 hs4_3) 8 3 = true := by kernel_rfl
theorem x1_8_0 : allN (chk 1 8 hs1_8) 0 5 = true := by kernel_rfl
theorem x4_7_3 : allN (chk 4 7 hs4_7) 8 2 = true := by kernel_rfl
theorem x2_6_1 : allN (chk 2 6 hs2_6) 5 3 = true := by kernel_rfl
theorem x4_3_1 : allN (chk 4 3 hs4_3) 5 3 = true := by kernel_rfl
theorem x2_5_1 : allN (chk 2 5 hs2_5) 5 3 = true := by kernel_rfl
theorem x3_8_2 : allN (chk 3 8 hs3_8) 6 2 = true := by kernel_rfl
theorem x4_4_3 : allN (chk 4 4 hs4_4) 10 2 = true := by kernel_rfl
theorem x4_6_1 : allN (chk 4 6 hs4_6) 4 2 = true := by kernel_rfl
theorem x4_4_2 : allN (chk 4 4 hs4_4) 8 2 = true := by kernel_rfl
theorem x4_7_19 : allN (chk 4 7 hs4_7) 27 1 = true := by kernel_rfl
theorem x3_8_14 : allN (chk 3 8 hs3_8) 23 1 = true := by kernel_rfl
theorem x4_6_14 : allN (chk 4 6 hs4_6) 23 1 = true := by kernel_rfl
theorem x4_6_10 : allN (chk 4 6 hs4_6) 19 1 = true := by kernel_rfl
theorem x4_5_10 : allN (chk 4 5 hs4_5) 20 1 = true := by kernel_rfl
theorem x4_6_8 : allN (chk 4 6 hs4_6) 17 1 = true := by kernel_rfl
theorem x3_2_1 : allN (chk 3 2 hs3_2) 6 1 = true := by kernel_rfl
theorem x1_1_0 : allN (chk 1 1 hs1_1) 0 2 = true := by kernel_rfl
end Go.Proofs.Ytkhcgoeccmkmdaa.poolBounds
