/- A part of the proof: an interpreter of the model's own code on partly known states, and that what it answers is what the program answers. No condition of its own. -/
import Derived.Test.YtkhcgoeccmkmdaaP1PoolBoundsO2
set_option maxRecDepth 100000
set_option linter.unusedVariables false
set_option linter.unusedSimpArgs false
set_option maxHeartbeats 4000000
namespace Go.Proofs.Ytkhcgoeccmkmdaa.poolBounds
open Go Go.AX Go.Proofs Go.Proofs.Ytkhcgoeccmkmdaa
theorem x2_6_0 : allN (chk 2 6 hs2_6) 0 5 = true := by kernel_rfl
theorem x3_6_7 : allN (chk 3 6 hs3_6) 17 2 = true := by kernel_rfl
theorem x2_8_1 : allN (chk 2 8 hs2_8) 4 3 = true := by kernel_rfl
theorem x4_8_0 : allN (chk 4 8 hs4_8) 0 4 = true := by kernel_rfl
theorem x4_8_1 : allN (chk 4 8 hs4_8) 4 2 = true := by kernel_rfl
theorem x2_8_0 : allN (chk 2 8 hs2_8) 0 4 = true := by kernel_rfl
theorem x4_5_4 : allN (chk 4 5 hs4_5) 10 2 = true := by kernel_rfl
theorem x3_3_1 : allN (chk 3 3 hs3_3) 5 3 = true := by kernel_rfl
theorem x1_8_1 : allN (chk 1 8 hs1_8) 5 3 = true := by kernel_rfl
theorem x3_5_0 : allN (chk 3 5 hs3_5) 0 4 = true := by kernel_rfl
theorem x2_6_3 : allN (chk 2 6 hs2_6) 11 2 = true := by kernel_rfl
theorem x3_7_1 : allN (chk 3 7 hs3_7) 4 2 = true := by kernel_rfl
theorem x4_6_15 : allN (chk 4 6 hs4_6) 24 1 = true := by kernel_rfl
theorem x4_8_10 : allN (chk 4 8 hs4_8) 16 1 = true := by kernel_rfl
theorem x4_7_10 : allN (chk 4 7 hs4_7) 18 1 = true := by kernel_rfl
theorem x3_7_9 : allN (chk 3 7 hs3_7) 19 1 = true := by kernel_rfl
theorem x4_5_9 : allN (chk 4 5 hs4_5) 19 1 = true := by kernel_rfl
theorem x2_7_5 : allN (chk 2 7 hs2_7) 14 1 = true := by kernel_rfl
end Go.Proofs.Ytkhcgoeccmkmdaa.poolBounds
