/- A part of the proof: an interpreter of the model's own code on partly known states, and that what it answers is what the program answers. No condition of its own. -/
import Derived.Test.YtkhcgoeccmkmdaaP1PoolBoundsO2
set_option maxRecDepth 100000
set_option linter.unusedVariables false
set_option linter.unusedSimpArgs false
set_option maxHeartbeats 4000000
namespace Go.Proofs.Ytkhcgoeccmkmdaa.poolBounds
open Go Go.AX Go.Proofs Go.Proofs.Ytkhcgoeccmkmdaa
theorem x2_7_2 : allN (chk 2 7 hs2_7) 7 3 = true := by kernel_rfl
theorem x4_5_7 : allN (chk 4 5 hs4_5) 16 2 = true := by kernel_rfl
theorem x3_8_5 : allN (chk 3 8 hs3_8) 12 2 = true := by kernel_rfl
theorem x2_8_6 : allN (chk 2 8 hs2_8) 15 2 = true := by kernel_rfl
theorem x4_4_5 : allN (chk 4 4 hs4_4) 14 2 = true := by kernel_rfl
theorem x1_6_0 : allN (chk 1 6 hs1_6) 0 5 = true := by kernel_rfl
theorem x4_2_0 : allN (chk 4 2 hs4_2) 0 5 = true := by kernel_rfl
theorem x2_7_0 : allN (chk 2 7 hs2_7) 0 4 = true := by kernel_rfl
theorem x4_2_1 : allN (chk 4 2 hs4_2) 5 3 = true := by kernel_rfl
theorem x3_5_3 : allN (chk 3 5 hs3_5) 10 2 = true := by kernel_rfl
theorem x4_1_0 : allN (chk 4 1 hs4_1) 0 5 = true := by kernel_rfl
theorem x4_5_1 : allN (chk 4 5 hs4_5) 4 2 = true := by kernel_rfl
theorem x4_7_15 : allN (chk 4 7 hs4_7) 23 1 = true := by kernel_rfl
theorem x4_6_12 : allN (chk 4 6 hs4_6) 21 1 = true := by kernel_rfl
theorem x4_8_8 : allN (chk 4 8 hs4_8) 14 1 = true := by kernel_rfl
theorem x3_7_10 : allN (chk 3 7 hs3_7) 20 1 = true := by kernel_rfl
theorem x4_8_5 : allN (chk 4 8 hs4_8) 11 1 = true := by kernel_rfl
theorem x1_8_2 : allN (chk 1 8 hs1_8) 8 1 = true := by kernel_rfl
end Go.Proofs.Ytkhcgoeccmkmdaa.poolBounds
