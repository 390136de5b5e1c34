/- A part of the proof: an interpreter of the model's own code on partly known states, and that what it answers is what the program answers. No condition of its own. -/
import Derived.Test.YtkhcgoeccmkmdaaP1PoolBoundsO2
set_option maxRecDepth 100000
set_option linter.unusedVariables false
set_option linter.unusedSimpArgs false
set_option maxHeartbeats 4000000
namespace Go.Proofs.Ytkhcgoeccmkmdaa.poolBounds
open Go Go.AX Go.Proofs Go.Proofs.Ytkhcgoeccmkmdaa
theorem x3_7_7 : allN (chk 3 7 hs3_7) 16 2 = true := by kernel_rfl
theorem x2_6_2 : allN (chk 2 6 hs2_6) 8 3 = true := by kernel_rfl
theorem x2_5_0 : allN (chk 2 5 hs2_5) 0 5 = true := by kernel_rfl
theorem x4_6_4 : allN (chk 4 6 hs4_6) 10 2 = true := by kernel_rfl
theorem x3_4_1 : allN (chk 3 4 hs3_4) 5 3 = true := by kernel_rfl
theorem x3_7_0 : allN (chk 3 7 hs3_7) 0 4 = true := by kernel_rfl
theorem x3_6_4 : allN (chk 3 6 hs3_6) 11 2 = true := by kernel_rfl
theorem x2_7_4 : allN (chk 2 7 hs2_7) 12 2 = true := by kernel_rfl
theorem x4_8_24 : allN (chk 4 8 hs4_8) 30 1 = true := by kernel_rfl
theorem x2_7_3 : allN (chk 2 7 hs2_7) 10 2 = true := by kernel_rfl
theorem x3_4_3 : allN (chk 3 4 hs3_4) 11 2 = true := by kernel_rfl
theorem x4_7_18 : allN (chk 4 7 hs4_7) 26 1 = true := by kernel_rfl
theorem x4_7_13 : allN (chk 4 7 hs4_7) 21 1 = true := by kernel_rfl
theorem x4_7_12 : allN (chk 4 7 hs4_7) 20 1 = true := by kernel_rfl
theorem x3_8_10 : allN (chk 3 8 hs3_8) 19 1 = true := by kernel_rfl
theorem x3_8_9 : allN (chk 3 8 hs3_8) 18 1 = true := by kernel_rfl
theorem x3_8_7 : allN (chk 3 8 hs3_8) 16 1 = true := by kernel_rfl
theorem x1_2_0 : allN (chk 1 2 hs1_2) 0 3 = true := by kernel_rfl
end Go.Proofs.Ytkhcgoeccmkmdaa.poolBounds
