/- A part of the proof: an interpreter of the model's own code on partly known states, and that what it answers is what the program answers. No condition of its own. -/
import Derived.Test.YtkhcgoeccmkmdaaP1PoolBoundsO2
set_option maxRecDepth 100000
set_option linter.unusedVariables false
set_option linter.unusedSimpArgs false
set_option maxHeartbeats 4000000
namespace Go.Proofs.Ytkhcgoeccmkmdaa.poolBounds
open Go Go.AX Go.Proofs Go.Proofs.Ytkhcgoeccmkmdaa
theorem x3_5_2 : allN (chk 3 5 hs3_5) 7 3 = true := by kernel_rfl
theorem x4_7_4 : allN (chk 4 7 hs4_7) 10 2 = true := by kernel_rfl
theorem x2_5_2 : allN (chk 2 5 hs2_5) 8 3 = true := by kernel_rfl
theorem x3_8_0 : allN (chk 3 8 hs3_8) 0 4 = true := by kernel_rfl
theorem x4_5_5 : allN (chk 4 5 hs4_5) 12 2 = true := by kernel_rfl
theorem x2_8_5 : allN (chk 2 8 hs2_8) 13 2 = true := by kernel_rfl
theorem x2_3_0 : allN (chk 2 3 hs2_3) 0 5 = true := by kernel_rfl
theorem x1_4_0 : allN (chk 1 4 hs1_4) 0 5 = true := by kernel_rfl
theorem x4_5_3 : allN (chk 4 5 hs4_5) 8 2 = true := by kernel_rfl
theorem x1_7_1 : allN (chk 1 7 hs1_7) 5 3 = true := by kernel_rfl
theorem x4_8_20 : allN (chk 4 8 hs4_8) 26 1 = true := by kernel_rfl
theorem x4_7_16 : allN (chk 4 7 hs4_7) 24 1 = true := by kernel_rfl
theorem x4_8_15 : allN (chk 4 8 hs4_8) 21 1 = true := by kernel_rfl
theorem x3_3_2 : allN (chk 3 3 hs3_3) 8 2 = true := by kernel_rfl
theorem x4_6_11 : allN (chk 4 6 hs4_6) 20 1 = true := by kernel_rfl
theorem x4_8_6 : allN (chk 4 8 hs4_8) 12 1 = true := by kernel_rfl
theorem x4_7_6 : allN (chk 4 7 hs4_7) 14 1 = true := by kernel_rfl
theorem x2_4_2 : allN (chk 2 4 hs2_4) 8 1 = true := by kernel_rfl
end Go.Proofs.Ytkhcgoeccmkmdaa.poolBounds
