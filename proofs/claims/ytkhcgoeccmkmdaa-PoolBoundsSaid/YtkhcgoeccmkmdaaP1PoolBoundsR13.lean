/- A part of the proof: an interpreter of the model's own code on partly known states, and that what it answers is what the program answers. No condition of its own. -/
import Derived.Test.YtkhcgoeccmkmdaaP1PoolBoundsO2
set_option maxRecDepth 100000
set_option linter.unusedVariables false
set_option linter.unusedSimpArgs false
set_option maxHeartbeats 4000000
namespace Go.Proofs.Ytkhcgoeccmkmdaa.poolBounds
open Go Go.AX Go.Proofs Go.Proofs.Ytkhcgoeccmkmdaa
theorem x3_8_6 : allN (chk 3 8 hs3_8) 14 2 = true := by kernel_rfl
theorem x3_4_2 : allN (chk 3 4 hs3_4) 8 3 = true := by kernel_rfl
theorem x4_5_6 : allN (chk 4 5 hs4_5) 14 2 = true := by kernel_rfl
theorem x3_8_4 : allN (chk 3 8 hs3_8) 10 2 = true := by kernel_rfl
theorem x3_6_5 : allN (chk 3 6 hs3_6) 13 2 = true := by kernel_rfl
theorem x3_8_3 : allN (chk 3 8 hs3_8) 8 2 = true := by kernel_rfl
theorem x4_8_26 : allN (chk 4 8 hs4_8) 32 1 = true := by kernel_rfl
theorem x4_6_2 : allN (chk 4 6 hs4_6) 6 2 = true := by kernel_rfl
theorem x2_4_1 : allN (chk 2 4 hs2_4) 5 3 = true := by kernel_rfl
theorem x4_5_0 : allN (chk 4 5 hs4_5) 0 4 = true := by kernel_rfl
theorem x3_6_2 : allN (chk 3 6 hs3_6) 7 2 = true := by kernel_rfl
theorem x4_8_17 : allN (chk 4 8 hs4_8) 23 1 = true := by kernel_rfl
theorem x3_8_15 : allN (chk 3 8 hs3_8) 24 1 = true := by kernel_rfl
theorem x4_8_11 : allN (chk 4 8 hs4_8) 17 1 = true := by kernel_rfl
theorem x3_7_11 : allN (chk 3 7 hs3_7) 21 1 = true := by kernel_rfl
theorem x4_8_7 : allN (chk 4 8 hs4_8) 13 1 = true := by kernel_rfl
theorem x4_6_7 : allN (chk 4 6 hs4_6) 16 1 = true := by kernel_rfl
theorem x2_1_0 : allN (chk 2 1 hs2_1) 0 3 = true := by kernel_rfl
end Go.Proofs.Ytkhcgoeccmkmdaa.poolBounds
