/- A part of the proof: an interpreter of the model's own code on partly known states, and that what it answers is what the program answers. No condition of its own. -/
import Derived.Test.YtkhcgoeccmkmdaaP1PoolBoundsO2
set_option maxRecDepth 100000
set_option linter.unusedVariables false
set_option linter.unusedSimpArgs false
set_option maxHeartbeats 4000000
namespace Go.Proofs.Ytkhcgoeccmkmdaa.poolBounds
open Go Go.AX Go.Proofs Go.Proofs.Ytkhcgoeccmkmdaa
theorem x4_7_5 : allN (chk 4 7 hs4_7) 12 2 = true := by kernel_rfl
theorem x3_4_0 : allN (chk 3 4 hs3_4) 0 5 = true := by kernel_rfl
theorem x3_7_6 : allN (chk 3 7 hs3_7) 14 2 = true := by kernel_rfl
theorem x3_5_1 : allN (chk 3 5 hs3_5) 4 3 = true := by kernel_rfl
theorem x4_7_2 : allN (chk 4 7 hs4_7) 6 2 = true := by kernel_rfl
theorem x3_7_4 : allN (chk 3 7 hs3_7) 10 2 = true := by kernel_rfl
theorem x4_7_1 : allN (chk 4 7 hs4_7) 4 2 = true := by kernel_rfl
theorem x2_8_4 : allN (chk 2 8 hs2_8) 11 2 = true := by kernel_rfl
theorem x2_2_0 : allN (chk 2 2 hs2_2) 0 5 = true := by kernel_rfl
theorem x3_8_1 : allN (chk 3 8 hs3_8) 4 2 = true := by kernel_rfl
theorem x4_8_19 : allN (chk 4 8 hs4_8) 25 1 = true := by kernel_rfl
theorem x4_8_18 : allN (chk 4 8 hs4_8) 24 1 = true := by kernel_rfl
theorem x4_8_12 : allN (chk 4 8 hs4_8) 18 1 = true := by kernel_rfl
theorem x4_7_11 : allN (chk 4 7 hs4_7) 19 1 = true := by kernel_rfl
theorem x3_8_11 : allN (chk 3 8 hs3_8) 20 1 = true := by kernel_rfl
theorem x4_7_7 : allN (chk 4 7 hs4_7) 15 1 = true := by kernel_rfl
theorem x3_7_8 : allN (chk 3 7 hs3_7) 18 1 = true := by kernel_rfl
theorem x4_4_6 : allN (chk 4 4 hs4_4) 16 1 = true := by kernel_rfl
end Go.Proofs.Ytkhcgoeccmkmdaa.poolBounds
