/- A part of the proof: an interpreter of the model's own code on partly known states, and that what it answers is what the program answers. No condition of its own. -/
import Derived.Test.YtkhcgoeccmkmdaaP1PoolBoundsO2
set_option maxRecDepth 100000
set_option linter.unusedVariables false
set_option linter.unusedSimpArgs false
set_option maxHeartbeats 4000000
namespace Go.Proofs.Ytkhcgoeccmkmdaa.poolBounds
open Go Go.AX Go.Proofs Go.Proofs.Ytkhcgoeccmkmdaa
theorem r3_5_2 : allN (rnN 3 5 15 hs3_5 sg3_5) 7 3 = true := by kernel_rfl
theorem r4_7_4 : allN (rnN 4 7 28 hs4_7 sg4_7) 10 2 = true := by kernel_rfl
theorem r2_5_2 : allN (rnN 2 5 10 hs2_5 sg2_5) 8 3 = true := by kernel_rfl
theorem r3_8_0 : allN (rnN 3 8 24 hs3_8 sg3_8) 0 4 = true := by kernel_rfl
theorem r4_5_5 : allN (rnN 4 5 20 hs4_5 sg4_5) 12 2 = true := by kernel_rfl
theorem r2_8_5 : allN (rnN 2 8 16 hs2_8 sg2_8) 13 2 = true := by kernel_rfl
theorem r2_3_0 : allN (rnN 2 3 6 hs2_3 sg2_3) 0 5 = true := by kernel_rfl
theorem r1_4_0 : allN (rnN 1 4 4 hs1_4 sg1_4) 0 5 = true := by kernel_rfl
theorem r4_5_3 : allN (rnN 4 5 20 hs4_5 sg4_5) 8 2 = true := by kernel_rfl
theorem r1_7_1 : allN (rnN 1 7 7 hs1_7 sg1_7) 5 3 = true := by kernel_rfl
theorem r4_8_20 : allN (rnN 4 8 32 hs4_8 sg4_8) 26 1 = true := by kernel_rfl
theorem r4_7_16 : allN (rnN 4 7 28 hs4_7 sg4_7) 24 1 = true := by kernel_rfl
theorem r4_8_15 : allN (rnN 4 8 32 hs4_8 sg4_8) 21 1 = true := by kernel_rfl
theorem r3_3_2 : allN (rnN 3 3 9 hs3_3 sg3_3) 8 2 = true := by kernel_rfl
theorem r4_6_11 : allN (rnN 4 6 24 hs4_6 sg4_6) 20 1 = true := by kernel_rfl
theorem r4_8_6 : allN (rnN 4 8 32 hs4_8 sg4_8) 12 1 = true := by kernel_rfl
theorem r4_7_6 : allN (rnN 4 7 28 hs4_7 sg4_7) 14 1 = true := by kernel_rfl
theorem r2_4_2 : allN (rnN 2 4 8 hs2_4 sg2_4) 8 1 = true := by kernel_rfl
end Go.Proofs.Ytkhcgoeccmkmdaa.poolBounds
