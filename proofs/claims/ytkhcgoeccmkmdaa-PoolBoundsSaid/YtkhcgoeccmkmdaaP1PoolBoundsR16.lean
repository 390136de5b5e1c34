/- A part of the proof: an interpreter of the model's own code on partly known states, and that what it answers is what the program answers. No condition of its own. -/
import Derived.Test.YtkhcgoeccmkmdaaP1PoolBoundsO2
set_option maxRecDepth 100000
set_option linter.unusedVariables false
set_option linter.unusedSimpArgs false
set_option maxHeartbeats 4000000
namespace Go.Proofs.Ytkhcgoeccmkmdaa.poolBounds
open Go Go.AX Go.Proofs Go.Proofs.Ytkhcgoeccmkmdaa
theorem r2_7_2 : allN (rnN 2 7 14 hs2_7 sg2_7) 7 3 = true := by kernel_rfl
theorem r4_5_7 : allN (rnN 4 5 20 hs4_5 sg4_5) 16 2 = true := by kernel_rfl
theorem r3_8_5 : allN (rnN 3 8 24 hs3_8 sg3_8) 12 2 = true := by kernel_rfl
theorem r2_8_6 : allN (rnN 2 8 16 hs2_8 sg2_8) 15 2 = true := by kernel_rfl
theorem r4_4_5 : allN (rnN 4 4 16 hs4_4 sg4_4) 14 2 = true := by kernel_rfl
theorem r1_6_0 : allN (rnN 1 6 6 hs1_6 sg1_6) 0 5 = true := by kernel_rfl
theorem r4_2_0 : allN (rnN 4 2 8 hs4_2 sg4_2) 0 5 = true := by kernel_rfl
theorem r2_7_0 : allN (rnN 2 7 14 hs2_7 sg2_7) 0 4 = true := by kernel_rfl
theorem r4_2_1 : allN (rnN 4 2 8 hs4_2 sg4_2) 5 3 = true := by kernel_rfl
theorem r3_5_3 : allN (rnN 3 5 15 hs3_5 sg3_5) 10 2 = true := by kernel_rfl
theorem r4_1_0 : allN (rnN 4 1 4 hs4_1 sg4_1) 0 5 = true := by kernel_rfl
theorem r4_5_1 : allN (rnN 4 5 20 hs4_5 sg4_5) 4 2 = true := by kernel_rfl
theorem r4_7_15 : allN (rnN 4 7 28 hs4_7 sg4_7) 23 1 = true := by kernel_rfl
theorem r4_6_12 : allN (rnN 4 6 24 hs4_6 sg4_6) 21 1 = true := by kernel_rfl
theorem r4_8_8 : allN (rnN 4 8 32 hs4_8 sg4_8) 14 1 = true := by kernel_rfl
theorem r3_7_10 : allN (rnN 3 7 21 hs3_7 sg3_7) 20 1 = true := by kernel_rfl
theorem r4_8_5 : allN (rnN 4 8 32 hs4_8 sg4_8) 11 1 = true := by kernel_rfl
theorem r1_8_2 : allN (rnN 1 8 8 hs1_8 sg1_8) 8 1 = true := by kernel_rfl
end Go.Proofs.Ytkhcgoeccmkmdaa.poolBounds
