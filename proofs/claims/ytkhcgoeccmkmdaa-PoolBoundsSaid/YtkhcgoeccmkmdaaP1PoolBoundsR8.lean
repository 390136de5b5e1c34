/- A part of the proof: an interpreter of the model's own code on partly known states, and that what it answers is what the program answers. No condition of its own. -/
import Derived.Test.YtkhcgoeccmkmdaaP1PoolBoundsO2
set_option maxRecDepth 100000
set_option linter.unusedVariables false
set_option linter.unusedSimpArgs false
set_option maxHeartbeats 4000000
namespace Go.Proofs.Ytkhcgoeccmkmdaa.poolBounds
open Go Go.AX Go.Proofs Go.Proofs.Ytkhcgoeccmkmdaa
theorem r2_6_0 : allN (rnN 2 6 12 hs2_6 sg2_6) 0 5 = true := by kernel_rfl
theorem r3_6_7 : allN (rnN 3 6 18 hs3_6 sg3_6) 17 2 = true := by kernel_rfl
theorem r2_8_1 : allN (rnN 2 8 16 hs2_8 sg2_8) 4 3 = true := by kernel_rfl
theorem r4_8_0 : allN (rnN 4 8 32 hs4_8 sg4_8) 0 4 = true := by kernel_rfl
theorem r4_8_1 : allN (rnN 4 8 32 hs4_8 sg4_8) 4 2 = true := by kernel_rfl
theorem r2_8_0 : allN (rnN 2 8 16 hs2_8 sg2_8) 0 4 = true := by kernel_rfl
theorem r4_5_4 : allN (rnN 4 5 20 hs4_5 sg4_5) 10 2 = true := by kernel_rfl
theorem r3_3_1 : allN (rnN 3 3 9 hs3_3 sg3_3) 5 3 = true := by kernel_rfl
theorem r1_8_1 : allN (rnN 1 8 8 hs1_8 sg1_8) 5 3 = true := by kernel_rfl
theorem r3_5_0 : allN (rnN 3 5 15 hs3_5 sg3_5) 0 4 = true := by kernel_rfl
theorem r2_6_3 : allN (rnN 2 6 12 hs2_6 sg2_6) 11 2 = true := by kernel_rfl
theorem r3_7_1 : allN (rnN 3 7 21 hs3_7 sg3_7) 4 2 = true := by kernel_rfl
theorem r4_6_15 : allN (rnN 4 6 24 hs4_6 sg4_6) 24 1 = true := by kernel_rfl
theorem r4_8_10 : allN (rnN 4 8 32 hs4_8 sg4_8) 16 1 = true := by kernel_rfl
theorem r4_7_10 : allN (rnN 4 7 28 hs4_7 sg4_7) 18 1 = true := by kernel_rfl
theorem r3_7_9 : allN (rnN 3 7 21 hs3_7 sg3_7) 19 1 = true := by kernel_rfl
theorem r4_5_9 : allN (rnN 4 5 20 hs4_5 sg4_5) 19 1 = true := by kernel_rfl
theorem r2_7_5 : allN (rnN 2 7 14 hs2_7 sg2_7) 14 1 = true := by kernel_rfl
end Go.Proofs.Ytkhcgoeccmkmdaa.poolBounds
