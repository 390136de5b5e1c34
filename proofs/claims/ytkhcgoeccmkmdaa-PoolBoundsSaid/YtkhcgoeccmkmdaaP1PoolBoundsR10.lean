/- A part of the proof: an interpreter of the model's own code on partly known states, and that what it answers is what the program answers. No condition of its own. -/
import Derived.Test.YtkhcgoeccmkmdaaP1PoolBoundsO2
set_option maxRecDepth 100000
set_option linter.unusedVariables false
set_option linter.unusedSimpArgs false
set_option maxHeartbeats 4000000
namespace Go.Proofs.Ytkhcgoeccmkmdaa.poolBounds
open Go Go.AX Go.Proofs Go.Proofs.Ytkhcgoeccmkmdaa
theorem r3_7_7 : allN (rnN 3 7 21 hs3_7 sg3_7) 16 2 = true := by kernel_rfl
theorem r2_6_2 : allN (rnN 2 6 12 hs2_6 sg2_6) 8 3 = true := by kernel_rfl
theorem r2_5_0 : allN (rnN 2 5 10 hs2_5 sg2_5) 0 5 = true := by kernel_rfl
theorem r4_6_4 : allN (rnN 4 6 24 hs4_6 sg4_6) 10 2 = true := by kernel_rfl
theorem r3_4_1 : allN (rnN 3 4 12 hs3_4 sg3_4) 5 3 = true := by kernel_rfl
theorem r3_7_0 : allN (rnN 3 7 21 hs3_7 sg3_7) 0 4 = true := by kernel_rfl
theorem r3_6_4 : allN (rnN 3 6 18 hs3_6 sg3_6) 11 2 = true := by kernel_rfl
theorem r2_7_4 : allN (rnN 2 7 14 hs2_7 sg2_7) 12 2 = true := by kernel_rfl
theorem r4_8_24 : allN (rnN 4 8 32 hs4_8 sg4_8) 30 1 = true := by kernel_rfl
theorem r2_7_3 : allN (rnN 2 7 14 hs2_7 sg2_7) 10 2 = true := by kernel_rfl
theorem r3_4_3 : allN (rnN 3 4 12 hs3_4 sg3_4) 11 2 = true := by kernel_rfl
theorem r4_7_18 : allN (rnN 4 7 28 hs4_7 sg4_7) 26 1 = true := by kernel_rfl
theorem r4_7_13 : allN (rnN 4 7 28 hs4_7 sg4_7) 21 1 = true := by kernel_rfl
theorem r4_7_12 : allN (rnN 4 7 28 hs4_7 sg4_7) 20 1 = true := by kernel_rfl
theorem r3_8_10 : allN (rnN 3 8 24 hs3_8 sg3_8) 19 1 = true := by kernel_rfl
theorem r3_8_9 : allN (rnN 3 8 24 hs3_8 sg3_8) 18 1 = true := by kernel_rfl
theorem r3_8_7 : allN (rnN 3 8 24 hs3_8 sg3_8) 16 1 = true := by kernel_rfl
theorem r1_2_0 : allN (rnN 1 2 2 hs1_2 sg1_2) 0 3 = true := by kernel_rfl
end Go.Proofs.Ytkhcgoeccmkmdaa.poolBounds
