/- A part of the proof: an interpreter of the model's own code on partly known states, and that what it answers is what the program answers. No condition of its own. -/
import Derived.Test.YtkhcgoeccmkmdaaP1PoolBoundsO2
set_option maxRecDepth 100000
set_option linter.unusedVariables false
set_option linter.unusedSimpArgs false
set_option maxHeartbeats 4000000
namespace Go.Proofs.Ytkhcgoeccmkmdaa.poolBounds
open Go Go.AX Go.Proofs Go.Proofs.Ytkhcgoeccmkmdaa
theorem r4_6_6 : allN (rnN 4 6 24 hs4_6 sg4_6) 14 2 = true := by kernel_rfl
theorem r3_6_1 : allN (rnN 3 6 18 hs3_6 sg3_6) 4 3 = true := by kernel_rfl
theorem r4_8_2 : allN (rnN 4 8 32 hs4_8 sg4_8) 6 2 = true := by kernel_rfl
theorem r4_3_0 : allN (rnN 4 3 12 hs4_3 sg4_3) 0 5 = true := by kernel_rfl
theorem r2_7_1 : allN (rnN 2 7 14 hs2_7 sg2_7) 4 3 = true := by kernel_rfl
theorem r4_7_0 : allN (rnN 4 7 28 hs4_7 sg4_7) 0 4 = true := by kernel_rfl
theorem r3_6_0 : allN (rnN 3 6 18 hs3_6 sg3_6) 0 4 = true := by kernel_rfl
theorem r3_5_4 : allN (rnN 3 5 15 hs3_5 sg3_5) 12 2 = true := by kernel_rfl
theorem r3_6_3 : allN (rnN 3 6 18 hs3_6 sg3_6) 9 2 = true := by kernel_rfl
theorem r2_8_3 : allN (rnN 2 8 16 hs2_8 sg2_8) 9 2 = true := by kernel_rfl
theorem r4_3_3 : allN (rnN 4 3 12 hs4_3 sg4_3) 11 2 = true := by kernel_rfl
theorem r2_8_2 : allN (rnN 2 8 16 hs2_8 sg2_8) 7 2 = true := by kernel_rfl
theorem r4_8_13 : allN (rnN 4 8 32 hs4_8 sg4_8) 19 1 = true := by kernel_rfl
theorem r3_8_13 : allN (rnN 3 8 24 hs3_8 sg3_8) 22 1 = true := by kernel_rfl
theorem r4_7_9 : allN (rnN 4 7 28 hs4_7 sg4_7) 17 1 = true := by kernel_rfl
theorem r4_6_9 : allN (rnN 4 6 24 hs4_6 sg4_6) 18 1 = true := by kernel_rfl
theorem r4_5_8 : allN (rnN 4 5 20 hs4_5 sg4_5) 18 1 = true := by kernel_rfl
theorem r1_6_1 : allN (rnN 1 6 6 hs1_6 sg1_6) 5 2 = true := by kernel_rfl
end Go.Proofs.Ytkhcgoeccmkmdaa.poolBounds
