/- A part of the proof: an interpreter of the model's own code on partly known states, and that what it answers is what the program answers. No condition of its own. -/
import Derived.Test.YtkhcgoeccmkmdaaP1PoolBoundsO2
set_option maxRecDepth 100000
set_option linter.unusedVariables false
set_option linter.unusedSimpArgs false
set_option maxHeartbeats 4000000
namespace Go.Proofs.Ytkhcgoeccmkmdaa.poolBounds
open Go Go.AX Go.Proofs Go.Proofs.Ytkhcgoeccmkmdaa
theorem r3_2_0 : allN (rnN 3 2 6 hs3_2 sg3_2) 0 6 = true := by kernel_rfl
theorem r4_3_2 : allN (rnN 4 3 12 hs4_3 sg4_3) 8 3 = true := by kernel_rfl
theorem r1_8_0 : allN (rnN 1 8 8 hs1_8 sg1_8) 0 5 = true := by kernel_rfl
theorem r4_7_3 : allN (rnN 4 7 28 hs4_7 sg4_7) 8 2 = true := by kernel_rfl
theorem r2_6_1 : allN (rnN 2 6 12 hs2_6 sg2_6) 5 3 = true := by kernel_rfl
theorem r4_3_1 : allN (rnN 4 3 12 hs4_3 sg4_3) 5 3 = true := by kernel_rfl
theorem r2_5_1 : allN (rnN 2 5 10 hs2_5 sg2_5) 5 3 = true := by kernel_rfl
theorem r3_8_2 : allN (rnN 3 8 24 hs3_8 sg3_8) 6 2 = true := by kernel_rfl
theorem r4_4_3 : allN (rnN 4 4 16 hs4_4 sg4_4) 10 2 = true := by kernel_rfl
theorem r4_6_1 : allN (rnN 4 6 24 hs4_6 sg4_6) 4 2 = true := by kernel_rfl
theorem r4_4_2 : allN (rnN 4 4 16 hs4_4 sg4_4) 8 2 = true := by kernel_rfl
theorem r4_7_19 : allN (rnN 4 7 28 hs4_7 sg4_7) 27 1 = true := by kernel_rfl
theorem r3_8_14 : allN (rnN 3 8 24 hs3_8 sg3_8) 23 1 = true := by kernel_rfl
theorem r4_6_14 : allN (rnN 4 6 24 hs4_6 sg4_6) 23 1 = true := by kernel_rfl
theorem r4_6_10 : allN (rnN 4 6 24 hs4_6 sg4_6) 19 1 = true := by kernel_rfl
theorem r4_5_10 : allN (rnN 4 5 20 hs4_5 sg4_5) 20 1 = true := by kernel_rfl
theorem r4_6_8 : allN (rnN 4 6 24 hs4_6 sg4_6) 17 1 = true := by kernel_rfl
theorem r3_2_1 : allN (rnN 3 2 6 hs3_2 sg3_2) 6 1 = true := by kernel_rfl
theorem r1_1_0 : allN (rnN 1 1 1 hs1_1 sg1_1) 0 2 = true := by kernel_rfl
end Go.Proofs.Ytkhcgoeccmkmdaa.poolBounds
