/- A part of the proof: an interpreter of the model's own code on partly known states, and that what it answers is what the program answers. No condition of its own. -/
import Derived.Test.YtkhcgoeccmkmdaaP1PoolBoundsO2
set_option maxRecDepth 100000
set_option linter.unusedVariables false
set_option linter.unusedSimpArgs false
set_option maxHeartbeats 4000000
namespace Go.Proofs.Ytkhcgoeccmkmdaa.poolBounds
open Go Go.AX Go.Proofs Go.Proofs.Ytkhcgoeccmkmdaa
theorem r3_8_6 : allN (rnN 3 8 24 hs3_8 sg3_8) 14 2 = true := by kernel_rfl
theorem r3_4_2 : allN (rnN 3 4 12 hs3_4 sg3_4) 8 3 = true := by kernel_rfl
theorem r4_5_6 : allN (rnN 4 5 20 hs4_5 sg4_5) 14 2 = true := by kernel_rfl
theorem r3_8_4 : allN (rnN 3 8 24 hs3_8 sg3_8) 10 2 = true := by kernel_rfl
theorem r3_6_5 : allN (rnN 3 6 18 hs3_6 sg3_6) 13 2 = true := by kernel_rfl
theorem r3_8_3 : allN (rnN 3 8 24 hs3_8 sg3_8) 8 2 = true := by kernel_rfl
theorem r4_8_26 : allN (rnN 4 8 32 hs4_8 sg4_8) 32 1 = true := by kernel_rfl
theorem r4_6_2 : allN (rnN 4 6 24 hs4_6 sg4_6) 6 2 = true := by kernel_rfl
theorem r2_4_1 : allN (rnN 2 4 8 hs2_4 sg2_4) 5 3 = true := by kernel_rfl
theorem r4_5_0 : allN (rnN 4 5 20 hs4_5 sg4_5) 0 4 = true := by kernel_rfl
theorem r3_6_2 : allN (rnN 3 6 18 hs3_6 sg3_6) 7 2 = true := by kernel_rfl
theorem r4_8_17 : allN (rnN 4 8 32 hs4_8 sg4_8) 23 1 = true := by kernel_rfl
theorem r3_8_15 : allN (rnN 3 8 24 hs3_8 sg3_8) 24 1 = true := by kernel_rfl
theorem r4_8_11 : allN (rnN 4 8 32 hs4_8 sg4_8) 17 1 = true := by kernel_rfl
theorem r3_7_11 : allN (rnN 3 7 21 hs3_7 sg3_7) 21 1 = true := by kernel_rfl
theorem r4_8_7 : allN (rnN 4 8 32 hs4_8 sg4_8) 13 1 = true := by kernel_rfl
theorem r4_6_7 : allN (rnN 4 6 24 hs4_6 sg4_6) 16 1 = true := by kernel_rfl
theorem r2_1_0 : allN (rnN 2 1 2 hs2_1 sg2_1) 0 3 = true := by kernel_rfl
end Go.Proofs.Ytkhcgoeccmkmdaa.poolBounds
