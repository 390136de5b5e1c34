/- A part of the proof: an interpreter of the model's own code on partly known states, and that what it answers is what the program answers. No condition of its own. -/
import Derived.Test.YtkhcgoeccmkmdaaP1PoolBoundsO2
set_option maxRecDepth 100000
set_option linter.unusedVariables false
set_option linter.unusedSimpArgs false
set_option maxHeartbeats 4000000
namespace Go.Proofs.Ytkhcgoeccmkmdaa.poolBounds
open Go Go.AX Go.Proofs Go.Proofs.Ytkhcgoeccmkmdaa
theorem r4_7_5 : allN (rnN 4 7 28 hs4_7 sg4_7) 12 2 = true := by kernel_rfl
theorem r3_4_0 : allN (rnN 3 4 12 hs3_4 sg3_4) 0 5 = true := by kernel_rfl
theorem r3_7_6 : allN (rnN 3 7 21 hs3_7 sg3_7) 14 2 = true := by kernel_rfl
theorem r3_5_1 : allN (rnN 3 5 15 hs3_5 sg3_5) 4 3 = true := by kernel_rfl
theorem r4_7_2 : allN (rnN 4 7 28 hs4_7 sg4_7) 6 2 = true := by kernel_rfl
theorem r3_7_4 : allN (rnN 3 7 21 hs3_7 sg3_7) 10 2 = true := by kernel_rfl
theorem r4_7_1 : allN (rnN 4 7 28 hs4_7 sg4_7) 4 2 = true := by kernel_rfl
theorem r2_8_4 : allN (rnN 2 8 16 hs2_8 sg2_8) 11 2 = true := by kernel_rfl
theorem r2_2_0 : allN (rnN 2 2 4 hs2_2 sg2_2) 0 5 = true := by kernel_rfl
theorem r3_8_1 : allN (rnN 3 8 24 hs3_8 sg3_8) 4 2 = true := by kernel_rfl
theorem r4_8_19 : allN (rnN 4 8 32 hs4_8 sg4_8) 25 1 = true := by kernel_rfl
theorem r4_8_18 : allN (rnN 4 8 32 hs4_8 sg4_8) 24 1 = true := by kernel_rfl
theorem r4_8_12 : allN (rnN 4 8 32 hs4_8 sg4_8) 18 1 = true := by kernel_rfl
theorem r4_7_11 : allN (rnN 4 7 28 hs4_7 sg4_7) 19 1 = true := by kernel_rfl
theorem r3_8_11 : allN (rnN 3 8 24 hs3_8 sg3_8) 20 1 = true := by kernel_rfl
theorem r4_7_7 : allN (rnN 4 7 28 hs4_7 sg4_7) 15 1 = true := by kernel_rfl
theorem r3_7_8 : allN (rnN 3 7 21 hs3_7 sg3_7) 18 1 = true := by kernel_rfl
theorem r4_4_6 : allN (rnN 4 4 16 hs4_4 sg4_4) 16 1 = true := by kernel_rfl
end Go.Proofs.Ytkhcgoeccmkmdaa.poolBounds
