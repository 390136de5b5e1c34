/- A part of the proof: an interpreter of the model's own code on partly known states, and that what it answers is what the program answers. No condition of its own. -/
import Derived.Test.YtkhcgoeccmkmdaaP1PoolBoundsO2
set_option maxRecDepth 100000
set_option linter.unusedVariables false
set_option linter.unusedSimpArgs false
set_option maxHeartbeats 4000000
namespace Go.Proofs.Ytkhcgoeccmkmdaa.poolBounds
open Go Go.AX Go.Proofs Go.Proofs.Ytkhcgoeccmkmdaa
theorem r4_4_0 : allN (rnN 4 4 16 hs4_4 sg4_4) 0 5 = true := by kernel_rfl
theorem r4_8_3 : allN (rnN 4 8 32 hs4_8 sg4_8) 8 2 = true := by kernel_rfl
theorem r4_6_5 : allN (rnN 4 6 24 hs4_6 sg4_6) 12 2 = true := by kernel_rfl
theorem r1_7_0 : allN (rnN 1 7 7 hs1_7 sg1_7) 0 5 = true := by kernel_rfl
theorem r3_3_0 : allN (rnN 3 3 9 hs3_3 sg3_3) 0 5 = true := by kernel_rfl
theorem r3_5_5 : allN (rnN 3 5 15 hs3_5 sg3_5) 14 2 = true := by kernel_rfl
theorem r4_4_4 : allN (rnN 4 4 16 hs4_4 sg4_4) 12 2 = true := by kernel_rfl
theorem r4_8_25 : allN (rnN 4 8 32 hs4_8 sg4_8) 31 1 = true := by kernel_rfl
theorem r4_8_22 : allN (rnN 4 8 32 hs4_8 sg4_8) 28 1 = true := by kernel_rfl
theorem r3_7_2 : allN (rnN 3 7 21 hs3_7 sg3_7) 6 2 = true := by kernel_rfl
theorem r4_5_2 : allN (rnN 4 5 20 hs4_5 sg4_5) 6 2 = true := by kernel_rfl
theorem r4_8_16 : allN (rnN 4 8 32 hs4_8 sg4_8) 22 1 = true := by kernel_rfl
theorem r4_8_14 : allN (rnN 4 8 32 hs4_8 sg4_8) 20 1 = true := by kernel_rfl
theorem r3_8_12 : allN (rnN 3 8 24 hs3_8 sg3_8) 21 1 = true := by kernel_rfl
theorem r4_8_9 : allN (rnN 4 8 32 hs4_8 sg4_8) 15 1 = true := by kernel_rfl
theorem r3_1_0 : allN (rnN 3 1 3 hs3_1 sg3_1) 0 4 = true := by kernel_rfl
theorem r3_8_8 : allN (rnN 3 8 24 hs3_8 sg3_8) 17 1 = true := by kernel_rfl
theorem r4_2_2 : allN (rnN 4 2 8 hs4_2 sg4_2) 8 1 = true := by kernel_rfl
end Go.Proofs.Ytkhcgoeccmkmdaa.poolBounds
