/- A part of the proof: an interpreter of the model's own code on partly known states, and that what it answers is what the program answers. No condition of its own. -/
import Derived.Test.YtkhcgoeccmkmdaaP1PoolBoundsO2
set_option maxRecDepth 100000
set_option linter.unusedVariables false
set_option linter.unusedSimpArgs false
set_option maxHeartbeats 4000000
namespace Go.Proofs.Ytkhcgoeccmkmdaa.poolBounds
open Go Go.AX Go.Proofs Go.Proofs.Ytkhcgoeccmkmdaa
theorem r1_5_0 : allN (rnN 1 5 5 hs1_5 sg1_5) 0 6 = true := by kernel_rfl
theorem r4_4_1 : allN (rnN 4 4 16 hs4_4 sg4_4) 5 3 = true := by kernel_rfl
theorem r3_6_6 : allN (rnN 3 6 18 hs3_6 sg3_6) 15 2 = true := by kernel_rfl
theorem r3_7_5 : allN (rnN 3 7 21 hs3_7 sg3_7) 12 2 = true := by kernel_rfl
theorem r2_4_0 : allN (rnN 2 4 8 hs2_4 sg2_4) 0 5 = true := by kernel_rfl
theorem r4_6_3 : allN (rnN 4 6 24 hs4_6 sg4_6) 8 2 = true := by kernel_rfl
theorem r4_6_0 : allN (rnN 4 6 24 hs4_6 sg4_6) 0 4 = true := by kernel_rfl
theorem r3_7_3 : allN (rnN 3 7 21 hs3_7 sg3_7) 8 2 = true := by kernel_rfl
theorem r4_8_23 : allN (rnN 4 8 32 hs4_8 sg4_8) 29 1 = true := by kernel_rfl
theorem r4_8_21 : allN (rnN 4 8 32 hs4_8 sg4_8) 27 1 = true := by kernel_rfl
theorem r4_7_20 : allN (rnN 4 7 28 hs4_7 sg4_7) 28 1 = true := by kernel_rfl
theorem r4_7_17 : allN (rnN 4 7 28 hs4_7 sg4_7) 25 1 = true := by kernel_rfl
theorem r4_7_14 : allN (rnN 4 7 28 hs4_7 sg4_7) 22 1 = true := by kernel_rfl
theorem r4_6_13 : allN (rnN 4 6 24 hs4_6 sg4_6) 22 1 = true := by kernel_rfl
theorem r1_3_0 : allN (rnN 1 3 3 hs1_3 sg1_3) 0 4 = true := by kernel_rfl
theorem r4_7_8 : allN (rnN 4 7 28 hs4_7 sg4_7) 16 1 = true := by kernel_rfl
theorem r4_8_4 : allN (rnN 4 8 32 hs4_8 sg4_8) 10 1 = true := by kernel_rfl
theorem r2_3_1 : allN (rnN 2 3 6 hs2_3 sg2_3) 5 2 = true := by kernel_rfl
end Go.Proofs.Ytkhcgoeccmkmdaa.poolBounds
