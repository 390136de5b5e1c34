/- A part of the proof: an interpreter of the model's own code on partly known states, and that what it answers is what the program answers. No condition of its own. -/
import Derived.Test.YtkhcgoeccmkmdaaP1PoolBoundsR0
import Derived.Test.YtkhcgoeccmkmdaaP1PoolBoundsR1
import Derived.Test.YtkhcgoeccmkmdaaP1PoolBoundsR2
import Derived.Test.YtkhcgoeccmkmdaaP1PoolBoundsR3
import Derived.Test.YtkhcgoeccmkmdaaP1PoolBoundsR4
import Derived.Test.YtkhcgoeccmkmdaaP1PoolBoundsR5
import Derived.Test.YtkhcgoeccmkmdaaP1PoolBoundsR6
import Derived.Test.YtkhcgoeccmkmdaaP1PoolBoundsR7
import Derived.Test.YtkhcgoeccmkmdaaP1PoolBoundsR8
import Derived.Test.YtkhcgoeccmkmdaaP1PoolBoundsR9
import Derived.Test.YtkhcgoeccmkmdaaP1PoolBoundsR10
import Derived.Test.YtkhcgoeccmkmdaaP1PoolBoundsR11
import Derived.Test.YtkhcgoeccmkmdaaP1PoolBoundsR12
import Derived.Test.YtkhcgoeccmkmdaaP1PoolBoundsR13
import Derived.Test.YtkhcgoeccmkmdaaP1PoolBoundsR14
import Derived.Test.YtkhcgoeccmkmdaaP1PoolBoundsR15
import Derived.Test.YtkhcgoeccmkmdaaP1PoolBoundsR16
import Derived.Test.YtkhcgoeccmkmdaaP1PoolBoundsR17
import Derived.Test.YtkhcgoeccmkmdaaP1PoolBoundsR18
import Derived.Test.YtkhcgoeccmkmdaaP1PoolBoundsR19
set_option maxRecDepth 100000
set_option linter.unusedVariables false
set_option linter.unusedSimpArgs false
set_option maxHeartbeats 4000000
namespace Go.Proofs.Ytkhcgoeccmkmdaa.poolBounds
open Go Go.AX Go.Proofs Go.Proofs.Ytkhcgoeccmkmdaa
theorem rA1_1 (j : Nat) (h : j ≤ 1) : rnN 1 1 1 hs1_1 sg1_1 j = true := by
  exact allN_at r1_1_0 j (by omega) (by omega)
theorem xA1_1 (j : Nat) (h : j ≤ 1) : chk 1 1 hs1_1 j = true := by
  exact allN_at x1_1_0 j (by omega) (by omega)
theorem rA1_2 (j : Nat) (h : j ≤ 2) : rnN 1 2 2 hs1_2 sg1_2 j = true := by
  exact allN_at r1_2_0 j (by omega) (by omega)
theorem xA1_2 (j : Nat) (h : j ≤ 2) : chk 1 2 hs1_2 j = true := by
  exact allN_at x1_2_0 j (by omega) (by omega)
theorem rA1_3 (j : Nat) (h : j ≤ 3) : rnN 1 3 3 hs1_3 sg1_3 j = true := by
  exact allN_at r1_3_0 j (by omega) (by omega)
theorem xA1_3 (j : Nat) (h : j ≤ 3) : chk 1 3 hs1_3 j = true := by
  exact allN_at x1_3_0 j (by omega) (by omega)
theorem rA1_4 (j : Nat) (h : j ≤ 4) : rnN 1 4 4 hs1_4 sg1_4 j = true := by
  exact allN_at r1_4_0 j (by omega) (by omega)
theorem xA1_4 (j : Nat) (h : j ≤ 4) : chk 1 4 hs1_4 j = true := by
  exact allN_at x1_4_0 j (by omega) (by omega)
theorem rA1_5 (j : Nat) (h : j ≤ 5) : rnN 1 5 5 hs1_5 sg1_5 j = true := by
  exact allN_at r1_5_0 j (by omega) (by omega)
theorem xA1_5 (j : Nat) (h : j ≤ 5) : chk 1 5 hs1_5 j = true := by
  exact allN_at x1_5_0 j (by omega) (by omega)
theorem rA1_6 (j : Nat) (h : j ≤ 6) : rnN 1 6 6 hs1_6 sg1_6 j = true := by
  by_cases h0 : j < 5
  · exact allN_at r1_6_0 j (by omega) (by omega)
  exact allN_at r1_6_1 j (by omega) (by omega)
theorem xA1_6 (j : Nat) (h : j ≤ 6) : chk 1 6 hs1_6 j = true := by
  by_cases h0 : j < 5
  · exact allN_at x1_6_0 j (by omega) (by omega)
  exact allN_at x1_6_1 j (by omega) (by omega)
theorem rA1_7 (j : Nat) (h : j ≤ 7) : rnN 1 7 7 hs1_7 sg1_7 j = true := by
  by_cases h0 : j < 5
  · exact allN_at r1_7_0 j (by omega) (by omega)
  exact allN_at r1_7_1 j (by omega) (by omega)
theorem xA1_7 (j : Nat) (h : j ≤ 7) : chk 1 7 hs1_7 j = true := by
  by_cases h0 : j < 5
  · exact allN_at x1_7_0 j (by omega) (by omega)
  exact allN_at x1_7_1 j (by omega) (by omega)
theorem rA1_8 (j : Nat) (h : j ≤ 8) : rnN 1 8 8 hs1_8 sg1_8 j = true := by
  by_cases h0 : j < 5
  · exact allN_at r1_8_0 j (by omega) (by omega)
  by_cases h1 : j < 8
  · exact allN_at r1_8_1 j (by omega) (by omega)
  exact allN_at r1_8_2 j (by omega) (by omega)
theorem xA1_8 (j : Nat) (h : j ≤ 8) : chk 1 8 hs1_8 j = true := by
  by_cases h0 : j < 5
  · exact allN_at x1_8_0 j (by omega) (by omega)
  by_cases h1 : j < 8
  · exact allN_at x1_8_1 j (by omega) (by omega)
  exact allN_at x1_8_2 j (by omega) (by omega)
theorem rA2_1 (j : Nat) (h : j ≤ 2) : rnN 2 1 2 hs2_1 sg2_1 j = true := by
  exact allN_at r2_1_0 j (by omega) (by omega)
theorem xA2_1 (j : Nat) (h : j ≤ 2) : chk 2 1 hs2_1 j = true := by
  exact allN_at x2_1_0 j (by omega) (by omega)
theorem rA2_2 (j : Nat) (h : j ≤ 4) : rnN 2 2 4 hs2_2 sg2_2 j = true := by
  exact allN_at r2_2_0 j (by omega) (by omega)
theorem xA2_2 (j : Nat) (h : j ≤ 4) : chk 2 2 hs2_2 j = true := by
  exact allN_at x2_2_0 j (by omega) (by omega)
theorem rA2_3 (j : Nat) (h : j ≤ 6) : rnN 2 3 6 hs2_3 sg2_3 j = true := by
  by_cases h0 : j < 5
  · exact allN_at r2_3_0 j (by omega) (by omega)
  exact allN_at r2_3_1 j (by omega) (by omega)
theorem xA2_3 (j : Nat) (h : j ≤ 6) : chk 2 3 hs2_3 j = true := by
  by_cases h0 : j < 5
  · exact allN_at x2_3_0 j (by omega) (by omega)
  exact allN_at x2_3_1 j (by omega) (by omega)
theorem rA2_4 (j : Nat) (h : j ≤ 8) : rnN 2 4 8 hs2_4 sg2_4 j = true := by
  by_cases h0 : j < 5
  · exact allN_at r2_4_0 j (by omega) (by omega)
  by_cases h1 : j < 8
  · exact allN_at r2_4_1 j (by omega) (by omega)
  exact allN_at r2_4_2 j (by omega) (by omega)
theorem xA2_4 (j : Nat) (h : j ≤ 8) : chk 2 4 hs2_4 j = true := by
  by_cases h0 : j < 5
  · exact allN_at x2_4_0 j (by omega) (by omega)
  by_cases h1 : j < 8
  · exact allN_at x2_4_1 j (by omega) (by omega)
  exact allN_at x2_4_2 j (by omega) (by omega)
theorem rA2_5 (j : Nat) (h : j ≤ 10) : rnN 2 5 10 hs2_5 sg2_5 j = true := by
  by_cases h0 : j < 5
  · exact allN_at r2_5_0 j (by omega) (by omega)
  by_cases h1 : j < 8
  · exact allN_at r2_5_1 j (by omega) (by omega)
  exact allN_at r2_5_2 j (by omega) (by omega)
theorem xA2_5 (j : Nat) (h : j ≤ 10) : chk 2 5 hs2_5 j = true := by
  by_cases h0 : j < 5
  · exact allN_at x2_5_0 j (by omega) (by omega)
  by_cases h1 : j < 8
  · exact allN_at x2_5_1 j (by omega) (by omega)
  exact allN_at x2_5_2 j (by omega) (by omega)
theorem rA2_6 (j : Nat) (h : j ≤ 12) : rnN 2 6 12 hs2_6 sg2_6 j = true := by
  by_cases h0 : j < 5
  · exact allN_at r2_6_0 j (by omega) (by omega)
  by_cases h1 : j < 8
  · exact allN_at r2_6_1 j (by omega) (by omega)
  by_cases h2 : j < 11
  · exact allN_at r2_6_2 j (by omega) (by omega)
  exact allN_at r2_6_3 j (by omega) (by omega)
theorem xA2_6 (j : Nat) (h : j ≤ 12) : chk 2 6 hs2_6 j = true := by
  by_cases h0 : j < 5
  · exact allN_at x2_6_0 j (by omega) (by omega)
  by_cases h1 : j < 8
  · exact allN_at x2_6_1 j (by omega) (by omega)
  by_cases h2 : j < 11
  · exact allN_at x2_6_2 j (by omega) (by omega)
  exact allN_at x2_6_3 j (by omega) (by omega)
theorem rA2_7 (j : Nat) (h : j ≤ 14) : rnN 2 7 14 hs2_7 sg2_7 j = true := by
  by_cases h0 : j < 4
  · exact allN_at r2_7_0 j (by omega) (by omega)
  by_cases h1 : j < 7
  · exact allN_at r2_7_1 j (by omega) (by omega)
  by_cases h2 : j < 10
  · exact allN_at r2_7_2 j (by omega) (by omega)
  by_cases h3 : j < 12
  · exact allN_at r2_7_3 j (by omega) (by omega)
  by_cases h4 : j < 14
  · exact allN_at r2_7_4 j (by omega) (by omega)
  exact allN_at r2_7_5 j (by omega) (by omega)
theorem xA2_7 (j : Nat) (h : j ≤ 14) : chk 2 7 hs2_7 j = true := by
  by_cases h0 : j < 4
  · exact allN_at x2_7_0 j (by omega) (by omega)
  by_cases h1 : j < 7
  · exact allN_at x2_7_1 j (by omega) (by omega)
  by_cases h2 : j < 10
  · exact allN_at x2_7_2 j (by omega) (by omega)
  by_cases h3 : j < 12
  · exact allN_at x2_7_3 j (by omega) (by omega)
  by_cases h4 : j < 14
  · exact allN_at x2_7_4 j (by omega) (by omega)
  exact allN_at x2_7_5 j (by omega) (by omega)
theorem rA2_8 (j : Nat) (h : j ≤ 16) : rnN 2 8 16 hs2_8 sg2_8 j = true := by
  by_cases h0 : j < 4
  · exact allN_at r2_8_0 j (by omega) (by omega)
  by_cases h1 : j < 7
  · exact allN_at r2_8_1 j (by omega) (by omega)
  by_cases h2 : j < 9
  · exact allN_at r2_8_2 j (by omega) (by omega)
  by_cases h3 : j < 11
  · exact allN_at r2_8_3 j (by omega) (by omega)
  by_cases h4 : j < 13
  · exact allN_at r2_8_4 j (by omega) (by omega)
  by_cases h5 : j < 15
  · exact allN_at r2_8_5 j (by omega) (by omega)
  exact allN_at r2_8_6 j (by omega) (by omega)
theorem xA2_8 (j : Nat) (h : j ≤ 16) : chk 2 8 hs2_8 j = true := by
  by_cases h0 : j < 4
  · exact allN_at x2_8_0 j (by omega) (by omega)
  by_cases h1 : j < 7
  · exact allN_at x2_8_1 j (by omega) (by omega)
  by_cases h2 : j < 9
  · exact allN_at x2_8_2 j (by omega) (by omega)
  by_cases h3 : j < 11
  · exact allN_at x2_8_3 j (by omega) (by omega)
  by_cases h4 : j < 13
  · exact allN_at x2_8_4 j (by omega) (by omega)
  by_cases h5 : j < 15
  · exact allN_at x2_8_5 j (by omega) (by omega)
  exact allN_at x2_8_6 j (by omega) (by omega)
theorem rA3_1 (j : Nat) (h : j ≤ 3) : rnN 3 1 3 hs3_1 sg3_1 j = true := by
  exact allN_at r3_1_0 j (by omega) (by omega)
theorem xA3_1 (j : Nat) (h : j ≤ 3) : chk 3 1 hs3_1 j = true := by
  exact allN_at x3_1_0 j (by omega) (by omega)
theorem rA3_2 (j : Nat) (h : j ≤ 6) : rnN 3 2 6 hs3_2 sg3_2 j = true := by
  by_cases h0 : j < 6
  · exact allN_at r3_2_0 j (by omega) (by omega)
  exact allN_at r3_2_1 j (by omega) (by omega)
theorem xA3_2 (j : Nat) (h : j ≤ 6) : chk 3 2 hs3_2 j = true := by
  by_cases h0 : j < 6
  · exact allN_at x3_2_0 j (by omega) (by omega)
  exact allN_at x3_2_1 j (by omega) (by omega)
theorem rA3_3 (j : Nat) (h : j ≤ 9) : rnN 3 3 9 hs3_3 sg3_3 j = true := by
  by_cases h0 : j < 5
  · exact allN_at r3_3_0 j (by omega) (by omega)
  by_cases h1 : j < 8
  · exact allN_at r3_3_1 j (by omega) (by omega)
  exact allN_at r3_3_2 j (by omega) (by omega)
theorem xA3_3 (j : Nat) (h : j ≤ 9) : chk 3 3 hs3_3 j = true := by
  by_cases h0 : j < 5
  · exact allN_at x3_3_0 j (by omega) (by omega)
  by_cases h1 : j < 8
  · exact allN_at x3_3_1 j (by omega) (by omega)
  exact allN_at x3_3_2 j (by omega) (by omega)
theorem rA3_4 (j : Nat) (h : j ≤ 12) : rnN 3 4 12 hs3_4 sg3_4 j = true := by
  by_cases h0 : j < 5
  · exact allN_at r3_4_0 j (by omega) (by omega)
  by_cases h1 : j < 8
  · exact allN_at r3_4_1 j (by omega) (by omega)
  by_cases h2 : j < 11
  · exact allN_at r3_4_2 j (by omega) (by omega)
  exact allN_at r3_4_3 j (by omega) (by omega)
theorem xA3_4 (j : Nat) (h : j ≤ 12) : chk 3 4 hs3_4 j = true := by
  by_cases h0 : j < 5
  · exact allN_at x3_4_0 j (by omega) (by omega)
  by_cases h1 : j < 8
  · exact allN_at x3_4_1 j (by omega) (by omega)
  by_cases h2 : j < 11
  · exact allN_at x3_4_2 j (by omega) (by omega)
  exact allN_at x3_4_3 j (by omega) (by omega)
theorem rA3_5 (j : Nat) (h : j ≤ 15) : rnN 3 5 15 hs3_5 sg3_5 j = true := by
  by_cases h0 : j < 4
  · exact allN_at r3_5_0 j (by omega) (by omega)
  by_cases h1 : j < 7
  · exact allN_at r3_5_1 j (by omega) (by omega)
  by_cases h2 : j < 10
  · exact allN_at r3_5_2 j (by omega) (by omega)
  by_cases h3 : j < 12
  · exact allN_at r3_5_3 j (by omega) (by omega)
  by_cases h4 : j < 14
  · exact allN_at r3_5_4 j (by omega) (by omega)
  exact allN_at r3_5_5 j (by omega) (by omega)
theorem xA3_5 (j : Nat) (h : j ≤ 15) : chk 3 5 hs3_5 j = true := by
  by_cases h0 : j < 4
  · exact allN_at x3_5_0 j (by omega) (by omega)
  by_cases h1 : j < 7
  · exact allN_at x3_5_1 j (by omega) (by omega)
  by_cases h2 : j < 10
  · exact allN_at x3_5_2 j (by omega) (by omega)
  by_cases h3 : j < 12
  · exact allN_at x3_5_3 j (by omega) (by omega)
  by_cases h4 : j < 14
  · exact allN_at x3_5_4 j (by omega) (by omega)
  exact allN_at x3_5_5 j (by omega) (by omega)
theorem rA3_6 (j : Nat) (h : j ≤ 18) : rnN 3 6 18 hs3_6 sg3_6 j = true := by
  by_cases h0 : j < 4
  · exact allN_at r3_6_0 j (by omega) (by omega)
  by_cases h1 : j < 7
  · exact allN_at r3_6_1 j (by omega) (by omega)
  by_cases h2 : j < 9
  · exact allN_at r3_6_2 j (by omega) (by omega)
  by_cases h3 : j < 11
  · exact allN_at r3_6_3 j (by omega) (by omega)
  by_cases h4 : j < 13
  · exact allN_at r3_6_4 j (by omega) (by omega)
  by_cases h5 : j < 15
  · exact allN_at r3_6_5 j (by omega) (by omega)
  by_cases h6 : j < 17
  · exact allN_at r3_6_6 j (by omega) (by omega)
  exact allN_at r3_6_7 j (by omega) (by omega)
theorem xA3_6 (j : Nat) (h : j ≤ 18) : chk 3 6 hs3_6 j = true := by
  by_cases h0 : j < 4
  · exact allN_at x3_6_0 j (by omega) (by omega)
  by_cases h1 : j < 7
  · exact allN_at x3_6_1 j (by omega) (by omega)
  by_cases h2 : j < 9
  · exact allN_at x3_6_2 j (by omega) (by omega)
  by_cases h3 : j < 11
  · exact allN_at x3_6_3 j (by omega) (by omega)
  by_cases h4 : j < 13
  · exact allN_at x3_6_4 j (by omega) (by omega)
  by_cases h5 : j < 15
  · exact allN_at x3_6_5 j (by omega) (by omega)
  by_cases h6 : j < 17
  · exact allN_at x3_6_6 j (by omega) (by omega)
  exact allN_at x3_6_7 j (by omega) (by omega)
theorem rA3_7 (j : Nat) (h : j ≤ 21) : rnN 3 7 21 hs3_7 sg3_7 j = true := by
  by_cases h0 : j < 4
  · exact allN_at r3_7_0 j (by omega) (by omega)
  by_cases h1 : j < 6
  · exact allN_at r3_7_1 j (by omega) (by omega)
  by_cases h2 : j < 8
  · exact allN_at r3_7_2 j (by omega) (by omega)
  by_cases h3 : j < 10
  · exact allN_at r3_7_3 j (by omega) (by omega)
  by_cases h4 : j < 12
  · exact allN_at r3_7_4 j (by omega) (by omega)
  by_cases h5 : j < 14
  · exact allN_at r3_7_5 j (by omega) (by omega)
  by_cases h6 : j < 16
  · exact allN_at r3_7_6 j (by omega) (by omega)
  by_cases h7 : j < 18
  · exact allN_at r3_7_7 j (by omega) (by omega)
  by_cases h8 : j < 19
  · exact allN_at r3_7_8 j (by omega) (by omega)
  by_cases h9 : j < 20
  · exact allN_at r3_7_9 j (by omega) (by omega)
  by_cases h10 : j < 21
  · exact allN_at r3_7_10 j (by omega) (by omega)
  exact allN_at r3_7_11 j (by omega) (by omega)
theorem xA3_7 (j : Nat) (h : j ≤ 21) : chk 3 7 hs3_7 j = true := by
  by_cases h0 : j < 4
  · exact allN_at x3_7_0 j (by omega) (by omega)
  by_cases h1 : j < 6
  · exact allN_at x3_7_1 j (by omega) (by omega)
  by_cases h2 : j < 8
  · exact allN_at x3_7_2 j (by omega) (by omega)
  by_cases h3 : j < 10
  · exact allN_at x3_7_3 j (by omega) (by omega)
  by_cases h4 : j < 12
  · exact allN_at x3_7_4 j (by omega) (by omega)
  by_cases h5 : j < 14
  · exact allN_at x3_7_5 j (by omega) (by omega)
  by_cases h6 : j < 16
  · exact allN_at x3_7_6 j (by omega) (by omega)
  by_cases h7 : j < 18
  · exact allN_at x3_7_7 j (by omega) (by omega)
  by_cases h8 : j < 19
  · exact allN_at x3_7_8 j (by omega) (by omega)
  by_cases h9 : j < 20
  · exact allN_at x3_7_9 j (by omega) (by omega)
  by_cases h10 : j < 21
  · exact allN_at x3_7_10 j (by omega) (by omega)
  exact allN_at x3_7_11 j (by omega) (by omega)
theorem rA3_8 (j : Nat) (h : j ≤ 24) : rnN 3 8 24 hs3_8 sg3_8 j = true := by
  by_cases h0 : j < 4
  · exact allN_at r3_8_0 j (by omega) (by omega)
  by_cases h1 : j < 6
  · exact allN_at r3_8_1 j (by omega) (by omega)
  by_cases h2 : j < 8
  · exact allN_at r3_8_2 j (by omega) (by omega)
  by_cases h3 : j < 10
  · exact allN_at r3_8_3 j (by omega) (by omega)
  by_cases h4 : j < 12
  · exact allN_at r3_8_4 j (by omega) (by omega)
  by_cases h5 : j < 14
  · exact allN_at r3_8_5 j (by omega) (by omega)
  by_cases h6 : j < 16
  · exact allN_at r3_8_6 j (by omega) (by omega)
  by_cases h7 : j < 17
  · exact allN_at r3_8_7 j (by omega) (by omega)
  by_cases h8 : j < 18
  · exact allN_at r3_8_8 j (by omega) (by omega)
  by_cases h9 : j < 19
  · exact allN_at r3_8_9 j (by omega) (by omega)
  by_cases h10 : j < 20
  · exact allN_at r3_8_10 j (by omega) (by omega)
  by_cases h11 : j < 21
  · exact allN_at r3_8_11 j (by omega) (by omega)
  by_cases h12 : j < 22
  · exact allN_at r3_8_12 j (by omega) (by omega)
  by_cases h13 : j < 23
  · exact allN_at r3_8_13 j (by omega) (by omega)
  by_cases h14 : j < 24
  · exact allN_at r3_8_14 j (by omega) (by omega)
  exact allN_at r3_8_15 j (by omega) (by omega)
theorem xA3_8 (j : Nat) (h : j ≤ 24) : chk 3 8 hs3_8 j = true := by
  by_cases h0 : j < 4
  · exact allN_at x3_8_0 j (by omega) (by omega)
  by_cases h1 : j < 6
  · exact allN_at x3_8_1 j (by omega) (by omega)
  by_cases h2 : j < 8
  · exact allN_at x3_8_2 j (by omega) (by omega)
  by_cases h3 : j < 10
  · exact allN_at x3_8_3 j (by omega) (by omega)
  by_cases h4 : j < 12
  · exact allN_at x3_8_4 j (by omega) (by omega)
  by_cases h5 : j < 14
  · exact allN_at x3_8_5 j (by omega) (by omega)
  by_cases h6 : j < 16
  · exact allN_at x3_8_6 j (by omega) (by omega)
  by_cases h7 : j < 17
  · exact allN_at x3_8_7 j (by omega) (by omega)
  by_cases h8 : j < 18
  · exact allN_at x3_8_8 j (by omega) (by omega)
  by_cases h9 : j < 19
  · exact allN_at x3_8_9 j (by omega) (by omega)
  by_cases h10 : j < 20
  · exact allN_at x3_8_10 j (by omega) (by omega)
  by_cases h11 : j < 21
  · exact allN_at x3_8_11 j (by omega) (by omega)
  by_cases h12 : j < 22
  · exact allN_at x3_8_12 j (by omega) (by omega)
  by_cases h13 : j < 23
  · exact allN_at x3_8_13 j (by omega) (by omega)
  by_cases h14 : j < 24
  · exact allN_at x3_8_14 j (by omega) (by omega)
  exact allN_at x3_8_15 j (by omega) (by omega)
theorem rA4_1 (j : Nat) (h : j ≤ 4) : rnN 4 1 4 hs4_1 sg4_1 j = true := by
  exact allN_at r4_1_0 j (by omega) (by omega)
theorem xA4_1 (j : Nat) (h : j ≤ 4) : chk 4 1 hs4_1 j = true := by
  exact allN_at x4_1_0 j (by omega) (by omega)
theorem rA4_2 (j : Nat) (h : j ≤ 8) : rnN 4 2 8 hs4_2 sg4_2 j = true := by
  by_cases h0 : j < 5
  · exact allN_at r4_2_0 j (by omega) (by omega)
  by_cases h1 : j < 8
  · exact allN_at r4_2_1 j (by omega) (by omega)
  exact allN_at r4_2_2 j (by omega) (by omega)
theorem xA4_2 (j : Nat) (h : j ≤ 8) : chk 4 2 hs4_2 j = true := by
  by_cases h0 : j < 5
  · exact allN_at x4_2_0 j (by omega) (by omega)
  by_cases h1 : j < 8
  · exact allN_at x4_2_1 j (by omega) (by omega)
  exact allN_at x4_2_2 j (by omega) (by omega)
theorem rA4_3 (j : Nat) (h : j ≤ 12) : rnN 4 3 12 hs4_3 sg4_3 j = true := by
  by_cases h0 : j < 5
  · exact allN_at r4_3_0 j (by omega) (by omega)
  by_cases h1 : j < 8
  · exact allN_at r4_3_1 j (by omega) (by omega)
  by_cases h2 : j < 11
  · exact allN_at r4_3_2 j (by omega) (by omega)
  exact allN_at r4_3_3 j (by omega) (by omega)
theorem xA4_3 (j : Nat) (h : j ≤ 12) : chk 4 3 hs4_3 j = true := by
  by_cases h0 : j < 5
  · exact allN_at x4_3_0 j (by omega) (by omega)
  by_cases h1 : j < 8
  · exact allN_at x4_3_1 j (by omega) (by omega)
  by_cases h2 : j < 11
  · exact allN_at x4_3_2 j (by omega) (by omega)
  exact allN_at x4_3_3 j (by omega) (by omega)
theorem rA4_4 (j : Nat) (h : j ≤ 16) : rnN 4 4 16 hs4_4 sg4_4 j = true := by
  by_cases h0 : j < 5
  · exact allN_at r4_4_0 j (by omega) (by omega)
  by_cases h1 : j < 8
  · exact allN_at r4_4_1 j (by omega) (by omega)
  by_cases h2 : j < 10
  · exact allN_at r4_4_2 j (by omega) (by omega)
  by_cases h3 : j < 12
  · exact allN_at r4_4_3 j (by omega) (by omega)
  by_cases h4 : j < 14
  · exact allN_at r4_4_4 j (by omega) (by omega)
  by_cases h5 : j < 16
  · exact allN_at r4_4_5 j (by omega) (by omega)
  exact allN_at r4_4_6 j (by omega) (by omega)
theorem xA4_4 (j : Nat) (h : j ≤ 16) : chk 4 4 hs4_4 j = true := by
  by_cases h0 : j < 5
  · exact allN_at x4_4_0 j (by omega) (by omega)
  by_cases h1 : j < 8
  · exact allN_at x4_4_1 j (by omega) (by omega)
  by_cases h2 : j < 10
  · exact allN_at x4_4_2 j (by omega) (by omega)
  by_cases h3 : j < 12
  · exact allN_at x4_4_3 j (by omega) (by omega)
  by_cases h4 : j < 14
  · exact allN_at x4_4_4 j (by omega) (by omega)
  by_cases h5 : j < 16
  · exact allN_at x4_4_5 j (by omega) (by omega)
  exact allN_at x4_4_6 j (by omega) (by omega)
theorem rA4_5 (j : Nat) (h : j ≤ 20) : rnN 4 5 20 hs4_5 sg4_5 j = true := by
  by_cases h0 : j < 4
  · exact allN_at r4_5_0 j (by omega) (by omega)
  by_cases h1 : j < 6
  · exact allN_at r4_5_1 j (by omega) (by omega)
  by_cases h2 : j < 8
  · exact allN_at r4_5_2 j (by omega) (by omega)
  by_cases h3 : j < 10
  · exact allN_at r4_5_3 j (by omega) (by omega)
  by_cases h4 : j < 12
  · exact allN_at r4_5_4 j (by omega) (by omega)
  by_cases h5 : j < 14
  · exact allN_at r4_5_5 j (by omega) (by omega)
  by_cases h6 : j < 16
  · exact allN_at r4_5_6 j (by omega) (by omega)
  by_cases h7 : j < 18
  · exact allN_at r4_5_7 j (by omega) (by omega)
  by_cases h8 : j < 19
  · exact allN_at r4_5_8 j (by omega) (by omega)
  by_cases h9 : j < 20
  · exact allN_at r4_5_9 j (by omega) (by omega)
  exact allN_at r4_5_10 j (by omega) (by omega)
theorem xA4_5 (j : Nat) (h : j ≤ 20) : chk 4 5 hs4_5 j = true := by
  by_cases h0 : j < 4
  · exact allN_at x4_5_0 j (by omega) (by omega)
  by_cases h1 : j < 6
  · exact allN_at x4_5_1 j (by omega) (by omega)
  by_cases h2 : j < 8
  · exact allN_at x4_5_2 j (by omega) (by omega)
  by_cases h3 : j < 10
  · exact allN_at x4_5_3 j (by omega) (by omega)
  by_cases h4 : j < 12
  · exact allN_at x4_5_4 j (by omega) (by omega)
  by_cases h5 : j < 14
  · exact allN_at x4_5_5 j (by omega) (by omega)
  by_cases h6 : j < 16
  · exact allN_at x4_5_6 j (by omega) (by omega)
  by_cases h7 : j < 18
  · exact allN_at x4_5_7 j (by omega) (by omega)
  by_cases h8 : j < 19
  · exact allN_at x4_5_8 j (by omega) (by omega)
  by_cases h9 : j < 20
  · exact allN_at x4_5_9 j (by omega) (by omega)
  exact allN_at x4_5_10 j (by omega) (by omega)
theorem rA4_6 (j : Nat) (h : j ≤ 24) : rnN 4 6 24 hs4_6 sg4_6 j = true := by
  by_cases h0 : j < 4
  · exact allN_at r4_6_0 j (by omega) (by omega)
  by_cases h1 : j < 6
  · exact allN_at r4_6_1 j (by omega) (by omega)
  by_cases h2 : j < 8
  · exact allN_at r4_6_2 j (by omega) (by omega)
  by_cases h3 : j < 10
  · exact allN_at r4_6_3 j (by omega) (by omega)
  by_cases h4 : j < 12
  · exact allN_at r4_6_4 j (by omega) (by omega)
  by_cases h5 : j < 14
  · exact allN_at r4_6_5 j (by omega) (by omega)
  by_cases h6 : j < 16
  · exact allN_at r4_6_6 j (by omega) (by omega)
  by_cases h7 : j < 17
  · exact allN_at r4_6_7 j (by omega) (by omega)
  by_cases h8 : j < 18
  · exact allN_at r4_6_8 j (by omega) (by omega)
  by_cases h9 : j < 19
  · exact allN_at r4_6_9 j (by omega) (by omega)
  by_cases h10 : j < 20
  · exact allN_at r4_6_10 j (by omega) (by omega)
  by_cases h11 : j < 21
  · exact allN_at r4_6_11 j (by omega) (by omega)
  by_cases h12 : j < 22
  · exact allN_at r4_6_12 j (by omega) (by omega)
  by_cases h13 : j < 23
  · exact allN_at r4_6_13 j (by omega) (by omega)
  by_cases h14 : j < 24
  · exact allN_at r4_6_14 j (by omega) (by omega)
  exact allN_at r4_6_15 j (by omega) (by omega)
theorem xA4_6 (j : Nat) (h : j ≤ 24) : chk 4 6 hs4_6 j = true := by
  by_cases h0 : j < 4
  · exact allN_at x4_6_0 j (by omega) (by omega)
  by_cases h1 : j < 6
  · exact allN_at x4_6_1 j (by omega) (by omega)
  by_cases h2 : j < 8
  · exact allN_at x4_6_2 j (by omega) (by omega)
  by_cases h3 : j < 10
  · exact allN_at x4_6_3 j (by omega) (by omega)
  by_cases h4 : j < 12
  · exact allN_at x4_6_4 j (by omega) (by omega)
  by_cases h5 : j < 14
  · exact allN_at x4_6_5 j (by omega) (by omega)
  by_cases h6 : j < 16
  · exact allN_at x4_6_6 j (by omega) (by omega)
  by_cases h7 : j < 17
  · exact allN_at x4_6_7 j (by omega) (by omega)
  by_cases h8 : j < 18
  · exact allN_at x4_6_8 j (by omega) (by omega)
  by_cases h9 : j < 19
  · exact allN_at x4_6_9 j (by omega) (by omega)
  by_cases h10 : j < 20
  · exact allN_at x4_6_10 j (by omega) (by omega)
  by_cases h11 : j < 21
  · exact allN_at x4_6_11 j (by omega) (by omega)
  by_cases h12 : j < 22
  · exact allN_at x4_6_12 j (by omega) (by omega)
  by_cases h13 : j < 23
  · exact allN_at x4_6_13 j (by omega) (by omega)
  by_cases h14 : j < 24
  · exact allN_at x4_6_14 j (by omega) (by omega)
  exact allN_at x4_6_15 j (by omega) (by omega)
theorem rA4_7 (j : Nat) (h : j ≤ 28) : rnN 4 7 28 hs4_7 sg4_7 j = true := by
  by_cases h0 : j < 4
  · exact allN_at r4_7_0 j (by omega) (by omega)
  by_cases h1 : j < 6
  · exact allN_at r4_7_1 j (by omega) (by omega)
  by_cases h2 : j < 8
  · exact allN_at r4_7_2 j (by omega) (by omega)
  by_cases h3 : j < 10
  · exact allN_at r4_7_3 j (by omega) (by omega)
  by_cases h4 : j < 12
  · exact allN_at r4_7_4 j (by omega) (by omega)
  by_cases h5 : j < 14
  · exact allN_at r4_7_5 j (by omega) (by omega)
  by_cases h6 : j < 15
  · exact allN_at r4_7_6 j (by omega) (by omega)
  by_cases h7 : j < 16
  · exact allN_at r4_7_7 j (by omega) (by omega)
  by_cases h8 : j < 17
  · exact allN_at r4_7_8 j (by omega) (by omega)
  by_cases h9 : j < 18
  · exact allN_at r4_7_9 j (by omega) (by omega)
  by_cases h10 : j < 19
  · exact allN_at r4_7_10 j (by omega) (by omega)
  by_cases h11 : j < 20
  · exact allN_at r4_7_11 j (by omega) (by omega)
  by_cases h12 : j < 21
  · exact allN_at r4_7_12 j (by omega) (by omega)
  by_cases h13 : j < 22
  · exact allN_at r4_7_13 j (by omega) (by omega)
  by_cases h14 : j < 23
  · exact allN_at r4_7_14 j (by omega) (by omega)
  by_cases h15 : j < 24
  · exact allN_at r4_7_15 j (by omega) (by omega)
  by_cases h16 : j < 25
  · exact allN_at r4_7_16 j (by omega) (by omega)
  by_cases h17 : j < 26
  · exact allN_at r4_7_17 j (by omega) (by omega)
  by_cases h18 : j < 27
  · exact allN_at r4_7_18 j (by omega) (by omega)
  by_cases h19 : j < 28
  · exact allN_at r4_7_19 j (by omega) (by omega)
  exact allN_at r4_7_20 j (by omega) (by omega)
theorem xA4_7 (j : Nat) (h : j ≤ 28) : chk 4 7 hs4_7 j = true := by
  by_cases h0 : j < 4
  · exact allN_at x4_7_0 j (by omega) (by omega)
  by_cases h1 : j < 6
  · exact allN_at x4_7_1 j (by omega) (by omega)
  by_cases h2 : j < 8
  · exact allN_at x4_7_2 j (by omega) (by omega)
  by_cases h3 : j < 10
  · exact allN_at x4_7_3 j (by omega) (by omega)
  by_cases h4 : j < 12
  · exact allN_at x4_7_4 j (by omega) (by omega)
  by_cases h5 : j < 14
  · exact allN_at x4_7_5 j (by omega) (by omega)
  by_cases h6 : j < 15
  · exact allN_at x4_7_6 j (by omega) (by omega)
  by_cases h7 : j < 16
  · exact allN_at x4_7_7 j (by omega) (by omega)
  by_cases h8 : j < 17
  · exact allN_at x4_7_8 j (by omega) (by omega)
  by_cases h9 : j < 18
  · exact allN_at x4_7_9 j (by omega) (by omega)
  by_cases h10 : j < 19
  · exact allN_at x4_7_10 j (by omega) (by omega)
  by_cases h11 : j < 20
  · exact allN_at x4_7_11 j (by omega) (by omega)
  by_cases h12 : j < 21
  · exact allN_at x4_7_12 j (by omega) (by omega)
  by_cases h13 : j < 22
  · exact allN_at x4_7_13 j (by omega) (by omega)
  by_cases h14 : j < 23
  · exact allN_at x4_7_14 j (by omega) (by omega)
  by_cases h15 : j < 24
  · exact allN_at x4_7_15 j (by omega) (by omega)
  by_cases h16 : j < 25
  · exact allN_at x4_7_16 j (by omega) (by omega)
  by_cases h17 : j < 26
  · exact allN_at x4_7_17 j (by omega) (by omega)
  by_cases h18 : j < 27
  · exact allN_at x4_7_18 j (by omega) (by omega)
  by_cases h19 : j < 28
  · exact allN_at x4_7_19 j (by omega) (by omega)
  exact allN_at x4_7_20 j (by omega) (by omega)
theorem rA4_8 (j : Nat) (h : j ≤ 32) : rnN 4 8 32 hs4_8 sg4_8 j = true := by
  by_cases h0 : j < 4
  · exact allN_at r4_8_0 j (by omega) (by omega)
  by_cases h1 : j < 6
  · exact allN_at r4_8_1 j (by omega) (by omega)
  by_cases h2 : j < 8
  · exact allN_at r4_8_2 j (by omega) (by omega)
  by_cases h3 : j < 10
  · exact allN_at r4_8_3 j (by omega) (by omega)
  by_cases h4 : j < 11
  · exact allN_at r4_8_4 j (by omega) (by omega)
  by_cases h5 : j < 12
  · exact allN_at r4_8_5 j (by omega) (by omega)
  by_cases h6 : j < 13
  · exact allN_at r4_8_6 j (by omega) (by omega)
  by_cases h7 : j < 14
  · exact allN_at r4_8_7 j (by omega) (by omega)
  by_cases h8 : j < 15
  · exact allN_at r4_8_8 j (by omega) (by omega)
  by_cases h9 : j < 16
  · exact allN_at r4_8_9 j (by omega) (by omega)
  by_cases h10 : j < 17
  · exact allN_at r4_8_10 j (by omega) (by omega)
  by_cases h11 : j < 18
  · exact allN_at r4_8_11 j (by omega) (by omega)
  by_cases h12 : j < 19
  · exact allN_at r4_8_12 j (by omega) (by omega)
  by_cases h13 : j < 20
  · exact allN_at r4_8_13 j (by omega) (by omega)
  by_cases h14 : j < 21
  · exact allN_at r4_8_14 j (by omega) (by omega)
  by_cases h15 : j < 22
  · exact allN_at r4_8_15 j (by omega) (by omega)
  by_cases h16 : j < 23
  · exact allN_at r4_8_16 j (by omega) (by omega)
  by_cases h17 : j < 24
  · exact allN_at r4_8_17 j (by omega) (by omega)
  by_cases h18 : j < 25
  · exact allN_at r4_8_18 j (by omega) (by omega)
  by_cases h19 : j < 26
  · exact allN_at r4_8_19 j (by omega) (by omega)
  by_cases h20 : j < 27
  · exact allN_at r4_8_20 j (by omega) (by omega)
  by_cases h21 : j < 28
  · exact allN_at r4_8_21 j (by omega) (by omega)
  by_cases h22 : j < 29
  · exact allN_at r4_8_22 j (by omega) (by omega)
  by_cases h23 : j < 30
  · exact allN_at r4_8_23 j (by omega) (by omega)
  by_cases h24 : j < 31
  · exact allN_at r4_8_24 j (by omega) (by omega)
  by_cases h25 : j < 32
  · exact allN_at r4_8_25 j (by omega) (by omega)
  exact allN_at r4_8_26 j (by omega) (by omega)
theorem xA4_8 (j : Nat) (h : j ≤ 32) : chk 4 8 hs4_8 j = true := by
  by_cases h0 : j < 4
  · exact allN_at x4_8_0 j (by omega) (by omega)
  by_cases h1 : j < 6
  · exact allN_at x4_8_1 j (by omega) (by omega)
  by_cases h2 : j < 8
  · exact allN_at x4_8_2 j (by omega) (by omega)
  by_cases h3 : j < 10
  · exact allN_at x4_8_3 j (by omega) (by omega)
  by_cases h4 : j < 11
  · exact allN_at x4_8_4 j (by omega) (by omega)
  by_cases h5 : j < 12
  · exact allN_at x4_8_5 j (by omega) (by omega)
  by_cases h6 : j < 13
  · exact allN_at x4_8_6 j (by omega) (by omega)
  by_cases h7 : j < 14
  · exact allN_at x4_8_7 j (by omega) (by omega)
  by_cases h8 : j < 15
  · exact allN_at x4_8_8 j (by omega) (by omega)
  by_cases h9 : j < 16
  · exact allN_at x4_8_9 j (by omega) (by omega)
  by_cases h10 : j < 17
  · exact allN_at x4_8_10 j (by omega) (by omega)
  by_cases h11 : j < 18
  · exact allN_at x4_8_11 j (by omega) (by omega)
  by_cases h12 : j < 19
  · exact allN_at x4_8_12 j (by omega) (by omega)
  by_cases h13 : j < 20
  · exact allN_at x4_8_13 j (by omega) (by omega)
  by_cases h14 : j < 21
  · exact allN_at x4_8_14 j (by omega) (by omega)
  by_cases h15 : j < 22
  · exact allN_at x4_8_15 j (by omega) (by omega)
  by_cases h16 : j < 23
  · exact allN_at x4_8_16 j (by omega) (by omega)
  by_cases h17 : j < 24
  · exact allN_at x4_8_17 j (by omega) (by omega)
  by_cases h18 : j < 25
  · exact allN_at x4_8_18 j (by omega) (by omega)
  by_cases h19 : j < 26
  · exact allN_at x4_8_19 j (by omega) (by omega)
  by_cases h20 : j < 27
  · exact allN_at x4_8_20 j (by omega) (by omega)
  by_cases h21 : j < 28
  · exact allN_at x4_8_21 j (by omega) (by omega)
  by_cases h22 : j < 29
  · exact allN_at x4_8_22 j (by omega) (by omega)
  by_cases h23 : j < 30
  · exact allN_at x4_8_23 j (by omega) (by omega)
  by_cases h24 : j < 31
  · exact allN_at x4_8_24 j (by omega) (by omega)
  by_cases h25 : j < 32
  · exact allN_at x4_8_25 j (by omega) (by omega)
  exact allN_at x4_8_26 j (by omega) (by omega)
theorem walk (conns ids n : Int) (b0 : 0 ≤ conns) (b1 : conns ≤ 255) (b2 : 0 ≤ ids) (b3 : ids ≤ 255) (b4 : 0 ≤ n) (b5 : n ≤ 255) (w : World) (hl : laidE w) : Calls Try.prog 4 #[.int .u8 conns, .int .u8 ids, .int .u8 n] w fun e w' => e = .returned (.bool true) ∧ Go.AX.Below (Go.AX.Fz.lt w.heap.size) w w' := by
  by_cases hc1 : conns % 4 = 0
  · by_cases hk1 : ids % 8 = 0
    · exact mainPb 1 1 1 (by decide) (by decide) hs1_1 sg1_1 rA1_1 xA1_1 conns ids n b0 b1 b2 b3 b4 b5 hc1 hk1 w hl
    by_cases hk2 : ids % 8 = 1
    · exact mainPb 1 2 2 (by decide) (by decide) hs1_2 sg1_2 rA1_2 xA1_2 conns ids n b0 b1 b2 b3 b4 b5 hc1 hk2 w hl
    by_cases hk3 : ids % 8 = 2
    · exact mainPb 1 3 3 (by decide) (by decide) hs1_3 sg1_3 rA1_3 xA1_3 conns ids n b0 b1 b2 b3 b4 b5 hc1 hk3 w hl
    by_cases hk4 : ids % 8 = 3
    · exact mainPb 1 4 4 (by decide) (by decide) hs1_4 sg1_4 rA1_4 xA1_4 conns ids n b0 b1 b2 b3 b4 b5 hc1 hk4 w hl
    by_cases hk5 : ids % 8 = 4
    · exact mainPb 1 5 5 (by decide) (by decide) hs1_5 sg1_5 rA1_5 xA1_5 conns ids n b0 b1 b2 b3 b4 b5 hc1 hk5 w hl
    by_cases hk6 : ids % 8 = 5
    · exact mainPb 1 6 6 (by decide) (by decide) hs1_6 sg1_6 rA1_6 xA1_6 conns ids n b0 b1 b2 b3 b4 b5 hc1 hk6 w hl
    by_cases hk7 : ids % 8 = 6
    · exact mainPb 1 7 7 (by decide) (by decide) hs1_7 sg1_7 rA1_7 xA1_7 conns ids n b0 b1 b2 b3 b4 b5 hc1 hk7 w hl
    by_cases hk8 : ids % 8 = 7
    · exact mainPb 1 8 8 (by decide) (by decide) hs1_8 sg1_8 rA1_8 xA1_8 conns ids n b0 b1 b2 b3 b4 b5 hc1 hk8 w hl
    exfalso; omega
  by_cases hc2 : conns % 4 = 1
  · by_cases hk1 : ids % 8 = 0
    · exact mainPb 2 1 2 (by decide) (by decide) hs2_1 sg2_1 rA2_1 xA2_1 conns ids n b0 b1 b2 b3 b4 b5 hc2 hk1 w hl
    by_cases hk2 : ids % 8 = 1
    · exact mainPb 2 2 4 (by decide) (by decide) hs2_2 sg2_2 rA2_2 xA2_2 conns ids n b0 b1 b2 b3 b4 b5 hc2 hk2 w hl
    by_cases hk3 : ids % 8 = 2
    · exact mainPb 2 3 6 (by decide) (by decide) hs2_3 sg2_3 rA2_3 xA2_3 conns ids n b0 b1 b2 b3 b4 b5 hc2 hk3 w hl
    by_cases hk4 : ids % 8 = 3
    · exact mainPb 2 4 8 (by decide) (by decide) hs2_4 sg2_4 rA2_4 xA2_4 conns ids n b0 b1 b2 b3 b4 b5 hc2 hk4 w hl
    by_cases hk5 : ids % 8 = 4
    · exact mainPb 2 5 10 (by decide) (by decide) hs2_5 sg2_5 rA2_5 xA2_5 conns ids n b0 b1 b2 b3 b4 b5 hc2 hk5 w hl
    by_cases hk6 : ids % 8 = 5
    · exact mainPb 2 6 12 (by decide) (by decide) hs2_6 sg2_6 rA2_6 xA2_6 conns ids n b0 b1 b2 b3 b4 b5 hc2 hk6 w hl
    by_cases hk7 : ids % 8 = 6
    · exact mainPb 2 7 14 (by decide) (by decide) hs2_7 sg2_7 rA2_7 xA2_7 conns ids n b0 b1 b2 b3 b4 b5 hc2 hk7 w hl
    by_cases hk8 : ids % 8 = 7
    · exact mainPb 2 8 16 (by decide) (by decide) hs2_8 sg2_8 rA2_8 xA2_8 conns ids n b0 b1 b2 b3 b4 b5 hc2 hk8 w hl
    exfalso; omega
  by_cases hc3 : conns % 4 = 2
  · by_cases hk1 : ids % 8 = 0
    · exact mainPb 3 1 3 (by decide) (by decide) hs3_1 sg3_1 rA3_1 xA3_1 conns ids n b0 b1 b2 b3 b4 b5 hc3 hk1 w hl
    by_cases hk2 : ids % 8 = 1
    · exact mainPb 3 2 6 (by decide) (by decide) hs3_2 sg3_2 rA3_2 xA3_2 conns ids n b0 b1 b2 b3 b4 b5 hc3 hk2 w hl
    by_cases hk3 : ids % 8 = 2
    · exact mainPb 3 3 9 (by decide) (by decide) hs3_3 sg3_3 rA3_3 xA3_3 conns ids n b0 b1 b2 b3 b4 b5 hc3 hk3 w hl
    by_cases hk4 : ids % 8 = 3
    · exact mainPb 3 4 12 (by decide) (by decide) hs3_4 sg3_4 rA3_4 xA3_4 conns ids n b0 b1 b2 b3 b4 b5 hc3 hk4 w hl
    by_cases hk5 : ids % 8 = 4
    · exact mainPb 3 5 15 (by decide) (by decide) hs3_5 sg3_5 rA3_5 xA3_5 conns ids n b0 b1 b2 b3 b4 b5 hc3 hk5 w hl
    by_cases hk6 : ids % 8 = 5
    · exact mainPb 3 6 18 (by decide) (by decide) hs3_6 sg3_6 rA3_6 xA3_6 conns ids n b0 b1 b2 b3 b4 b5 hc3 hk6 w hl
    by_cases hk7 : ids % 8 = 6
    · exact mainPb 3 7 21 (by decide) (by decide) hs3_7 sg3_7 rA3_7 xA3_7 conns ids n b0 b1 b2 b3 b4 b5 hc3 hk7 w hl
    by_cases hk8 : ids % 8 = 7
    · exact mainPb 3 8 24 (by decide) (by decide) hs3_8 sg3_8 rA3_8 xA3_8 conns ids n b0 b1 b2 b3 b4 b5 hc3 hk8 w hl
    exfalso; omega
  by_cases hc4 : conns % 4 = 3
  · by_cases hk1 : ids % 8 = 0
    · exact mainPb 4 1 4 (by decide) (by decide) hs4_1 sg4_1 rA4_1 xA4_1 conns ids n b0 b1 b2 b3 b4 b5 hc4 hk1 w hl
    by_cases hk2 : ids % 8 = 1
    · exact mainPb 4 2 8 (by decide) (by decide) hs4_2 sg4_2 rA4_2 xA4_2 conns ids n b0 b1 b2 b3 b4 b5 hc4 hk2 w hl
    by_cases hk3 : ids % 8 = 2
    · exact mainPb 4 3 12 (by decide) (by decide) hs4_3 sg4_3 rA4_3 xA4_3 conns ids n b0 b1 b2 b3 b4 b5 hc4 hk3 w hl
    by_cases hk4 : ids % 8 = 3
    · exact mainPb 4 4 16 (by decide) (by decide) hs4_4 sg4_4 rA4_4 xA4_4 conns ids n b0 b1 b2 b3 b4 b5 hc4 hk4 w hl
    by_cases hk5 : ids % 8 = 4
    · exact mainPb 4 5 20 (by decide) (by decide) hs4_5 sg4_5 rA4_5 xA4_5 conns ids n b0 b1 b2 b3 b4 b5 hc4 hk5 w hl
    by_cases hk6 : ids % 8 = 5
    · exact mainPb 4 6 24 (by decide) (by decide) hs4_6 sg4_6 rA4_6 xA4_6 conns ids n b0 b1 b2 b3 b4 b5 hc4 hk6 w hl
    by_cases hk7 : ids % 8 = 6
    · exact mainPb 4 7 28 (by decide) (by decide) hs4_7 sg4_7 rA4_7 xA4_7 conns ids n b0 b1 b2 b3 b4 b5 hc4 hk7 w hl
    by_cases hk8 : ids % 8 = 7
    · exact mainPb 4 8 32 (by decide) (by decide) hs4_8 sg4_8 rA4_8 xA4_8 conns ids n b0 b1 b2 b3 b4 b5 hc4 hk8 w hl
    exfalso; omega
  exfalso; omega
end Go.Proofs.Ytkhcgoeccmkmdaa.poolBounds
