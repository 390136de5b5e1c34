/- A part of the proof: an interpreter of the model's own code on partly known states, and that what it answers is what the program answers. No condition of its own. -/
import Derived.Test.YtkhcgoeccmkmdaaGreatDoorM1MuxFairR0
import Derived.Test.YtkhcgoeccmkmdaaGreatDoorM1MuxFairR1
import Derived.Test.YtkhcgoeccmkmdaaGreatDoorM1MuxFairR2
import Derived.Test.YtkhcgoeccmkmdaaGreatDoorM1MuxFairR3
import Derived.Test.YtkhcgoeccmkmdaaGreatDoorM1MuxFairR4
import Derived.Test.YtkhcgoeccmkmdaaGreatDoorM1MuxFairR5
import Derived.Test.YtkhcgoeccmkmdaaGreatDoorM1MuxFairR6
import Derived.Test.YtkhcgoeccmkmdaaGreatDoorM1MuxFairR7
import Derived.Test.YtkhcgoeccmkmdaaGreatDoorM1MuxFairR8
import Derived.Test.YtkhcgoeccmkmdaaGreatDoorM1MuxFairR9
import Derived.Test.YtkhcgoeccmkmdaaGreatDoorM1MuxFairR10
import Derived.Test.YtkhcgoeccmkmdaaGreatDoorM1MuxFairR11
import Derived.Test.YtkhcgoeccmkmdaaGreatDoorM1MuxFairR12
import Derived.Test.YtkhcgoeccmkmdaaGreatDoorM1MuxFairR13
import Derived.Test.YtkhcgoeccmkmdaaGreatDoorM1MuxFairR14
set_option maxRecDepth 100000
set_option linter.unusedVariables false
set_option linter.unusedSimpArgs false
set_option maxHeartbeats 4000000
namespace Go.Proofs.YtkhcgoeccmkmdaaGreatDoor.muxFair
open Go Go.AX Go.Proofs Go.Proofs.YtkhcgoeccmkmdaaGreatDoor
theorem dA2_0 (j : Nat) (h : j < 6) : rnD 2 0 hD2_0 j = true := by
  exact allN_at d2_0_0 j (by omega) (by omega)
theorem lA2_0 (j : Nat) (h : j < 6) : rnL 2 0 hL2_0 j = true := by
  exact allN_at l2_0_0 j (by omega) (by omega)
theorem dA2_1 (j : Nat) (h : j < 8) : rnD 2 1 hD2_1 j = true := by
  exact allN_at d2_1_0 j (by omega) (by omega)
theorem lA2_1 (j : Nat) (h : j < 8) : rnL 2 1 hL2_1 j = true := by
  exact allN_at l2_1_0 j (by omega) (by omega)
theorem dA2_2 (j : Nat) (h : j < 10) : rnD 2 2 hD2_2 j = true := by
  exact allN_at d2_2_0 j (by omega) (by omega)
theorem lA2_2 (j : Nat) (h : j < 10) : rnL 2 2 hL2_2 j = true := by
  exact allN_at l2_2_0 j (by omega) (by omega)
theorem dA2_3 (j : Nat) (h : j < 12) : rnD 2 3 hD2_3 j = true := by
  by_cases h0 : j < 10
  · exact allN_at d2_3_0 j (by omega) (by omega)
  exact allN_at d2_3_1 j (by omega) (by omega)
theorem lA2_3 (j : Nat) (h : j < 12) : rnL 2 3 hL2_3 j = true := by
  by_cases h0 : j < 10
  · exact allN_at l2_3_0 j (by omega) (by omega)
  exact allN_at l2_3_1 j (by omega) (by omega)
theorem dA2_4 (j : Nat) (h : j < 14) : rnD 2 4 hD2_4 j = true := by
  by_cases h0 : j < 10
  · exact allN_at d2_4_0 j (by omega) (by omega)
  exact allN_at d2_4_1 j (by omega) (by omega)
theorem lA2_4 (j : Nat) (h : j < 14) : rnL 2 4 hL2_4 j = true := by
  by_cases h0 : j < 10
  · exact allN_at l2_4_0 j (by omega) (by omega)
  exact allN_at l2_4_1 j (by omega) (by omega)
theorem dA3_0 (j : Nat) (h : j < 9) : rnD 3 0 hD3_0 j = true := by
  exact allN_at d3_0_0 j (by omega) (by omega)
theorem lA3_0 (j : Nat) (h : j < 9) : rnL 3 0 hL3_0 j = true := by
  exact allN_at l3_0_0 j (by omega) (by omega)
theorem dA3_1 (j : Nat) (h : j < 12) : rnD 3 1 hD3_1 j = true := by
  by_cases h0 : j < 9
  · exact allN_at d3_1_0 j (by omega) (by omega)
  exact allN_at d3_1_1 j (by omega) (by omega)
theorem lA3_1 (j : Nat) (h : j < 12) : rnL 3 1 hL3_1 j = true := by
  by_cases h0 : j < 9
  · exact allN_at l3_1_0 j (by omega) (by omega)
  exact allN_at l3_1_1 j (by omega) (by omega)
theorem dA3_2 (j : Nat) (h : j < 15) : rnD 3 2 hD3_2 j = true := by
  by_cases h0 : j < 9
  · exact allN_at d3_2_0 j (by omega) (by omega)
  exact allN_at d3_2_1 j (by omega) (by omega)
theorem lA3_2 (j : Nat) (h : j < 15) : rnL 3 2 hL3_2 j = true := by
  by_cases h0 : j < 9
  · exact allN_at l3_2_0 j (by omega) (by omega)
  exact allN_at l3_2_1 j (by omega) (by omega)
theorem dA3_3 (j : Nat) (h : j < 18) : rnD 3 3 hD3_3 j = true := by
  by_cases h0 : j < 9
  · exact allN_at d3_3_0 j (by omega) (by omega)
  exact allN_at d3_3_1 j (by omega) (by omega)
theorem lA3_3 (j : Nat) (h : j < 18) : rnL 3 3 hL3_3 j = true := by
  by_cases h0 : j < 9
  · exact allN_at l3_3_0 j (by omega) (by omega)
  exact allN_at l3_3_1 j (by omega) (by omega)
theorem dA3_4 (j : Nat) (h : j < 21) : rnD 3 4 hD3_4 j = true := by
  by_cases h0 : j < 9
  · exact allN_at d3_4_0 j (by omega) (by omega)
  by_cases h1 : j < 18
  · exact allN_at d3_4_1 j (by omega) (by omega)
  exact allN_at d3_4_2 j (by omega) (by omega)
theorem lA3_4 (j : Nat) (h : j < 21) : rnL 3 4 hL3_4 j = true := by
  by_cases h0 : j < 9
  · exact allN_at l3_4_0 j (by omega) (by omega)
  by_cases h1 : j < 18
  · exact allN_at l3_4_1 j (by omega) (by omega)
  exact allN_at l3_4_2 j (by omega) (by omega)
theorem dA4_0 (j : Nat) (h : j < 12) : rnD 4 0 hD4_0 j = true := by
  by_cases h0 : j < 8
  · exact allN_at d4_0_0 j (by omega) (by omega)
  exact allN_at d4_0_1 j (by omega) (by omega)
theorem lA4_0 (j : Nat) (h : j < 12) : rnL 4 0 hL4_0 j = true := by
  by_cases h0 : j < 8
  · exact allN_at l4_0_0 j (by omega) (by omega)
  exact allN_at l4_0_1 j (by omega) (by omega)
theorem dA4_1 (j : Nat) (h : j < 16) : rnD 4 1 hD4_1 j = true := by
  by_cases h0 : j < 8
  · exact allN_at d4_1_0 j (by omega) (by omega)
  exact allN_at d4_1_1 j (by omega) (by omega)
theorem lA4_1 (j : Nat) (h : j < 16) : rnL 4 1 hL4_1 j = true := by
  by_cases h0 : j < 8
  · exact allN_at l4_1_0 j (by omega) (by omega)
  exact allN_at l4_1_1 j (by omega) (by omega)
theorem dA4_2 (j : Nat) (h : j < 20) : rnD 4 2 hD4_2 j = true := by
  by_cases h0 : j < 8
  · exact allN_at d4_2_0 j (by omega) (by omega)
  by_cases h1 : j < 16
  · exact allN_at d4_2_1 j (by omega) (by omega)
  exact allN_at d4_2_2 j (by omega) (by omega)
theorem lA4_2 (j : Nat) (h : j < 20) : rnL 4 2 hL4_2 j = true := by
  by_cases h0 : j < 8
  · exact allN_at l4_2_0 j (by omega) (by omega)
  by_cases h1 : j < 16
  · exact allN_at l4_2_1 j (by omega) (by omega)
  exact allN_at l4_2_2 j (by omega) (by omega)
theorem dA4_3 (j : Nat) (h : j < 24) : rnD 4 3 hD4_3 j = true := by
  by_cases h0 : j < 8
  · exact allN_at d4_3_0 j (by omega) (by omega)
  by_cases h1 : j < 16
  · exact allN_at d4_3_1 j (by omega) (by omega)
  exact allN_at d4_3_2 j (by omega) (by omega)
theorem lA4_3 (j : Nat) (h : j < 24) : rnL 4 3 hL4_3 j = true := by
  by_cases h0 : j < 8
  · exact allN_at l4_3_0 j (by omega) (by omega)
  by_cases h1 : j < 16
  · exact allN_at l4_3_1 j (by omega) (by omega)
  exact allN_at l4_3_2 j (by omega) (by omega)
theorem dA4_4 (j : Nat) (h : j < 28) : rnD 4 4 hD4_4 j = true := by
  by_cases h0 : j < 8
  · exact allN_at d4_4_0 j (by omega) (by omega)
  by_cases h1 : j < 16
  · exact allN_at d4_4_1 j (by omega) (by omega)
  by_cases h2 : j < 24
  · exact allN_at d4_4_2 j (by omega) (by omega)
  exact allN_at d4_4_3 j (by omega) (by omega)
theorem lA4_4 (j : Nat) (h : j < 28) : rnL 4 4 hL4_4 j = true := by
  by_cases h0 : j < 8
  · exact allN_at l4_4_0 j (by omega) (by omega)
  by_cases h1 : j < 16
  · exact allN_at l4_4_1 j (by omega) (by omega)
  by_cases h2 : j < 24
  · exact allN_at l4_4_2 j (by omega) (by omega)
  exact allN_at l4_4_3 j (by omega) (by omega)
theorem dA5_0 (j : Nat) (h : j < 15) : rnD 5 0 hD5_0 j = true := by
  by_cases h0 : j < 7
  · exact allN_at d5_0_0 j (by omega) (by omega)
  by_cases h1 : j < 14
  · exact allN_at d5_0_1 j (by omega) (by omega)
  exact allN_at d5_0_2 j (by omega) (by omega)
theorem lA5_0 (j : Nat) (h : j < 15) : rnL 5 0 hL5_0 j = true := by
  by_cases h0 : j < 7
  · exact allN_at l5_0_0 j (by omega) (by omega)
  by_cases h1 : j < 14
  · exact allN_at l5_0_1 j (by omega) (by omega)
  exact allN_at l5_0_2 j (by omega) (by omega)
theorem dA5_1 (j : Nat) (h : j < 20) : rnD 5 1 hD5_1 j = true := by
  by_cases h0 : j < 7
  · exact allN_at d5_1_0 j (by omega) (by omega)
  by_cases h1 : j < 14
  · exact allN_at d5_1_1 j (by omega) (by omega)
  exact allN_at d5_1_2 j (by omega) (by omega)
theorem lA5_1 (j : Nat) (h : j < 20) : rnL 5 1 hL5_1 j = true := by
  by_cases h0 : j < 7
  · exact allN_at l5_1_0 j (by omega) (by omega)
  by_cases h1 : j < 14
  · exact allN_at l5_1_1 j (by omega) (by omega)
  exact allN_at l5_1_2 j (by omega) (by omega)
theorem dA5_2 (j : Nat) (h : j < 25) : rnD 5 2 hD5_2 j = true := by
  by_cases h0 : j < 7
  · exact allN_at d5_2_0 j (by omega) (by omega)
  by_cases h1 : j < 14
  · exact allN_at d5_2_1 j (by omega) (by omega)
  by_cases h2 : j < 21
  · exact allN_at d5_2_2 j (by omega) (by omega)
  exact allN_at d5_2_3 j (by omega) (by omega)
theorem lA5_2 (j : Nat) (h : j < 25) : rnL 5 2 hL5_2 j = true := by
  by_cases h0 : j < 7
  · exact allN_at l5_2_0 j (by omega) (by omega)
  by_cases h1 : j < 14
  · exact allN_at l5_2_1 j (by omega) (by omega)
  by_cases h2 : j < 21
  · exact allN_at l5_2_2 j (by omega) (by omega)
  exact allN_at l5_2_3 j (by omega) (by omega)
theorem dA5_3 (j : Nat) (h : j < 30) : rnD 5 3 hD5_3 j = true := by
  by_cases h0 : j < 7
  · exact allN_at d5_3_0 j (by omega) (by omega)
  by_cases h1 : j < 14
  · exact allN_at d5_3_1 j (by omega) (by omega)
  by_cases h2 : j < 21
  · exact allN_at d5_3_2 j (by omega) (by omega)
  by_cases h3 : j < 28
  · exact allN_at d5_3_3 j (by omega) (by omega)
  exact allN_at d5_3_4 j (by omega) (by omega)
theorem lA5_3 (j : Nat) (h : j < 30) : rnL 5 3 hL5_3 j = true := by
  by_cases h0 : j < 7
  · exact allN_at l5_3_0 j (by omega) (by omega)
  by_cases h1 : j < 14
  · exact allN_at l5_3_1 j (by omega) (by omega)
  by_cases h2 : j < 21
  · exact allN_at l5_3_2 j (by omega) (by omega)
  by_cases h3 : j < 28
  · exact allN_at l5_3_3 j (by omega) (by omega)
  exact allN_at l5_3_4 j (by omega) (by omega)
theorem dA5_4 (j : Nat) (h : j < 35) : rnD 5 4 hD5_4 j = true := by
  by_cases h0 : j < 7
  · exact allN_at d5_4_0 j (by omega) (by omega)
  by_cases h1 : j < 14
  · exact allN_at d5_4_1 j (by omega) (by omega)
  by_cases h2 : j < 21
  · exact allN_at d5_4_2 j (by omega) (by omega)
  by_cases h3 : j < 28
  · exact allN_at d5_4_3 j (by omega) (by omega)
  exact allN_at d5_4_4 j (by omega) (by omega)
theorem lA5_4 (j : Nat) (h : j < 35) : rnL 5 4 hL5_4 j = true := by
  by_cases h0 : j < 7
  · exact allN_at l5_4_0 j (by omega) (by omega)
  by_cases h1 : j < 14
  · exact allN_at l5_4_1 j (by omega) (by omega)
  by_cases h2 : j < 21
  · exact allN_at l5_4_2 j (by omega) (by omega)
  by_cases h3 : j < 28
  · exact allN_at l5_4_3 j (by omega) (by omega)
  exact allN_at l5_4_4 j (by omega) (by omega)
theorem dA6_0 (j : Nat) (h : j < 18) : rnD 6 0 hD6_0 j = true := by
  by_cases h0 : j < 6
  · exact allN_at d6_0_0 j (by omega) (by omega)
  by_cases h1 : j < 12
  · exact allN_at d6_0_1 j (by omega) (by omega)
  exact allN_at d6_0_2 j (by omega) (by omega)
theorem lA6_0 (j : Nat) (h : j < 18) : rnL 6 0 hL6_0 j = true := by
  by_cases h0 : j < 6
  · exact allN_at l6_0_0 j (by omega) (by omega)
  by_cases h1 : j < 12
  · exact allN_at l6_0_1 j (by omega) (by omega)
  exact allN_at l6_0_2 j (by omega) (by omega)
theorem dA6_1 (j : Nat) (h : j < 24) : rnD 6 1 hD6_1 j = true := by
  by_cases h0 : j < 6
  · exact allN_at d6_1_0 j (by omega) (by omega)
  by_cases h1 : j < 12
  · exact allN_at d6_1_1 j (by omega) (by omega)
  by_cases h2 : j < 18
  · exact allN_at d6_1_2 j (by omega) (by omega)
  exact allN_at d6_1_3 j (by omega) (by omega)
theorem lA6_1 (j : Nat) (h : j < 24) : rnL 6 1 hL6_1 j = true := by
  by_cases h0 : j < 6
  · exact allN_at l6_1_0 j (by omega) (by omega)
  by_cases h1 : j < 12
  · exact allN_at l6_1_1 j (by omega) (by omega)
  by_cases h2 : j < 18
  · exact allN_at l6_1_2 j (by omega) (by omega)
  exact allN_at l6_1_3 j (by omega) (by omega)
theorem dA6_2 (j : Nat) (h : j < 30) : rnD 6 2 hD6_2 j = true := by
  by_cases h0 : j < 6
  · exact allN_at d6_2_0 j (by omega) (by omega)
  by_cases h1 : j < 12
  · exact allN_at d6_2_1 j (by omega) (by omega)
  by_cases h2 : j < 18
  · exact allN_at d6_2_2 j (by omega) (by omega)
  by_cases h3 : j < 24
  · exact allN_at d6_2_3 j (by omega) (by omega)
  exact allN_at d6_2_4 j (by omega) (by omega)
theorem lA6_2 (j : Nat) (h : j < 30) : rnL 6 2 hL6_2 j = true := by
  by_cases h0 : j < 6
  · exact allN_at l6_2_0 j (by omega) (by omega)
  by_cases h1 : j < 12
  · exact allN_at l6_2_1 j (by omega) (by omega)
  by_cases h2 : j < 18
  · exact allN_at l6_2_2 j (by omega) (by omega)
  by_cases h3 : j < 24
  · exact allN_at l6_2_3 j (by omega) (by omega)
  exact allN_at l6_2_4 j (by omega) (by omega)
theorem dA6_3 (j : Nat) (h : j < 36) : rnD 6 3 hD6_3 j = true := by
  by_cases h0 : j < 6
  · exact allN_at d6_3_0 j (by omega) (by omega)
  by_cases h1 : j < 12
  · exact allN_at d6_3_1 j (by omega) (by omega)
  by_cases h2 : j < 18
  · exact allN_at d6_3_2 j (by omega) (by omega)
  by_cases h3 : j < 24
  · exact allN_at d6_3_3 j (by omega) (by omega)
  by_cases h4 : j < 30
  · exact allN_at d6_3_4 j (by omega) (by omega)
  exact allN_at d6_3_5 j (by omega) (by omega)
theorem lA6_3 (j : Nat) (h : j < 36) : rnL 6 3 hL6_3 j = true := by
  by_cases h0 : j < 6
  · exact allN_at l6_3_0 j (by omega) (by omega)
  by_cases h1 : j < 12
  · exact allN_at l6_3_1 j (by omega) (by omega)
  by_cases h2 : j < 18
  · exact allN_at l6_3_2 j (by omega) (by omega)
  by_cases h3 : j < 24
  · exact allN_at l6_3_3 j (by omega) (by omega)
  by_cases h4 : j < 30
  · exact allN_at l6_3_4 j (by omega) (by omega)
  exact allN_at l6_3_5 j (by omega) (by omega)
theorem dA6_4 (j : Nat) (h : j < 42) : rnD 6 4 hD6_4 j = true := by
  by_cases h0 : j < 6
  · exact allN_at d6_4_0 j (by omega) (by omega)
  by_cases h1 : j < 12
  · exact allN_at d6_4_1 j (by omega) (by omega)
  by_cases h2 : j < 18
  · exact allN_at d6_4_2 j (by omega) (by omega)
  by_cases h3 : j < 24
  · exact allN_at d6_4_3 j (by omega) (by omega)
  by_cases h4 : j < 30
  · exact allN_at d6_4_4 j (by omega) (by omega)
  by_cases h5 : j < 36
  · exact allN_at d6_4_5 j (by omega) (by omega)
  exact allN_at d6_4_6 j (by omega) (by omega)
theorem lA6_4 (j : Nat) (h : j < 42) : rnL 6 4 hL6_4 j = true := by
  by_cases h0 : j < 6
  · exact allN_at l6_4_0 j (by omega) (by omega)
  by_cases h1 : j < 12
  · exact allN_at l6_4_1 j (by omega) (by omega)
  by_cases h2 : j < 18
  · exact allN_at l6_4_2 j (by omega) (by omega)
  by_cases h3 : j < 24
  · exact allN_at l6_4_3 j (by omega) (by omega)
  by_cases h4 : j < 30
  · exact allN_at l6_4_4 j (by omega) (by omega)
  by_cases h5 : j < 36
  · exact allN_at l6_4_5 j (by omega) (by omega)
  exact allN_at l6_4_6 j (by omega) (by omega)
theorem dA7_0 (j : Nat) (h : j < 21) : rnD 7 0 hD7_0 j = true := by
  by_cases h0 : j < 5
  · exact allN_at d7_0_0 j (by omega) (by omega)
  by_cases h1 : j < 10
  · exact allN_at d7_0_1 j (by omega) (by omega)
  by_cases h2 : j < 15
  · exact allN_at d7_0_2 j (by omega) (by omega)
  by_cases h3 : j < 20
  · exact allN_at d7_0_3 j (by omega) (by omega)
  exact allN_at d7_0_4 j (by omega) (by omega)
theorem lA7_0 (j : Nat) (h : j < 21) : rnL 7 0 hL7_0 j = true := by
  by_cases h0 : j < 5
  · exact allN_at l7_0_0 j (by omega) (by omega)
  by_cases h1 : j < 10
  · exact allN_at l7_0_1 j (by omega) (by omega)
  by_cases h2 : j < 15
  · exact allN_at l7_0_2 j (by omega) (by omega)
  by_cases h3 : j < 20
  · exact allN_at l7_0_3 j (by omega) (by omega)
  exact allN_at l7_0_4 j (by omega) (by omega)
theorem dA7_1 (j : Nat) (h : j < 28) : rnD 7 1 hD7_1 j = true := by
  by_cases h0 : j < 5
  · exact allN_at d7_1_0 j (by omega) (by omega)
  by_cases h1 : j < 10
  · exact allN_at d7_1_1 j (by omega) (by omega)
  by_cases h2 : j < 15
  · exact allN_at d7_1_2 j (by omega) (by omega)
  by_cases h3 : j < 20
  · exact allN_at d7_1_3 j (by omega) (by omega)
  by_cases h4 : j < 25
  · exact allN_at d7_1_4 j (by omega) (by omega)
  exact allN_at d7_1_5 j (by omega) (by omega)
theorem lA7_1 (j : Nat) (h : j < 28) : rnL 7 1 hL7_1 j = true := by
  by_cases h0 : j < 5
  · exact allN_at l7_1_0 j (by omega) (by omega)
  by_cases h1 : j < 10
  · exact allN_at l7_1_1 j (by omega) (by omega)
  by_cases h2 : j < 15
  · exact allN_at l7_1_2 j (by omega) (by omega)
  by_cases h3 : j < 20
  · exact allN_at l7_1_3 j (by omega) (by omega)
  by_cases h4 : j < 25
  · exact allN_at l7_1_4 j (by omega) (by omega)
  exact allN_at l7_1_5 j (by omega) (by omega)
theorem dA7_2 (j : Nat) (h : j < 35) : rnD 7 2 hD7_2 j = true := by
  by_cases h0 : j < 5
  · exact allN_at d7_2_0 j (by omega) (by omega)
  by_cases h1 : j < 10
  · exact allN_at d7_2_1 j (by omega) (by omega)
  by_cases h2 : j < 15
  · exact allN_at d7_2_2 j (by omega) (by omega)
  by_cases h3 : j < 20
  · exact allN_at d7_2_3 j (by omega) (by omega)
  by_cases h4 : j < 25
  · exact allN_at d7_2_4 j (by omega) (by omega)
  by_cases h5 : j < 30
  · exact allN_at d7_2_5 j (by omega) (by omega)
  exact allN_at d7_2_6 j (by omega) (by omega)
theorem lA7_2 (j : Nat) (h : j < 35) : rnL 7 2 hL7_2 j = true := by
  by_cases h0 : j < 5
  · exact allN_at l7_2_0 j (by omega) (by omega)
  by_cases h1 : j < 10
  · exact allN_at l7_2_1 j (by omega) (by omega)
  by_cases h2 : j < 15
  · exact allN_at l7_2_2 j (by omega) (by omega)
  by_cases h3 : j < 20
  · exact allN_at l7_2_3 j (by omega) (by omega)
  by_cases h4 : j < 25
  · exact allN_at l7_2_4 j (by omega) (by omega)
  by_cases h5 : j < 30
  · exact allN_at l7_2_5 j (by omega) (by omega)
  exact allN_at l7_2_6 j (by omega) (by omega)
theorem dA7_3 (j : Nat) (h : j < 42) : rnD 7 3 hD7_3 j = true := by
  by_cases h0 : j < 5
  · exact allN_at d7_3_0 j (by omega) (by omega)
  by_cases h1 : j < 10
  · exact allN_at d7_3_1 j (by omega) (by omega)
  by_cases h2 : j < 15
  · exact allN_at d7_3_2 j (by omega) (by omega)
  by_cases h3 : j < 20
  · exact allN_at d7_3_3 j (by omega) (by omega)
  by_cases h4 : j < 25
  · exact allN_at d7_3_4 j (by omega) (by omega)
  by_cases h5 : j < 30
  · exact allN_at d7_3_5 j (by omega) (by omega)
  by_cases h6 : j < 35
  · exact allN_at d7_3_6 j (by omega) (by omega)
  by_cases h7 : j < 40
  · exact allN_at d7_3_7 j (by omega) (by omega)
  exact allN_at d7_3_8 j (by omega) (by omega)
theorem lA7_3 (j : Nat) (h : j < 42) : rnL 7 3 hL7_3 j = true := by
  by_cases h0 : j < 5
  · exact allN_at l7_3_0 j (by omega) (by omega)
  by_cases h1 : j < 10
  · exact allN_at l7_3_1 j (by omega) (by omega)
  by_cases h2 : j < 15
  · exact allN_at l7_3_2 j (by omega) (by omega)
  by_cases h3 : j < 20
  · exact allN_at l7_3_3 j (by omega) (by omega)
  by_cases h4 : j < 25
  · exact allN_at l7_3_4 j (by omega) (by omega)
  by_cases h5 : j < 30
  · exact allN_at l7_3_5 j (by omega) (by omega)
  by_cases h6 : j < 35
  · exact allN_at l7_3_6 j (by omega) (by omega)
  by_cases h7 : j < 40
  · exact allN_at l7_3_7 j (by omega) (by omega)
  exact allN_at l7_3_8 j (by omega) (by omega)
theorem dA7_4 (j : Nat) (h : j < 49) : rnD 7 4 hD7_4 j = true := by
  by_cases h0 : j < 5
  · exact allN_at d7_4_0 j (by omega) (by omega)
  by_cases h1 : j < 10
  · exact allN_at d7_4_1 j (by omega) (by omega)
  by_cases h2 : j < 15
  · exact allN_at d7_4_2 j (by omega) (by omega)
  by_cases h3 : j < 20
  · exact allN_at d7_4_3 j (by omega) (by omega)
  by_cases h4 : j < 25
  · exact allN_at d7_4_4 j (by omega) (by omega)
  by_cases h5 : j < 30
  · exact allN_at d7_4_5 j (by omega) (by omega)
  by_cases h6 : j < 35
  · exact allN_at d7_4_6 j (by omega) (by omega)
  by_cases h7 : j < 40
  · exact allN_at d7_4_7 j (by omega) (by omega)
  by_cases h8 : j < 45
  · exact allN_at d7_4_8 j (by omega) (by omega)
  exact allN_at d7_4_9 j (by omega) (by omega)
theorem lA7_4 (j : Nat) (h : j < 49) : rnL 7 4 hL7_4 j = true := by
  by_cases h0 : j < 5
  · exact allN_at l7_4_0 j (by omega) (by omega)
  by_cases h1 : j < 10
  · exact allN_at l7_4_1 j (by omega) (by omega)
  by_cases h2 : j < 15
  · exact allN_at l7_4_2 j (by omega) (by omega)
  by_cases h3 : j < 20
  · exact allN_at l7_4_3 j (by omega) (by omega)
  by_cases h4 : j < 25
  · exact allN_at l7_4_4 j (by omega) (by omega)
  by_cases h5 : j < 30
  · exact allN_at l7_4_5 j (by omega) (by omega)
  by_cases h6 : j < 35
  · exact allN_at l7_4_6 j (by omega) (by omega)
  by_cases h7 : j < 40
  · exact allN_at l7_4_7 j (by omega) (by omega)
  by_cases h8 : j < 45
  · exact allN_at l7_4_8 j (by omega) (by omega)
  exact allN_at l7_4_9 j (by omega) (by omega)
theorem isAg4 {C : Cx} {a b c d : AV} {va vb vc vd : Value} (ha : Is C a va) (hb : Is C b vb) (hc : Is C c vc) (hd : Is C d vd) : Is C (.ag [a, b, c, d]) (.agg #[va, vb, vc, vd]) := fun ρ x hx => by
  simp only [Rel, RelL] at hx
  obtain ⟨vs, rfl, v0, t0, rfl, h0, v1, t1, rfl, h1, v2, t2, rfl, h2, v3, t3, rfl, h3, rfl⟩ := hx
  rw [ha ρ _ h0, hb ρ _ h1, hc ρ _ h2, hd ρ _ h3]
def seqS (f : Nat → LB) : Nat → Nat → LB
  | _, 0 => []
  | a, n + 1 => f a ++ seqS f (a + 1) n
theorem seqS_len {f : Nat → LB} (h : ∀ j, (f j).length ≤ 528) : ∀ (n a : Nat), (seqS f a n).length ≤ 528 * n
  | 0, _ => Nat.le_refl _
  | n + 1, a => by
    have := h a; have := seqS_len h n (a + 1)
    rw [seqS, List.length_append]; omega
theorem seqS_at {f : Nat → LB} {j K : Nat} (h : j < K) : seqS f j (K - j) = f j ++ seqS f (j + 1) (K - (j + 1)) := by
  have e : K - j = (K - (j + 1)) + 1 := by omega
  rw [e, seqS]
def cnS (z5 zr : LB) (pd : Int) (kd : Nat) : LB := cond (Nat.beq kd 0) [u8 0, u8 1, u8 1, u8 0, u8 0, u8 0, u8 0, u8 0] (cond (Nat.beq kd 1) [] (cond (Nat.beq kd 2) z5 (cond (Nat.beq kd 3) zr [])))
def pdS (pd : Int) (kd : Nat) : Int := cond (Nat.beq kd 3) pd 0
def rcS (z5 zr : LB) (pd : Int) (kd id : Nat) : LB := rbF (recT kd : Int) (id : Int) (cnS z5 zr pd kd) (pdS pd kd)
def rcJ (z5 zr : LB) (pd : Int) (m k j : Nat) : LB := rcS z5 zr pd (kdJ m k j) (idJ k j)
theorem kdF_le (m i : Nat) : kdF m i ≤ 4 := by
  unfold kdF
  cases Nat.beq i 0 <;> cases Nat.beq i 1 <;> cases Nat.beq i (Nat.add m 2) <;> cases Nat.beq i (Nat.add m 1) <;> decide
theorem kd5 {kd : Nat} (h : kd ≤ 4) : kd = 0 ∨ kd = 1 ∨ kd = 2 ∨ kd = 3 ∨ kd = 4 := by omega
theorem cnS_len (z5 zr : LB) (pd : Int) (h5 : z5.length = 512) (hr : zr.length ≤ 512) (kd : Nat) (hk : kd ≤ 4) : (cnS z5 zr pd kd).length ≤ 512 := by
  rcases kd5 hk with rfl | rfl | rfl | rfl | rfl
  · show (8 : Nat) ≤ 512; omega
  · show (0 : Nat) ≤ 512; omega
  · show z5.length ≤ 512; omega
  · show zr.length ≤ 512; omega
  · show (0 : Nat) ≤ 512; omega
theorem pdS_bd {pd : Int} (p0 : 0 ≤ pd) (p7 : pd ≤ 7) (kd : Nat) (hk : kd ≤ 4) : 0 ≤ pdS pd kd ∧ pdS pd kd ≤ 7 := by
  rcases kd5 hk with rfl | rfl | rfl | rfl | rfl
  · exact ⟨show (0 : Int) ≤ 0 by omega, show (0 : Int) ≤ 7 by omega⟩
  · exact ⟨show (0 : Int) ≤ 0 by omega, show (0 : Int) ≤ 7 by omega⟩
  · exact ⟨show (0 : Int) ≤ 0 by omega, show (0 : Int) ≤ 7 by omega⟩
  · exact ⟨p0, p7⟩
  · exact ⟨show (0 : Int) ≤ 0 by omega, show (0 : Int) ≤ 7 by omega⟩
theorem recT_bd (kd : Nat) : 1 ≤ recT kd ∧ recT kd ≤ 11 := by
  unfold recT
  cases Nat.beq kd 0 <;> cases Nat.beq kd 1 <;> decide
theorem rcS_len (z5 zr : LB) (pd : Int) (h5 : z5.length = 512) (hr : zr.length ≤ 512) (p0 : 0 ≤ pd) (p7 : pd ≤ 7) (kd id : Nat) (hk : kd ≤ 4) : 8 ≤ (rcS z5 zr pd kd id).length ∧ (rcS z5 zr pd kd id).length ≤ 528 := by
  have h1 := cnS_len z5 zr pd h5 hr kd hk; have h2 := pdS_bd p0 p7 kd hk
  have h3 := rbF_len (ty := (recT kd : Int)) (id := (id : Int)) (c := cnS z5 zr pd kd) h2.1
  show 8 ≤ (rbF _ _ _ _).length ∧ (rbF _ _ _ _).length ≤ 528
  omega
def nuD (T : LB) (n : Int) (z5 zr : LB) (pd : Int) (c : LB) : List Value := [St' T, .int .i64 n, St' [], St' z5, St' zr, .int .i64 pd, .bool true, St' c, .int .i64 (c.length : Int), St' (T ++ c), St' [], .int .i64 (n - (c.length : Int))]
noncomputable def DD (T : LB) (n : Int) (z5 zr : LB) (pd : Int) (c : LB) : Cx := cx (nuL (nuD T n z5 zr pd c)) (fun j _ => nuL_one (l := nuD T n z5 zr pd c) rfl j) 1 laidE laidE_stab
theorem recIs {T : LB} {n : Int} {z5 zr : LB} {pd : Int} {c : LB} (kd id : Nat) (hk : kd ≤ 4) : Is (DD T n z5 zr pd c) (recAV kd id) (.agg #[.int .i64 (recT kd : Int), .int .i64 (id : Int), St' (cnS z5 zr pd kd), .int .i64 (pdS pd kd)]) := by
  rcases kd5 hk with rfl | rfl | rfl | rfl | rfl
  · exact isAg4 (isI .i64 (.ofNat 1)) (isI .i64 (.ofNat id)) (isSx (l := [u8 0, u8 1, u8 1, u8 0, u8 0, u8 0, u8 0, u8 0]) 8 65792 rfl) (isI .i64 (.ofNat 0))
  · exact isAg4 (isI .i64 (.ofNat 4)) (isI .i64 (.ofNat id)) (isSx (l := []) 0 0 rfl) (isI .i64 (.ofNat 0))
  · exact isAg4 (isI .i64 (.ofNat 5)) (isI .i64 (.ofNat id)) (isX rfl) (isI .i64 (.ofNat 0))
  · exact isAg4 (isI .i64 (.ofNat 5)) (isI .i64 (.ofNat id)) (isX rfl) (isX rfl)
  · exact isAg4 (isI .i64 (.ofNat 5)) (isI .i64 (.ofNat id)) (isSx (l := []) 0 0 rfl) (isI .i64 (.ofNat 0))
theorem rb_bt0 {ty id pd : Int} {c : LB} : bt (rbF ty id c pd) 0 = 1 := bt_at rfl (by omega) (by omega)
theorem hyD_ok {T : LB} {n : Int} {z5 zr : LB} {pd : Int} (h5 : z5.length = 512) (hr : zr.length ≤ 512) (p0 : 0 ≤ pd) (p7 : pd ≤ 7) (kd id : Nat) (hk : kd ≤ 4) (i1 : 1 ≤ id) (i2 : id ≤ 255) (hn : 900000 ≤ n) (hn2 : n ≤ 1000000) (hT : T.length ≤ 100000) : ∀ k r, (k, r) ∈ hyD kd id → HOk (DD T n z5 zr pd (rcS z5 zr pd kd id)) k r := by
  have hl := rcS_len z5 zr pd h5 hr p0 p7 kd id hk
  have hcl := cnS_len z5 zr pd h5 hr kd hk
  have hp := pdS_bd p0 p7 kd hk
  have ht := recT_bd kd
  generalize hcc : rcS z5 zr pd kd id = c at *
  unfold hyD
  refine hc (kGt (isX rfl) (isZ (m := 0) rfl) (decide_eq_true (by omega))) <| hc (kNeS (isX rfl) (isSx (l := []) 0 0 rfl) (bnF (decide_eq_true rfl))) <| hc (kEqS (isX rfl) (isSx (l := []) 0 0 rfl) (decide_eq_true rfl)) <|
    hc (hokRb (recIs kd id hk) (denX (by rw [← hcc]; rfl)) (by omega) (by omega) (by omega) (by omega) (by omega) (by omega) (by omega)) <|
    hc (kLenE (isX rfl) (denX rfl) rfl) <| hc (kMin (isX rfl) (isX rfl) (denX rfl) (by omega)) <|
    hc (kCut (isX rfl) (.inl ⟨rfl, rfl⟩) (.inr ⟨_, _, rfl, isX rfl⟩) (p := []) (m := c) (q := []) (by simp) rfl (by simp) (denX rfl)) <|
    hc (kCat (isX rfl) (isX rfl) (denX rfl) rfl (by omega)) <| hc (kFit (isX rfl) (by rw [List.length_append]; omega)) <| hc (kFit (isX rfl) (by omega)) <|
    hc (kByt (i := 0) (isX rfl) (isZ (m := 0) rfl) (denZ (m := 1) rfl) rfl (by omega) (by rw [← hcc]; exact rb_bt0)) <|
    hc (kCut (isX rfl) (.inr ⟨_, _, rfl, isX rfl⟩) (.inl ⟨rfl, rfl⟩) (p := c) (m := []) (q := []) (by simp) rfl (by simp) (denX rfl)) <|
    hc (kSub (isX rfl) (isX rfl) (denX rfl) rfl (fI64 (by omega) (by omega))) hnil
theorem hyDX_ok {T : LB} {n : Int} {z5 zr : LB} {pd : Int} {c : LB} (hn : 900000 ≤ n) : ∀ k r, (k, r) ∈ hyDX → HOk (DD T n z5 zr pd c) k r := by
  unfold hyDX
  exact hc (kGt (isX rfl) (isZ (m := 0) rfl) (decide_eq_true (by omega))) <| hc (kNeS (isX rfl) (isSx (l := []) 0 0 rfl) (bnF (decide_eq_true rfl))) hnil
def nuW (s c : LB) (pd : Int) (W : LB) : List Value := [St' s, .int .i64 (s.length : Int), .int .u8 ((c.length : Int) / 256), .int .i64 ((c.length : Int) / 256), .int .i64 (((c.length : Int) / 256) * 256), .int .u8 ((c.length : Int) % 256), .int .i64 ((c.length : Int) % 256), .int .i64 (c.length : Int), .int .u8 pd, .int .i64 pd, .int .i64 (8 + (c.length : Int)), .int .i64 (8 + (c.length : Int) + pd), St' c, St' W]
noncomputable def DW (s c : LB) (pd : Int) (W : LB) : Cx := cx (nuL (nuW s c pd W)) (fun j _ => nuL_one (l := nuW s c pd W) rfl j) 1 laidE laidE_stab
theorem hyL_ok (ty id : Nat) {c W : LB} {pd : Int} (t1 : 1 ≤ ty) (t2 : ty ≤ 11) (i1 : 1 ≤ id) (i2 : id ≤ 255) (hcl : c.length ≤ 512) (p0 : 0 ≤ pd) (p7 : pd ≤ 7) (hW : W.length ≤ 100000) : ∀ k r, (k, r) ∈ hyL ty id → HOk (DW (rbF (ty : Int) (id : Int) c pd ++ W) c pd W) k r := by
  have hl := rbF_len (ty := (ty : Int)) (id := (id : Int)) (c := c) p0
  have hs : ((rbF (ty : Int) (id : Int) c pd ++ W).length : Int) = 8 + (c.length : Int) + pd + (W.length : Int) := by rw [List.length_append]; omega
  unfold hyL
  exact hc (kLenE (isX rfl) (denX rfl) rfl) <| hc (kGt (isX rfl) (isZ (m := 0) rfl) (decide_eq_true (by omega))) <| hc (kIdxE (i := 0) (isX rfl) (isZ (m := 0) rfl) (denZ (m := 1) rfl) rfl (by omega) (bt_at rfl (by omega) (by omega))) <| hc (kLt (isX rfl) (isZ (m := 8) rfl) (decide_eq_false (by omega))) <|
    hc (kIdxE (i := 4) (isX rfl) (isZ (m := 4) rfl) (denX rfl) rfl (by omega) (bt_at rfl (by omega) (by omega))) <| hc (kConvF (isX rfl) tv3 (denX rfl) (fI64 (by omega) (by omega))) <| hc (kMul (isX rfl) (isZ (m := 256) rfl) (denX rfl) rfl (fI64 (by omega) (by omega))) <|
    hc (kIdxE (i := 5) (isX rfl) (isZ (m := 5) rfl) (denX rfl) rfl (by omega) (bt_at rfl (by omega) (by omega))) <| hc (kConvF (isX rfl) tv3 (denX rfl) (fI64 (by omega) (by omega))) <| hc (kAdd (isX rfl) (isX rfl) (denX rfl) (by omega) (fI64 (by omega) (by omega))) <|
    hc (kIdxE (i := 6) (isX rfl) (isZ (m := 6) rfl) (denX rfl) rfl (by omega) (bt_at rfl (by omega) (by omega))) <| hc (kConvF (isX rfl) tv3 (denX rfl) (fI64 (by omega) (by omega))) <| hc (kAdd (isZ (m := 8) rfl) (isX rfl) (denX rfl) rfl (fI64 (by omega) (by omega))) <| hc (kAdd (isX rfl) (isX rfl) (denX rfl) rfl (fI64 (by omega) (by omega))) <|
    hc (kLt (isX rfl) (isX rfl) (decide_eq_false (by omega))) <| hc (kIdxE (i := 1) (isX rfl) (isZ (m := 1) rfl) (denZ (m := (ty : Int)) rfl) rfl (by omega) (bt_at rfl (by omega) (by omega))) <| hc (kIdxE (i := 2) (isX rfl) (isZ (m := 2) rfl) (denZ (m := 0) rfl) rfl (by omega) (bt_at rfl (by omega) (by omega))) <| hc (kIdxE (i := 3) (isX rfl) (isZ (m := 3) rfl) (denZ (m := (id : Int)) rfl) rfl (by omega) (bt_at rfl (by omega) (by omega))) <|
    hc (kCut (isX rfl) (.inr ⟨_, _, rfl, isZ (m := 8) rfl⟩) (.inr ⟨_, _, rfl, isX rfl⟩) (p := [u8 1, u8 (ty : Int), u8 0, u8 (id : Int), u8 ((c.length : Int) / 256), u8 ((c.length : Int) % 256), u8 pd, u8 0]) (m := c) (q := List.replicate (Int.toNat pd) 0 ++ W) (by simp [rbF]) (by simp) (by simp) (denX rfl)) <|
    hc (kCut (isX rfl) (.inr ⟨_, _, rfl, isX rfl⟩) (.inl ⟨rfl, rfl⟩) (p := rbF (ty : Int) (id : Int) c pd) (m := W) (q := []) (by simp) (by omega) (by simp) (denX rfl)) hnil
theorem hyLX_ok {c W : LB} {pd : Int} : ∀ k r, (k, r) ∈ hyLX → HOk (DW [] c pd W) k r := by
  unfold hyLX
  exact hc (kLenE (isX rfl) (denX rfl) rfl) <| hc (kGt (isX rfl) (isZ (m := 0) rfl) (decide_eq_false (by decide))) hnil
theorem idJ_bd {k j : Nat} (h1 : 1 ≤ k) (h7 : k ≤ 7) : 1 ≤ idJ k j ∧ idJ k j ≤ 255 := by
  have : j % k < k := Nat.mod_lt _ h1
  show 1 ≤ (j % k) + 1 ∧ (j % k) + 1 ≤ 255
  omega
theorem out_bd (z5 zr : LB) (pd : Int) (h5 : z5.length = 512) (hr : zr.length ≤ 512) (p0 : 0 ≤ pd) (p7 : pd ≤ 7) (m k K : Nat) (K0 : 1 ≤ K) (K9 : K ≤ 49) : 8 ≤ (seqS (rcJ z5 zr pd m k) 0 K).length ∧ (seqS (rcJ z5 zr pd m k) 0 K).length ≤ 25872 := by
  have h := fun j => rcS_len z5 zr pd h5 hr p0 p7 (kdJ m k j) (idJ k j) (kdF_le _ _)
  have h1 := seqS_len (f := rcJ z5 zr pd m k) (fun j => (h j).2) K 0
  have h2 := seqS_at (f := rcJ z5 zr pd m k) (j := 0) (K := K) (by omega)
  have h3 := (h 0).1
  rw [Nat.sub_zero] at h2
  have h4 := congrArg List.length h2
  rw [List.length_append] at h4
  have h5 : (rcJ z5 zr pd m k 0).length = (rcS z5 zr pd (kdJ m k 0) (idJ k 0)).length := rfl
  omega
def InvD (z5 zr : LB) (pd : Int) (m k K : Nat) (st : Nat × LB × Int) : Prop := st.1 ≤ K ∧ st.2.1 ++ seqS (rcJ z5 zr pd m k) st.1 (K - st.1) = seqS (rcJ z5 zr pd m k) 0 K ∧ st.2.2 = 1000000 - (st.2.1.length : Int) ∧ (st.1 = 0 → st.2.1 = [])
noncomputable def DS (z5 zr : LB) (pd : Int) (m k : Nat) (st : Nat × LB × Int) (X : Nat → Value) : Cx := DD st.2.1 st.2.2 z5 zr pd (rcJ z5 zr pd m k st.1)
noncomputable def ED (O : LB) (z5 zr : LB) (pd : Int) : Cx := cx (nuL [St' O, .bool true, St' [], St' z5, St' zr, .int .i64 pd]) (fun j _ => nuL_one (l := [St' O, .bool true, St' [], St' z5, St' zr, .int .i64 pd]) rfl j) 1 laidE laidE_stab
theorem rdD (z5 zr : LB) (pd : Int) (h5 : z5.length = 512) (hr : zr.length ≤ 512) (p0 : 0 ≤ pd) (p7 : pd ≤ 7) (k m K : Nat) (k1 : 1 ≤ k) (k7 : k ≤ 7) (K0 : 1 ≤ K) (K9 : K ≤ 49) (hs : List LE) (R : ∀ j, j < K → rnD k m hs j = true) (Xx : rxD hs K = true) (st : Nat × LB × Int) (X : Nat → Value) (hI : InvD z5 zr pd m k K st) :
    RoundH (ED (seqS (rcJ z5 zr pd m k) 0 K) z5 zr pd) bodyD [] 47 (.exit 0) 4 300 320 500 (fun _ => epD) (fun st => hs.getD st.1 []) epDX (hs.getD K []) (InvD z5 zr pd m k K) (fun st => K - st.1) (DS z5 zr pd m k) st X := by
  obtain ⟨j, T, n⟩ := st
  obtain ⟨i0, i1, i2, i3⟩ := hI
  simp only [] at i0 i1 i2 i3
  have hb := out_bd z5 zr pd h5 hr p0 p7 m k K K0 K9
  have hT := congrArg List.length i1
  rw [List.length_append] at hT
  have hid := idJ_bd (j := j) k1 k7
  by_cases hj : j < K
  · have hrc : rcJ z5 zr pd m k j = rcS z5 zr pd (kdJ m k j) (idJ k j) := rfl
    have hl := rcS_len z5 zr pd h5 hr p0 p7 (kdJ m k j) (idJ k j) (kdF_le _ _)
    have hq := seqS_at (f := rcJ z5 zr pd m k) hj
    refine RoundH.next (tb := tbl (hyD (kdJ m k j) (idJ k j))) (L := []) (f := 3000) (th := thD j) (sg := [(301, 329)]) (j + 1, T ++ rcJ z5 zr pd m k j, n - ((rcJ z5 zr pd m k j).length : Int)) ((tabkOk _ _).hyps (hyD_ok h5 hr p0 p7 (kdJ m k j) (idJ k j) (kdF_le _ _) hid.1 hid.2 (show 900000 ≤ n by omega) (show n ≤ 1000000 by omega) (show T.length ≤ 100000 by omega))) (LpOk.nil _) rfl ⟨by show j + 1 ≤ K; omega, ?_, ?_, fun h => by simp at h⟩ (by show K - (j + 1) < K - j; omega) ?_ (R j hj)
    · show (T ++ rcJ z5 zr pd m k j) ++ seqS (rcJ z5 zr pd m k) (j + 1) (K - (j + 1)) = _
      rw [← i1, hq, List.append_assoc]
    · show n - ((rcJ z5 zr pd m k j).length : Int) = 1000000 - ((T ++ rcJ z5 zr pd m k j).length : Int)
      rw [List.length_append]; omega
    · refine thCons (show Is _ _ (St' (T ++ rcJ z5 zr pd m k j)) from ?_) <| thXv (v := .int .i64 (n - ((rcJ z5 zr pd m k j).length : Int))) rfl rfl <| thXv (v := St' []) rfl rfl <| thXv (v := St' z5) rfl rfl <| thXv (v := St' zr) rfl rfl <| thXv (v := .int .i64 pd) rfl rfl thNil
      cases hb0 : Nat.beq j 0 with
      | true =>
        have e : T = [] := i3 (Nat.eq_of_beq_eq_true hb0)
        subst e
        exact isX rfl
      | false => exact isX rfl
  · have e : j = K := by omega
    subst e
    have eT : T = seqS (rcJ z5 zr pd m k) 0 j := by rw [← i1, Nat.sub_self]; exact (List.append_nil _).symm
    exact RoundH.leave (tb := tbl hyDX) (L := []) (f := 3000) (th := thDX) (sg := []) ((tabkOk _ _).hyps (hyDX_ok (show 900000 ≤ n by omega))) (LpOk.nil _) rfl rfl (thXe (v := St' T) (u := St' (seqS (rcJ z5 zr pd m k) 0 j)) rfl rfl (congrArg (fun l => St' l) eT) <| thXv (v := St' []) rfl rfl <| thXv (v := St' z5) rfl rfl <| thXv (v := St' zr) rfl rfl <| thXv (v := .int .i64 pd) rfl rfl thNil) Xx
theorem lfOkD {nu : Nat → Value} {one : ∀ i, i < 1000000 → (nu i).oneCell' = true} {l : LF} {h : LH} (z5 zr : LB) (pd : Int) (h5 : z5.length = 512) (hr : zr.length ≤ 512) (p0 : 0 ≤ pd) (p7 : pd ≤ 7) (k m K : Nat) (k1 : 1 ≤ k) (k7 : k ≤ 7) (K0 : 1 ≤ K) (K9 : K ≤ 49) (hs : List LE) (R : ∀ j, j < K → rnD k m hs j = true) (Xx : rxD hs K = true) (hl : l.hp = some h) (hsm : lfSame l h 47 [] (.exit 0) 4 300 500 = true) {th0 : LA} {sg0 : List (Nat × Nat)}
    (hth0 : ∀ X, ThOk (cx nu one 1 laidE laidE_stab) (DS z5 zr pd m k (0, [], 1000000) X) th0) (h0 : startOk l h 47 300 320 th0 sg0 epD (hs.getD 0 []) = true) {thx : LA} (hthx : ThOk (ED (seqS (rcJ z5 zr pd m k) 0 K) z5 zr pd) (cx nu one 1 laidE laidE_stab) thx) (hx : exitOk l h 47 300 500 thx epDX (hs.getD K []) = true) : LfOk (cx nu one 1 laidE laidE_stab) bodyD l :=
  lfOkX (E := ED (seqS (rcJ z5 zr pd m k) 0 K) z5 zr pd) (ep := fun _ => epD) (hp := fun st => hs.getD st.1 []) (epx := epDX) (hpx := hs.getD K []) (keep := []) (nh := 320) (InvD z5 zr pd m k K) (fun st => K - st.1) (DS z5 zr pd m k) (fun _ _ => rfl) (fun _ _ => rfl) (fun _ _ => rfl) (fun _ _ t ht => by cases ht) rfl rfl rfl hl hsm (fun _ => rfl) rfl rfl (0, ([] : LB), (1000000 : Int)) ⟨Nat.zero_le _, by rw [Nat.sub_zero]; rfl, rfl, fun _ => rfl⟩ hth0 h0 hthx hx (rdD z5 zr pd h5 hr p0 p7 k m K k1 k7 K0 K9 hs R Xx)
def InvW (z5 zr : LB) (pd : Int) (m k K : Nat) (st : Nat × LB) : Prop := st.1 ≤ K ∧ st.2 = seqS (rcJ z5 zr pd m k) st.1 (K - st.1)
noncomputable def DSW (z5 zr : LB) (pd : Int) (m k K : Nat) (st : Nat × LB) (X : Nat → Value) : Cx := DW st.2 (cnS z5 zr pd (kdJ m k st.1)) (pdS pd (kdJ m k st.1)) (seqS (rcJ z5 zr pd m k) (st.1 + 1) (K - (st.1 + 1)))
noncomputable def EL : Cx := cx (nuL []) (fun j _ => nuL_one (l := []) rfl j) 1 laidE laidE_stab
theorem rdW (z5 zr : LB) (pd : Int) (h5 : z5.length = 512) (hr : zr.length ≤ 512) (p0 : 0 ≤ pd) (p7 : pd ≤ 7) (k m K : Nat) (k1 : 1 ≤ k) (k7 : k ≤ 7) (K9 : K ≤ 49) (hs : List LE) (R : ∀ j, j < K → rnL k m hs j = true) (Xx : rxL k hs K = true) (st : Nat × LB) (X : Nat → Value) (hI : InvW z5 zr pd m k K st) :
    RoundH EL bodyL [] 91 (.exit 2) 4 520 521 580 (fun _ => epL k) (fun st => hs.getD st.1 []) epLX [] (InvW z5 zr pd m k K) (fun st => K - st.1) (DSW z5 zr pd m k K) st X := by
  obtain ⟨j, s⟩ := st
  obtain ⟨i0, i1⟩ := hI
  simp only [] at i0 i1
  have hid := idJ_bd (j := j) k1 k7
  by_cases hj : j < K
  · have hq := seqS_at (f := rcJ z5 zr pd m k) hj
    rw [hq] at i1
    have i1 : s = rbF (recT (kdJ m k j) : Int) (idJ k j : Int) (cnS z5 zr pd (kdJ m k j)) (pdS pd (kdJ m k j)) ++ seqS (rcJ z5 zr pd m k) (j + 1) (K - (j + 1)) := i1
    subst i1
    have hk := kdF_le m (Nat.div j k)
    have hw := seqS_len (f := rcJ z5 zr pd m k) (fun i => (rcS_len z5 zr pd h5 hr p0 p7 (kdJ m k i) (idJ k i) (kdF_le _ _)).2) (K - (j + 1)) (j + 1)
    have hp := pdS_bd p0 p7 (kdJ m k j) hk
    have ht := recT_bd (kdJ m k j)
    exact RoundH.next (tb := tbl (hyL (recT (kdJ m k j)) (idJ k j))) (L := []) (f := 3000) (th := [(0, .x 13)]) (sg := []) (j + 1, seqS (rcJ z5 zr pd m k) (j + 1) (K - (j + 1))) ((tabkOk _ _).hyps (hyL_ok (recT (kdJ m k j)) (idJ k j) ht.1 ht.2 hid.1 hid.2 (cnS_len z5 zr pd h5 hr _ hk) hp.1 hp.2 (by omega))) (LpOk.nil _) rfl ⟨by show j + 1 ≤ K; omega, rfl⟩ (by show K - (j + 1) < K - j; omega) (thXv (v := St' (seqS (rcJ z5 zr pd m k) (j + 1) (K - (j + 1)))) rfl rfl thNil) (R j hj)
  · have e : j = K := by omega
    subst e
    rw [Nat.sub_self] at i1
    have i1 : s = [] := i1
    subst i1
    exact RoundH.leave (tb := tbl hyLX) (L := []) (f := 3000) (th := []) (sg := []) ((tabkOk _ _).hyps hyLX_ok) (LpOk.nil _) rfl rfl thNil Xx
theorem lfOkW {nu : Nat → Value} {one : ∀ i, i < 1000000 → (nu i).oneCell' = true} {l : LF} {h : LH} (z5 zr : LB) (pd : Int) (h5 : z5.length = 512) (hr : zr.length ≤ 512) (p0 : 0 ≤ pd) (p7 : pd ≤ 7) (k m K : Nat) (k1 : 1 ≤ k) (k7 : k ≤ 7) (K9 : K ≤ 49) (hs : List LE) (R : ∀ j, j < K → rnL k m hs j = true) (Xx : rxL k hs K = true) (hl : l.hp = some h) (hsm : lfSame l h 91 [] (.exit 2) 4 520 580 = true) {th0 : LA} {sg0 : List (Nat × Nat)}
    (hth0 : ∀ X, ThOk (cx nu one 1 laidE laidE_stab) (DSW z5 zr pd m k K (0, seqS (rcJ z5 zr pd m k) 0 K) X) th0) (h0 : startOk l h 91 520 521 th0 sg0 (epL k) (hs.getD 0 []) = true) (hx : exitOk l h 91 520 580 [] epLX [] = true) : LfOk (cx nu one 1 laidE laidE_stab) bodyL l :=
  lfOkX (E := EL) (ep := fun _ => epL k) (hp := fun st => hs.getD st.1 []) (epx := epLX) (hpx := []) (keep := []) (nh := 521) (InvW z5 zr pd m k K) (fun st => K - st.1) (DSW z5 zr pd m k K) (fun _ _ => rfl) (fun _ _ => rfl) (fun _ _ => rfl) (fun _ _ t ht => by cases ht) rfl rfl rfl hl hsm (fun _ => rfl) rfl rfl (0, seqS (rcJ z5 zr pd m k) 0 K) ⟨Nat.zero_le _, rfl⟩ hth0 h0 (thx := []) thNil hx (rdW z5 zr pd h5 hr p0 p7 k m K k1 k7 K9 hs R Xx)
end Go.Proofs.YtkhcgoeccmkmdaaGreatDoor.muxFair
