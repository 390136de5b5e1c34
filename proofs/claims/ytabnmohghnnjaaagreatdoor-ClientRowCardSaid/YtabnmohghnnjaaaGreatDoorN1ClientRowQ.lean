/- A part of the proof: an interpreter of the model's own code on partly known states, and that what it answers is what the program answers. No condition of its own. -/
import Derived.Test.YtabnmohghnnjaaaGreatDoorN1ClientRowR0
import Derived.Test.YtabnmohghnnjaaaGreatDoorN1ClientRowR1
import Derived.Test.YtabnmohghnnjaaaGreatDoorN1ClientRowR2
import Derived.Test.YtabnmohghnnjaaaGreatDoorN1ClientRowR3
import Derived.Test.YtabnmohghnnjaaaGreatDoorN1ClientRowR4
import Derived.Test.YtabnmohghnnjaaaGreatDoorN1ClientRowR5
import Derived.Test.YtabnmohghnnjaaaGreatDoorN1ClientRowR6
import Derived.Test.YtabnmohghnnjaaaGreatDoorN1ClientRowR7
import Derived.Test.YtabnmohghnnjaaaGreatDoorN1ClientRowR8
import Derived.Test.YtabnmohghnnjaaaGreatDoorN1ClientRowR9
import Derived.Test.YtabnmohghnnjaaaGreatDoorN1ClientRowR10
import Derived.Test.YtabnmohghnnjaaaGreatDoorN1ClientRowR11
import Derived.Test.YtabnmohghnnjaaaGreatDoorN1ClientRowR12
import Derived.Test.YtabnmohghnnjaaaGreatDoorN1ClientRowR13
set_option maxRecDepth 100000
set_option linter.unusedVariables false
set_option linter.unusedSimpArgs false
set_option maxHeartbeats 4000000
namespace Go.Proofs.YtabnmohghnnjaaaGreatDoor.clientRow
open Go Go.AX Go.Proofs Go.Proofs.YtabnmohghnnjaaaGreatDoor
theorem iA0 (q : Nat) (h : q < 28) : rnI (HS 60 0) 0 q = true := by
  by_cases h0 : q < 14
  · exact allN_at i0_0 q (by omega) (by omega)
  by_cases h1 : q < 16
  · exact allN_at i0_1 q (by omega) (by omega)
  by_cases h2 : q < 17
  · exact allN_at i0_2 q (by omega) (by omega)
  by_cases h3 : q < 25
  · exact allN_at i0_3 q (by omega) (by omega)
  by_cases h4 : q < 26
  · exact allN_at i0_4 q (by omega) (by omega)
  by_cases h5 : q < 27
  · exact allN_at i0_5 q (by omega) (by omega)
  exact allN_at i0_6 q (by omega) (by omega)
theorem otA0 (q J : Nat) (h : q < 28) (h1 : q < J) (h2 : J ≤ 28) : rnO true 0 q J = true := by
  match q, h with
  | 0, _ => exact allN_at ot0_0 J (by omega) (by omega)
  | 1, _ => exact allN_at ot0_1 J (by omega) (by omega)
  | 2, _ => exact allN_at ot0_2 J (by omega) (by omega)
  | 3, _ => exact allN_at ot0_3 J (by omega) (by omega)
  | 4, _ => exact allN_at ot0_4 J (by omega) (by omega)
  | 5, _ => exact allN_at ot0_5 J (by omega) (by omega)
  | 6, _ => exact allN_at ot0_6 J (by omega) (by omega)
  | 7, _ => exact allN_at ot0_7 J (by omega) (by omega)
  | 8, _ => exact allN_at ot0_8 J (by omega) (by omega)
  | 9, _ => exact allN_at ot0_9 J (by omega) (by omega)
  | 10, _ => exact allN_at ot0_10 J (by omega) (by omega)
  | 11, _ => exact allN_at ot0_11 J (by omega) (by omega)
  | 12, _ => exact allN_at ot0_12 J (by omega) (by omega)
  | 13, _ => exact allN_at ot0_13 J (by omega) (by omega)
  | 14, _ => exact allN_at ot0_14 J (by omega) (by omega)
  | 15, _ => exact allN_at ot0_15 J (by omega) (by omega)
  | 16, _ => exact allN_at ot0_16 J (by omega) (by omega)
  | 17, _ => exact allN_at ot0_17 J (by omega) (by omega)
  | 18, _ => exact allN_at ot0_18 J (by omega) (by omega)
  | 19, _ => exact allN_at ot0_19 J (by omega) (by omega)
  | 20, _ => exact allN_at ot0_20 J (by omega) (by omega)
  | 21, _ => exact allN_at ot0_21 J (by omega) (by omega)
  | 22, _ => exact allN_at ot0_22 J (by omega) (by omega)
  | 23, _ => exact allN_at ot0_23 J (by omega) (by omega)
  | 24, _ => exact allN_at ot0_24 J (by omega) (by omega)
  | 25, _ => exact allN_at ot0_25 J (by omega) (by omega)
  | 26, _ => exact allN_at ot0_26 J (by omega) (by omega)
  | 27, _ => exact allN_at ot0_27 J (by omega) (by omega)
  | n + 28, h => exact absurd h (by omega)
theorem ofA0 (q J : Nat) (h : q < 28) (h1 : q < J) (h2 : J ≤ q + 1) : rnO false 0 q J = true := by
  match q, h with
  | 0, _ => exact allN_at of0_0 J (by omega) (by omega)
  | 1, _ => exact allN_at of0_1 J (by omega) (by omega)
  | 2, _ => exact allN_at of0_2 J (by omega) (by omega)
  | 3, _ => exact allN_at of0_3 J (by omega) (by omega)
  | 4, _ => exact allN_at of0_4 J (by omega) (by omega)
  | 5, _ => exact allN_at of0_5 J (by omega) (by omega)
  | 6, _ => exact allN_at of0_6 J (by omega) (by omega)
  | 7, _ => exact allN_at of0_7 J (by omega) (by omega)
  | 8, _ => exact allN_at of0_8 J (by omega) (by omega)
  | 9, _ => exact allN_at of0_9 J (by omega) (by omega)
  | 10, _ => exact allN_at of0_10 J (by omega) (by omega)
  | 11, _ => exact allN_at of0_11 J (by omega) (by omega)
  | 12, _ => exact allN_at of0_12 J (by omega) (by omega)
  | 13, _ => exact allN_at of0_13 J (by omega) (by omega)
  | 14, _ => exact allN_at of0_14 J (by omega) (by omega)
  | 15, _ => exact allN_at of0_15 J (by omega) (by omega)
  | 16, _ => exact allN_at of0_16 J (by omega) (by omega)
  | 17, _ => exact allN_at of0_17 J (by omega) (by omega)
  | 18, _ => exact allN_at of0_18 J (by omega) (by omega)
  | 19, _ => exact allN_at of0_19 J (by omega) (by omega)
  | 20, _ => exact allN_at of0_20 J (by omega) (by omega)
  | 21, _ => exact allN_at of0_21 J (by omega) (by omega)
  | 22, _ => exact allN_at of0_22 J (by omega) (by omega)
  | 23, _ => exact allN_at of0_23 J (by omega) (by omega)
  | 24, _ => exact allN_at of0_24 J (by omega) (by omega)
  | 25, _ => exact allN_at of0_25 J (by omega) (by omega)
  | 26, _ => exact allN_at of0_26 J (by omega) (by omega)
  | 27, _ => exact allN_at of0_27 J (by omega) (by omega)
  | n + 28, h => exact absurd h (by omega)
theorem kA0 (q J : Nat) (h : q < 28) (h1 : q < J) (h2 : J ≤ 28) : chI (HS 22 0) (HS 60 0) q J = true := by
  match q, h with
  | 0, _ => exact allN_at k0_0 J (by omega) (by omega)
  | 1, _ => exact allN_at k0_1 J (by omega) (by omega)
  | 2, _ => exact allN_at k0_2 J (by omega) (by omega)
  | 3, _ => exact allN_at k0_3 J (by omega) (by omega)
  | 4, _ => exact allN_at k0_4 J (by omega) (by omega)
  | 5, _ => exact allN_at k0_5 J (by omega) (by omega)
  | 6, _ => exact allN_at k0_6 J (by omega) (by omega)
  | 7, _ => exact allN_at k0_7 J (by omega) (by omega)
  | 8, _ => exact allN_at k0_8 J (by omega) (by omega)
  | 9, _ => exact allN_at k0_9 J (by omega) (by omega)
  | 10, _ => exact allN_at k0_10 J (by omega) (by omega)
  | 11, _ => exact allN_at k0_11 J (by omega) (by omega)
  | 12, _ => exact allN_at k0_12 J (by omega) (by omega)
  | 13, _ => exact allN_at k0_13 J (by omega) (by omega)
  | 14, _ => exact allN_at k0_14 J (by omega) (by omega)
  | 15, _ => exact allN_at k0_15 J (by omega) (by omega)
  | 16, _ => exact allN_at k0_16 J (by omega) (by omega)
  | 17, _ => exact allN_at k0_17 J (by omega) (by omega)
  | 18, _ => exact allN_at k0_18 J (by omega) (by omega)
  | 19, _ => exact allN_at k0_19 J (by omega) (by omega)
  | 20, _ => exact allN_at k0_20 J (by omega) (by omega)
  | 21, _ => exact allN_at k0_21 J (by omega) (by omega)
  | 22, _ => exact allN_at k0_22 J (by omega) (by omega)
  | 23, _ => exact allN_at k0_23 J (by omega) (by omega)
  | 24, _ => exact allN_at k0_24 J (by omega) (by omega)
  | 25, _ => exact allN_at k0_25 J (by omega) (by omega)
  | 26, _ => exact allN_at k0_26 J (by omega) (by omega)
  | 27, _ => exact allN_at k0_27 J (by omega) (by omega)
  | n + 28, h => exact absurd h (by omega)
theorem iA1 (q : Nat) (h : q < 28) : rnI (HS 60 1) 1 q = true := by
  by_cases h0 : q < 14
  · exact allN_at i1_0 q (by omega) (by omega)
  by_cases h1 : q < 16
  · exact allN_at i1_1 q (by omega) (by omega)
  by_cases h2 : q < 17
  · exact allN_at i1_2 q (by omega) (by omega)
  by_cases h3 : q < 25
  · exact allN_at i1_3 q (by omega) (by omega)
  by_cases h4 : q < 26
  · exact allN_at i1_4 q (by omega) (by omega)
  by_cases h5 : q < 27
  · exact allN_at i1_5 q (by omega) (by omega)
  exact allN_at i1_6 q (by omega) (by omega)
theorem otA1 (q J : Nat) (h : q < 28) (h1 : q < J) (h2 : J ≤ 28) : rnO true 1 q J = true := by
  match q, h with
  | 0, _ => exact allN_at ot1_0 J (by omega) (by omega)
  | 1, _ => exact allN_at ot1_1 J (by omega) (by omega)
  | 2, _ => exact allN_at ot1_2 J (by omega) (by omega)
  | 3, _ => exact allN_at ot1_3 J (by omega) (by omega)
  | 4, _ => exact allN_at ot1_4 J (by omega) (by omega)
  | 5, _ => exact allN_at ot1_5 J (by omega) (by omega)
  | 6, _ => exact allN_at ot1_6 J (by omega) (by omega)
  | 7, _ => exact allN_at ot1_7 J (by omega) (by omega)
  | 8, _ => exact allN_at ot1_8 J (by omega) (by omega)
  | 9, _ => exact allN_at ot1_9 J (by omega) (by omega)
  | 10, _ => exact allN_at ot1_10 J (by omega) (by omega)
  | 11, _ => exact allN_at ot1_11 J (by omega) (by omega)
  | 12, _ => exact allN_at ot1_12 J (by omega) (by omega)
  | 13, _ => exact allN_at ot1_13 J (by omega) (by omega)
  | 14, _ => exact allN_at ot1_14 J (by omega) (by omega)
  | 15, _ => exact allN_at ot1_15 J (by omega) (by omega)
  | 16, _ => exact allN_at ot1_16 J (by omega) (by omega)
  | 17, _ => exact allN_at ot1_17 J (by omega) (by omega)
  | 18, _ => exact allN_at ot1_18 J (by omega) (by omega)
  | 19, _ => exact allN_at ot1_19 J (by omega) (by omega)
  | 20, _ => exact allN_at ot1_20 J (by omega) (by omega)
  | 21, _ => exact allN_at ot1_21 J (by omega) (by omega)
  | 22, _ => exact allN_at ot1_22 J (by omega) (by omega)
  | 23, _ => exact allN_at ot1_23 J (by omega) (by omega)
  | 24, _ => exact allN_at ot1_24 J (by omega) (by omega)
  | 25, _ => exact allN_at ot1_25 J (by omega) (by omega)
  | 26, _ => exact allN_at ot1_26 J (by omega) (by omega)
  | 27, _ => exact allN_at ot1_27 J (by omega) (by omega)
  | n + 28, h => exact absurd h (by omega)
theorem ofA1 (q J : Nat) (h : q < 28) (h1 : q < J) (h2 : J ≤ q + 1) : rnO false 1 q J = true := by
  match q, h with
  | 0, _ => exact allN_at of1_0 J (by omega) (by omega)
  | 1, _ => exact allN_at of1_1 J (by omega) (by omega)
  | 2, _ => exact allN_at of1_2 J (by omega) (by omega)
  | 3, _ => exact allN_at of1_3 J (by omega) (by omega)
  | 4, _ => exact allN_at of1_4 J (by omega) (by omega)
  | 5, _ => exact allN_at of1_5 J (by omega) (by omega)
  | 6, _ => exact allN_at of1_6 J (by omega) (by omega)
  | 7, _ => exact allN_at of1_7 J (by omega) (by omega)
  | 8, _ => exact allN_at of1_8 J (by omega) (by omega)
  | 9, _ => exact allN_at of1_9 J (by omega) (by omega)
  | 10, _ => exact allN_at of1_10 J (by omega) (by omega)
  | 11, _ => exact allN_at of1_11 J (by omega) (by omega)
  | 12, _ => exact allN_at of1_12 J (by omega) (by omega)
  | 13, _ => exact allN_at of1_13 J (by omega) (by omega)
  | 14, _ => exact allN_at of1_14 J (by omega) (by omega)
  | 15, _ => exact allN_at of1_15 J (by omega) (by omega)
  | 16, _ => exact allN_at of1_16 J (by omega) (by omega)
  | 17, _ => exact allN_at of1_17 J (by omega) (by omega)
  | 18, _ => exact allN_at of1_18 J (by omega) (by omega)
  | 19, _ => exact allN_at of1_19 J (by omega) (by omega)
  | 20, _ => exact allN_at of1_20 J (by omega) (by omega)
  | 21, _ => exact allN_at of1_21 J (by omega) (by omega)
  | 22, _ => exact allN_at of1_22 J (by omega) (by omega)
  | 23, _ => exact allN_at of1_23 J (by omega) (by omega)
  | 24, _ => exact allN_at of1_24 J (by omega) (by omega)
  | 25, _ => exact allN_at of1_25 J (by omega) (by omega)
  | 26, _ => exact allN_at of1_26 J (by omega) (by omega)
  | 27, _ => exact allN_at of1_27 J (by omega) (by omega)
  | n + 28, h => exact absurd h (by omega)
theorem kA1 (q J : Nat) (h : q < 28) (h1 : q < J) (h2 : J ≤ 28) : chI (HS 22 1) (HS 60 1) q J = true := by
  match q, h with
  | 0, _ => exact allN_at k1_0 J (by omega) (by omega)
  | 1, _ => exact allN_at k1_1 J (by omega) (by omega)
  | 2, _ => exact allN_at k1_2 J (by omega) (by omega)
  | 3, _ => exact allN_at k1_3 J (by omega) (by omega)
  | 4, _ => exact allN_at k1_4 J (by omega) (by omega)
  | 5, _ => exact allN_at k1_5 J (by omega) (by omega)
  | 6, _ => exact allN_at k1_6 J (by omega) (by omega)
  | 7, _ => exact allN_at k1_7 J (by omega) (by omega)
  | 8, _ => exact allN_at k1_8 J (by omega) (by omega)
  | 9, _ => exact allN_at k1_9 J (by omega) (by omega)
  | 10, _ => exact allN_at k1_10 J (by omega) (by omega)
  | 11, _ => exact allN_at k1_11 J (by omega) (by omega)
  | 12, _ => exact allN_at k1_12 J (by omega) (by omega)
  | 13, _ => exact allN_at k1_13 J (by omega) (by omega)
  | 14, _ => exact allN_at k1_14 J (by omega) (by omega)
  | 15, _ => exact allN_at k1_15 J (by omega) (by omega)
  | 16, _ => exact allN_at k1_16 J (by omega) (by omega)
  | 17, _ => exact allN_at k1_17 J (by omega) (by omega)
  | 18, _ => exact allN_at k1_18 J (by omega) (by omega)
  | 19, _ => exact allN_at k1_19 J (by omega) (by omega)
  | 20, _ => exact allN_at k1_20 J (by omega) (by omega)
  | 21, _ => exact allN_at k1_21 J (by omega) (by omega)
  | 22, _ => exact allN_at k1_22 J (by omega) (by omega)
  | 23, _ => exact allN_at k1_23 J (by omega) (by omega)
  | 24, _ => exact allN_at k1_24 J (by omega) (by omega)
  | 25, _ => exact allN_at k1_25 J (by omega) (by omega)
  | 26, _ => exact allN_at k1_26 J (by omega) (by omega)
  | 27, _ => exact allN_at k1_27 J (by omega) (by omega)
  | n + 28, h => exact absurd h (by omega)
theorem iA2 (q : Nat) (h : q < 28) : rnI (HS 60 2) 2 q = true := by
  by_cases h0 : q < 14
  · exact allN_at i2_0 q (by omega) (by omega)
  by_cases h1 : q < 16
  · exact allN_at i2_1 q (by omega) (by omega)
  by_cases h2 : q < 17
  · exact allN_at i2_2 q (by omega) (by omega)
  by_cases h3 : q < 25
  · exact allN_at i2_3 q (by omega) (by omega)
  by_cases h4 : q < 26
  · exact allN_at i2_4 q (by omega) (by omega)
  by_cases h5 : q < 27
  · exact allN_at i2_5 q (by omega) (by omega)
  exact allN_at i2_6 q (by omega) (by omega)
theorem otA2 (q J : Nat) (h : q < 28) (h1 : q < J) (h2 : J ≤ 28) : rnO true 2 q J = true := by
  match q, h with
  | 0, _ => exact allN_at ot2_0 J (by omega) (by omega)
  | 1, _ => exact allN_at ot2_1 J (by omega) (by omega)
  | 2, _ => exact allN_at ot2_2 J (by omega) (by omega)
  | 3, _ => exact allN_at ot2_3 J (by omega) (by omega)
  | 4, _ => exact allN_at ot2_4 J (by omega) (by omega)
  | 5, _ => exact allN_at ot2_5 J (by omega) (by omega)
  | 6, _ => exact allN_at ot2_6 J (by omega) (by omega)
  | 7, _ => exact allN_at ot2_7 J (by omega) (by omega)
  | 8, _ => exact allN_at ot2_8 J (by omega) (by omega)
  | 9, _ => exact allN_at ot2_9 J (by omega) (by omega)
  | 10, _ => exact allN_at ot2_10 J (by omega) (by omega)
  | 11, _ => exact allN_at ot2_11 J (by omega) (by omega)
  | 12, _ => exact allN_at ot2_12 J (by omega) (by omega)
  | 13, _ => exact allN_at ot2_13 J (by omega) (by omega)
  | 14, _ => exact allN_at ot2_14 J (by omega) (by omega)
  | 15, _ => exact allN_at ot2_15 J (by omega) (by omega)
  | 16, _ => exact allN_at ot2_16 J (by omega) (by omega)
  | 17, _ => exact allN_at ot2_17 J (by omega) (by omega)
  | 18, _ => exact allN_at ot2_18 J (by omega) (by omega)
  | 19, _ => exact allN_at ot2_19 J (by omega) (by omega)
  | 20, _ => exact allN_at ot2_20 J (by omega) (by omega)
  | 21, _ => exact allN_at ot2_21 J (by omega) (by omega)
  | 22, _ => exact allN_at ot2_22 J (by omega) (by omega)
  | 23, _ => exact allN_at ot2_23 J (by omega) (by omega)
  | 24, _ => exact allN_at ot2_24 J (by omega) (by omega)
  | 25, _ => exact allN_at ot2_25 J (by omega) (by omega)
  | 26, _ => exact allN_at ot2_26 J (by omega) (by omega)
  | 27, _ => exact allN_at ot2_27 J (by omega) (by omega)
  | n + 28, h => exact absurd h (by omega)
theorem ofA2 (q J : Nat) (h : q < 28) (h1 : q < J) (h2 : J ≤ q + 1) : rnO false 2 q J = true := by
  match q, h with
  | 0, _ => exact allN_at of2_0 J (by omega) (by omega)
  | 1, _ => exact allN_at of2_1 J (by omega) (by omega)
  | 2, _ => exact allN_at of2_2 J (by omega) (by omega)
  | 3, _ => exact allN_at of2_3 J (by omega) (by omega)
  | 4, _ => exact allN_at of2_4 J (by omega) (by omega)
  | 5, _ => exact allN_at of2_5 J (by omega) (by omega)
  | 6, _ => exact allN_at of2_6 J (by omega) (by omega)
  | 7, _ => exact allN_at of2_7 J (by omega) (by omega)
  | 8, _ => exact allN_at of2_8 J (by omega) (by omega)
  | 9, _ => exact allN_at of2_9 J (by omega) (by omega)
  | 10, _ => exact allN_at of2_10 J (by omega) (by omega)
  | 11, _ => exact allN_at of2_11 J (by omega) (by omega)
  | 12, _ => exact allN_at of2_12 J (by omega) (by omega)
  | 13, _ => exact allN_at of2_13 J (by omega) (by omega)
  | 14, _ => exact allN_at of2_14 J (by omega) (by omega)
  | 15, _ => exact allN_at of2_15 J (by omega) (by omega)
  | 16, _ => exact allN_at of2_16 J (by omega) (by omega)
  | 17, _ => exact allN_at of2_17 J (by omega) (by omega)
  | 18, _ => exact allN_at of2_18 J (by omega) (by omega)
  | 19, _ => exact allN_at of2_19 J (by omega) (by omega)
  | 20, _ => exact allN_at of2_20 J (by omega) (by omega)
  | 21, _ => exact allN_at of2_21 J (by omega) (by omega)
  | 22, _ => exact allN_at of2_22 J (by omega) (by omega)
  | 23, _ => exact allN_at of2_23 J (by omega) (by omega)
  | 24, _ => exact allN_at of2_24 J (by omega) (by omega)
  | 25, _ => exact allN_at of2_25 J (by omega) (by omega)
  | 26, _ => exact allN_at of2_26 J (by omega) (by omega)
  | 27, _ => exact allN_at of2_27 J (by omega) (by omega)
  | n + 28, h => exact absurd h (by omega)
theorem kA2 (q J : Nat) (h : q < 28) (h1 : q < J) (h2 : J ≤ 28) : chI (HS 22 2) (HS 60 2) q J = true := by
  match q, h with
  | 0, _ => exact allN_at k2_0 J (by omega) (by omega)
  | 1, _ => exact allN_at k2_1 J (by omega) (by omega)
  | 2, _ => exact allN_at k2_2 J (by omega) (by omega)
  | 3, _ => exact allN_at k2_3 J (by omega) (by omega)
  | 4, _ => exact allN_at k2_4 J (by omega) (by omega)
  | 5, _ => exact allN_at k2_5 J (by omega) (by omega)
  | 6, _ => exact allN_at k2_6 J (by omega) (by omega)
  | 7, _ => exact allN_at k2_7 J (by omega) (by omega)
  | 8, _ => exact allN_at k2_8 J (by omega) (by omega)
  | 9, _ => exact allN_at k2_9 J (by omega) (by omega)
  | 10, _ => exact allN_at k2_10 J (by omega) (by omega)
  | 11, _ => exact allN_at k2_11 J (by omega) (by omega)
  | 12, _ => exact allN_at k2_12 J (by omega) (by omega)
  | 13, _ => exact allN_at k2_13 J (by omega) (by omega)
  | 14, _ => exact allN_at k2_14 J (by omega) (by omega)
  | 15, _ => exact allN_at k2_15 J (by omega) (by omega)
  | 16, _ => exact allN_at k2_16 J (by omega) (by omega)
  | 17, _ => exact allN_at k2_17 J (by omega) (by omega)
  | 18, _ => exact allN_at k2_18 J (by omega) (by omega)
  | 19, _ => exact allN_at k2_19 J (by omega) (by omega)
  | 20, _ => exact allN_at k2_20 J (by omega) (by omega)
  | 21, _ => exact allN_at k2_21 J (by omega) (by omega)
  | 22, _ => exact allN_at k2_22 J (by omega) (by omega)
  | 23, _ => exact allN_at k2_23 J (by omega) (by omega)
  | 24, _ => exact allN_at k2_24 J (by omega) (by omega)
  | 25, _ => exact allN_at k2_25 J (by omega) (by omega)
  | 26, _ => exact allN_at k2_26 J (by omega) (by omega)
  | 27, _ => exact allN_at k2_27 J (by omega) (by omega)
  | n + 28, h => exact absurd h (by omega)
theorem iA3 (q : Nat) (h : q < 28) : rnI (HS 60 3) 3 q = true := by
  by_cases h0 : q < 14
  · exact allN_at i3_0 q (by omega) (by omega)
  by_cases h1 : q < 16
  · exact allN_at i3_1 q (by omega) (by omega)
  by_cases h2 : q < 17
  · exact allN_at i3_2 q (by omega) (by omega)
  by_cases h3 : q < 25
  · exact allN_at i3_3 q (by omega) (by omega)
  by_cases h4 : q < 26
  · exact allN_at i3_4 q (by omega) (by omega)
  by_cases h5 : q < 27
  · exact allN_at i3_5 q (by omega) (by omega)
  exact allN_at i3_6 q (by omega) (by omega)
theorem otA3 (q J : Nat) (h : q < 28) (h1 : q < J) (h2 : J ≤ 28) : rnO true 3 q J = true := by
  match q, h with
  | 0, _ => exact allN_at ot3_0 J (by omega) (by omega)
  | 1, _ => exact allN_at ot3_1 J (by omega) (by omega)
  | 2, _ => exact allN_at ot3_2 J (by omega) (by omega)
  | 3, _ => exact allN_at ot3_3 J (by omega) (by omega)
  | 4, _ => exact allN_at ot3_4 J (by omega) (by omega)
  | 5, _ => exact allN_at ot3_5 J (by omega) (by omega)
  | 6, _ => exact allN_at ot3_6 J (by omega) (by omega)
  | 7, _ => exact allN_at ot3_7 J (by omega) (by omega)
  | 8, _ => exact allN_at ot3_8 J (by omega) (by omega)
  | 9, _ => exact allN_at ot3_9 J (by omega) (by omega)
  | 10, _ => exact allN_at ot3_10 J (by omega) (by omega)
  | 11, _ => exact allN_at ot3_11 J (by omega) (by omega)
  | 12, _ => exact allN_at ot3_12 J (by omega) (by omega)
  | 13, _ => exact allN_at ot3_13 J (by omega) (by omega)
  | 14, _ => exact allN_at ot3_14 J (by omega) (by omega)
  | 15, _ => exact allN_at ot3_15 J (by omega) (by omega)
  | 16, _ => exact allN_at ot3_16 J (by omega) (by omega)
  | 17, _ => exact allN_at ot3_17 J (by omega) (by omega)
  | 18, _ => exact allN_at ot3_18 J (by omega) (by omega)
  | 19, _ => exact allN_at ot3_19 J (by omega) (by omega)
  | 20, _ => exact allN_at ot3_20 J (by omega) (by omega)
  | 21, _ => exact allN_at ot3_21 J (by omega) (by omega)
  | 22, _ => exact allN_at ot3_22 J (by omega) (by omega)
  | 23, _ => exact allN_at ot3_23 J (by omega) (by omega)
  | 24, _ => exact allN_at ot3_24 J (by omega) (by omega)
  | 25, _ => exact allN_at ot3_25 J (by omega) (by omega)
  | 26, _ => exact allN_at ot3_26 J (by omega) (by omega)
  | 27, _ => exact allN_at ot3_27 J (by omega) (by omega)
  | n + 28, h => exact absurd h (by omega)
theorem ofA3 (q J : Nat) (h : q < 28) (h1 : q < J) (h2 : J ≤ q + 1) : rnO false 3 q J = true := by
  match q, h with
  | 0, _ => exact allN_at of3_0 J (by omega) (by omega)
  | 1, _ => exact allN_at of3_1 J (by omega) (by omega)
  | 2, _ => exact allN_at of3_2 J (by omega) (by omega)
  | 3, _ => exact allN_at of3_3 J (by omega) (by omega)
  | 4, _ => exact allN_at of3_4 J (by omega) (by omega)
  | 5, _ => exact allN_at of3_5 J (by omega) (by omega)
  | 6, _ => exact allN_at of3_6 J (by omega) (by omega)
  | 7, _ => exact allN_at of3_7 J (by omega) (by omega)
  | 8, _ => exact allN_at of3_8 J (by omega) (by omega)
  | 9, _ => exact allN_at of3_9 J (by omega) (by omega)
  | 10, _ => exact allN_at of3_10 J (by omega) (by omega)
  | 11, _ => exact allN_at of3_11 J (by omega) (by omega)
  | 12, _ => exact allN_at of3_12 J (by omega) (by omega)
  | 13, _ => exact allN_at of3_13 J (by omega) (by omega)
  | 14, _ => exact allN_at of3_14 J (by omega) (by omega)
  | 15, _ => exact allN_at of3_15 J (by omega) (by omega)
  | 16, _ => exact allN_at of3_16 J (by omega) (by omega)
  | 17, _ => exact allN_at of3_17 J (by omega) (by omega)
  | 18, _ => exact allN_at of3_18 J (by omega) (by omega)
  | 19, _ => exact allN_at of3_19 J (by omega) (by omega)
  | 20, _ => exact allN_at of3_20 J (by omega) (by omega)
  | 21, _ => exact allN_at of3_21 J (by omega) (by omega)
  | 22, _ => exact allN_at of3_22 J (by omega) (by omega)
  | 23, _ => exact allN_at of3_23 J (by omega) (by omega)
  | 24, _ => exact allN_at of3_24 J (by omega) (by omega)
  | 25, _ => exact allN_at of3_25 J (by omega) (by omega)
  | 26, _ => exact allN_at of3_26 J (by omega) (by omega)
  | 27, _ => exact allN_at of3_27 J (by omega) (by omega)
  | n + 28, h => exact absurd h (by omega)
theorem kA3 (q J : Nat) (h : q < 28) (h1 : q < J) (h2 : J ≤ 28) : chI (HS 22 3) (HS 60 3) q J = true := by
  match q, h with
  | 0, _ => exact allN_at k3_0 J (by omega) (by omega)
  | 1, _ => exact allN_at k3_1 J (by omega) (by omega)
  | 2, _ => exact allN_at k3_2 J (by omega) (by omega)
  | 3, _ => exact allN_at k3_3 J (by omega) (by omega)
  | 4, _ => exact allN_at k3_4 J (by omega) (by omega)
  | 5, _ => exact allN_at k3_5 J (by omega) (by omega)
  | 6, _ => exact allN_at k3_6 J (by omega) (by omega)
  | 7, _ => exact allN_at k3_7 J (by omega) (by omega)
  | 8, _ => exact allN_at k3_8 J (by omega) (by omega)
  | 9, _ => exact allN_at k3_9 J (by omega) (by omega)
  | 10, _ => exact allN_at k3_10 J (by omega) (by omega)
  | 11, _ => exact allN_at k3_11 J (by omega) (by omega)
  | 12, _ => exact allN_at k3_12 J (by omega) (by omega)
  | 13, _ => exact allN_at k3_13 J (by omega) (by omega)
  | 14, _ => exact allN_at k3_14 J (by omega) (by omega)
  | 15, _ => exact allN_at k3_15 J (by omega) (by omega)
  | 16, _ => exact allN_at k3_16 J (by omega) (by omega)
  | 17, _ => exact allN_at k3_17 J (by omega) (by omega)
  | 18, _ => exact allN_at k3_18 J (by omega) (by omega)
  | 19, _ => exact allN_at k3_19 J (by omega) (by omega)
  | 20, _ => exact allN_at k3_20 J (by omega) (by omega)
  | 21, _ => exact allN_at k3_21 J (by omega) (by omega)
  | 22, _ => exact allN_at k3_22 J (by omega) (by omega)
  | 23, _ => exact allN_at k3_23 J (by omega) (by omega)
  | 24, _ => exact allN_at k3_24 J (by omega) (by omega)
  | 25, _ => exact allN_at k3_25 J (by omega) (by omega)
  | 26, _ => exact allN_at k3_26 J (by omega) (by omega)
  | 27, _ => exact allN_at k3_27 J (by omega) (by omega)
  | n + 28, h => exact absurd h (by omega)
theorem iA4 (q : Nat) (h : q < 28) : rnI (HS 60 4) 4 q = true := by
  by_cases h0 : q < 14
  · exact allN_at i4_0 q (by omega) (by omega)
  by_cases h1 : q < 16
  · exact allN_at i4_1 q (by omega) (by omega)
  by_cases h2 : q < 17
  · exact allN_at i4_2 q (by omega) (by omega)
  by_cases h3 : q < 25
  · exact allN_at i4_3 q (by omega) (by omega)
  by_cases h4 : q < 26
  · exact allN_at i4_4 q (by omega) (by omega)
  by_cases h5 : q < 27
  · exact allN_at i4_5 q (by omega) (by omega)
  exact allN_at i4_6 q (by omega) (by omega)
theorem otA4 (q J : Nat) (h : q < 28) (h1 : q < J) (h2 : J ≤ 28) : rnO true 4 q J = true := by
  match q, h with
  | 0, _ => exact allN_at ot4_0 J (by omega) (by omega)
  | 1, _ => exact allN_at ot4_1 J (by omega) (by omega)
  | 2, _ => exact allN_at ot4_2 J (by omega) (by omega)
  | 3, _ => exact allN_at ot4_3 J (by omega) (by omega)
  | 4, _ => exact allN_at ot4_4 J (by omega) (by omega)
  | 5, _ => exact allN_at ot4_5 J (by omega) (by omega)
  | 6, _ => exact allN_at ot4_6 J (by omega) (by omega)
  | 7, _ => exact allN_at ot4_7 J (by omega) (by omega)
  | 8, _ => exact allN_at ot4_8 J (by omega) (by omega)
  | 9, _ => exact allN_at ot4_9 J (by omega) (by omega)
  | 10, _ => exact allN_at ot4_10 J (by omega) (by omega)
  | 11, _ => exact allN_at ot4_11 J (by omega) (by omega)
  | 12, _ => exact allN_at ot4_12 J (by omega) (by omega)
  | 13, _ => exact allN_at ot4_13 J (by omega) (by omega)
  | 14, _ => exact allN_at ot4_14 J (by omega) (by omega)
  | 15, _ => exact allN_at ot4_15 J (by omega) (by omega)
  | 16, _ => exact allN_at ot4_16 J (by omega) (by omega)
  | 17, _ => exact allN_at ot4_17 J (by omega) (by omega)
  | 18, _ => exact allN_at ot4_18 J (by omega) (by omega)
  | 19, _ => exact allN_at ot4_19 J (by omega) (by omega)
  | 20, _ => exact allN_at ot4_20 J (by omega) (by omega)
  | 21, _ => exact allN_at ot4_21 J (by omega) (by omega)
  | 22, _ => exact allN_at ot4_22 J (by omega) (by omega)
  | 23, _ => exact allN_at ot4_23 J (by omega) (by omega)
  | 24, _ => exact allN_at ot4_24 J (by omega) (by omega)
  | 25, _ => exact allN_at ot4_25 J (by omega) (by omega)
  | 26, _ => exact allN_at ot4_26 J (by omega) (by omega)
  | 27, _ => exact allN_at ot4_27 J (by omega) (by omega)
  | n + 28, h => exact absurd h (by omega)
theorem ofA4 (q J : Nat) (h : q < 28) (h1 : q < J) (h2 : J ≤ q + 1) : rnO false 4 q J = true := by
  match q, h with
  | 0, _ => exact allN_at of4_0 J (by omega) (by omega)
  | 1, _ => exact allN_at of4_1 J (by omega) (by omega)
  | 2, _ => exact allN_at of4_2 J (by omega) (by omega)
  | 3, _ => exact allN_at of4_3 J (by omega) (by omega)
  | 4, _ => exact allN_at of4_4 J (by omega) (by omega)
  | 5, _ => exact allN_at of4_5 J (by omega) (by omega)
  | 6, _ => exact allN_at of4_6 J (by omega) (by omega)
  | 7, _ => exact allN_at of4_7 J (by omega) (by omega)
  | 8, _ => exact allN_at of4_8 J (by omega) (by omega)
  | 9, _ => exact allN_at of4_9 J (by omega) (by omega)
  | 10, _ => exact allN_at of4_10 J (by omega) (by omega)
  | 11, _ => exact allN_at of4_11 J (by omega) (by omega)
  | 12, _ => exact allN_at of4_12 J (by omega) (by omega)
  | 13, _ => exact allN_at of4_13 J (by omega) (by omega)
  | 14, _ => exact allN_at of4_14 J (by omega) (by omega)
  | 15, _ => exact allN_at of4_15 J (by omega) (by omega)
  | 16, _ => exact allN_at of4_16 J (by omega) (by omega)
  | 17, _ => exact allN_at of4_17 J (by omega) (by omega)
  | 18, _ => exact allN_at of4_18 J (by omega) (by omega)
  | 19, _ => exact allN_at of4_19 J (by omega) (by omega)
  | 20, _ => exact allN_at of4_20 J (by omega) (by omega)
  | 21, _ => exact allN_at of4_21 J (by omega) (by omega)
  | 22, _ => exact allN_at of4_22 J (by omega) (by omega)
  | 23, _ => exact allN_at of4_23 J (by omega) (by omega)
  | 24, _ => exact allN_at of4_24 J (by omega) (by omega)
  | 25, _ => exact allN_at of4_25 J (by omega) (by omega)
  | 26, _ => exact allN_at of4_26 J (by omega) (by omega)
  | 27, _ => exact allN_at of4_27 J (by omega) (by omega)
  | n + 28, h => exact absurd h (by omega)
theorem kA4 (q J : Nat) (h : q < 28) (h1 : q < J) (h2 : J ≤ 28) : chI (HS 22 4) (HS 60 4) q J = true := by
  match q, h with
  | 0, _ => exact allN_at k4_0 J (by omega) (by omega)
  | 1, _ => exact allN_at k4_1 J (by omega) (by omega)
  | 2, _ => exact allN_at k4_2 J (by omega) (by omega)
  | 3, _ => exact allN_at k4_3 J (by omega) (by omega)
  | 4, _ => exact allN_at k4_4 J (by omega) (by omega)
  | 5, _ => exact allN_at k4_5 J (by omega) (by omega)
  | 6, _ => exact allN_at k4_6 J (by omega) (by omega)
  | 7, _ => exact allN_at k4_7 J (by omega) (by omega)
  | 8, _ => exact allN_at k4_8 J (by omega) (by omega)
  | 9, _ => exact allN_at k4_9 J (by omega) (by omega)
  | 10, _ => exact allN_at k4_10 J (by omega) (by omega)
  | 11, _ => exact allN_at k4_11 J (by omega) (by omega)
  | 12, _ => exact allN_at k4_12 J (by omega) (by omega)
  | 13, _ => exact allN_at k4_13 J (by omega) (by omega)
  | 14, _ => exact allN_at k4_14 J (by omega) (by omega)
  | 15, _ => exact allN_at k4_15 J (by omega) (by omega)
  | 16, _ => exact allN_at k4_16 J (by omega) (by omega)
  | 17, _ => exact allN_at k4_17 J (by omega) (by omega)
  | 18, _ => exact allN_at k4_18 J (by omega) (by omega)
  | 19, _ => exact allN_at k4_19 J (by omega) (by omega)
  | 20, _ => exact allN_at k4_20 J (by omega) (by omega)
  | 21, _ => exact allN_at k4_21 J (by omega) (by omega)
  | 22, _ => exact allN_at k4_22 J (by omega) (by omega)
  | 23, _ => exact allN_at k4_23 J (by omega) (by omega)
  | 24, _ => exact allN_at k4_24 J (by omega) (by omega)
  | 25, _ => exact allN_at k4_25 J (by omega) (by omega)
  | 26, _ => exact allN_at k4_26 J (by omega) (by omega)
  | 27, _ => exact allN_at k4_27 J (by omega) (by omega)
  | n + 28, h => exact absurd h (by omega)
theorem iA5 (q : Nat) (h : q < 28) : rnI (HS 60 5) 5 q = true := by
  by_cases h0 : q < 14
  · exact allN_at i5_0 q (by omega) (by omega)
  by_cases h1 : q < 16
  · exact allN_at i5_1 q (by omega) (by omega)
  by_cases h2 : q < 17
  · exact allN_at i5_2 q (by omega) (by omega)
  by_cases h3 : q < 25
  · exact allN_at i5_3 q (by omega) (by omega)
  by_cases h4 : q < 26
  · exact allN_at i5_4 q (by omega) (by omega)
  by_cases h5 : q < 27
  · exact allN_at i5_5 q (by omega) (by omega)
  exact allN_at i5_6 q (by omega) (by omega)
theorem otA5 (q J : Nat) (h : q < 28) (h1 : q < J) (h2 : J ≤ 28) : rnO true 5 q J = true := by
  match q, h with
  | 0, _ => exact allN_at ot5_0 J (by omega) (by omega)
  | 1, _ => exact allN_at ot5_1 J (by omega) (by omega)
  | 2, _ => exact allN_at ot5_2 J (by omega) (by omega)
  | 3, _ => exact allN_at ot5_3 J (by omega) (by omega)
  | 4, _ => exact allN_at ot5_4 J (by omega) (by omega)
  | 5, _ => exact allN_at ot5_5 J (by omega) (by omega)
  | 6, _ => exact allN_at ot5_6 J (by omega) (by omega)
  | 7, _ => exact allN_at ot5_7 J (by omega) (by omega)
  | 8, _ => exact allN_at ot5_8 J (by omega) (by omega)
  | 9, _ => exact allN_at ot5_9 J (by omega) (by omega)
  | 10, _ => exact allN_at ot5_10 J (by omega) (by omega)
  | 11, _ => exact allN_at ot5_11 J (by omega) (by omega)
  | 12, _ => exact allN_at ot5_12 J (by omega) (by omega)
  | 13, _ => exact allN_at ot5_13 J (by omega) (by omega)
  | 14, _ => exact allN_at ot5_14 J (by omega) (by omega)
  | 15, _ => exact allN_at ot5_15 J (by omega) (by omega)
  | 16, _ => exact allN_at ot5_16 J (by omega) (by omega)
  | 17, _ => exact allN_at ot5_17 J (by omega) (by omega)
  | 18, _ => exact allN_at ot5_18 J (by omega) (by omega)
  | 19, _ => exact allN_at ot5_19 J (by omega) (by omega)
  | 20, _ => exact allN_at ot5_20 J (by omega) (by omega)
  | 21, _ => exact allN_at ot5_21 J (by omega) (by omega)
  | 22, _ => exact allN_at ot5_22 J (by omega) (by omega)
  | 23, _ => exact allN_at ot5_23 J (by omega) (by omega)
  | 24, _ => exact allN_at ot5_24 J (by omega) (by omega)
  | 25, _ => exact allN_at ot5_25 J (by omega) (by omega)
  | 26, _ => exact allN_at ot5_26 J (by omega) (by omega)
  | 27, _ => exact allN_at ot5_27 J (by omega) (by omega)
  | n + 28, h => exact absurd h (by omega)
theorem ofA5 (q J : Nat) (h : q < 28) (h1 : q < J) (h2 : J ≤ q + 1) : rnO false 5 q J = true := by
  match q, h with
  | 0, _ => exact allN_at of5_0 J (by omega) (by omega)
  | 1, _ => exact allN_at of5_1 J (by omega) (by omega)
  | 2, _ => exact allN_at of5_2 J (by omega) (by omega)
  | 3, _ => exact allN_at of5_3 J (by omega) (by omega)
  | 4, _ => exact allN_at of5_4 J (by omega) (by omega)
  | 5, _ => exact allN_at of5_5 J (by omega) (by omega)
  | 6, _ => exact allN_at of5_6 J (by omega) (by omega)
  | 7, _ => exact allN_at of5_7 J (by omega) (by omega)
  | 8, _ => exact allN_at of5_8 J (by omega) (by omega)
  | 9, _ => exact allN_at of5_9 J (by omega) (by omega)
  | 10, _ => exact allN_at of5_10 J (by omega) (by omega)
  | 11, _ => exact allN_at of5_11 J (by omega) (by omega)
  | 12, _ => exact allN_at of5_12 J (by omega) (by omega)
  | 13, _ => exact allN_at of5_13 J (by omega) (by omega)
  | 14, _ => exact allN_at of5_14 J (by omega) (by omega)
  | 15, _ => exact allN_at of5_15 J (by omega) (by omega)
  | 16, _ => exact allN_at of5_16 J (by omega) (by omega)
  | 17, _ => exact allN_at of5_17 J (by omega) (by omega)
  | 18, _ => exact allN_at of5_18 J (by omega) (by omega)
  | 19, _ => exact allN_at of5_19 J (by omega) (by omega)
  | 20, _ => exact allN_at of5_20 J (by omega) (by omega)
  | 21, _ => exact allN_at of5_21 J (by omega) (by omega)
  | 22, _ => exact allN_at of5_22 J (by omega) (by omega)
  | 23, _ => exact allN_at of5_23 J (by omega) (by omega)
  | 24, _ => exact allN_at of5_24 J (by omega) (by omega)
  | 25, _ => exact allN_at of5_25 J (by omega) (by omega)
  | 26, _ => exact allN_at of5_26 J (by omega) (by omega)
  | 27, _ => exact allN_at of5_27 J (by omega) (by omega)
  | n + 28, h => exact absurd h (by omega)
theorem kA5 (q J : Nat) (h : q < 28) (h1 : q < J) (h2 : J ≤ 28) : chI (HS 22 5) (HS 60 5) q J = true := by
  match q, h with
  | 0, _ => exact allN_at k5_0 J (by omega) (by omega)
  | 1, _ => exact allN_at k5_1 J (by omega) (by omega)
  | 2, _ => exact allN_at k5_2 J (by omega) (by omega)
  | 3, _ => exact allN_at k5_3 J (by omega) (by omega)
  | 4, _ => exact allN_at k5_4 J (by omega) (by omega)
  | 5, _ => exact allN_at k5_5 J (by omega) (by omega)
  | 6, _ => exact allN_at k5_6 J (by omega) (by omega)
  | 7, _ => exact allN_at k5_7 J (by omega) (by omega)
  | 8, _ => exact allN_at k5_8 J (by omega) (by omega)
  | 9, _ => exact allN_at k5_9 J (by omega) (by omega)
  | 10, _ => exact allN_at k5_10 J (by omega) (by omega)
  | 11, _ => exact allN_at k5_11 J (by omega) (by omega)
  | 12, _ => exact allN_at k5_12 J (by omega) (by omega)
  | 13, _ => exact allN_at k5_13 J (by omega) (by omega)
  | 14, _ => exact allN_at k5_14 J (by omega) (by omega)
  | 15, _ => exact allN_at k5_15 J (by omega) (by omega)
  | 16, _ => exact allN_at k5_16 J (by omega) (by omega)
  | 17, _ => exact allN_at k5_17 J (by omega) (by omega)
  | 18, _ => exact allN_at k5_18 J (by omega) (by omega)
  | 19, _ => exact allN_at k5_19 J (by omega) (by omega)
  | 20, _ => exact allN_at k5_20 J (by omega) (by omega)
  | 21, _ => exact allN_at k5_21 J (by omega) (by omega)
  | 22, _ => exact allN_at k5_22 J (by omega) (by omega)
  | 23, _ => exact allN_at k5_23 J (by omega) (by omega)
  | 24, _ => exact allN_at k5_24 J (by omega) (by omega)
  | 25, _ => exact allN_at k5_25 J (by omega) (by omega)
  | 26, _ => exact allN_at k5_26 J (by omega) (by omega)
  | 27, _ => exact allN_at k5_27 J (by omega) (by omega)
  | n + 28, h => exact absurd h (by omega)
theorem iB (j : Nat) (hj : j < 6) (q : Nat) (h : q < 28) : rnI (HS 60 j) j q = true := by
  match j, hj with
  | 0, _ => exact iA0 q h
  | 1, _ => exact iA1 q h
  | 2, _ => exact iA2 q h
  | 3, _ => exact iA3 q h
  | 4, _ => exact iA4 q h
  | 5, _ => exact iA5 q h
theorem otB (j : Nat) (hj : j < 6) (q J : Nat) (h : q < 28) (h1 : q < J) (h2 : J ≤ 28) : rnO true j q J = true := by
  match j, hj with
  | 0, _ => exact otA0 q J h h1 h2
  | 1, _ => exact otA1 q J h h1 h2
  | 2, _ => exact otA2 q J h h1 h2
  | 3, _ => exact otA3 q J h h1 h2
  | 4, _ => exact otA4 q J h h1 h2
  | 5, _ => exact otA5 q J h h1 h2
theorem ofB (j : Nat) (hj : j < 6) (q J : Nat) (h : q < 28) (h1 : q < J) (h2 : J ≤ q + 1) : rnO false j q J = true := by
  match j, hj with
  | 0, _ => exact ofA0 q J h h1 h2
  | 1, _ => exact ofA1 q J h h1 h2
  | 2, _ => exact ofA2 q J h h1 h2
  | 3, _ => exact ofA3 q J h h1 h2
  | 4, _ => exact ofA4 q J h h1 h2
  | 5, _ => exact ofA5 q J h h1 h2
theorem kB (j : Nat) (hj : j < 6) (q J : Nat) (h : q < 28) (h1 : q < J) (h2 : J ≤ 28) : chI (HS 22 j) (HS 60 j) q J = true := by
  match j, hj with
  | 0, _ => exact kA0 q J h h1 h2
  | 1, _ => exact kA1 q J h h1 h2
  | 2, _ => exact kA2 q J h h1 h2
  | 3, _ => exact kA3 q J h h1 h2
  | 4, _ => exact kA4 q J h h1 h2
  | 5, _ => exact kA5 q J h h1 h2
theorem xB (j : Nat) (hj : j < 6) : (allN (rxI (HS 60 j) false) 1 28 && rxI (HS 60 j) true 28) = true := by
  match j, hj with
  | 0, _ => exact x0
  | 1, _ => exact x1
  | 2, _ => exact x2
  | 3, _ => exact x3
  | 4, _ => exact x4
  | 5, _ => exact x5
theorem yB (j : Nat) (h1 : 1 ≤ j) (h2 : j ≤ 6) : (rxO true j && rxO false j) = true := by
  match j, h1, h2 with
  | 1, _, _ => exact y1
  | 2, _, _ => exact y2
  | 3, _, _ => exact y3
  | 4, _, _ => exact y4
  | 5, _, _ => exact y5
  | 6, _, _ => exact y6
theorem eA1 {a b : Bool} (h : (a && b) = true) : a = true := (Bool.and_eq_true _ _ ▸ h).1
theorem eA2 {a b : Bool} (h : (a && b) = true) : b = true := (Bool.and_eq_true _ _ ▸ h).2
theorem tv3 : Tryz.prog.underlying 3 = some (.int .i64) := by kernel_rfl
theorem bt_mid {l : LB} {a n i : Nat} (h : i < n) : bt ((l.drop a).take n) i = bt l (a + i) := by
  unfold bt
  rw [List.getD_eq_getElem?_getD, List.getD_eq_getElem?_getD, List.getElem?_take, if_pos h, List.getElem?_drop]
def nuI (p : LB) (n : Int) : List Value := [St' p, .int .i64 n, .int .i64 (p.length : Int), .int .i64 (n + 1)]
noncomputable def DI (p : LB) (n : Int) : Cx := cx (nuL (nuI p n)) (fun j _ => nuL_one (l := nuI p n) rfl j) 0 laidE laidE_stab
noncomputable def EI (t : Int) : Cx := cx (nuL [.int .i64 t]) (fun j _ => nuL_one (l := [.int .i64 t]) rfl j) 0 laidE laidE_stab
theorem hyI_ok {p : LB} {n : Int} {c : Nat} (h0 : 0 ≤ n) (h1 : n < (p.length : Int)) (h2 : p.length ≤ 1000) (hb : bt p n.toNat = (c : Int)) : ∀ k r, (k, r) ∈ hyI c → HOk (DI p n) k r := by
  unfold hyI
  exact hc (kLenE (isX rfl) (denX rfl) rfl) <| hc (kLt (isX rfl) (isX rfl) (decide_eq_true h1)) <| hc (kIdxE (i := n.toNat) (isX rfl) (isX rfl) (denI .u8 (.ofNat c)) (by omega) (by omega) hb) <| hc (kAdd (isX rfl) (isZ (m := 1) rfl) (denX rfl) rfl (fI64 (by omega) (by omega))) hnil
theorem hyIX_ok {p : LB} {n : Int} {m : Bool} (h : decide (n < (p.length : Int)) = m) : ∀ k r, (k, r) ∈ hyIX m → HOk (DI p n) k r := by
  unfold hyIX
  exact hc (kLenE (isX rfl) (denX rfl) rfl) <| hc (kLt (isX rfl) (isX rfl) h) hnil
def InvI (q J : Nat) (st : Nat × Int) : Prop := q ≤ st.1 ∧ st.1 ≤ J ∧ st.2 = (st.1 : Int) - (q : Int)
theorem rdI (p : LB) (j q J : Nat) (hj : j < 6) (hq : q < J) (hJ : J ≤ 28) (hl : p.length ≤ 1000) (h1 : (J : Int) - q ≤ (p.length : Int)) (h2 : J < 28 → (J : Int) - q = (p.length : Int)) (hB : ∀ c, q ≤ c → c < J → bt p (c - q) = (tx j c : Int)) (st : Nat × Int) (X : Nat → Value) (hI : InvI q J st) :
    RoundH (EI ((J : Int) - q)) bodyI [] 31 (.exit 0) 7 60 68 160 (fun _ => epI) (fun st => (HS 60 j).getD st.1 []) epIX ((HS 60 j).getD J []) (InvI q J) (fun st => J - st.1) (fun st _ => DI p st.2) st X := by
  obtain ⟨c, n⟩ := st
  obtain ⟨i0, i1, i2⟩ := hI
  simp only [] at i0 i1 i2
  by_cases h : c < J
  · refine RoundH.next (tb := tbl (hyI (tx j c))) (L := []) (f := 9000) (th := [(0, .x 0), (1, .x 3)]) (sg := sgI c) (c + 1, n + 1) ((tabkOk _ _).hyps (hyI_ok (by omega) (by omega) hl ?_)) (LpOk.nil _) rfl ⟨by show q ≤ c + 1; omega, by show c + 1 ≤ J; omega, by show n + 1 = ((c + 1 : Nat) : Int) - q; omega⟩ (by show J - (c + 1) < J - c; omega) (thXv (v := St' p) rfl rfl <| thXv (v := .int .i64 (n + 1)) rfl rfl thNil) (iB j hj c (by omega))
    rw [show n.toNat = c - q by omega]
    exact hB c i0 h
  · have e : c = J := by omega
    subst e
    have hx := xB j hj
    rcases Nat.lt_or_ge c 28 with h28 | h28
    · exact RoundH.leave (tb := tbl (hyIX false)) (L := []) (f := 9000) (th := [(0, .x 1)]) (sg := []) ((tabkOk _ _).hyps (hyIX_ok (decide_eq_false (by have := h2 h28; omega)))) (LpOk.nil _) rfl rfl (thXe (v := .int .i64 n) (u := .int .i64 ((c : Int) - q)) rfl rfl (by rw [i2]) thNil) (allN_at (eA1 hx) c (by omega) (by omega))
    · have e : c = 28 := by omega
      subst e
      by_cases hm : n < (p.length : Int)
      · exact RoundH.leave (tb := tbl (hyIX true)) (L := []) (f := 9000) (th := [(0, .x 1)]) (sg := []) ((tabkOk _ _).hyps (hyIX_ok (decide_eq_true hm))) (LpOk.nil _) rfl rfl (thXe (v := .int .i64 n) (u := .int .i64 (((28 : Nat) : Int) - q)) rfl rfl (by rw [i2]) thNil) (eA2 hx)
      · exact RoundH.leave (tb := tbl (hyIX false)) (L := []) (f := 9000) (th := [(0, .x 1)]) (sg := []) ((tabkOk _ _).hyps (hyIX_ok (decide_eq_false hm))) (LpOk.nil _) rfl rfl (thXe (v := .int .i64 n) (u := .int .i64 (((28 : Nat) : Int) - q)) rfl rfl (by rw [i2]) thNil) (allN_at (eA1 hx) 28 (by omega) (by omega))
theorem lfOkI {nu : Nat → Value} {one : ∀ i, i < 1000000 → (nu i).oneCell' = true} (p : LB) (j q J : Nat) (hj : j < 6) (hq : q < J) (hJ : J ≤ 28) (hl : p.length ≤ 1000) (h1 : (J : Int) - q ≤ (p.length : Int)) (h2 : J < 28 → (J : Int) - q = (p.length : Int)) (hB : ∀ c, q ≤ c → c < J → bt p (c - q) = (tx j c : Int))
    (g12 : nu 12 = St' p) (g15 : nu 15 = .int .i64 ((J : Int) - q)) : LfOk (cx nu one 0 laidE laidE_stab) bodyI (lfI (HS 22 j) (HS 60 j) q J) := by
  have hk := kB j hj q J (by omega) hq hJ
  unfold chI at hk
  exact lfOkX (E := EI ((J : Int) - q)) (ep := fun _ => epI) (hp := fun st => (HS 60 j).getD st.1 []) (epx := epIX) (hpx := (HS 60 j).getD J []) (keep := []) (nh := 68) (InvI q J) (fun st => J - st.1) (fun st _ => DI p st.2) (fun _ _ => rfl) (fun _ _ => rfl) (fun _ _ => rfl) (fun _ _ t ht => by cases ht) rfl rfl rfl rfl (eA1 hk) (fun _ => rfl) rfl rfl (q, (0 : Int)) ⟨Nat.le_refl _, by show q ≤ J; omega, by show (0 : Int) = (q : Int) - q; omega⟩ (th0 := [(0, .x 12), (1, .i .i64 (.ofNat 0))]) (sg0 := [(60, 22), (61, 23)])
    (fun X => thXv (v := St' p) g12 rfl <| thCons (show Is _ (.i .i64 (.ofNat 0)) (.int .i64 0) from isI _ _) thNil) (eA1 (eA2 hk)) (thx := [(15, .x 0)]) (thXv (v := .int .i64 ((J : Int) - q)) rfl g15 thNil) (eA2 (eA2 hk)) (rdI p j q J hj hq hJ hl h1 h2 hB)
def pcS (s : LB) (P w : Int) : LB := (s.drop P.toNat).take (min (s.length : Int) (P + w) - P).toNat
def nuO (s : LB) (i l m u w P Q : Int) (t : Int) : List Value := [St' s, .int .i64 i, .int .i64 (s.length : Int), .bool true, .bool true, .int .i64 l, .int .i64 m, .int .u8 u, .int .i64 u, .int .i64 w, .int .i64 (P + w), .int .i64 (min (s.length : Int) (P + w)), St' (pcS s P w), St' ((s.drop Q.toNat).take ((s.length : Int) - Q).toNat), .int .i64 (i + 1), .int .i64 t]
noncomputable abbrev DO (s : LB) (a : List Int) (X : Nat → Value) (i l m u w P Q t : Int) : Cx := cx (nuX (nuO s i l m u w P Q t) (rX [rwI .u8 a] X)) (nuX_one (nuL_one (l := nuO s i l m u w P Q t) rfl)) 0 laidE laidE_stab
def wOf (fr : Bool) (a : List Int) (i : Int) : Int := cond fr (nthI a (i % (a.length : Int)).toNat + 1) 1
noncomputable def DQ (fr : Bool) (s : LB) (a : List Int) (j q : Nat) (i : Int) (X : Nat → Value) : Cx := DO s a X i (a.length : Int) (i % (a.length : Int)) (nthI a (i % (a.length : Int)).toNat) (wOf fr a i) (plc j q : Int) (plc j (min (q + (wOf fr a i).toNat) 28) : Int) ((min (q + (wOf fr a i).toNat) 28 : Nat) - (q : Int))
theorem plc_eq (j q : Nat) : (plc j q : Int) = 28 * (j : Int) + q := by show ((28 * j + q : Nat) : Int) = _; omega
theorem hyO_ok {fr : Bool} {s : LB} {a : List Int} {X : Nat → Value} {i : Int} {k j q J : Nat} (hk : k ≤ 6) (hs : (s.length : Int) = 28 * k) (i0 : 0 ≤ i) (i1 : i ≤ 2000) (hj : j < k) (hq : q < 28) (hq2 : q < J) (hJ : J ≤ 28) (ha : fr = true → 1 ≤ a.length) (ha2 : a.length ≤ 9223372036854775807) (ra : ∀ n, n ∈ a → 0 ≤ n ∧ n ≤ 255) (hw : (J : Int) - q ≤ wOf fr a i) :
    ∀ k r, (k, r) ∈ hyO fr (plc j q) (plc j J) → HOk (DO s a X i (a.length : Int) (i % (a.length : Int)) (nthI a (i % (a.length : Int)).toNat) (wOf fr a i) (plc j q : Int) (plc j J : Int) ((J : Int) - q)) k r := by
  have e1 := plc_eq j q
  have e2 := plc_eq j J
  generalize hP : plc j q = P at *
  generalize hQ : plc j J = Q at *
  have hn := rngAt (lo := 0) (hi := 255) (l := a) (by decide) (by decide) ra (i % (a.length : Int)).toNat
  have hP2 : (P : Int) < (s.length : Int) := by omega
  have hQ2 : (Q : Int) ≤ (s.length : Int) := by omega
  cases fr with
  | true =>
    have ha1 := ha rfl
    have hm0 := Int.emod_nonneg i (show (a.length : Int) ≠ 0 by omega)
    have hm1 := Int.emod_lt_of_pos i (show 0 < (a.length : Int) by omega)
    have hw' : (J : Int) - q ≤ nthI a (i % (a.length : Int)).toNat + 1 := hw
    have hwe : wOf true a i = nthI a (i % (a.length : Int)).toNat + 1 := rfl
    unfold hyO
    rw [cond_true]
    refine hc (kLenE (isX rfl) (denX rfl) rfl) <| hc (kLt (isI _ _) (isX rfl) (decide_eq_true hP2)) <| hc (kRlI (isX rfl) (denX rfl) rfl) <| hc (kGt (isX rfl) (isZ (m := 0) rfl) (decide_eq_true (by omega))) <| hc (kRem (isX rfl) (isX rfl) (denX rfl) i0 (by omega) rfl) <| hc (kElI (j := (i % (a.length : Int)).toNat) (isX rfl) (isX rfl) (denX rfl) (by omega) (by omega)) <| hc (kConvF (isX rfl) tv3 (denX rfl) (fI64 (by omega) (by omega))) <| hc (kAdd (isX rfl) (isZ (m := 1) rfl) (denX rfl) rfl (fI64 (by omega) (by omega))) <| hc (kAdd (isI _ _) (isX rfl) (denX rfl) rfl (fI64 (by show _ ≤ ((P : Nat) : Int) + (nthI a (i % (a.length : Int)).toNat + 1); omega) (by show ((P : Nat) : Int) + (nthI a (i % (a.length : Int)).toNat + 1) ≤ _; omega))) <| hc (kMin (isX rfl) (isX rfl) (denX rfl) rfl) <|
      hc (kMid (P := (P : Int)) (Q := min (s.length : Int) ((P : Int) + wOf true a i)) (isX rfl) (.inr ⟨_, _, rfl, isI _ _⟩) (.inr ⟨_, _, rfl, isX rfl⟩) (by omega) (by omega) (by omega) (denX rfl)) <| hc (kLt (isX rfl) (isZ (m := 0) rfl) (decide_eq_false (by omega))) <| hc (kGt (isX rfl) (isX rfl) (decide_eq_false (by show ¬ wOf true a i < (J : Int) - q; omega))) <| hc (kGt (isX rfl) (isZ (m := 2000) rfl) (decide_eq_false (by omega))) <|
      hc (kAdd (isI _ _) (isX rfl) (denI _ _) (show ((P : Nat) : Int) + ((J : Int) - q) = ((Q : Nat) : Int) by omega) (fI64 (show _ ≤ ((Q : Nat) : Int) by omega) (show ((Q : Nat) : Int) ≤ _ by omega))) <| hc (kMid (P := (Q : Int)) (Q := (s.length : Int)) (isX rfl) (.inr ⟨_, _, rfl, isI _ _⟩) (.inl ⟨rfl, rfl⟩) (by omega) hQ2 (Int.le_refl _) (denX rfl)) <| hc (kAdd (isX rfl) (isZ (m := 1) rfl) (denX rfl) rfl (fI64 (by omega) (by omega))) hnil
  | false =>
    have hw' : (J : Int) - q ≤ 1 := hw
    unfold hyO
    rw [cond_false]
    refine hc (kLenE (isX rfl) (denX rfl) rfl) <| hc (kLt (isI _ _) (isX rfl) (decide_eq_true hP2)) <| hc (kMin (isX rfl) (isI _ _) (denX rfl) (show min (s.length : Int) ((P + 1 : Nat) : Int) = min (s.length : Int) ((P : Int) + 1) by omega)) <|
      hc (kMid (P := (P : Int)) (Q := min (s.length : Int) ((P : Int) + 1)) (isX rfl) (.inr ⟨_, _, rfl, isI _ _⟩) (.inr ⟨_, _, rfl, isX rfl⟩) (by omega) (by omega) (by omega) (denX rfl)) <| hc (kLt (isX rfl) (isZ (m := 0) rfl) (decide_eq_false (by omega))) <| hc (kGt (isX rfl) (isZ (m := 1) rfl) (decide_eq_false (by omega))) <| hc (kGt (isX rfl) (isZ (m := 2000) rfl) (decide_eq_false (by omega))) <|
      hc (kAdd (isI _ _) (isX rfl) (denI _ _) (show ((P : Nat) : Int) + ((J : Int) - q) = ((Q : Nat) : Int) by omega) (fI64 (show _ ≤ ((Q : Nat) : Int) by omega) (show ((Q : Nat) : Int) ≤ _ by omega))) <| hc (kMid (P := (Q : Int)) (Q := (s.length : Int)) (isX rfl) (.inr ⟨_, _, rfl, isI _ _⟩) (.inl ⟨rfl, rfl⟩) (by omega) hQ2 (Int.le_refl _) (denX rfl)) <| hc (kAdd (isX rfl) (isZ (m := 1) rfl) (denX rfl) rfl (fI64 (by omega) (by omega))) hnil
theorem hyOX_ok {s : LB} {a : List Int} {X : Nat → Value} {i l m u w P Q t : Int} {c : Nat} (h : (s.length : Int) ≤ c) : ∀ k r, (k, r) ∈ hyOX c → HOk (DO s a X i l m u w P Q t) k r := by
  unfold hyOX
  exact hc (kLenE (isX rfl) (denX rfl) rfl) <| hc (kLt (isI _ _) (isX rfl) (decide_eq_false (show ¬ ((c : Nat) : Int) < _ by omega))) hnil
def InvO (k : Nat) (st : Nat × Nat × Int) : Prop := st.2.1 < 28 ∧ 0 ≤ st.2.2 ∧ st.2.2 ≤ ((28 * st.1 + st.2.1 : Nat) : Int) ∧ (st.1 < k ∨ (st.1 = k ∧ st.2.1 = 0))
noncomputable def EO : Cx := cx (nuL []) (fun j _ => nuL_one (l := []) rfl j) 0 laidE laidE_stab
theorem j2_lt {j J : Nat} (h : J < 28) : j2 j J = j ∧ q2 J = J := by
  unfold j2 q2
  have : Nat.beq J 28 = false := by rw [Bool.eq_false_iff]; intro e; have := Nat.eq_of_beq_eq_true e; omega
  rw [this]; exact ⟨rfl, rfl⟩
theorem rdO (fr : Bool) (s : LB) (a : List Int) (k : Nat) (k1 : 1 ≤ k) (hk : k ≤ 6) (hs : (s.length : Int) = 28 * k) (hb : ∀ j q, j < k → q < 28 → bt s (28 * j + q) = (tx j q : Int)) (ha : fr = true → 1 ≤ a.length) (ha2 : a.length ≤ 9223372036854775807) (ra : ∀ n, n ∈ a → 0 ≤ n ∧ n ≤ 255) (st : Nat × Nat × Int) (X : Nat → Value) (hI : InvO k st) :
    RoundH EO bodyO [5] 137 (.exit 2) 7 20 30 400 (fun st : Nat × Nat × Int => epO fr st.1 st.2.1) (fun st => hpO fr st.1 st.2.1) (epOX k) (clK :: (HS 22 k).getD 0 []) (InvO k) (fun st => 28 * k - (28 * st.1 + st.2.1)) (fun st X => DQ fr s a st.1 st.2.1 st.2.2 X) st X := by
  obtain ⟨j, q, i⟩ := st
  obtain ⟨h1, h2, h3, h4⟩ := hI
  simp only [] at h1 h2 h3 h4
  by_cases hjk : j < k
  · have hn := rngAt (lo := 0) (hi := 255) (l := a) (by decide) (by decide) ra (i % (a.length : Int)).toNat
    have hw1 : 1 ≤ wOf fr a i ∧ wOf fr a i ≤ 256 := by
      unfold wOf
      cases fr with
      | true => rw [cond_true]; omega
      | false => rw [cond_false]; omega
    have hw2 : fr = false → wOf fr a i = 1 := fun e => by subst e; rfl
    obtain ⟨J, eJ⟩ : ∃ J, J = min (q + (wOf fr a i).toNat) 28 := ⟨_, rfl⟩
    have hqJ : q < J := by omega
    have hJ : J ≤ 28 := by omega
    have e1 := plc_eq j q
    have e2 := plc_eq j J
    have HI : LfOk (DQ fr s a j q i X) bodyI (lfI (HS 22 j) (HS 60 j) q J) := by
      have hlen : ((pcS s (plc j q : Int) (wOf fr a i)).length : Int) = min (s.length : Int) ((plc j q : Int) + wOf fr a i) - (plc j q : Int) := mid_len (by omega) (by omega) (by omega)
      refine lfOkI (pcS s (plc j q : Int) (wOf fr a i)) j q J (by omega) hqJ hJ (by omega) (by omega) (fun h28 => by omega) (fun c g1 g2 => ?_) rfl (by rw [eJ]; rfl)
      unfold pcS
      rw [bt_mid (by omega), show (plc j q : Int).toNat + (c - q) = 28 * j + c by omega]
      exact hb j c hjk (by omega)
    have HH : ∀ k' r, (k', r) ∈ hyO fr (plc j q) (plc j J) → HOk (DQ fr s a j q i X) k' r := by
      unfold DQ
      rw [← eJ]
      exact hyO_ok hk hs h2 (by omega) hjk h1 hqJ hJ ha ha2 ra (by omega)
    have HT : AllOk (DQ fr s a j q i X) (tabO fr j q J) := AllOk.lp1 ((tabkOk _ _).hyps HH) (by omega) fi54_at fi54_body (lfCons (lpKnown rfl ⟨0, keyI, HI⟩) lfNil)
    have HR : rnO fr j q J = true := by
      cases fr with
      | true => exact otB j (by omega) q J h1 hqJ hJ
      | false => exact ofB j (by omega) q J h1 hqJ (by have := hw2 rfl; omega)
    have hj2 : 28 * (j2 j J) + q2 J = 28 * j + J := by
      rcases Nat.lt_or_ge J 28 with h28 | h28
      · rw [(j2_lt (j := j) h28).1, (j2_lt (j := j) h28).2]
      · have e : J = 28 := by omega
        rw [e]; show 28 * (j + 1) + 0 = 28 * j + 28; omega
    refine RoundH.next (tb := tabO fr j q J) (L := []) (f := 9000) (th := thO fr) (sg := sgO J) (j2 j J, q2 J, i + 1) HT (LpOk.nil _) rfl ⟨?_, by show 0 ≤ i + 1; omega, ?_, ?_⟩ ?_ ?_ HR
    · rcases Nat.lt_or_ge J 28 with h28 | h28
      · show q2 J < 28; rw [(j2_lt (j := j) h28).2]; exact h28
      · have e : J = 28 := by omega
        rw [e]; show (0 : Nat) < 28; omega
    · show i + 1 ≤ ((28 * (j2 j J) + q2 J : Nat) : Int); rw [hj2]; omega
    · rcases Nat.lt_or_ge J 28 with h28 | h28
      · exact .inl (show j2 j J < k by rw [(j2_lt (j := j) h28).1]; exact hjk)
      · have e : J = 28 := by omega
        rw [e]
        rcases Nat.lt_or_ge (j + 1) k with h | h
        · exact .inl h
        · exact .inr ⟨show j + 1 = k by omega, rfl⟩
    · show 28 * k - (28 * (j2 j J) + q2 J) < 28 * k - (28 * j + q); rw [hj2]; omega
    · cases fr with
      | true => exact thXv (v := St' s) rfl rfl <| thXv (v := .int .i64 (i + 1)) rfl rfl <| thXv (v := rwI .u8 a) rfl rfl thNil
      | false => exact thXv (v := St' s) rfl rfl <| thXv (v := .int .i64 (i + 1)) rfl rfl thNil
  · obtain ⟨rfl, rfl⟩ : j = k ∧ q = 0 := by omega
    have hy := yB j k1 hk
    refine RoundH.leave (tb := tbl (hyOX (plc j 0))) (L := []) (f := 9000) (th := []) (sg := []) ((tabkOk _ _).hyps (hyOX_ok (by have := plc_eq j 0; omega))) (LpOk.nil _) rfl rfl thNil ?_
    cases fr with
    | true => exact eA1 hy
    | false => exact eA2 hy
theorem lfOkO {nu : Nat → Value} {one : ∀ i, i < 1000000 → (nu i).oneCell' = true} {l : LF} {h : LH} (fr : Bool) (s : LB) (a : List Int) (k : Nat) (k1 : 1 ≤ k) (hk : k ≤ 6) (hs : (s.length : Int) = 28 * k) (hb : ∀ j q, j < k → q < 28 → bt s (28 * j + q) = (tx j q : Int)) (ha : fr = true → 1 ≤ a.length) (ha2 : a.length ≤ 9223372036854775807) (ra : ∀ n, n ∈ a → 0 ≤ n ∧ n ≤ 255)
    (hl : l.hp = some h) (hsm : lfSame l h 137 [5] (.exit 2) 7 20 400 = true) {th0 : LA} {sg0 : List (Nat × Nat)} (hth0 : ∀ X, ThOk (cx nu one 0 laidE laidE_stab) (DQ fr s a 0 0 0 X) th0) (h0 : startOk l h 137 20 30 th0 sg0 (epO fr 0 0) (hpO fr 0 0) = true) (hx : exitOk l h 137 20 400 [] (epOX k) (clK :: (HS 22 k).getD 0 []) = true) : LfOk (cx nu one 0 laidE laidE_stab) bodyO l :=
  lfOkX (E := EO) (ep := fun st : Nat × Nat × Int => epO fr st.1 st.2.1) (hp := fun st => hpO fr st.1 st.2.1) (epx := epOX k) (hpx := clK :: (HS 22 k).getD 0 []) (keep := [5]) (nh := 30) (InvO k) (fun st => 28 * k - (28 * st.1 + st.2.1)) (fun st X => DQ fr s a st.1 st.2.1 st.2.2 X) (fun _ _ => rfl) (fun _ _ => rfl) (fun _ _ => rfl) (fun st X t ht => nuX_keep.trans (rX_keep ((by decide : ∀ t, t ∈ [5] → t < 1000000) t ht))) rfl rfl rfl hl hsm (fun _ => rfl) rfl rfl (0, 0, (0 : Int)) ⟨by show (0 : Nat) < 28; omega, by show (0 : Int) ≤ 0; omega, by show (0 : Int) ≤ ((28 * 0 + 0 : Nat) : Int); omega, .inl (by show 0 < k; omega)⟩ hth0 h0 (thx := []) thNil hx (rdO fr s a k k1 hk hs hb ha ha2 ra)
theorem sb1 : ∀ j q, j < 1 → q < 28 → bt (strB 28 1058486960032790378197876730689200296609687297364846591916681479495) (28 * j + q) = (tx j q : Int) := fun j q hj hq => by
  have h : allN (fun P => decide (bt (strB 28 1058486960032790378197876730689200296609687297364846591916681479495) P = (tx (Nat.div P 28) (Nat.mod P 28) : Int))) 0 28 = true := by kernel_rfl
  have := of_decide_eq_true (allN_at h (28 * j + q) (by omega) (by omega))
  rw [this, show Nat.div (28 * j + q) 28 = j from by show (28 * j + q) / 28 = j; omega, show Nat.mod (28 * j + q) 28 = q from by show (28 * j + q) % 28 = q; omega]
theorem sb2 : ∀ j q, j < 2 → q < 28 → bt (strB 56 28536751990358439425722568779593488400454161554054355583195474211381103732493135353523286459669522423383137016411964748910846413129031) (28 * j + q) = (tx j q : Int) := fun j q hj hq => by
  have h : allN (fun P => decide (bt (strB 56 28536751990358439425722568779593488400454161554054355583195474211381103732493135353523286459669522423383137016411964748910846413129031) P = (tx (Nat.div P 28) (Nat.mod P 28) : Int))) 0 56 = true := by kernel_rfl
  have := of_decide_eq_true (allN_at h (28 * j + q) (by omega) (by omega))
  rw [this, show Nat.div (28 * j + q) 28 = j from by show (28 * j + q) / 28 = j; omega, show Nat.mod (28 * j + q) 28 = q from by show (28 * j + q) % 28 = q; omega]
theorem sb3 : ∀ j q, j < 3 → q < 28 → bt (strB 84 769349311713768395591121691649438604578555555869514231657401862980182622982061115440256216819601442101065347543757562193192832321183638523289426272344133541623275048672125366345133202476128312554177863) (28 * j + q) = (tx j q : Int) := fun j q hj hq => by
  have h : allN (fun P => decide (bt (strB 84 769349311713768395591121691649438604578555555869514231657401862980182622982061115440256216819601442101065347543757562193192832321183638523289426272344133541623275048672125366345133202476128312554177863) P = (tx (Nat.div P 28) (Nat.mod P 28) : Int))) 0 84 = true := by kernel_rfl
  have := of_decide_eq_true (allN_at h (28 * j + q) (by omega) (by omega))
  rw [this, show Nat.div (28 * j + q) 28 = j from by show (28 * j + q) / 28 = j; omega, show Nat.mod (28 * j + q) 28 = q from by show (28 * j + q) % 28 = q; omega]
theorem sb4 : ∀ j q, j < 4 → q < 28 → bt (strB 112 20741616412212248937070570201752493310522039881246580860065632997466485209488734325151803420746910204595420991932580339507037812595994810963107841704076551104808301082567660417981671297440423349369987672335176472208989679185441616895378920924855333295187590713460409671) (28 * j + q) = (tx j q : Int) := fun j q hj hq => by
  have h : allN (fun P => decide (bt (strB 112 20741616412212248937070570201752493310522039881246580860065632997466485209488734325151803420746910204595420991932580339507037812595994810963107841704076551104808301082567660417981671297440423349369987672335176472208989679185441616895378920924855333295187590713460409671) P = (tx (Nat.div P 28) (Nat.mod P 28) : Int))) 0 112 = true := by kernel_rfl
  have := of_decide_eq_true (allN_at h (28 * j + q) (by omega) (by omega))
  rw [this, show Nat.div (28 * j + q) 28 = j from by show (28 * j + q) / 28 = j; omega, show Nat.mod (28 * j + q) 28 = q from by show (28 * j + q) % 28 = q; omega]
theorem sb5 : ∀ j q, j < 5 → q < 28 → bt (strB 140 559192872263738631664947655194803232234323760142995063120427009655830983121197800772623781736244340764863558513656035501231554663259453611805265315042727553875408711832729290336894873146182761774970253988192805098034630837299699846006708372659547350191795360600252989845327991825868438499919291035696591711491108928669537567371146052935) (28 * j + q) = (tx j q : Int) := fun j q hj hq => by
  have h : allN (fun P => decide (bt (strB 140 559192872263738631664947655194803232234323760142995063120427009655830983121197800772623781736244340764863558513656035501231554663259453611805265315042727553875408711832729290336894873146182761774970253988192805098034630837299699846006708372659547350191795360600252989845327991825868438499919291035696591711491108928669537567371146052935) P = (tx (Nat.div P 28) (Nat.mod P 28) : Int))) 0 140 = true := by kernel_rfl
  have := of_decide_eq_true (allN_at h (28 * j + q) (by omega) (by omega))
  rw [this, show Nat.div (28 * j + q) 28 = j from by show (28 * j + q) / 28 = j; omega, show Nat.mod (28 * j + q) 28 = q from by show (28 * j + q) % 28 = q; omega]
theorem sb6 : ∀ j q, j < 6 → q < 28 → bt (strB 168 15075810012881173767171614180896205071516794866643533475272574767156178222076042128787185926794554585541629571470939622638527455861875269090320069167431651079326577638271480914561153046248351766209004620591220047967540843972184011059693515003917921795645035498372803418290940242040871584809318132400154761711691409346395759820999045788010476887341812405581560268838815970060603299887075860582503527236935) (28 * j + q) = (tx j q : Int) := fun j q hj hq => by
  have h : allN (fun P => decide (bt (strB 168 15075810012881173767171614180896205071516794866643533475272574767156178222076042128787185926794554585541629571470939622638527455861875269090320069167431651079326577638271480914561153046248351766209004620591220047967540843972184011059693515003917921795645035498372803418290940242040871584809318132400154761711691409346395759820999045788010476887341812405581560268838815970060603299887075860582503527236935) P = (tx (Nat.div P 28) (Nat.mod P 28) : Int))) 0 168 = true := by kernel_rfl
  have := of_decide_eq_true (allN_at h (28 * j + q) (by omega) (by omega))
  rw [this, show Nat.div (28 * j + q) 28 = j from by show (28 * j + q) / 28 = j; omega, show Nat.mod (28 * j + q) 28 = q from by show (28 * j + q) % 28 = q; omega]
end Go.Proofs.YtabnmohghnnjaaaGreatDoor.clientRow
