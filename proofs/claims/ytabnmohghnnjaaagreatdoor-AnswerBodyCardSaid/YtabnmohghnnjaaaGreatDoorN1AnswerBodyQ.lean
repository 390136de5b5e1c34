/- A part of the proof: an interpreter of the model's own code on partly known states, and that what it answers is what the program answers. No condition of its own. -/
import Derived.Test.YtabnmohghnnjaaaGreatDoorN1AnswerBodyR0
import Derived.Test.YtabnmohghnnjaaaGreatDoorN1AnswerBodyR1
import Derived.Test.YtabnmohghnnjaaaGreatDoorN1AnswerBodyR2
import Derived.Test.YtabnmohghnnjaaaGreatDoorN1AnswerBodyR3
import Derived.Test.YtabnmohghnnjaaaGreatDoorN1AnswerBodyR4
import Derived.Test.YtabnmohghnnjaaaGreatDoorN1AnswerBodyR5
import Derived.Test.YtabnmohghnnjaaaGreatDoorN1AnswerBodyR6
import Derived.Test.YtabnmohghnnjaaaGreatDoorN1AnswerBodyR7
import Derived.Test.YtabnmohghnnjaaaGreatDoorN1AnswerBodyR8
import Derived.Test.YtabnmohghnnjaaaGreatDoorN1AnswerBodyR9
import Derived.Test.YtabnmohghnnjaaaGreatDoorN1AnswerBodyR10
import Derived.Test.YtabnmohghnnjaaaGreatDoorN1AnswerBodyR11
import Derived.Test.YtabnmohghnnjaaaGreatDoorN1AnswerBodyR12
import Derived.Test.YtabnmohghnnjaaaGreatDoorN1AnswerBodyR13
set_option maxRecDepth 100000
set_option linter.unusedVariables false
set_option linter.unusedSimpArgs false
set_option maxHeartbeats 4000000
namespace Go.Proofs.YtabnmohghnnjaaaGreatDoor.answerBody
open Go Go.AX Go.Proofs Go.Proofs.YtabnmohghnnjaaaGreatDoor
theorem iA (q : Nat) (h : q < 25) : rnI q = true := by
  by_cases h0 : q < 8
  · exact allN_at i_0 q (by omega) (by omega)
  by_cases h1 : q < 17
  · exact allN_at i_1 q (by omega) (by omega)
  by_cases h2 : q < 18
  · exact allN_at i_2 q (by omega) (by omega)
  by_cases h3 : q < 23
  · exact allN_at i_3 q (by omega) (by omega)
  by_cases h4 : q < 24
  · exact allN_at i_4 q (by omega) (by omega)
  exact allN_at i_5 q (by omega) (by omega)
theorem cA (q J : Nat) (h : q < J) (h2 : J ≤ 25) : chI q J = true := by
  match q, h with
  | 0, _ => exact allN_at c_0 J (by omega) (by omega)
  | 1, _ => exact allN_at c_1 J (by omega) (by omega)
  | 2, _ => exact allN_at c_2 J (by omega) (by omega)
  | 3, _ => exact allN_at c_3 J (by omega) (by omega)
  | 4, _ => exact allN_at c_4 J (by omega) (by omega)
  | 5, _ => exact allN_at c_5 J (by omega) (by omega)
  | 6, _ => exact allN_at c_6 J (by omega) (by omega)
  | 7, _ => exact allN_at c_7 J (by omega) (by omega)
  | 8, _ => exact allN_at c_8 J (by omega) (by omega)
  | 9, _ => exact allN_at c_9 J (by omega) (by omega)
  | 10, _ => exact allN_at c_10 J (by omega) (by omega)
  | 11, _ => exact allN_at c_11 J (by omega) (by omega)
  | 12, _ => exact allN_at c_12 J (by omega) (by omega)
  | 13, _ => exact allN_at c_13 J (by omega) (by omega)
  | 14, _ => exact allN_at c_14 J (by omega) (by omega)
  | 15, _ => exact allN_at c_15 J (by omega) (by omega)
  | 16, _ => exact allN_at c_16 J (by omega) (by omega)
  | 17, _ => exact allN_at c_17 J (by omega) (by omega)
  | 18, _ => exact allN_at c_18 J (by omega) (by omega)
  | 19, _ => exact allN_at c_19 J (by omega) (by omega)
  | 20, _ => exact allN_at c_20 J (by omega) (by omega)
  | 21, _ => exact allN_at c_21 J (by omega) (by omega)
  | 22, _ => exact allN_at c_22 J (by omega) (by omega)
  | 23, _ => exact allN_at c_23 J (by omega) (by omega)
  | 24, _ => exact allN_at c_24 J (by omega) (by omega)
  | n + 25, h => exact absurd h (by omega)
theorem htA0 (q J : Nat) (h : q < J) (h1 : J ≤ 25) (h2 : J ≤ 25) : rnHH 0 true q J = true := by
  match q, h with
  | 0, _ => exact allN_at ht0_0 J (by omega) (by omega)
  | 1, _ => exact allN_at ht0_1 J (by omega) (by omega)
  | 2, _ => exact allN_at ht0_2 J (by omega) (by omega)
  | 3, _ => exact allN_at ht0_3 J (by omega) (by omega)
  | 4, _ => exact allN_at ht0_4 J (by omega) (by omega)
  | 5, _ => exact allN_at ht0_5 J (by omega) (by omega)
  | 6, _ => exact allN_at ht0_6 J (by omega) (by omega)
  | 7, _ => exact allN_at ht0_7 J (by omega) (by omega)
  | 8, _ => exact allN_at ht0_8 J (by omega) (by omega)
  | 9, _ => exact allN_at ht0_9 J (by omega) (by omega)
  | 10, _ => exact allN_at ht0_10 J (by omega) (by omega)
  | 11, _ => exact allN_at ht0_11 J (by omega) (by omega)
  | 12, _ => exact allN_at ht0_12 J (by omega) (by omega)
  | 13, _ => exact allN_at ht0_13 J (by omega) (by omega)
  | 14, _ => exact allN_at ht0_14 J (by omega) (by omega)
  | 15, _ => exact allN_at ht0_15 J (by omega) (by omega)
  | 16, _ => exact allN_at ht0_16 J (by omega) (by omega)
  | 17, _ => exact allN_at ht0_17 J (by omega) (by omega)
  | 18, _ => exact allN_at ht0_18 J (by omega) (by omega)
  | 19, _ => exact allN_at ht0_19 J (by omega) (by omega)
  | 20, _ => exact allN_at ht0_20 J (by omega) (by omega)
  | 21, _ => exact allN_at ht0_21 J (by omega) (by omega)
  | 22, _ => exact allN_at ht0_22 J (by omega) (by omega)
  | 23, _ => exact allN_at ht0_23 J (by omega) (by omega)
  | 24, _ => exact allN_at ht0_24 J (by omega) (by omega)
  | n + 25, h => exact absurd h (by omega)
theorem bttA0 (q : Nat) (h : q < 26) : rnHB 0 true true q = true := by
  by_cases h0 : q < 2
  · exact allN_at btt0_0 q (by omega) (by omega)
  by_cases h2 : q < 4
  · exact allN_at btt0_2 q (by omega) (by omega)
  by_cases h4 : q < 6
  · exact allN_at btt0_4 q (by omega) (by omega)
  by_cases h6 : q < 8
  · exact allN_at btt0_6 q (by omega) (by omega)
  by_cases h8 : q < 10
  · exact allN_at btt0_8 q (by omega) (by omega)
  by_cases h10 : q < 12
  · exact allN_at btt0_10 q (by omega) (by omega)
  by_cases h12 : q < 14
  · exact allN_at btt0_12 q (by omega) (by omega)
  by_cases h14 : q < 16
  · exact allN_at btt0_14 q (by omega) (by omega)
  by_cases h16 : q < 18
  · exact allN_at btt0_16 q (by omega) (by omega)
  by_cases h18 : q < 20
  · exact allN_at btt0_18 q (by omega) (by omega)
  by_cases h20 : q < 22
  · exact allN_at btt0_20 q (by omega) (by omega)
  by_cases h22 : q < 24
  · exact allN_at btt0_22 q (by omega) (by omega)
  exact allN_at btt0_24 q (by omega) (by omega)
theorem btfA0 (q : Nat) (h : q < 26) : rnHB 0 true false q = true := by
  by_cases h0 : q < 2
  · exact allN_at btf0_0 q (by omega) (by omega)
  by_cases h2 : q < 4
  · exact allN_at btf0_2 q (by omega) (by omega)
  by_cases h4 : q < 6
  · exact allN_at btf0_4 q (by omega) (by omega)
  by_cases h6 : q < 8
  · exact allN_at btf0_6 q (by omega) (by omega)
  by_cases h8 : q < 10
  · exact allN_at btf0_8 q (by omega) (by omega)
  by_cases h10 : q < 12
  · exact allN_at btf0_10 q (by omega) (by omega)
  by_cases h12 : q < 14
  · exact allN_at btf0_12 q (by omega) (by omega)
  by_cases h14 : q < 16
  · exact allN_at btf0_14 q (by omega) (by omega)
  by_cases h16 : q < 18
  · exact allN_at btf0_16 q (by omega) (by omega)
  by_cases h18 : q < 20
  · exact allN_at btf0_18 q (by omega) (by omega)
  by_cases h20 : q < 22
  · exact allN_at btf0_20 q (by omega) (by omega)
  by_cases h22 : q < 24
  · exact allN_at btf0_22 q (by omega) (by omega)
  exact allN_at btf0_24 q (by omega) (by omega)
theorem hfA0 (q J : Nat) (h : q < J) (h1 : J ≤ 25) (h2 : J ≤ q + 1) : rnHH 0 false q J = true := by
  match q, h with
  | 0, _ => exact allN_at hf0_0 J (by omega) (by omega)
  | 1, _ => exact allN_at hf0_1 J (by omega) (by omega)
  | 2, _ => exact allN_at hf0_2 J (by omega) (by omega)
  | 3, _ => exact allN_at hf0_3 J (by omega) (by omega)
  | 4, _ => exact allN_at hf0_4 J (by omega) (by omega)
  | 5, _ => exact allN_at hf0_5 J (by omega) (by omega)
  | 6, _ => exact allN_at hf0_6 J (by omega) (by omega)
  | 7, _ => exact allN_at hf0_7 J (by omega) (by omega)
  | 8, _ => exact allN_at hf0_8 J (by omega) (by omega)
  | 9, _ => exact allN_at hf0_9 J (by omega) (by omega)
  | 10, _ => exact allN_at hf0_10 J (by omega) (by omega)
  | 11, _ => exact allN_at hf0_11 J (by omega) (by omega)
  | 12, _ => exact allN_at hf0_12 J (by omega) (by omega)
  | 13, _ => exact allN_at hf0_13 J (by omega) (by omega)
  | 14, _ => exact allN_at hf0_14 J (by omega) (by omega)
  | 15, _ => exact allN_at hf0_15 J (by omega) (by omega)
  | 16, _ => exact allN_at hf0_16 J (by omega) (by omega)
  | 17, _ => exact allN_at hf0_17 J (by omega) (by omega)
  | 18, _ => exact allN_at hf0_18 J (by omega) (by omega)
  | 19, _ => exact allN_at hf0_19 J (by omega) (by omega)
  | 20, _ => exact allN_at hf0_20 J (by omega) (by omega)
  | 21, _ => exact allN_at hf0_21 J (by omega) (by omega)
  | 22, _ => exact allN_at hf0_22 J (by omega) (by omega)
  | 23, _ => exact allN_at hf0_23 J (by omega) (by omega)
  | 24, _ => exact allN_at hf0_24 J (by omega) (by omega)
  | n + 25, h => exact absurd h (by omega)
theorem htA1 (q J : Nat) (h : q < J) (h1 : J ≤ 25) (h2 : J ≤ 25) : rnHH 1 true q J = true := by
  match q, h with
  | 0, _ => exact allN_at ht1_0 J (by omega) (by omega)
  | 1, _ => exact allN_at ht1_1 J (by omega) (by omega)
  | 2, _ => exact allN_at ht1_2 J (by omega) (by omega)
  | 3, _ => exact allN_at ht1_3 J (by omega) (by omega)
  | 4, _ => exact allN_at ht1_4 J (by omega) (by omega)
  | 5, _ => exact allN_at ht1_5 J (by omega) (by omega)
  | 6, _ => exact allN_at ht1_6 J (by omega) (by omega)
  | 7, _ => exact allN_at ht1_7 J (by omega) (by omega)
  | 8, _ => exact allN_at ht1_8 J (by omega) (by omega)
  | 9, _ => exact allN_at ht1_9 J (by omega) (by omega)
  | 10, _ => exact allN_at ht1_10 J (by omega) (by omega)
  | 11, _ => exact allN_at ht1_11 J (by omega) (by omega)
  | 12, _ => exact allN_at ht1_12 J (by omega) (by omega)
  | 13, _ => exact allN_at ht1_13 J (by omega) (by omega)
  | 14, _ => exact allN_at ht1_14 J (by omega) (by omega)
  | 15, _ => exact allN_at ht1_15 J (by omega) (by omega)
  | 16, _ => exact allN_at ht1_16 J (by omega) (by omega)
  | 17, _ => exact allN_at ht1_17 J (by omega) (by omega)
  | 18, _ => exact allN_at ht1_18 J (by omega) (by omega)
  | 19, _ => exact allN_at ht1_19 J (by omega) (by omega)
  | 20, _ => exact allN_at ht1_20 J (by omega) (by omega)
  | 21, _ => exact allN_at ht1_21 J (by omega) (by omega)
  | 22, _ => exact allN_at ht1_22 J (by omega) (by omega)
  | 23, _ => exact allN_at ht1_23 J (by omega) (by omega)
  | 24, _ => exact allN_at ht1_24 J (by omega) (by omega)
  | n + 25, h => exact absurd h (by omega)
theorem bttA1 (q : Nat) (h : q < 26) : rnHB 1 true true q = true := by
  by_cases h0 : q < 2
  · exact allN_at btt1_0 q (by omega) (by omega)
  by_cases h2 : q < 4
  · exact allN_at btt1_2 q (by omega) (by omega)
  by_cases h4 : q < 6
  · exact allN_at btt1_4 q (by omega) (by omega)
  by_cases h6 : q < 8
  · exact allN_at btt1_6 q (by omega) (by omega)
  by_cases h8 : q < 10
  · exact allN_at btt1_8 q (by omega) (by omega)
  by_cases h10 : q < 12
  · exact allN_at btt1_10 q (by omega) (by omega)
  by_cases h12 : q < 14
  · exact allN_at btt1_12 q (by omega) (by omega)
  by_cases h14 : q < 16
  · exact allN_at btt1_14 q (by omega) (by omega)
  by_cases h16 : q < 18
  · exact allN_at btt1_16 q (by omega) (by omega)
  by_cases h18 : q < 20
  · exact allN_at btt1_18 q (by omega) (by omega)
  by_cases h20 : q < 22
  · exact allN_at btt1_20 q (by omega) (by omega)
  by_cases h22 : q < 24
  · exact allN_at btt1_22 q (by omega) (by omega)
  exact allN_at btt1_24 q (by omega) (by omega)
theorem btfA1 (q : Nat) (h : q < 26) : rnHB 1 true false q = true := by
  by_cases h0 : q < 2
  · exact allN_at btf1_0 q (by omega) (by omega)
  by_cases h2 : q < 4
  · exact allN_at btf1_2 q (by omega) (by omega)
  by_cases h4 : q < 6
  · exact allN_at btf1_4 q (by omega) (by omega)
  by_cases h6 : q < 8
  · exact allN_at btf1_6 q (by omega) (by omega)
  by_cases h8 : q < 10
  · exact allN_at btf1_8 q (by omega) (by omega)
  by_cases h10 : q < 12
  · exact allN_at btf1_10 q (by omega) (by omega)
  by_cases h12 : q < 14
  · exact allN_at btf1_12 q (by omega) (by omega)
  by_cases h14 : q < 16
  · exact allN_at btf1_14 q (by omega) (by omega)
  by_cases h16 : q < 18
  · exact allN_at btf1_16 q (by omega) (by omega)
  by_cases h18 : q < 20
  · exact allN_at btf1_18 q (by omega) (by omega)
  by_cases h20 : q < 22
  · exact allN_at btf1_20 q (by omega) (by omega)
  by_cases h22 : q < 24
  · exact allN_at btf1_22 q (by omega) (by omega)
  exact allN_at btf1_24 q (by omega) (by omega)
theorem hfA1 (q J : Nat) (h : q < J) (h1 : J ≤ 25) (h2 : J ≤ q + 1) : rnHH 1 false q J = true := by
  match q, h with
  | 0, _ => exact allN_at hf1_0 J (by omega) (by omega)
  | 1, _ => exact allN_at hf1_1 J (by omega) (by omega)
  | 2, _ => exact allN_at hf1_2 J (by omega) (by omega)
  | 3, _ => exact allN_at hf1_3 J (by omega) (by omega)
  | 4, _ => exact allN_at hf1_4 J (by omega) (by omega)
  | 5, _ => exact allN_at hf1_5 J (by omega) (by omega)
  | 6, _ => exact allN_at hf1_6 J (by omega) (by omega)
  | 7, _ => exact allN_at hf1_7 J (by omega) (by omega)
  | 8, _ => exact allN_at hf1_8 J (by omega) (by omega)
  | 9, _ => exact allN_at hf1_9 J (by omega) (by omega)
  | 10, _ => exact allN_at hf1_10 J (by omega) (by omega)
  | 11, _ => exact allN_at hf1_11 J (by omega) (by omega)
  | 12, _ => exact allN_at hf1_12 J (by omega) (by omega)
  | 13, _ => exact allN_at hf1_13 J (by omega) (by omega)
  | 14, _ => exact allN_at hf1_14 J (by omega) (by omega)
  | 15, _ => exact allN_at hf1_15 J (by omega) (by omega)
  | 16, _ => exact allN_at hf1_16 J (by omega) (by omega)
  | 17, _ => exact allN_at hf1_17 J (by omega) (by omega)
  | 18, _ => exact allN_at hf1_18 J (by omega) (by omega)
  | 19, _ => exact allN_at hf1_19 J (by omega) (by omega)
  | 20, _ => exact allN_at hf1_20 J (by omega) (by omega)
  | 21, _ => exact allN_at hf1_21 J (by omega) (by omega)
  | 22, _ => exact allN_at hf1_22 J (by omega) (by omega)
  | 23, _ => exact allN_at hf1_23 J (by omega) (by omega)
  | 24, _ => exact allN_at hf1_24 J (by omega) (by omega)
  | n + 25, h => exact absurd h (by omega)
theorem htA2 (q J : Nat) (h : q < J) (h1 : J ≤ 25) (h2 : J ≤ 25) : rnHH 2 true q J = true := by
  match q, h with
  | 0, _ => exact allN_at ht2_0 J (by omega) (by omega)
  | 1, _ => exact allN_at ht2_1 J (by omega) (by omega)
  | 2, _ => exact allN_at ht2_2 J (by omega) (by omega)
  | 3, _ => exact allN_at ht2_3 J (by omega) (by omega)
  | 4, _ => exact allN_at ht2_4 J (by omega) (by omega)
  | 5, _ => exact allN_at ht2_5 J (by omega) (by omega)
  | 6, _ => exact allN_at ht2_6 J (by omega) (by omega)
  | 7, _ => exact allN_at ht2_7 J (by omega) (by omega)
  | 8, _ => exact allN_at ht2_8 J (by omega) (by omega)
  | 9, _ => exact allN_at ht2_9 J (by omega) (by omega)
  | 10, _ => exact allN_at ht2_10 J (by omega) (by omega)
  | 11, _ => exact allN_at ht2_11 J (by omega) (by omega)
  | 12, _ => exact allN_at ht2_12 J (by omega) (by omega)
  | 13, _ => exact allN_at ht2_13 J (by omega) (by omega)
  | 14, _ => exact allN_at ht2_14 J (by omega) (by omega)
  | 15, _ => exact allN_at ht2_15 J (by omega) (by omega)
  | 16, _ => exact allN_at ht2_16 J (by omega) (by omega)
  | 17, _ => exact allN_at ht2_17 J (by omega) (by omega)
  | 18, _ => exact allN_at ht2_18 J (by omega) (by omega)
  | 19, _ => exact allN_at ht2_19 J (by omega) (by omega)
  | 20, _ => exact allN_at ht2_20 J (by omega) (by omega)
  | 21, _ => exact allN_at ht2_21 J (by omega) (by omega)
  | 22, _ => exact allN_at ht2_22 J (by omega) (by omega)
  | 23, _ => exact allN_at ht2_23 J (by omega) (by omega)
  | 24, _ => exact allN_at ht2_24 J (by omega) (by omega)
  | n + 25, h => exact absurd h (by omega)
theorem bttA2 (q : Nat) (h : q < 26) : rnHB 2 true true q = true := by
  by_cases h0 : q < 2
  · exact allN_at btt2_0 q (by omega) (by omega)
  by_cases h2 : q < 4
  · exact allN_at btt2_2 q (by omega) (by omega)
  by_cases h4 : q < 6
  · exact allN_at btt2_4 q (by omega) (by omega)
  by_cases h6 : q < 8
  · exact allN_at btt2_6 q (by omega) (by omega)
  by_cases h8 : q < 10
  · exact allN_at btt2_8 q (by omega) (by omega)
  by_cases h10 : q < 12
  · exact allN_at btt2_10 q (by omega) (by omega)
  by_cases h12 : q < 14
  · exact allN_at btt2_12 q (by omega) (by omega)
  by_cases h14 : q < 16
  · exact allN_at btt2_14 q (by omega) (by omega)
  by_cases h16 : q < 18
  · exact allN_at btt2_16 q (by omega) (by omega)
  by_cases h18 : q < 20
  · exact allN_at btt2_18 q (by omega) (by omega)
  by_cases h20 : q < 22
  · exact allN_at btt2_20 q (by omega) (by omega)
  by_cases h22 : q < 24
  · exact allN_at btt2_22 q (by omega) (by omega)
  exact allN_at btt2_24 q (by omega) (by omega)
theorem btfA2 (q : Nat) (h : q < 26) : rnHB 2 true false q = true := by
  by_cases h0 : q < 2
  · exact allN_at btf2_0 q (by omega) (by omega)
  by_cases h2 : q < 4
  · exact allN_at btf2_2 q (by omega) (by omega)
  by_cases h4 : q < 6
  · exact allN_at btf2_4 q (by omega) (by omega)
  by_cases h6 : q < 8
  · exact allN_at btf2_6 q (by omega) (by omega)
  by_cases h8 : q < 10
  · exact allN_at btf2_8 q (by omega) (by omega)
  by_cases h10 : q < 12
  · exact allN_at btf2_10 q (by omega) (by omega)
  by_cases h12 : q < 14
  · exact allN_at btf2_12 q (by omega) (by omega)
  by_cases h14 : q < 16
  · exact allN_at btf2_14 q (by omega) (by omega)
  by_cases h16 : q < 18
  · exact allN_at btf2_16 q (by omega) (by omega)
  by_cases h18 : q < 20
  · exact allN_at btf2_18 q (by omega) (by omega)
  by_cases h20 : q < 22
  · exact allN_at btf2_20 q (by omega) (by omega)
  by_cases h22 : q < 24
  · exact allN_at btf2_22 q (by omega) (by omega)
  exact allN_at btf2_24 q (by omega) (by omega)
theorem hfA2 (q J : Nat) (h : q < J) (h1 : J ≤ 25) (h2 : J ≤ q + 1) : rnHH 2 false q J = true := by
  match q, h with
  | 0, _ => exact allN_at hf2_0 J (by omega) (by omega)
  | 1, _ => exact allN_at hf2_1 J (by omega) (by omega)
  | 2, _ => exact allN_at hf2_2 J (by omega) (by omega)
  | 3, _ => exact allN_at hf2_3 J (by omega) (by omega)
  | 4, _ => exact allN_at hf2_4 J (by omega) (by omega)
  | 5, _ => exact allN_at hf2_5 J (by omega) (by omega)
  | 6, _ => exact allN_at hf2_6 J (by omega) (by omega)
  | 7, _ => exact allN_at hf2_7 J (by omega) (by omega)
  | 8, _ => exact allN_at hf2_8 J (by omega) (by omega)
  | 9, _ => exact allN_at hf2_9 J (by omega) (by omega)
  | 10, _ => exact allN_at hf2_10 J (by omega) (by omega)
  | 11, _ => exact allN_at hf2_11 J (by omega) (by omega)
  | 12, _ => exact allN_at hf2_12 J (by omega) (by omega)
  | 13, _ => exact allN_at hf2_13 J (by omega) (by omega)
  | 14, _ => exact allN_at hf2_14 J (by omega) (by omega)
  | 15, _ => exact allN_at hf2_15 J (by omega) (by omega)
  | 16, _ => exact allN_at hf2_16 J (by omega) (by omega)
  | 17, _ => exact allN_at hf2_17 J (by omega) (by omega)
  | 18, _ => exact allN_at hf2_18 J (by omega) (by omega)
  | 19, _ => exact allN_at hf2_19 J (by omega) (by omega)
  | 20, _ => exact allN_at hf2_20 J (by omega) (by omega)
  | 21, _ => exact allN_at hf2_21 J (by omega) (by omega)
  | 22, _ => exact allN_at hf2_22 J (by omega) (by omega)
  | 23, _ => exact allN_at hf2_23 J (by omega) (by omega)
  | 24, _ => exact allN_at hf2_24 J (by omega) (by omega)
  | n + 25, h => exact absurd h (by omega)
theorem htA3 (q J : Nat) (h : q < J) (h1 : J ≤ 25) (h2 : J ≤ 25) : rnHH 3 true q J = true := by
  match q, h with
  | 0, _ => exact allN_at ht3_0 J (by omega) (by omega)
  | 1, _ => exact allN_at ht3_1 J (by omega) (by omega)
  | 2, _ => exact allN_at ht3_2 J (by omega) (by omega)
  | 3, _ => exact allN_at ht3_3 J (by omega) (by omega)
  | 4, _ => exact allN_at ht3_4 J (by omega) (by omega)
  | 5, _ => exact allN_at ht3_5 J (by omega) (by omega)
  | 6, _ => exact allN_at ht3_6 J (by omega) (by omega)
  | 7, _ => exact allN_at ht3_7 J (by omega) (by omega)
  | 8, _ => exact allN_at ht3_8 J (by omega) (by omega)
  | 9, _ => exact allN_at ht3_9 J (by omega) (by omega)
  | 10, _ => exact allN_at ht3_10 J (by omega) (by omega)
  | 11, _ => exact allN_at ht3_11 J (by omega) (by omega)
  | 12, _ => exact allN_at ht3_12 J (by omega) (by omega)
  | 13, _ => exact allN_at ht3_13 J (by omega) (by omega)
  | 14, _ => exact allN_at ht3_14 J (by omega) (by omega)
  | 15, _ => exact allN_at ht3_15 J (by omega) (by omega)
  | 16, _ => exact allN_at ht3_16 J (by omega) (by omega)
  | 17, _ => exact allN_at ht3_17 J (by omega) (by omega)
  | 18, _ => exact allN_at ht3_18 J (by omega) (by omega)
  | 19, _ => exact allN_at ht3_19 J (by omega) (by omega)
  | 20, _ => exact allN_at ht3_20 J (by omega) (by omega)
  | 21, _ => exact allN_at ht3_21 J (by omega) (by omega)
  | 22, _ => exact allN_at ht3_22 J (by omega) (by omega)
  | 23, _ => exact allN_at ht3_23 J (by omega) (by omega)
  | 24, _ => exact allN_at ht3_24 J (by omega) (by omega)
  | n + 25, h => exact absurd h (by omega)
theorem bttA3 (q : Nat) (h : q < 26) : rnHB 3 true true q = true := by
  by_cases h0 : q < 2
  · exact allN_at btt3_0 q (by omega) (by omega)
  by_cases h2 : q < 4
  · exact allN_at btt3_2 q (by omega) (by omega)
  by_cases h4 : q < 6
  · exact allN_at btt3_4 q (by omega) (by omega)
  by_cases h6 : q < 8
  · exact allN_at btt3_6 q (by omega) (by omega)
  by_cases h8 : q < 10
  · exact allN_at btt3_8 q (by omega) (by omega)
  by_cases h10 : q < 12
  · exact allN_at btt3_10 q (by omega) (by omega)
  by_cases h12 : q < 14
  · exact allN_at btt3_12 q (by omega) (by omega)
  by_cases h14 : q < 16
  · exact allN_at btt3_14 q (by omega) (by omega)
  by_cases h16 : q < 18
  · exact allN_at btt3_16 q (by omega) (by omega)
  by_cases h18 : q < 20
  · exact allN_at btt3_18 q (by omega) (by omega)
  by_cases h20 : q < 22
  · exact allN_at btt3_20 q (by omega) (by omega)
  by_cases h22 : q < 24
  · exact allN_at btt3_22 q (by omega) (by omega)
  exact allN_at btt3_24 q (by omega) (by omega)
theorem btfA3 (q : Nat) (h : q < 26) : rnHB 3 true false q = true := by
  by_cases h0 : q < 2
  · exact allN_at btf3_0 q (by omega) (by omega)
  by_cases h2 : q < 4
  · exact allN_at btf3_2 q (by omega) (by omega)
  by_cases h4 : q < 6
  · exact allN_at btf3_4 q (by omega) (by omega)
  by_cases h6 : q < 8
  · exact allN_at btf3_6 q (by omega) (by omega)
  by_cases h8 : q < 10
  · exact allN_at btf3_8 q (by omega) (by omega)
  by_cases h10 : q < 12
  · exact allN_at btf3_10 q (by omega) (by omega)
  by_cases h12 : q < 14
  · exact allN_at btf3_12 q (by omega) (by omega)
  by_cases h14 : q < 16
  · exact allN_at btf3_14 q (by omega) (by omega)
  by_cases h16 : q < 18
  · exact allN_at btf3_16 q (by omega) (by omega)
  by_cases h18 : q < 20
  · exact allN_at btf3_18 q (by omega) (by omega)
  by_cases h20 : q < 22
  · exact allN_at btf3_20 q (by omega) (by omega)
  by_cases h22 : q < 24
  · exact allN_at btf3_22 q (by omega) (by omega)
  exact allN_at btf3_24 q (by omega) (by omega)
theorem hfA3 (q J : Nat) (h : q < J) (h1 : J ≤ 25) (h2 : J ≤ q + 1) : rnHH 3 false q J = true := by
  match q, h with
  | 0, _ => exact allN_at hf3_0 J (by omega) (by omega)
  | 1, _ => exact allN_at hf3_1 J (by omega) (by omega)
  | 2, _ => exact allN_at hf3_2 J (by omega) (by omega)
  | 3, _ => exact allN_at hf3_3 J (by omega) (by omega)
  | 4, _ => exact allN_at hf3_4 J (by omega) (by omega)
  | 5, _ => exact allN_at hf3_5 J (by omega) (by omega)
  | 6, _ => exact allN_at hf3_6 J (by omega) (by omega)
  | 7, _ => exact allN_at hf3_7 J (by omega) (by omega)
  | 8, _ => exact allN_at hf3_8 J (by omega) (by omega)
  | 9, _ => exact allN_at hf3_9 J (by omega) (by omega)
  | 10, _ => exact allN_at hf3_10 J (by omega) (by omega)
  | 11, _ => exact allN_at hf3_11 J (by omega) (by omega)
  | 12, _ => exact allN_at hf3_12 J (by omega) (by omega)
  | 13, _ => exact allN_at hf3_13 J (by omega) (by omega)
  | 14, _ => exact allN_at hf3_14 J (by omega) (by omega)
  | 15, _ => exact allN_at hf3_15 J (by omega) (by omega)
  | 16, _ => exact allN_at hf3_16 J (by omega) (by omega)
  | 17, _ => exact allN_at hf3_17 J (by omega) (by omega)
  | 18, _ => exact allN_at hf3_18 J (by omega) (by omega)
  | 19, _ => exact allN_at hf3_19 J (by omega) (by omega)
  | 20, _ => exact allN_at hf3_20 J (by omega) (by omega)
  | 21, _ => exact allN_at hf3_21 J (by omega) (by omega)
  | 22, _ => exact allN_at hf3_22 J (by omega) (by omega)
  | 23, _ => exact allN_at hf3_23 J (by omega) (by omega)
  | 24, _ => exact allN_at hf3_24 J (by omega) (by omega)
  | n + 25, h => exact absurd h (by omega)
theorem htB (v : Nat) (hv : v < 4) (q J : Nat) (h : q < J) (h1 : J ≤ 25) : rnHH v true q J = true := by
  match v, hv with
  | 0, _ => exact htA0 q J h h1 h1
  | 1, _ => exact htA1 q J h h1 h1
  | 2, _ => exact htA2 q J h h1 h1
  | 3, _ => exact htA3 q J h h1 h1
theorem hfB (v : Nat) (hv : v < 4) (q J : Nat) (h : q < J) (h1 : J ≤ 25) (h2 : J ≤ q + 1) : rnHH v false q J = true := by
  match v, hv with
  | 0, _ => exact hfA0 q J h h1 h2
  | 1, _ => exact hfA1 q J h h1 h2
  | 2, _ => exact hfA2 q J h h1 h2
  | 3, _ => exact hfA3 q J h h1 h2
theorem bttB (v : Nat) (hv : v < 4) (q : Nat) (h : q < 26) : rnHB v true true q = true := by
  match v, hv with
  | 0, _ => exact bttA0 q h
  | 1, _ => exact bttA1 q h
  | 2, _ => exact bttA2 q h
  | 3, _ => exact bttA3 q h
theorem bftB (v : Nat) (hv : v < 4)  : rnHB v false true 25 = true := by
  match v, hv with
  | 0, _ => exact bft0_25
  | 1, _ => exact bft1_25
  | 2, _ => exact bft2_25
  | 3, _ => exact bft3_25
theorem btfB (v : Nat) (hv : v < 4) (q : Nat) (h : q < 26) : rnHB v true false q = true := by
  match v, hv with
  | 0, _ => exact btfA0 q h
  | 1, _ => exact btfA1 q h
  | 2, _ => exact btfA2 q h
  | 3, _ => exact btfA3 q h
theorem bffB (v : Nat) (hv : v < 4)  : rnHB v false false 25 = true := by
  match v, hv with
  | 0, _ => exact bff0_25
  | 1, _ => exact bff1_25
  | 2, _ => exact bff2_25
  | 3, _ => exact bff3_25
theorem BB_ (v : Nat) (hv : v < 4)  : (rnBB v true && rnBB v false && (rxO v true && rxO v false)) = true := by
  match v, hv with
  | 0, _ => exact B0
  | 1, _ => exact B1
  | 2, _ => exact B2
  | 3, _ => exact B3
theorem eA1 {a b : Bool} (h : (a && b) = true) : a = true := (Bool.and_eq_true _ _ ▸ h).1
theorem eA2 {a b : Bool} (h : (a && b) = true) : b = true := (Bool.and_eq_true _ _ ▸ h).2
theorem tv3 : Tryz.prog.underlying 3 = some (.int .i64) := by kernel_rfl
theorem bt_mid {l : LB} {a n i : Nat} (h : i < n) : bt ((l.drop a).take n) i = bt l (a + i) := by
  unfold bt
  rw [List.getD_eq_getElem?_getD, List.getD_eq_getElem?_getD, List.getElem?_take, if_pos h, List.getElem?_drop]
theorem hok_app {C : Cx} {A B : LK} (ha : ∀ k r, (k, r) ∈ A → HOk C k r) (hb : ∀ k r, (k, r) ∈ B → HOk C k r) : ∀ k r, (k, r) ∈ A ++ B → HOk C k r := fun k r h => by
  rcases List.mem_append.1 h with h | h
  · exact ha k r h
  · exact hb k r h
def nuI (p : LB) (n : Int) : List Value := [St' p, .int .i64 n, .int .i64 (p.length : Int), .int .i64 (n + 1), St' (List.drop (Int.toNat (n + 1)) p)]
noncomputable def DI (p : LB) (n : Int) : Cx := cx (nuL (nuI p n)) (fun j _ => nuL_one (l := nuI p n) rfl j) 7 laidE laidE_stab
noncomputable def EN : Cx := cx (nuL []) (fun j _ => nuL_one (l := []) rfl j) 7 laidE laidE_stab
noncomputable def ER (y : LB) : Cx := cx (nuL [St' y]) (fun j _ => nuL_one (l := [St' y]) rfl j) 7 laidE laidE_stab
theorem hyI_ok {p : LB} {n : Int} {c : Nat} (h0 : 0 ≤ n) (h1 : n < (p.length : Int)) (h2 : p.length ≤ 2000) (hb : bt p n.toNat = (c : Int)) : ∀ k r, (k, r) ∈ hyI c → HOk (DI p n) k r := by
  unfold hyI
  exact hc (kLenE (isX rfl) (denX rfl) rfl) <| hc (kLt (isX rfl) (isX rfl) (decide_eq_true h1)) <| hc (kIdxE (i := n.toNat) (isX rfl) (isX rfl) (denI .u8 (.ofNat c)) (by omega) (by omega) hb) <| hc (kAdd (isX rfl) (isZ (m := 1) rfl) (denX rfl) rfl (fI64 (by omega) (by omega))) <|
    hc (kMid (P := n + 1) (Q := (p.length : Int)) (isX rfl) (.inr ⟨_, _, rfl, isX rfl⟩) (.inl ⟨rfl, rfl⟩) (by omega) (by omega) (Int.le_refl _) (denX (congrArg (fun l => St' l) dropE))) hnil
theorem hyIX_ok {p : LB} {n : Int} (h : ¬ n < (p.length : Int)) : ∀ k r, (k, r) ∈ hyIX → HOk (DI p n) k r := by
  unfold hyIX
  exact hc (kLenE (isX rfl) (denX rfl) rfl) <| hc (kLt (isX rfl) (isX rfl) (decide_eq_false h)) hnil
def InvI (q J : Nat) (st : Nat × Int) : Prop := q ≤ st.1 ∧ st.1 ≤ J ∧ st.2 = (st.1 : Int) - (q : Int)
theorem rdI (p : LB) (q J : Nat) (hq : q < J) (hJ : J ≤ 25) (hl : p.length ≤ 2000) (h1 : (J : Int) - q = (p.length : Int)) (hB : ∀ c, q ≤ c → c < J → bt p (c - q) = (tx c : Int)) (st : Nat × Int) (X : Nat → Value) (hI : InvI q J st) :
    RoundH EN bodyI [] 58 (.exit 0) 7 100 110 300 (fun _ => epI) (fun st => (hsA 100).getD st.1 []) epIX ((hsA 100).getD J []) (InvI q J) (fun st => J - st.1) (fun st _ => DI p st.2) st X := by
  obtain ⟨c, n⟩ := st
  obtain ⟨i0, i1, i2⟩ := hI
  simp only [] at i0 i1 i2
  by_cases h : c < J
  · refine RoundH.next (tb := tbl (hyI (tx c))) (L := []) (f := 9000) (th := [(0, .x 0), (1, .x 3)]) (sg := sgI c) (c + 1, n + 1) ((tabkOk _ _).hyps (hyI_ok (by omega) (by omega) hl ?_)) (LpOk.nil _) rfl ⟨by show q ≤ c + 1; omega, by show c + 1 ≤ J; omega, by show n + 1 = ((c + 1 : Nat) : Int) - q; omega⟩ (by show J - (c + 1) < J - c; omega) (thXv (v := St' p) rfl rfl <| thXv (v := .int .i64 (n + 1)) rfl rfl thNil) (iA c (by omega))
    rw [show n.toNat = c - q by omega]
    exact hB c i0 h
  · have e : c = J := by omega
    subst e
    exact RoundH.leave (tb := tbl hyIX) (L := []) (f := 9000) (th := []) (sg := []) ((tabkOk _ _).hyps (hyIX_ok (by omega))) (LpOk.nil _) rfl rfl thNil (allN_at xI c (by omega) (by omega))
theorem lfOkI {nu : Nat → Value} {one : ∀ i, i < 1000000 → (nu i).oneCell' = true} (p : LB) (q J : Nat) (hq : q < J) (hJ : J ≤ 25) (hl : p.length ≤ 2000) (h1 : (J : Int) - q = (p.length : Int)) (hB : ∀ c, q ≤ c → c < J → bt p (c - q) = (tx c : Int)) (g12 : nu 12 = St' p) : LfOk (cx nu one 7 laidE laidE_stab) bodyI (lfI q J) := by
  have hk := cA q J hq hJ
  unfold chI at hk
  exact lfOkX (E := EN) (ep := fun _ => epI) (hp := fun st => (hsA 100).getD st.1 []) (epx := epIX) (hpx := (hsA 100).getD J []) (keep := []) (nh := 110) (InvI q J) (fun st => J - st.1) (fun st _ => DI p st.2) (fun _ _ => rfl) (fun _ _ => rfl) (fun _ _ => rfl) (fun _ _ t ht => by cases ht) rfl rfl rfl rfl (eA1 hk) (fun _ => rfl) rfl rfl (q, (0 : Int)) ⟨Nat.le_refl _, by show q ≤ J; omega, by show (0 : Int) = (q : Int) - q; omega⟩ (th0 := [(0, .x 12), (1, .i .i64 (.ofNat 0))]) (sg0 := [(100, 32), (101, 33)])
    (fun X => thXv (v := St' p) g12 rfl <| thCons (show Is _ (.i .i64 (.ofNat 0)) (.int .i64 0) from isI _ _) thNil) (eA1 (eA2 hk)) (thx := []) thNil (eA2 (eA2 hk)) (rdI p q J hq hJ hl h1 hB)
theorem rdR (p : LB) (q : Nat) (hq : q < 26) (hl : p.length ≤ 2000) (h1 : 26 - (q : Int) ≤ (p.length : Int)) (hB : ∀ c, q ≤ c → c < 26 → bt p (c - q) = (tx c : Int)) (st : Nat × Int) (X : Nat → Value) (hI : InvI q 25 st) :
    RoundH (ER (p.drop (26 - q))) bodyI [] 58 .ret 7 100 110 300 (fun _ => epI) (fun st => (hsA 100).getD st.1 []) epIR ((hsA 100).getD 26 []) (InvI q 25) (fun st => 25 - st.1) (fun st _ => DI p st.2) st X := by
  obtain ⟨c, n⟩ := st
  obtain ⟨i0, i1, i2⟩ := hI
  simp only [] at i0 i1 i2
  by_cases h : c < 25
  · refine RoundH.next (tb := tbl (hyI (tx c))) (L := []) (f := 9000) (th := [(0, .x 0), (1, .x 3)]) (sg := sgI c) (c + 1, n + 1) ((tabkOk _ _).hyps (hyI_ok (by omega) (by omega) hl ?_)) (LpOk.nil _) rfl ⟨by show q ≤ c + 1; omega, by show c + 1 ≤ 25; omega, by show n + 1 = ((c + 1 : Nat) : Int) - q; omega⟩ (by show 25 - (c + 1) < 25 - c; omega) (thXv (v := St' p) rfl rfl <| thXv (v := .int .i64 (n + 1)) rfl rfl thNil) (iA c (by omega))
    rw [show n.toNat = c - q by omega]
    exact hB c i0 (by omega)
  · have e : c = 25 := by omega
    subst e
    refine RoundH.leave (tb := tbl (hyI (tx 25))) (L := []) (f := 9000) (th := [(0, .x 4)]) (sg := [(101, 131)]) ((tabkOk _ _).hyps (hyI_ok (by omega) (by omega) hl ?_)) (LpOk.nil _) rfl rfl (thXe (v := St' (List.drop (Int.toNat (n + 1)) p)) (u := St' (p.drop (26 - q))) rfl rfl (by rw [show Int.toNat (n + 1) = 26 - q by omega]) thNil) yI
    rw [show n.toNat = 25 - q by omega]
    exact hB 25 (by omega) (by omega)
theorem lfOkR {nu : Nat → Value} {one : ∀ i, i < 1000000 → (nu i).oneCell' = true} (p y : LB) (q : Nat) (hq : q < 26) (hl : p.length ≤ 2000) (h1 : 26 - (q : Int) ≤ (p.length : Int)) (hB : ∀ c, q ≤ c → c < 26 → bt p (c - q) = (tx c : Int)) (hy : y = p.drop (26 - q)) (g12 : nu 12 = St' p) (g15 : nu 15 = St' y) : LfOk (cx nu one 7 laidE laidE_stab) bodyI (lfR q) := by
  subst hy
  have hk := allN_at cR q (by omega) (by omega)
  unfold chR at hk
  exact lfOkX (E := ER (p.drop (26 - q))) (ep := fun _ => epI) (hp := fun st => (hsA 100).getD st.1 []) (epx := epIR) (hpx := (hsA 100).getD 26 []) (keep := []) (nh := 110) (InvI q 25) (fun st => 25 - st.1) (fun st _ => DI p st.2) (fun _ _ => rfl) (fun _ _ => rfl) (fun _ _ => rfl) (fun _ _ t ht => by cases ht) rfl rfl rfl rfl (eA1 hk) (fun _ => rfl) rfl rfl (q, (0 : Int)) ⟨Nat.le_refl _, by show q ≤ 25; omega, by show (0 : Int) = (q : Int) - q; omega⟩ (th0 := [(0, .x 12), (1, .i .i64 (.ofNat 0))]) (sg0 := [(100, 32), (101, 33)])
    (fun X => thXv (v := St' p) g12 rfl <| thCons (show Is _ (.i .i64 (.ofNat 0)) (.int .i64 0) from isI _ _) thNil) (eA1 (eA2 hk)) (thx := [(15, .x 0)]) (thXv (v := St' (p.drop (26 - q))) rfl g15 thNil) (eA2 (eA2 hk)) (rdR p q hq hl h1 hB)
def wOf (fr : Bool) (a : List Int) (i : Int) : Int := cond fr (nthI a (i % (a.length : Int)).toNat + 1) 1
def prt (v : Nat) (y : LB) : LB := List.getD [y, [], [], wrS y] v []
def hdL (v : Nat) : LB := List.getD [strB 46 23605047990195816458787346071088520349780116605015139794765624846520029364126283435732835343648820701594670152, strB 46 23605047990195816458787346071088520349780116605015139794765624846520029364126283435732835343648820701594670152, strB 51 25954024739437790027095400375585218782597969300194501825586029968472451323085499632887057246259242977264848089326009209928, strB 79 699719122773151099652368017482371917658534646426500772031192367960189780700660834968255910641099587127948890822413447897441614828045918342681871131251651436933130591450307296372760104948808] v []
def pcs (fr : Bool) (a : List Int) (s : LB) : Nat → Int → Int → List LB
  | 0, _, _ => []
  | f + 1, m, i => if (s.length : Int) ≤ m then [] else (if min (s.length : Int) (m + wOf fr a i) ≤ 26 then [] else [(s.drop (max m 26).toNat).take (min (s.length : Int) (m + wOf fr a i) - max m 26).toNat]) ++ pcs fr a s f (min (s.length : Int) (m + wOf fr a i)) (i + 1)
theorem pcs_end {fr : Bool} {a : List Int} {s : LB} {m i : Int} (h : (s.length : Int) ≤ m) : ∀ f, pcs fr a s f m i = []
  | 0 => rfl
  | f + 1 => by rw [pcs, if_pos h]
def nuB (s : LB) (i l md u w m M : Int) (pc rest alx al2 y : LB) : List Value := [St' s, .int .i64 i, .int .i64 (s.length : Int), .bool true, .bool true, .int .i64 l, .int .i64 md, .int .u8 u, .int .i64 u, .int .i64 w, .int .i64 (m + w), .int .i64 M, St' pc, .bool true, .int .i64 (i + 1), St' rest, .bool true, .bool true, St' alx, .int .i64 m, St' al2, .int .i64 (y.length : Int), St' (hexS (y.length : Int)), St' (hexS (y.length : Int) ++ [u8 13, u8 10]), St' (hexS (y.length : Int) ++ ([u8 13, u8 10] ++ y)), St' (hexS (y.length : Int) ++ ([u8 13, u8 10] ++ (y ++ [u8 13, u8 10])))]
noncomputable abbrev DB (s : LB) (a : List Int) (X : Nat → Value) (i l md u w m M : Int) (pc rest alx al2 y : LB) : Cx := cx (nuX (nuB s i l md u w m M pc rest alx al2 y) (rX [rwI .u8 a] X)) (nuX_one (nuL_one (l := nuB s i l md u w m M pc rest alx al2 y) rfl)) 7 laidE laidE_stab
noncomputable abbrev DW (fr : Bool) (s : LB) (a : List Int) (X : Nat → Value) (i m M : Int) (pc rest alx al2 y : LB) : Cx := DB s a X i (a.length : Int) (i % (a.length : Int)) (nthI a (i % (a.length : Int)).toNat) (wOf fr a i) m M pc rest alx al2 y
theorem cmH_ok {fr : Bool} {s : LB} {a : List Int} {X : Nat → Value} {i m M : Int} {rest alx al2 y : LB} {q : Nat} {Ma : AV} (i0 : 0 ≤ i) (i1 : i ≤ 2000) (hm : m = (q : Int)) (hq : (q : Int) < (s.length : Int)) (hs : s.length ≤ 2000) (ha : fr = true → 1 ≤ a.length) (ha2 : a.length ≤ 9223372036854775807) (ra : ∀ n, n ∈ a → 0 ≤ n ∧ n ≤ 255) (hM : M = min (s.length : Int) (m + wOf fr a i))
    (M1 : Is (DW fr s a X i m M ((s.drop m.toNat).take (M - m).toNat) rest alx al2 y) Ma (.int .i64 M)) (M2 : Den (DW fr s a X i m M ((s.drop m.toNat).take (M - m).toNat) rest alx al2 y) Ma (.int .i64 M)) : ∀ k r, (k, r) ∈ cmH fr q Ma → HOk (DW fr s a X i m M ((s.drop m.toNat).take (M - m).toNat) rest alx al2 y) k r := by
  subst hm
  have hn := rngAt (lo := 0) (hi := 255) (l := a) (by decide) (by decide) ra (i % (a.length : Int)).toNat
  cases fr with
  | true =>
    have ha1 := ha rfl
    have hm0 := Int.emod_nonneg i (show (a.length : Int) ≠ 0 by omega)
    have hm1 := Int.emod_lt_of_pos i (show 0 < (a.length : Int) by omega)
    have hwe : wOf true a i = nthI a (i % (a.length : Int)).toNat + 1 := rfl
    unfold cmH
    rw [cond_true]
    refine hc (kLenE (isX rfl) (denX rfl) rfl) <| hc (kLt (isI _ _) (isX rfl) (decide_eq_true hq)) <| hc (kRlI (isX rfl) (denX rfl) rfl) <| hc (kGt (isX rfl) (isZ (m := 0) rfl) (decide_eq_true (by omega))) <| hc (kRem (isX rfl) (isX rfl) (denX rfl) i0 (by omega) rfl) <| hc (kElI (j := (i % (a.length : Int)).toNat) (isX rfl) (isX rfl) (denX rfl) (by omega) (by omega)) <| hc (kConvF (isX rfl) tv3 (denX rfl) (fI64 (by omega) (by omega))) <| hc (kAdd (isX rfl) (isZ (m := 1) rfl) (denX rfl) rfl (fI64 (by omega) (by omega))) <| hc (kAdd (isI _ _) (isX rfl) (denX rfl) rfl (fI64 (by show _ ≤ ((q : Nat) : Int) + (nthI a (i % (a.length : Int)).toNat + 1); omega) (by show ((q : Nat) : Int) + (nthI a (i % (a.length : Int)).toNat + 1) ≤ _; omega))) <| hc (kMin (isX rfl) (isX rfl) M2 hM.symm) <|
      hc (kMid (P := (q : Int)) (Q := M) (isX rfl) (.inr ⟨_, _, rfl, isI _ _⟩) (.inr ⟨_, _, rfl, M1⟩) (by omega) (by omega) (by omega) (denX rfl)) <| hc (kAdd (isX rfl) (isZ (m := 1) rfl) (denX rfl) rfl (fI64 (by omega) (by omega))) hnil
  | false =>
    have hwe : wOf false a i = 1 := rfl
    unfold cmH
    rw [cond_false]
    refine hc (kLenE (isX rfl) (denX rfl) rfl) <| hc (kLt (isI _ _) (isX rfl) (decide_eq_true hq)) <| hc (kMin (isX rfl) (isI _ _) M2 (show min (s.length : Int) ((q + 1 : Nat) : Int) = M by omega)) <|
      hc (kMid (P := (q : Int)) (Q := M) (isX rfl) (.inr ⟨_, _, rfl, isI _ _⟩) (.inr ⟨_, _, rfl, M1⟩) (by omega) (by omega) (by omega) (denX rfl)) <| hc (kAdd (isX rfl) (isZ (m := 1) rfl) (denX rfl) rfl (fI64 (by omega) (by omega))) hnil
theorem cmB_ok {fr : Bool} {s : LB} {a : List Int} {X : Nat → Value} {i m M : Int} {rest alx al2 y : LB} (i0 : 0 ≤ i) (i1 : i ≤ 2000) (hm : 0 ≤ m) (hq : m < (s.length : Int)) (hs : s.length ≤ 2000) (ha : fr = true → 1 ≤ a.length) (ha2 : a.length ≤ 9223372036854775807) (ra : ∀ n, n ∈ a → 0 ≤ n ∧ n ≤ 255) (hM : M = min (s.length : Int) (m + wOf fr a i)) :
    ∀ k r, (k, r) ∈ cmB fr → HOk (DW fr s a X i m M ((s.drop m.toNat).take (M - m).toNat) rest alx al2 y) k r := by
  have hn := rngAt (lo := 0) (hi := 255) (l := a) (by decide) (by decide) ra (i % (a.length : Int)).toNat
  cases fr with
  | true =>
    have ha1 := ha rfl
    have hm0 := Int.emod_nonneg i (show (a.length : Int) ≠ 0 by omega)
    have hm1 := Int.emod_lt_of_pos i (show 0 < (a.length : Int) by omega)
    have hwe : wOf true a i = nthI a (i % (a.length : Int)).toNat + 1 := rfl
    unfold cmB
    rw [cond_true]
    refine hc (kLenE (isX rfl) (denX rfl) rfl) <| hc (kLt (isX rfl) (isX rfl) (decide_eq_true hq)) <| hc (kRlI (isX rfl) (denX rfl) rfl) <| hc (kGt (isX rfl) (isZ (m := 0) rfl) (decide_eq_true (by omega))) <| hc (kRem (isX rfl) (isX rfl) (denX rfl) i0 (by omega) rfl) <| hc (kElI (j := (i % (a.length : Int)).toNat) (isX rfl) (isX rfl) (denX rfl) (by omega) (by omega)) <| hc (kConvF (isX rfl) tv3 (denX rfl) (fI64 (by omega) (by omega))) <| hc (kAdd (isX rfl) (isZ (m := 1) rfl) (denX rfl) rfl (fI64 (by omega) (by omega))) <| hc (kAdd (isX rfl) (isX rfl) (denX rfl) rfl (fI64 (by omega) (by omega))) <| hc (kMin (isX rfl) (isX rfl) (denX rfl) hM.symm) <|
      hc (kMid (P := m) (Q := M) (isX rfl) (.inr ⟨_, _, rfl, isX rfl⟩) (.inr ⟨_, _, rfl, isX rfl⟩) (by omega) (by omega) (by omega) (denX rfl)) <| hc (kAdd (isX rfl) (isZ (m := 1) rfl) (denX rfl) rfl (fI64 (by omega) (by omega))) hnil
  | false =>
    have hwe : wOf false a i = 1 := rfl
    unfold cmB
    rw [cond_false]
    refine hc (kLenE (isX rfl) (denX rfl) rfl) <| hc (kLt (isX rfl) (isX rfl) (decide_eq_true hq)) <| hc (kAdd (isX rfl) (isZ (m := 1) rfl) (denX rfl) rfl (fI64 (by omega) (by omega))) <| hc (kMin (isX rfl) (isX rfl) (denX rfl) hM.symm) <|
      hc (kMid (P := m) (Q := M) (isX rfl) (.inr ⟨_, _, rfl, isX rfl⟩) (.inr ⟨_, _, rfl, isX rfl⟩) (by omega) (by omega) (by omega) (denX rfl)) <| hc (kAdd (isX rfl) (isZ (m := 1) rfl) (denX rfl) rfl (fI64 (by omega) (by omega))) hnil
theorem isHd {C : Cx} (v : Nat) (hv : v < 4) : Is C (hdK v) (St' (hdL v)) := by
  match v, hv with
  | 0, _ => exact isS _ _
  | 1, _ => exact isS _ _
  | 2, _ => exact isS _ _
  | 3, _ => exact isS _ _
theorem hdL_len (v : Nat) (hv : v < 4) : (hdL v).length ≤ 100 := by
  match v, hv with
  | 0, _ => show (strB 46 23605047990195816458787346071088520349780116605015139794765624846520029364126283435732835343648820701594670152).length ≤ 100; rw [strB_length]; omega
  | 1, _ => show (strB 46 23605047990195816458787346071088520349780116605015139794765624846520029364126283435732835343648820701594670152).length ≤ 100; rw [strB_length]; omega
  | 2, _ => show (strB 51 25954024739437790027095400375585218782597969300194501825586029968472451323085499632887057246259242977264848089326009209928).length ≤ 100; rw [strB_length]; omega
  | 3, _ => show (strB 79 699719122773151099652368017482371917658534646426500772031192367960189780700660834968255910641099587127948890822413447897441614828045918342681871131251651436933130591450307296372760104948808).length ≤ 100; rw [strB_length]; omega
theorem ckF_ok {fr : Bool} {s : LB} {a : List Int} {X : Nat → Value} {i m M : Int} {pc rest alx al2 y : LB} {ya : AV} (hy : Is (DW fr s a X i m M pc rest alx al2 y) ya (St' y)) (y1 : 1 ≤ y.length) (y2 : y.length ≤ 300) : ∀ k r, (k, r) ∈ ckF ya → HOk (DW fr s a X i m M pc rest alx al2 y) k r := by
  have hh := hexS_len (n := (y.length : Int))
  unfold ckF
  exact hc (kEqS hy (isSx (l := []) 0 0 rfl) (nilF (by omega))) <| hc (kLenE hy (denX rfl) rfl) <| hc (hokFmt (isX rfl) (isZ (m := 16) rfl) (denX rfl) (by omega) (by omega)) <| hc (kCat (isX rfl) (isSx (l := [u8 13, u8 10]) 2 2573 rfl) (denX rfl) rfl (by simp only [List.length_cons, List.length_nil]; omega)) <|
    hc (kCat (isX rfl) hy (denX rfl) (List.append_assoc _ _ _) (by simp only [List.length_append, List.length_cons, List.length_nil]; omega)) <| hc (kCat (isX rfl) (isSx (l := [u8 13, u8 10]) 2 2573 rfl) (denX rfl) (by rw [List.append_assoc, List.append_assoc]) (by simp only [List.length_append, List.length_cons, List.length_nil]; omega)) hnil
theorem wr_1 {x : LB} (h0 : 1 ≤ x.length) : wrS x = hexS (x.length : Int) ++ ([u8 13, u8 10] ++ (x ++ [u8 13, u8 10])) := by unfold wrS; rw [if_neg (by omega)]
theorem hyHB_ok {fr : Bool} {s : LB} {a : List Int} {X : Nat → Value} {i m M : Int} {pc y alx : LB} (v : Nat) (hv : v < 4) (e : Bool) (he : e = decide (y.length = 0)) (y2 : y.length ≤ 300) : ∀ k r, (k, r) ∈ hyHB v e → HOk (DW fr s a X i m M pc y alx (hdL v ++ prt v y) y) k r := by
  have hl := hdL_len v hv
  have hh := hexS_len (n := (y.length : Int))
  unfold hyHB
  match v, hv with
  | 0, hv => exact hc (kCat (isHd 0 hv) (isX rfl) (denX rfl) rfl (by omega)) <| hc (kCat (isSx (l := []) 0 0 rfl) (isX rfl) (denX rfl) (List.nil_append _) (by rw [List.length_append]; simp only [List.length_nil]; show _ + (_ + y.length) ≤ _; omega)) hnil
  | 1, hv => exact hnil
  | 2, hv => exact hnil
  | 3, hv =>
    cases e with
    | true => exact hc (kEqS (isX rfl) (isSx (l := []) 0 0 rfl) (nilT (by have := of_decide_eq_true he.symm; omega))) hnil
    | false =>
      have y1 : 1 ≤ y.length := by have := of_decide_eq_false he.symm; omega
      have hw : wrS y = hexS (y.length : Int) ++ ([u8 13, u8 10] ++ (y ++ [u8 13, u8 10])) := wr_1 y1
      have hwl : (wrS y).length ≤ 307 := by have := wr_len y; omega
      refine hok_app (ckF_ok (isX rfl) y1 y2) (hc (kCat (n := hdL 3 ++ prt 3 y) (isHd 3 hv) (isX rfl) (denX rfl) ?_ ?_) <| hc (kCat (isSx (l := []) 0 0 rfl) (isX (v := St' (hdL 3 ++ prt 3 y)) rfl) (denX rfl) (List.nil_append _) (by rw [List.length_append]; simp only [List.length_nil]; show _ + (_ + (wrS y).length) ≤ _; omega)) hnil)
      · rw [← hw]; rfl
      · rw [← hw]; omega
theorem lnF_ok {fr : Bool} {s : LB} {a : List Int} {X : Nat → Value} {i m M : Int} {y rest alx al2 : LB} (y1 : 1 ≤ y.length) : ∀ k r, (k, r) ∈ lnF → HOk (DW fr s a X i m M y rest alx al2 y) k r := by
  unfold lnF
  exact hc (kLenE (isX rfl) (denX rfl) rfl) <| hc (kLt (isI _ _) (isX rfl) (decide_eq_true (show ((0 : Nat) : Int) < _ by omega))) hnil
theorem hyBB_ok {fr : Bool} {s : LB} {a : List Int} {X : Nat → Value} {i m M : Int} {y rest alx : LB} (v : Nat) (hv : v < 4) (y1 : 1 ≤ y.length) (y2 : y.length ≤ 300) (ha : alx.length ≤ 100000) : ∀ k r, (k, r) ∈ hyBB v → HOk (DW fr s a X i m M y rest alx (alx ++ prt v y) y) k r := by
  have hh := hexS_len (n := (y.length : Int))
  unfold hyBB
  match v, hv with
  | 0, hv => exact hc (kCat (isSx (l := []) 0 0 rfl) (isX rfl) (denX rfl) (List.nil_append _) (by simp only [List.length_nil]; omega)) <| hc (kCat (isX rfl) (isX rfl) (denX rfl) rfl (by omega)) hnil
  | 1, hv => exact hc (kCat (isX rfl) (isSx (l := []) 0 0 rfl) (denX rfl) (List.append_nil _) (by simp only [List.length_nil]; omega)) hnil
  | 2, hv => exact hc (kCat (isX rfl) (isSx (l := []) 0 0 rfl) (denX rfl) (List.append_nil _) (by simp only [List.length_nil]; omega)) hnil
  | 3, hv =>
    have hw : wrS y = hexS (y.length : Int) ++ ([u8 13, u8 10] ++ (y ++ [u8 13, u8 10])) := wr_1 y1
    have hwl : (wrS y).length ≤ 307 := by have := wr_len y; omega
    refine hok_app (ckF_ok (isX rfl) y1 y2) (hc (kCat (isSx (l := []) 0 0 rfl) (isX rfl) (denX rfl) (List.nil_append _) ?_) <| hc (kCat (n := alx ++ prt 3 y) (isX rfl) (isX rfl) (denX rfl) ?_ ?_) hnil)
    · rw [← hw]; simp only [List.length_nil]; omega
    · rw [← hw]; rfl
    · rw [← hw]; omega
theorem hyOX_ok {fr : Bool} {s : LB} {a : List Int} {X : Nat → Value} {i m M : Int} {pc rest alx al2 y : LB} (h : (s.length : Int) ≤ m) : ∀ k r, (k, r) ∈ hyOX → HOk (DW fr s a X i m M pc rest alx al2 y) k r := by
  unfold hyOX
  exact hc (kLenE (isX rfl) (denX rfl) rfl) <| hc (kLt (isX rfl) (isX rfl) (decide_eq_false (by omega))) hnil
def InvO (fr : Bool) (s : LB) (a : List Int) (v : Nat) (T : LB) (st : Nat × Int × Int × LB × Nat) : Prop := st.1 ≤ 26 ∧ (st.1 < 26 → st.2.1 = (st.1 : Int) ∧ st.2.2.2.1 = []) ∧ (st.1 = 26 → 26 ≤ st.2.1) ∧ st.2.1 ≤ (s.length : Int) ∧ 0 ≤ st.2.2.1 ∧ st.2.2.1 ≤ st.2.1 ∧ (s.length : Int) - st.2.1 ≤ (st.2.2.2.2 : Int) ∧ st.2.2.2.1 ++ (pcs fr a s st.2.2.2.2 st.2.1 st.2.2.1).flatMap (prt v) = T
def mX (fr : Bool) (s : LB) (a : List Int) (m i : Int) : Int := min (s.length : Int) (m + wOf fr a i)
def pcX (fr : Bool) (s : LB) (a : List Int) (m i : Int) : LB := (s.drop m.toNat).take (mX fr s a m i - m).toNat
def rsX (fr : Bool) (s : LB) (a : List Int) (m i : Int) : LB := (pcX fr s a m i).drop (26 - m).toNat
noncomputable def DQ (fr : Bool) (s : LB) (a : List Int) (v : Nat) (st : Nat × Int × Int × LB × Nat) (X : Nat → Value) : Cx := cond (Nat.blt st.1 26) (DW fr s a X st.2.2.1 st.2.1 (mX fr s a st.2.1 st.2.2.1) (pcX fr s a st.2.1 st.2.2.1) (rsX fr s a st.2.1 st.2.2.1) [] (hdL v ++ prt v (rsX fr s a st.2.1 st.2.2.1)) (rsX fr s a st.2.1 st.2.2.1))
  (DW fr s a X st.2.2.1 st.2.1 (mX fr s a st.2.1 st.2.2.1) (pcX fr s a st.2.1 st.2.2.1) [] (hdL v ++ st.2.2.2.1) ((hdL v ++ st.2.2.2.1) ++ prt v (pcX fr s a st.2.1 st.2.2.1)) (pcX fr s a st.2.1 st.2.2.1))
noncomputable def EO (al : LB) : Cx := cx (nuL [St' al]) (fun j _ => nuL_one (l := [St' al]) rfl j) 7 laidE laidE_stab
theorem wOf_bd {fr : Bool} {a : List Int} (ra : ∀ n, n ∈ a → 0 ≤ n ∧ n ≤ 255) (i : Int) : 1 ≤ wOf fr a i ∧ wOf fr a i ≤ 256 := by
  have hn := rngAt (lo := 0) (hi := 255) (l := a) (by decide) (by decide) ra (i % (a.length : Int)).toNat
  unfold wOf
  cases fr with
  | true => rw [cond_true]; omega
  | false => rw [cond_false]; omega
theorem prt_nil (v : Nat) (hv : v < 4) : prt v [] = [] := by
  match v, hv with
  | 0, _ => rfl
  | 1, _ => rfl
  | 2, _ => rfl
  | 3, _ => rfl
theorem rs_eq {s : LB} {q : Nat} {M : Int} (hq : q ≤ 26) (hM : 26 ≤ M) : ((s.drop (q : Int).toNat).take (M - (q : Int)).toNat).drop (26 - (q : Int)).toNat = (s.drop (26 : Int).toNat).take (M - 26).toNat := by
  rw [List.drop_take, List.drop_drop]
  congr 1
  · omega
  · congr 1; omega
theorem thH_ok {fr : Bool} {s : LB} {a : List Int} {X : Nat → Value} {i m M i' m' M' : Int} {pc rest alx al2 y pc' rest' alx' al2' y' : LB} (hi : i + 1 = i') : ThOk (DW fr s a X i m M pc rest alx al2 y) (DW fr s a X i' m' M' pc' rest' alx' al2' y') (thH fr) := by
  subst hi
  cases fr with
  | true => exact thXv (v := St' s) rfl rfl <| thXv (v := .int .i64 (i + 1)) rfl rfl <| thXv (v := rwI .u8 a) rfl rfl thNil
  | false => exact thXv (v := St' s) rfl rfl <| thXv (v := .int .i64 (i + 1)) rfl rfl thNil
theorem thB_ok {fr : Bool} {s : LB} {a : List Int} {X : Nat → Value} {i m M i' m' M' : Int} {pc rest alx al2 y pc' rest' alx' al2' y' : LB} {x : AV} (hx : Is (DW fr s a X i m M pc rest alx al2 y) x (St' alx')) (hi : i + 1 = i') (hm : M = m') : ThOk (DW fr s a X i m M pc rest alx al2 y) (DW fr s a X i' m' M' pc' rest' alx' al2' y') (thB fr x) := by
  subst hm
  exact thCons (show Is _ x (St' alx') from hx) <| thXv (v := .int .i64 M) rfl rfl (thH_ok hi)
theorem x18_ok {fr : Bool} {s : LB} {a : List Int} {X : Nat → Value} {i m M : Int} {pc rest alx y : LB} (v : Nat) (hv : v < 4) : Is (DW fr s a X i m M pc rest alx (hdL v ++ prt v y) y) (x18 v (decide (y.length = 0))) (St' (hdL v ++ prt v y)) := by
  match v, hv with
  | 0, _ => exact isX rfl
  | 1, hv => exact isTo (isHd 1 hv) (congrArg (fun l => St' l) (List.append_nil _).symm)
  | 2, hv => exact isTo (isHd 2 hv) (congrArg (fun l => St' l) (List.append_nil _).symm)
  | 3, hv =>
    unfold x18
    cases hd : decide (y.length = 0) with
    | true => exact isTo (isHd 3 hv) (congrArg (fun l => St' l) (by rw [show y = [] from List.eq_nil_of_length_eq_zero (of_decide_eq_true hd)]; exact (List.append_nil _).symm))
    | false => exact isX rfl
theorem y18_ok {fr : Bool} {s : LB} {a : List Int} {X : Nat → Value} {i m M : Int} {rest y H Z : LB} (v : Nat) (hv : v < 4) : Is (DW fr s a X i m M y rest (H ++ Z) ((H ++ Z) ++ prt v y) y) (y18 v) (St' (H ++ (Z ++ prt v y))) := by
  match v, hv with
  | 0, _ => exact isX (congrArg (fun l => St' l) (List.append_assoc _ _ _))
  | 1, _ => exact isX (congrArg (fun l => St' l) (show H ++ Z = H ++ (Z ++ []) by rw [List.append_nil]))
  | 2, _ => exact isX (congrArg (fun l => St' l) (show H ++ Z = H ++ (Z ++ []) by rw [List.append_nil]))
  | 3, _ => exact isX (congrArg (fun l => St' l) (List.append_assoc _ _ _))
theorem rdO (fr : Bool) (s : LB) (a : List Int) (v : Nat) (T : LB) (hv : v < 4) (hs : s.length ≤ 2000) (hs2 : 26 ≤ s.length) (hT : T.length ≤ 90000) (hb : ∀ c, c < 26 → bt s c = (tx c : Int)) (ha : fr = true → 1 ≤ a.length) (ha2 : a.length ≤ 9223372036854775807) (ra : ∀ n, n ∈ a → 0 ≤ n ∧ n ≤ 255) (st : Nat × Int × Int × LB × Nat) (X : Nat → Value) (hI : InvO fr s a v T st) :
    RoundH (EO (hdL v ++ T)) bodyO [0, 2, 3, 9] 156 (.exit 0) 7 30 40 600 (fun st : Nat × Int × Int × LB × Nat => epO fr st.1) (fun st => hpO v fr st.1) epOX [ansB v] (InvO fr s a v T) (fun st => (s.length - st.2.1).toNat) (fun st X => DQ fr s a v st X) st X := by
  obtain ⟨p, m, i, Xx, f⟩ := st
  obtain ⟨h1, h2, h3, h4, h5, h6, h7, h8⟩ := hI
  simp only [] at h1 h2 h3 h4 h5 h6 h7 h8
  have hw := wOf_bd (fr := fr) ra i
  have hww : fr = false → wOf fr a i = 1 := fun e => by subst e; rfl
  have hXT := congrArg List.length h8
  rw [List.length_append] at hXT
  have hhd := hdL_len v hv
  have hBB := BB_ v hv
  have hMx : mX fr s a m i = min (s.length : Int) (m + wOf fr a i) := rfl
  have hstep : m < (s.length : Int) → ∃ f', f = f' + 1 ∧ (s.length : Int) - mX fr s a m i ≤ (f' : Int) ∧ pcs fr a s f m i = (if mX fr s a m i ≤ 26 then [] else [(s.drop (max m 26).toNat).take (mX fr s a m i - max m 26).toNat]) ++ pcs fr a s f' (mX fr s a m i) (i + 1) := fun hm => by
    obtain ⟨f', rfl⟩ : ∃ f', f = f' + 1 := ⟨f - 1, by omega⟩
    refine ⟨f', rfl, by omega, ?_⟩
    rw [pcs, if_neg (by omega)]; rfl
  rcases Nat.lt_or_ge p 26 with hp | hp
  · obtain ⟨rfl, rfl⟩ := h2 hp
    obtain ⟨f', rfl, hf', hpc⟩ := hstep (by omega)
    have hblt : Nat.blt p 26 = true := by simpa [Nat.blt_eq] using hp
    have hDQ : DQ fr s a v (p, (p : Int), i, [], f' + 1) X = DW fr s a X i (p : Int) (mX fr s a p i) (pcX fr s a p i) (rsX fr s a p i) [] (hdL v ++ prt v (rsX fr s a p i)) (rsX fr s a p i) := by unfold DQ; rw [hblt, cond_true]
    have hlen : ((pcX fr s a p i).length : Int) = mX fr s a p i - p := mid_len (by omega) (by omega) (by omega)
    have hbb : ∀ c, p ≤ c → (c : Int) < mX fr s a p i → c < 26 → bt (pcX fr s a p i) (c - p) = (tx c : Int) := fun c g1 g2 g3 => by
      unfold pcX
      rw [bt_mid (by omega), show (p : Int).toNat + (c - p) = c by omega]
      exact hb c g3
    rcases Int.lt_or_le (mX fr s a p i) 26 with hJ | hJ
    · obtain ⟨J, eJ⟩ : ∃ J : Nat, (J : Int) = mX fr s a p i := ⟨(mX fr s a p i).toNat, by omega⟩
      have HT : AllOk (DQ fr s a v (p, (p : Int), i, [], f' + 1) X) (addLps (tbl (cmH fr p (.i .i64 (.ofNat J)))) 41 fi41 [lfI p J]) := by
        rw [hDQ]
        exact AllOk.lp1 ((tabkOk _ _).hyps (cmH_ok (M := mX fr s a p i) h5 (by omega) rfl (by omega) hs ha ha2 ra rfl (by rw [← eJ]; exact isI .i64 (.ofNat J)) (by rw [← eJ]; exact denI .i64 (.ofNat J)))) (by omega) fi41_at fi41_body (lfCons (lpKnown rfl ⟨0, keyI, lfOkI (pcX fr s a p i) p J (by omega) (by omega) (by omega) (by omega) (fun c g1 g2 => hbb c g1 (by omega) (by omega)) rfl⟩) lfNil)
      have HR : rnHH v fr p J = true := by
        cases fr with
        | true => exact htB v hv p J (by omega) (by omega)
        | false => exact hfB v hv p J (by omega) (by omega) (by have := hww rfl; omega)
      have hbJ : Nat.blt J 26 = true := by rw [Nat.blt_eq]; omega
      have hDJ : ∀ f Z, DQ fr s a v (J, (J : Int), i + 1, Z, f) X = DW fr s a X (i + 1) (J : Int) (mX fr s a J (i + 1)) (pcX fr s a J (i + 1)) (rsX fr s a J (i + 1)) [] (hdL v ++ prt v (rsX fr s a J (i + 1))) (rsX fr s a J (i + 1)) := fun f Z => by unfold DQ; rw [hbJ, cond_true]
      refine RoundH.next (L := []) (f := 9000) (th := thH fr) (sg := sgO) (J, (J : Int), i + 1, [], f') HT (LpOk.nil _) rfl ⟨by show J ≤ 26; omega, fun _ => ⟨rfl, rfl⟩, fun h => by have h : J = 26 := h; omega, by show (J : Int) ≤ _; omega, by show 0 ≤ i + 1; omega, by show i + 1 ≤ (J : Int); omega, by show (s.length : Int) - J ≤ f'; omega, ?_⟩ (by show (s.length - (J : Int)).toNat < (s.length - (p : Int)).toNat; omega) ?_ HR
      · show [] ++ (pcs fr a s f' (J : Int) (i + 1)).flatMap (prt v) = T
        rw [← h8, hpc, if_pos (by omega), ← eJ]; rfl
      · show ThOk (DQ fr s a v (p, (p : Int), i, [], f' + 1) X) (DQ fr s a v (J, (J : Int), i + 1, [], f') X) (thH fr)
        rw [hDQ, hDJ]
        exact thH_ok rfl
    · have hrs : rsX fr s a p i = (s.drop (26 : Int).toNat).take (mX fr s a p i - 26).toNat := rs_eq (by omega) hJ
      have hrl : ((rsX fr s a p i).length : Int) = mX fr s a p i - 26 := by rw [hrs]; exact mid_len (by omega) (by omega) (by omega)
      have HT : AllOk (DQ fr s a v (p, (p : Int), i, [], f' + 1) X) (addLps (tbl (cmH fr p (.x 11) ++ (itF ++ hyHB v (decide ((rsX fr s a p i).length = 0))))) 41 fi41 [lfR p]) := by
        rw [hDQ]
        exact AllOk.lp1 ((tabkOk _ _).hyps (hok_app (cmH_ok (M := mX fr s a p i) h5 (by omega) rfl (by omega) hs ha ha2 ra rfl (isX rfl) (denX rfl)) (hok_app (hc hokM0 hnil) (hyHB_ok v hv _ rfl (by omega))))) (by omega) fi41_at fi41_body (lfCons (lpKnown rfl ⟨0, keyI, lfOkR (pcX fr s a p i) (rsX fr s a p i) p hp (by omega) (by omega) (fun c g1 g2 => hbb c g1 (by omega) g2) (by unfold rsX; congr 1; omega) rfl rfl⟩) lfNil)
      have HR : rnHB v fr (decide ((rsX fr s a p i).length = 0)) p = true := by
        cases fr with
        | true =>
          cases decide ((rsX true s a p i).length = 0) with
          | true => exact bttB v hv p hp
          | false => exact btfB v hv p hp
        | false =>
          obtain rfl : p = 25 := by have := hww rfl; omega
          cases decide ((rsX false s a (25 : Nat) i).length = 0) with
          | true => exact bftB v hv
          | false => exact bffB v hv
      have hD2 : ∀ f Z, DQ fr s a v (26, mX fr s a p i, i + 1, Z, f) X = DW fr s a X (i + 1) (mX fr s a p i) (mX fr s a (mX fr s a p i) (i + 1)) (pcX fr s a (mX fr s a p i) (i + 1)) [] (hdL v ++ Z) ((hdL v ++ Z) ++ prt v (pcX fr s a (mX fr s a p i) (i + 1))) (pcX fr s a (mX fr s a p i) (i + 1)) := fun f Z => rfl
      refine RoundH.next (L := []) (f := 20000) (th := thB fr (x18 v (decide ((rsX fr s a p i).length = 0)))) (sg := sgO) (26, mX fr s a p i, i + 1, prt v (rsX fr s a p i), f') HT (LpOk.nil _) rfl ⟨Nat.le_refl _, fun h => absurd h (by show ¬ (26 : Nat) < 26; omega), fun _ => hJ, by show mX fr s a p i ≤ _; omega, by show 0 ≤ i + 1; omega, by show i + 1 ≤ mX fr s a p i; omega, hf', ?_⟩ (by show (s.length - mX fr s a p i).toNat < (s.length - (p : Int)).toNat; omega) ?_ HR
      · show prt v (rsX fr s a p i) ++ (pcs fr a s f' (mX fr s a p i) (i + 1)).flatMap (prt v) = T
        rw [← h8, hpc, List.nil_append]
        by_cases h26 : mX fr s a p i ≤ 26
        · rw [if_pos h26, show rsX fr s a p i = [] from List.eq_nil_of_length_eq_zero (by omega), prt_nil v hv]; rfl
        · rw [if_neg h26, List.singleton_append, List.flatMap_cons, hrs, show max (p : Int) 26 = 26 by omega]
      · show ThOk (DQ fr s a v (p, (p : Int), i, [], f' + 1) X) (DQ fr s a v (26, mX fr s a p i, i + 1, prt v (rsX fr s a p i), f') X) (thB fr (x18 v (decide ((rsX fr s a p i).length = 0))))
        rw [hDQ, hD2]
        exact thB_ok (x18_ok v hv) rfl rfl
  · have e : p = 26 := by omega
    subst e
    have h3 := h3 rfl
    have hD0 : DQ fr s a v (26, m, i, Xx, f) X = DW fr s a X i m (mX fr s a m i) (pcX fr s a m i) [] (hdL v ++ Xx) ((hdL v ++ Xx) ++ prt v (pcX fr s a m i)) (pcX fr s a m i) := rfl
    rcases Int.lt_or_le m (s.length : Int) with hm | hm
    · obtain ⟨f', rfl, hf', hpc⟩ := hstep hm
      have hlen : ((pcX fr s a m i).length : Int) = mX fr s a m i - m := mid_len (by omega) (by omega) (by omega)
      have hD2 : ∀ f Z, DQ fr s a v (26, mX fr s a m i, i + 1, Z, f) X = DW fr s a X (i + 1) (mX fr s a m i) (mX fr s a (mX fr s a m i) (i + 1)) (pcX fr s a (mX fr s a m i) (i + 1)) [] (hdL v ++ Z) ((hdL v ++ Z) ++ prt v (pcX fr s a (mX fr s a m i) (i + 1))) (pcX fr s a (mX fr s a m i) (i + 1)) := fun f Z => rfl
      have HT : AllOk (DQ fr s a v (26, m, i, Xx, f' + 1) X) (tbl (cmB fr ++ (lnF ++ hyBB v))) := by
        rw [hD0]
        exact (tabkOk _ _).hyps <| hok_app (cmB_ok (M := mX fr s a m i) h5 (by omega) (by omega) hm hs ha ha2 ra rfl) (hok_app (lnF_ok (by omega)) (hyBB_ok v hv (by omega) (by omega) (by rw [List.length_append]; omega)))
      have HR : rnBB v fr = true := by
        cases fr with
        | true => exact eA1 (eA1 hBB)
        | false => exact eA2 (eA1 hBB)
      refine RoundH.next (tb := tbl (cmB fr ++ (lnF ++ hyBB v))) (L := []) (f := 9000) (th := thB fr (y18 v)) (sg := []) (26, mX fr s a m i, i + 1, Xx ++ prt v (pcX fr s a m i), f') HT (LpOk.nil _) rfl ⟨Nat.le_refl _, fun h => absurd h (by show ¬ (26 : Nat) < 26; omega), fun _ => by show 26 ≤ mX fr s a m i; omega, by show mX fr s a m i ≤ _; omega, by show 0 ≤ i + 1; omega, by show i + 1 ≤ mX fr s a m i; omega, hf', ?_⟩ (by show (s.length - mX fr s a m i).toNat < (s.length - m).toNat; omega) ?_ HR
      · show (Xx ++ prt v (pcX fr s a m i)) ++ (pcs fr a s f' (mX fr s a m i) (i + 1)).flatMap (prt v) = T
        rw [← h8, hpc, if_neg (by omega), List.singleton_append, List.flatMap_cons, List.append_assoc, show max m 26 = m by omega]; rfl
      · show ThOk (DQ fr s a v (26, m, i, Xx, f' + 1) X) (DQ fr s a v (26, mX fr s a m i, i + 1, Xx ++ prt v (pcX fr s a m i), f') X) (thB fr (y18 v))
        rw [hD0, hD2]
        exact thB_ok (y18_ok v hv) rfl rfl
    · have hX : Xx = T := by rw [← h8, pcs_end hm]; exact (List.append_nil _).symm
      subst hX
      have HT : AllOk (DQ fr s a v (26, m, i, Xx, f) X) (tbl hyOX) := by
        rw [hD0]
        exact (tabkOk _ _).hyps (hyOX_ok hm)
      refine RoundH.leave (tb := tbl hyOX) (L := []) (f := 9000) (th := [(0, .x 18)]) (sg := []) HT (LpOk.nil _) rfl rfl (by show ThOk (DQ fr s a v (26, m, i, Xx, f) X) _ _; rw [hD0]; exact thXv (v := St' (hdL v ++ Xx)) rfl rfl thNil) ?_
      cases fr with
      | true => exact eA1 (eA2 hBB)
      | false => exact eA2 (eA2 hBB)
theorem lfOkO {nu : Nat → Value} {one : ∀ i, i < 1000000 → (nu i).oneCell' = true} {l : LF} {h : LH} (fr : Bool) (s : LB) (a : List Int) (v : Nat) (T : LB) (hv : v < 4) (hs : s.length ≤ 2000) (hs2 : 26 ≤ s.length) (hT : T.length ≤ 90000) (hb : ∀ c, c < 26 → bt s c = (tx c : Int)) (ha : fr = true → 1 ≤ a.length) (ha2 : a.length ≤ 9223372036854775807) (ra : ∀ n, n ∈ a → 0 ≤ n ∧ n ≤ 255)
    (hTT : (pcs fr a s s.length 0 0).flatMap (prt v) = T)
    (hl : l.hp = some h) (hsm : lfSame l h 156 [0, 2, 3, 9] (.exit 0) 7 30 600 = true) {th0 : LA} {sg0 : List (Nat × Nat)} (hth0 : ∀ X, ThOk (cx nu one 7 laidE laidE_stab) (DQ fr s a v (0, 0, 0, [], s.length) X) th0) (h0 : startOk l h 156 30 40 th0 sg0 (epO fr 0) (hpO v fr 0) = true) {thx : LA} (hthx : ThOk (EO (hdL v ++ T)) (cx nu one 7 laidE laidE_stab) thx) (hx : exitOk l h 156 30 600 thx epOX [ansB v] = true) : LfOk (cx nu one 7 laidE laidE_stab) bodyO l :=
  lfOkX (E := EO (hdL v ++ T)) (ep := fun st : Nat × Int × Int × LB × Nat => epO fr st.1) (hp := fun st => hpO v fr st.1) (epx := epOX) (hpx := [ansB v]) (keep := [0, 2, 3, 9]) (nh := 40) (InvO fr s a v T) (fun st => (s.length - st.2.1).toNat) (fun st X => DQ fr s a v st X)
    (fun st X => by unfold DQ; cases Nat.blt st.1 26 <;> rfl) (fun st X => by unfold DQ; cases Nat.blt st.1 26 <;> rfl) (fun st X => by unfold DQ; cases Nat.blt st.1 26 <;> rfl) (fun st X t ht => by
      have e := fun (l : List Value) => (nuX_keep (l := l) (X := rX [rwI .u8 a] X) (t := t)).trans (rX_keep ((by decide : ∀ t, t ∈ [0, 2, 3, 9] → t < 1000000) t ht))
      unfold DQ; cases Nat.blt st.1 26 <;> exact e _) rfl rfl rfl hl hsm (fun st => by unfold epO; cases fr <;> cases Nat.blt st.1 26 <;> rfl) rfl rfl (0, (0 : Int), (0 : Int), [], s.length)
    ⟨Nat.zero_le _, fun _ => ⟨rfl, rfl⟩, fun h => by have h : (0 : Nat) = 26 := h; omega, by show (0 : Int) ≤ _; omega, Int.le_refl _, Int.le_refl _, by show (s.length : Int) - 0 ≤ ((s.length : Nat) : Int); omega, hTT⟩ hth0 h0 hthx hx (rdO fr s a v T hv hs hs2 hT hb ha ha2 ra)
theorem th0_ok {nu : Nat → Value} {one : ∀ i, i < 1000000 → (nu i).oneCell' = true} {fr : Bool} {s : LB} {a : List Int} {v : Nat} {X : Nat → Value} {x : AV} (hx : Is (cx nu one 7 laidE laidE_stab) x (St' s)) (ha : fr = true → nu 2000000 = rwI .u8 a) : ThOk (cx nu one 7 laidE laidE_stab) (DQ fr s a v (0, 0, 0, [], s.length) X) ((0, x) :: (1, .i .i64 (.ofNat 0)) :: cond fr [(2000000, .x 2000000)] []) := by
  have hD : DQ fr s a v (0, 0, 0, [], s.length) X = DW fr s a X 0 0 (mX fr s a 0 0) (pcX fr s a 0 0) (rsX fr s a 0 0) [] (hdL v ++ prt v (rsX fr s a 0 0)) (rsX fr s a 0 0) := rfl
  rw [hD]
  refine thCons (show Is _ x (St' s) from hx) <| thCons (show Is _ (.i .i64 (.ofNat 0)) (.int .i64 0) from isI _ _) ?_
  cases fr with
  | true => exact thXv (v := rwI .u8 a) (ha rfl) rfl thNil
  | false => exact thNil
theorem thx_ok {nu : Nat → Value} {one : ∀ i, i < 1000000 → (nu i).oneCell' = true} {al : LB} {o : Nat} (h : nu o = St' al) : ThOk (EO al) (cx nu one 7 laidE laidE_stab) [(o, .x 0)] := thXv (v := St' al) rfl h thNil
theorem pcs_ok {fr : Bool} {a : List Int} {s : LB} (ra : ∀ n, n ∈ a → 0 ≤ n ∧ n ≤ 255) (hs2 : 26 ≤ s.length) : ∀ (f : Nat) (m i : Int), 0 ≤ m → m ≤ (s.length : Int) → (s.length : Int) - m ≤ f → (pcs fr a s f m i).flatten = s.drop (max m 26).toNat ∧ ∀ x, x ∈ pcs fr a s f m i → 1 ≤ x.length ∧ x.length ≤ 300
  | 0, m, i, h0, h1, h2 => by
    refine ⟨?_, fun x hx => by cases hx⟩
    rw [show (max m 26).toNat = s.length by omega, List.drop_length]; rfl
  | f + 1, m, i, h0, h1, h2 => by
    have hw := wOf_bd (fr := fr) ra i
    rw [pcs]
    by_cases hm : (s.length : Int) ≤ m
    · rw [if_pos hm]
      refine ⟨?_, fun x hx => by cases hx⟩
      rw [show (max m 26).toNat = s.length by omega, List.drop_length]; rfl
    · rw [if_neg hm]
      generalize hM : min (s.length : Int) (m + wOf fr a i) = M
      obtain ⟨r1, r2⟩ := pcs_ok ra hs2 f M (i + 1) (by omega) (by omega) (by omega)
      by_cases h26 : M ≤ 26
      · rw [if_pos h26, List.nil_append]
        refine ⟨?_, r2⟩
        rw [r1, show max M 26 = max m 26 by omega]
      · rw [if_neg h26]
        have hl := mid_len (l := s) (P := max m 26) (Q := M) (by omega) (by omega) (by omega)
        refine ⟨?_, fun x hx => ?_⟩
        · rw [List.singleton_append, List.flatten_cons, r1, show (max M 26).toNat = (max m 26).toNat + (M - max m 26).toNat by omega, ← List.drop_drop, List.take_append_drop]
        · rw [List.singleton_append] at hx
          rcases List.mem_cons.1 hx with rfl | hx
          · omega
          · exact r2 x hx
theorem flat_id : ∀ l : List LB, l.flatMap (prt 0) = l.flatten
  | [] => rfl
  | x :: l => by rw [List.flatMap_cons, List.flatten_cons, flat_id l]; rfl
theorem flat_nl (v : Nat) (h : v = 1 ∨ v = 2) : ∀ l : List LB, l.flatMap (prt v) = []
  | [] => rfl
  | x :: l => by rw [List.flatMap_cons, flat_nl v h l]; rcases h with rfl | rfl <;> rfl
theorem wr_len8 : ∀ l : List LB, (∀ x, x ∈ l → 1 ≤ x.length ∧ x.length ≤ 300) → (l.flatMap (prt 3)).length ≤ 8 * l.flatten.length
  | [], _ => Nat.le_refl _
  | x :: l, h => by
    have := wr_len8 l fun y hy => h y (List.mem_cons_of_mem _ hy)
    have h1 := h x (List.mem_cons_self ..)
    have h2 := wr_len x
    rw [List.flatMap_cons, List.flatten_cons, List.length_append, List.length_append]
    have : (prt 3 x).length = (wrS x).length := rfl
    omega
def hdT : LB := strB 26 16151229254907670956264125181960069627611852478947867037365331
theorem hdT_len : hdT.length = 26 := strB_length _ _
theorem hdT_bt : ∀ c, c < 26 → bt hdT c = (tx c : Int) := fun c hc => by
  have h : allN (fun c => decide (bt hdT c = (tx c : Int))) 0 26 = true := by kernel_rfl
  exact of_decide_eq_true (allN_at h c (by omega) (by omega))
theorem btApL {a b : LB} {i : Nat} (h : i < a.length) : bt (a ++ b) i = bt a i := by
  unfold bt; rw [List.getD_eq_getElem?_getD, List.getD_eq_getElem?_getD, List.getElem?_append_left h]
theorem hdB (body : LB) : ∀ c, c < 26 → bt (hdT ++ body) c = (tx c : Int) := fun c hc => by
  rw [btApL (by rw [hdT_len]; exact hc)]; exact hdT_bt c hc
/-- the pieces of the body -/
theorem pcB_ex (fr : Bool) (a : List Int) (body : LB) : ∃ l : List LB, l = pcs fr a (hdT ++ body) (hdT ++ body).length 0 0 := ⟨_, rfl⟩
noncomputable def pcB (fr : Bool) (a : List Int) (body : LB) : List LB := Classical.choose (pcB_ex fr a body)
theorem pcB_eq (fr : Bool) (a : List Int) (body : LB) : pcB fr a body = pcs fr a (hdT ++ body) (hdT ++ body).length 0 0 := Classical.choose_spec (pcB_ex fr a body)
noncomputable def outB (v : Nat) (fr : Bool) (a : List Int) (body : LB) : LB := (pcB fr a body).flatMap (prt v)
theorem outB_eq {fr : Bool} {a : List Int} {body : LB} {v : Nat} : (pcs fr a (hdT ++ body) (hdT ++ body).length 0 0).flatMap (prt v) = outB v fr a body := by unfold outB; rw [pcB_eq]
theorem pcB_ok {fr : Bool} {a : List Int} {body : LB} (ra : ∀ n, n ∈ a → 0 ≤ n ∧ n ≤ 255) : (pcB fr a body).flatten = body ∧ ok3 (pcB fr a body) ∧ (outB 3 fr a body).length ≤ 8 * body.length := by
  have hl : (hdT ++ body).length = 26 + body.length := by rw [List.length_append, hdT_len]
  obtain ⟨h1, h2⟩ := pcs_ok (fr := fr) (s := hdT ++ body) ra (by omega) (hdT ++ body).length 0 0 (by omega) (by omega) (by omega)
  have h3 : (pcB fr a body).flatten = body := by
    rw [pcB_eq, h1, show (max (0 : Int) 26).toNat = hdT.length by rw [hdT_len]; rfl, List.drop_left]
  refine ⟨h3, fun x hx => (h2 x (by rw [← pcB_eq]; exact hx)).2, ?_⟩
  have := wr_len8 (pcB fr a body) (by rw [pcB_eq]; exact h2)
  rw [h3] at this; exact this
theorem out0 {fr : Bool} {a : List Int} {body : LB} (ra : ∀ n, n ∈ a → 0 ≤ n ∧ n ≤ 255) : outB 0 fr a body = body := (flat_id _).trans (pcB_ok ra).1
theorem out1 {fr : Bool} {a : List Int} {body : LB} {v : Nat} (h : v = 1 ∨ v = 2) : outB v fr a body = [] := flat_nl v h _
theorem out3 {fr : Bool} {a : List Int} {body : LB} : outB 3 fr a body ++ LSTS = ckS (pcB fr a body) := ck_flat _
theorem out_len {fr : Bool} {a : List Int} {body : LB} (ra : ∀ n, n ∈ a → 0 ≤ n ∧ n ≤ 255) (v : Nat) (hv : v < 4) : (outB v fr a body).length ≤ 8 * body.length := by
  match v, hv with
  | 0, _ => rw [out0 ra]; omega
  | 1, _ => rw [out1 (.inl rfl)]; exact Nat.zero_le _
  | 2, _ => rw [out1 (.inr rfl)]; exact Nat.zero_le _
  | 3, _ => exact (pcB_ok ra).2.2
theorem hdL_0 : hdL 0 = [u8 72, u8 84, u8 84, u8 80, u8 47, u8 49, u8 46, u8 49, u8 32, u8 50, u8 48, u8 49, u8 32, u8 77, u8 97, u8 100, u8 101, u8 13, u8 10, u8 88, u8 58, u8 32, u8 121, u8 13, u8 10, u8 67, u8 111, u8 110, u8 110, u8 101, u8 99, u8 116, u8 105, u8 111, u8 110, u8 58, u8 32, u8 99, u8 108, u8 111, u8 115, u8 101, u8 13, u8 10, u8 13, u8 10] := by decide +kernel
theorem hdL_1 : hdL 1 = [u8 72, u8 84, u8 84, u8 80, u8 47, u8 49, u8 46, u8 49, u8 32, u8 50, u8 48, u8 49, u8 32, u8 77, u8 97, u8 100, u8 101, u8 13, u8 10, u8 88, u8 58, u8 32, u8 121, u8 13, u8 10, u8 67, u8 111, u8 110, u8 110, u8 101, u8 99, u8 116, u8 105, u8 111, u8 110, u8 58, u8 32, u8 99, u8 108, u8 111, u8 115, u8 101, u8 13, u8 10, u8 13, u8 10] := by decide +kernel
theorem hdL_2 : hdL 2 = [u8 72, u8 84, u8 84, u8 80, u8 47, u8 49, u8 46, u8 49, u8 32, u8 50, u8 48, u8 49, u8 32, u8 77, u8 97, u8 100, u8 101, u8 13, u8 10, u8 88, u8 58, u8 32, u8 121, u8 13, u8 10, u8 67, u8 111, u8 110, u8 110, u8 101, u8 99, u8 116, u8 105, u8 111, u8 110, u8 58, u8 32, u8 107, u8 101, u8 101, u8 112, u8 45, u8 97, u8 108, u8 105, u8 118, u8 101, u8 13, u8 10, u8 13, u8 10] := by decide +kernel
theorem hdL_3 : hdL 3 = [u8 72, u8 84, u8 84, u8 80, u8 47, u8 49, u8 46, u8 49, u8 32, u8 50, u8 48, u8 49, u8 32, u8 77, u8 97, u8 100, u8 101, u8 13, u8 10, u8 88, u8 58, u8 32, u8 121, u8 13, u8 10, u8 84, u8 114, u8 97, u8 110, u8 115, u8 102, u8 101, u8 114, u8 45, u8 69, u8 110, u8 99, u8 111, u8 100, u8 105, u8 110, u8 103, u8 58, u8 32, u8 99, u8 104, u8 117, u8 110, u8 107, u8 101, u8 100, u8 13, u8 10, u8 67, u8 111, u8 110, u8 110, u8 101, u8 99, u8 116, u8 105, u8 111, u8 110, u8 58, u8 32, u8 107, u8 101, u8 101, u8 112, u8 45, u8 97, u8 108, u8 105, u8 118, u8 101, u8 13, u8 10, u8 13, u8 10] := by decide +kernel
theorem hdT_l : hdT = [u8 83, u8 116, u8 97, u8 116, u8 117, u8 115, u8 58, u8 32, u8 50, u8 48, u8 49, u8 32, u8 77, u8 97, u8 100, u8 101, u8 13, u8 10, u8 88, u8 58, u8 32, u8 121, u8 13, u8 10, u8 13, u8 10] := by decide +kernel
end Go.Proofs.YtabnmohghnnjaaaGreatDoor.answerBody
