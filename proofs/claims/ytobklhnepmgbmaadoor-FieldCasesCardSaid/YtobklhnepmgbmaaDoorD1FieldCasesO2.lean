/- A part of the proof: an interpreter of the model's own code on partly known states, and that what it answers is what the program answers. No condition of its own. -/
import Derived.Test.YtobklhnepmgbmaaDoorD1FieldCasesO
set_option maxRecDepth 100000
set_option linter.unusedVariables false
set_option linter.unusedSimpArgs false
set_option maxHeartbeats 4000000
namespace Go.Proofs.YtobklhnepmgbmaaDoor.fieldCases
open Go Go.AX Go.Proofs Go.Proofs.YtobklhnepmgbmaaDoor
variable {nu : Nat → Value} {one : ∀ i, i < 1000000 → (nu i).oneCell' = true} {E' : Cx} {x' : Ex} {e' : LA} {h' : LE}
noncomputable def bodyUp0 : Code := loopNo (Tryd.f3.body.getD .skip) 0
theorem keyUp0 : oneKey (loopsOf (Tryd.f3.body.getD .skip)) 7 0 0 = true := by kernel_rfl
def keepUp0 : List Nat := [1]
def epUp0_0 : LA := [(0, .x 0), (5, .sl 3 0 12 12 false), (6, .i .i64 (.ofNat 0))]
def hpUp0_0 : LE := [(3, .b ⟨5, .y 12 31393959233194794397178163043, 0, 0, 0, true, false⟩)]
def nuUp0_0 (up q : Int) : List Value := [.int .u16 (up), .int .u16 (up / 1), .int .u16 ((up / 1) % 2), .int .u16 (up / 1), .int .u16 ((up / 1) % 2)]
def roUp0_0 (up q : Int) : List Value := []
def epUp0_1 : LA := [(0, .x 0), (5, .sl 3 0 12 12 false), (6, .i .i64 (.ofNat 1))]
def hpUp0_1 : LE := [(3, .b ⟨5, .l [.x 1, .i .u8 (.ofNat 111), .i .u8 (.ofNat 110), .i .u8 (.ofNat 116), .i .u8 (.ofNat 101), .i .u8 (.ofNat 110), .i .u8 (.ofNat 116), .i .u8 (.ofNat 45), .i .u8 (.ofNat 116), .i .u8 (.ofNat 121), .i .u8 (.ofNat 112), .i .u8 (.ofNat 101)], 0, 0, 0, true, false⟩)]
def nuUp0_1 (up q : Int) : List Value := [.int .u16 (up), .int .u8 ((czS 99 1 up)), .int .u16 (up / 2), .int .u16 ((up / 2) % 2), .int .u16 (up / 2), .int .u16 ((up / 2) % 2)]
def roUp0_1 (up q : Int) : List Value := []
def epUp0_2 : LA := [(0, .x 0), (5, .sl 3 0 12 12 false), (6, .i .i64 (.ofNat 2))]
def hpUp0_2 : LE := [(3, .b ⟨5, .l [.x 1, .x 2, .i .u8 (.ofNat 110), .i .u8 (.ofNat 116), .i .u8 (.ofNat 101), .i .u8 (.ofNat 110), .i .u8 (.ofNat 116), .i .u8 (.ofNat 45), .i .u8 (.ofNat 116), .i .u8 (.ofNat 121), .i .u8 (.ofNat 112), .i .u8 (.ofNat 101)], 0, 0, 0, true, false⟩)]
def nuUp0_2 (up q : Int) : List Value := [.int .u16 (up), .int .u8 ((czS 99 1 up)), .int .u8 ((czS 111 2 up)), .int .u16 (up / 4), .int .u16 ((up / 4) % 2), .int .u16 (up / 4), .int .u16 ((up / 4) % 2)]
def roUp0_2 (up q : Int) : List Value := []
def epUp0_3 : LA := [(0, .x 0), (5, .sl 3 0 12 12 false), (6, .i .i64 (.ofNat 3))]
def hpUp0_3 : LE := [(3, .b ⟨5, .l [.x 1, .x 2, .x 3, .i .u8 (.ofNat 116), .i .u8 (.ofNat 101), .i .u8 (.ofNat 110), .i .u8 (.ofNat 116), .i .u8 (.ofNat 45), .i .u8 (.ofNat 116), .i .u8 (.ofNat 121), .i .u8 (.ofNat 112), .i .u8 (.ofNat 101)], 0, 0, 0, true, false⟩)]
def nuUp0_3 (up q : Int) : List Value := [.int .u16 (up), .int .u8 ((czS 99 1 up)), .int .u8 ((czS 111 2 up)), .int .u8 ((czS 110 4 up)), .int .u16 (up / 8), .int .u16 ((up / 8) % 2), .int .u16 (up / 8), .int .u16 ((up / 8) % 2)]
def roUp0_3 (up q : Int) : List Value := []
def epUp0_4 : LA := [(0, .x 0), (5, .sl 3 0 12 12 false), (6, .i .i64 (.ofNat 4))]
def hpUp0_4 : LE := [(3, .b ⟨5, .l [.x 1, .x 2, .x 3, .x 4, .i .u8 (.ofNat 101), .i .u8 (.ofNat 110), .i .u8 (.ofNat 116), .i .u8 (.ofNat 45), .i .u8 (.ofNat 116), .i .u8 (.ofNat 121), .i .u8 (.ofNat 112), .i .u8 (.ofNat 101)], 0, 0, 0, true, false⟩)]
def nuUp0_4 (up q : Int) : List Value := [.int .u16 (up), .int .u8 ((czS 99 1 up)), .int .u8 ((czS 111 2 up)), .int .u8 ((czS 110 4 up)), .int .u8 ((czS 116 8 up)), .int .u16 (up / 16), .int .u16 ((up / 16) % 2), .int .u16 (up / 16), .int .u16 ((up / 16) % 2)]
def roUp0_4 (up q : Int) : List Value := []
def epUp0_5 : LA := [(0, .x 0), (5, .sl 3 0 12 12 false), (6, .i .i64 (.ofNat 5))]
def hpUp0_5 : LE := [(3, .b ⟨5, .l [.x 1, .x 2, .x 3, .x 4, .x 5, .i .u8 (.ofNat 110), .i .u8 (.ofNat 116), .i .u8 (.ofNat 45), .i .u8 (.ofNat 116), .i .u8 (.ofNat 121), .i .u8 (.ofNat 112), .i .u8 (.ofNat 101)], 0, 0, 0, true, false⟩)]
def nuUp0_5 (up q : Int) : List Value := [.int .u16 (up), .int .u8 ((czS 99 1 up)), .int .u8 ((czS 111 2 up)), .int .u8 ((czS 110 4 up)), .int .u8 ((czS 116 8 up)), .int .u8 ((czS 101 16 up)), .int .u16 (up / 32), .int .u16 ((up / 32) % 2), .int .u16 (up / 32), .int .u16 ((up / 32) % 2)]
def roUp0_5 (up q : Int) : List Value := []
def epUp0_6 : LA := [(0, .x 0), (5, .sl 3 0 12 12 false), (6, .i .i64 (.ofNat 6))]
def hpUp0_6 : LE := [(3, .b ⟨5, .l [.x 1, .x 2, .x 3, .x 4, .x 5, .x 6, .i .u8 (.ofNat 116), .i .u8 (.ofNat 45), .i .u8 (.ofNat 116), .i .u8 (.ofNat 121), .i .u8 (.ofNat 112), .i .u8 (.ofNat 101)], 0, 0, 0, true, false⟩)]
def nuUp0_6 (up q : Int) : List Value := [.int .u16 (up), .int .u8 ((czS 99 1 up)), .int .u8 ((czS 111 2 up)), .int .u8 ((czS 110 4 up)), .int .u8 ((czS 116 8 up)), .int .u8 ((czS 101 16 up)), .int .u8 ((czS 110 32 up)), .int .u16 (up / 64), .int .u16 ((up / 64) % 2), .int .u16 (up / 64), .int .u16 ((up / 64) % 2)]
def roUp0_6 (up q : Int) : List Value := []
def epUp0_7 : LA := [(0, .x 0), (5, .sl 3 0 12 12 false), (6, .i .i64 (.ofNat 7))]
def hpUp0_7 : LE := [(3, .b ⟨5, .l [.x 1, .x 2, .x 3, .x 4, .x 5, .x 6, .x 7, .i .u8 (.ofNat 45), .i .u8 (.ofNat 116), .i .u8 (.ofNat 121), .i .u8 (.ofNat 112), .i .u8 (.ofNat 101)], 0, 0, 0, true, false⟩)]
def nuUp0_7 (up q : Int) : List Value := [.int .u16 (up), .int .u8 ((czS 99 1 up)), .int .u8 ((czS 111 2 up)), .int .u8 ((czS 110 4 up)), .int .u8 ((czS 116 8 up)), .int .u8 ((czS 101 16 up)), .int .u8 ((czS 110 32 up)), .int .u8 ((czS 116 64 up)), .int .u16 (up / 128), .int .u16 ((up / 128) % 2), .int .u16 (up / 128), .int .u16 ((up / 128) % 2)]
def roUp0_7 (up q : Int) : List Value := []
def epUp0_8 : LA := [(0, .x 0), (5, .sl 3 0 12 12 false), (6, .i .i64 (.ofNat 8))]
def hpUp0_8 : LE := [(3, .b ⟨5, .l [.x 1, .x 2, .x 3, .x 4, .x 5, .x 6, .x 7, .i .u8 (.ofNat 45), .i .u8 (.ofNat 116), .i .u8 (.ofNat 121), .i .u8 (.ofNat 112), .i .u8 (.ofNat 101)], 0, 0, 0, true, false⟩)]
def nuUp0_8 (up q : Int) : List Value := [.int .u16 (up), .int .u8 ((czS 99 1 up)), .int .u8 ((czS 111 2 up)), .int .u8 ((czS 110 4 up)), .int .u8 ((czS 116 8 up)), .int .u8 ((czS 101 16 up)), .int .u8 ((czS 110 32 up)), .int .u8 ((czS 116 64 up)), .int .u16 (up / 256), .int .u16 ((up / 256) % 2), .int .u16 (up / 256), .int .u16 ((up / 256) % 2)]
def roUp0_8 (up q : Int) : List Value := []
def epUp0_9 : LA := [(0, .x 0), (5, .sl 3 0 12 12 false), (6, .i .i64 (.ofNat 9))]
def hpUp0_9 : LE := [(3, .b ⟨5, .l [.x 1, .x 2, .x 3, .x 4, .x 5, .x 6, .x 7, .i .u8 (.ofNat 45), .x 8, .i .u8 (.ofNat 121), .i .u8 (.ofNat 112), .i .u8 (.ofNat 101)], 0, 0, 0, true, false⟩)]
def nuUp0_9 (up q : Int) : List Value := [.int .u16 (up), .int .u8 ((czS 99 1 up)), .int .u8 ((czS 111 2 up)), .int .u8 ((czS 110 4 up)), .int .u8 ((czS 116 8 up)), .int .u8 ((czS 101 16 up)), .int .u8 ((czS 110 32 up)), .int .u8 ((czS 116 64 up)), .int .u8 ((czS 116 256 up)), .int .u16 (up / 512), .int .u16 ((up / 512) % 2), .int .u16 (up / 512), .int .u16 ((up / 512) % 2)]
def roUp0_9 (up q : Int) : List Value := []
def epUp0_10 : LA := [(0, .x 0), (5, .sl 3 0 12 12 false), (6, .i .i64 (.ofNat 10))]
def hpUp0_10 : LE := [(3, .b ⟨5, .l [.x 1, .x 2, .x 3, .x 4, .x 5, .x 6, .x 7, .i .u8 (.ofNat 45), .x 8, .x 9, .i .u8 (.ofNat 112), .i .u8 (.ofNat 101)], 0, 0, 0, true, false⟩)]
def nuUp0_10 (up q : Int) : List Value := [.int .u16 (up), .int .u8 ((czS 99 1 up)), .int .u8 ((czS 111 2 up)), .int .u8 ((czS 110 4 up)), .int .u8 ((czS 116 8 up)), .int .u8 ((czS 101 16 up)), .int .u8 ((czS 110 32 up)), .int .u8 ((czS 116 64 up)), .int .u8 ((czS 116 256 up)), .int .u8 ((czS 121 512 up)), .int .u16 (up / 1024), .int .u16 ((up / 1024) % 2), .int .u16 (up / 1024), .int .u16 ((up / 1024) % 2)]
def roUp0_10 (up q : Int) : List Value := []
def epUp0_11 : LA := [(0, .x 0), (5, .sl 3 0 12 12 false), (6, .i .i64 (.ofNat 11))]
def hpUp0_11 : LE := [(3, .b ⟨5, .l [.x 1, .x 2, .x 3, .x 4, .x 5, .x 6, .x 7, .i .u8 (.ofNat 45), .x 8, .x 9, .x 10, .i .u8 (.ofNat 101)], 0, 0, 0, true, false⟩)]
def nuUp0_11 (up q : Int) : List Value := [.int .u16 (up), .int .u8 ((czS 99 1 up)), .int .u8 ((czS 111 2 up)), .int .u8 ((czS 110 4 up)), .int .u8 ((czS 116 8 up)), .int .u8 ((czS 101 16 up)), .int .u8 ((czS 110 32 up)), .int .u8 ((czS 116 64 up)), .int .u8 ((czS 116 256 up)), .int .u8 ((czS 121 512 up)), .int .u8 ((czS 112 1024 up)), .int .u16 (up / 2048), .int .u16 ((up / 2048) % 2), .int .u16 (up / 2048), .int .u16 ((up / 2048) % 2)]
def roUp0_11 (up q : Int) : List Value := []
def epUp0_12 : LA := [(0, .x 0), (5, .sl 3 0 12 12 false), (6, .i .i64 (.ofNat 12))]
def hpUp0_12 : LE := [(3, .b ⟨5, .l [.x 1, .x 2, .x 3, .x 4, .x 5, .x 6, .x 7, .i .u8 (.ofNat 45), .x 8, .x 9, .x 10, .x 11], 0, 0, 0, true, false⟩)]
def nuUp0_12 (up q : Int) : List Value := [.int .u16 (up), .int .u8 ((czS 99 1 up)), .int .u8 ((czS 111 2 up)), .int .u8 ((czS 110 4 up)), .int .u8 ((czS 116 8 up)), .int .u8 ((czS 101 16 up)), .int .u8 ((czS 110 32 up)), .int .u8 ((czS 116 64 up)), .int .u8 ((czS 116 256 up)), .int .u8 ((czS 121 512 up)), .int .u8 ((czS 112 1024 up)), .int .u8 ((czS 101 2048 up))]
def roUp0_12 (up q : Int) : List Value := []
def epUp0 (st : Nat × Int) : LA := if st.1 = 0 then epUp0_0 else if st.1 = 1 then epUp0_1 else if st.1 = 2 then epUp0_2 else if st.1 = 3 then epUp0_3 else if st.1 = 4 then epUp0_4 else if st.1 = 5 then epUp0_5 else if st.1 = 6 then epUp0_6 else if st.1 = 7 then epUp0_7 else if st.1 = 8 then epUp0_8 else if st.1 = 9 then epUp0_9 else if st.1 = 10 then epUp0_10 else if st.1 = 11 then epUp0_11 else epUp0_12
def hpUp0 (st : Nat × Int) : LE := if st.1 = 0 then hpUp0_0 else if st.1 = 1 then hpUp0_1 else if st.1 = 2 then hpUp0_2 else if st.1 = 3 then hpUp0_3 else if st.1 = 4 then hpUp0_4 else if st.1 = 5 then hpUp0_5 else if st.1 = 6 then hpUp0_6 else if st.1 = 7 then hpUp0_7 else if st.1 = 8 then hpUp0_8 else if st.1 = 9 then hpUp0_9 else if st.1 = 10 then hpUp0_10 else if st.1 = 11 then hpUp0_11 else hpUp0_12
def nuUp0 (up : Int) (st : Nat × Int) : List Value := if st.1 = 0 then nuUp0_0 up (st.2) else if st.1 = 1 then nuUp0_1 up (st.2) else if st.1 = 2 then nuUp0_2 up (st.2) else if st.1 = 3 then nuUp0_3 up (st.2) else if st.1 = 4 then nuUp0_4 up (st.2) else if st.1 = 5 then nuUp0_5 up (st.2) else if st.1 = 6 then nuUp0_6 up (st.2) else if st.1 = 7 then nuUp0_7 up (st.2) else if st.1 = 8 then nuUp0_8 up (st.2) else if st.1 = 9 then nuUp0_9 up (st.2) else if st.1 = 10 then nuUp0_10 up (st.2) else if st.1 = 11 then nuUp0_11 up (st.2) else nuUp0_12 up (st.2)
def roUp0 (up : Int) (st : Nat × Int) : List Value := if st.1 = 0 then roUp0_0 up (st.2) else if st.1 = 1 then roUp0_1 up (st.2) else if st.1 = 2 then roUp0_2 up (st.2) else if st.1 = 3 then roUp0_3 up (st.2) else if st.1 = 4 then roUp0_4 up (st.2) else if st.1 = 5 then roUp0_5 up (st.2) else if st.1 = 6 then roUp0_6 up (st.2) else if st.1 = 7 then roUp0_7 up (st.2) else if st.1 = 8 then roUp0_8 up (st.2) else if st.1 = 9 then roUp0_9 up (st.2) else if st.1 = 10 then roUp0_10 up (st.2) else if st.1 = 11 then roUp0_11 up (st.2) else roUp0_12 up (st.2)
theorem onUp0 (up : Int) (st : Nat × Int) : ∀ j, (nuL (nuUp0 up st) j).oneCell' = true := by
  intro j
  unfold nuUp0
  by_cases g0 : st.1 = 0
  · rw [if_pos g0]; exact nuL_one (l := nuUp0_0 up (st.2)) rfl j
  rw [if_neg g0]
  by_cases g1 : st.1 = 1
  · rw [if_pos g1]; exact nuL_one (l := nuUp0_1 up (st.2)) rfl j
  rw [if_neg g1]
  by_cases g2 : st.1 = 2
  · rw [if_pos g2]; exact nuL_one (l := nuUp0_2 up (st.2)) rfl j
  rw [if_neg g2]
  by_cases g3 : st.1 = 3
  · rw [if_pos g3]; exact nuL_one (l := nuUp0_3 up (st.2)) rfl j
  rw [if_neg g3]
  by_cases g4 : st.1 = 4
  · rw [if_pos g4]; exact nuL_one (l := nuUp0_4 up (st.2)) rfl j
  rw [if_neg g4]
  by_cases g5 : st.1 = 5
  · rw [if_pos g5]; exact nuL_one (l := nuUp0_5 up (st.2)) rfl j
  rw [if_neg g5]
  by_cases g6 : st.1 = 6
  · rw [if_pos g6]; exact nuL_one (l := nuUp0_6 up (st.2)) rfl j
  rw [if_neg g6]
  by_cases g7 : st.1 = 7
  · rw [if_pos g7]; exact nuL_one (l := nuUp0_7 up (st.2)) rfl j
  rw [if_neg g7]
  by_cases g8 : st.1 = 8
  · rw [if_pos g8]; exact nuL_one (l := nuUp0_8 up (st.2)) rfl j
  rw [if_neg g8]
  by_cases g9 : st.1 = 9
  · rw [if_pos g9]; exact nuL_one (l := nuUp0_9 up (st.2)) rfl j
  rw [if_neg g9]
  by_cases g10 : st.1 = 10
  · rw [if_pos g10]; exact nuL_one (l := nuUp0_10 up (st.2)) rfl j
  rw [if_neg g10]
  by_cases g11 : st.1 = 11
  · rw [if_pos g11]; exact nuL_one (l := nuUp0_11 up (st.2)) rfl j
  rw [if_neg g11]
  exact nuL_one (l := nuUp0_12 up (st.2)) rfl j
theorem ebUp0 (st : Nat × Int) : (lfB (epUp0 st) && lfC keepUp0) = true := by
  unfold epUp0
  by_cases g0 : st.1 = 0
  · rw [if_pos g0]; rfl
  rw [if_neg g0]
  by_cases g1 : st.1 = 1
  · rw [if_pos g1]; rfl
  rw [if_neg g1]
  by_cases g2 : st.1 = 2
  · rw [if_pos g2]; rfl
  rw [if_neg g2]
  by_cases g3 : st.1 = 3
  · rw [if_pos g3]; rfl
  rw [if_neg g3]
  by_cases g4 : st.1 = 4
  · rw [if_pos g4]; rfl
  rw [if_neg g4]
  by_cases g5 : st.1 = 5
  · rw [if_pos g5]; rfl
  rw [if_neg g5]
  by_cases g6 : st.1 = 6
  · rw [if_pos g6]; rfl
  rw [if_neg g6]
  by_cases g7 : st.1 = 7
  · rw [if_pos g7]; rfl
  rw [if_neg g7]
  by_cases g8 : st.1 = 8
  · rw [if_pos g8]; rfl
  rw [if_neg g8]
  by_cases g9 : st.1 = 9
  · rw [if_pos g9]; rfl
  rw [if_neg g9]
  by_cases g10 : st.1 = 10
  · rw [if_pos g10]; rfl
  rw [if_neg g10]
  by_cases g11 : st.1 = 11
  · rw [if_pos g11]; rfl
  rw [if_neg g11]
  rfl
noncomputable def DUp0 (up : Int) (st : Nat × Int) (X : Nat → Value) : Cx := cx (nuX (nuUp0 up st) (rX (roUp0 up st) X)) (nuX_one (onUp0 up st)) 0 laidE laidE_stab
def InvUp0 (up : Int) (st : Nat × Int) : Prop := (0 ≤ up) ∧ (up ≤ 65535) ∧ ((st.1) < 13)
abbrev CjUp0 (up : Int) (tag : Nat) (q : Int) : Prop := (0 ≤ up) ∧ (up ≤ 65535) ∧ (tag < 13)
theorem mkIUp0 (up : Int) (tag : Nat) (q : Int) (h : CjUp0 up tag q) : InvUp0 up (tag, q) := h
theorem unIUp0 (up : Int) (tag : Nat) (q : Int) (h : InvUp0 up (tag, q)) : (0 ≤ up) ∧ (up ≤ 65535) ∧ (tag < 13) := h
def muUp0 (up : Int) (st : Nat × Int) : Nat := (12 - (st.1))
abbrev RHUp0 (up : Int) (E' : Cx) (ex' : Ex) (epx' : LA) (hpx' : LE) (st : Nat × Int) (X : Nat → Value) : Prop := RoundH E' bodyUp0 keepUp0 80 ex' 3 5 5 33 epUp0 hpUp0 epx' hpx' (InvUp0 up) (muUp0 up) (DUp0 up) st X
noncomputable abbrev RNUp0_0 (h : LK) (x : Ex) (th : LA) (sg : List (Nat × Nat)) (m : Nat) (ep : LA) (hp : LE) : Bool := okRdH (code (tbl h) 3000 [] bodyUp0 (envOf (headOf epUp0_0 keepUp0) 80) ⟨lhSet hpUp0_0 .leaf, 5, 0, 0⟩) x keepUp0 80 33 th sg 5 m ep hp
theorem stUp0_0 (up q : Int) {X : Nat → Value} {h : LK} (y : Nat × Int) {th : LA} {sg : List (Nat × Nat)} (ho : ∀ a' r', (a', r') ∈ h → HOk (cx (nuX (nuUp0_0 up q) (rX (roUp0_0 up q) X)) (nuX_one (nuL_one (l := nuUp0_0 up q) rfl)) 0 laidE laidE_stab) a' r') (hy : InvUp0 up y) (lt : muUp0 up y < muUp0 up (0, q)) (ht : ThOk (cx (nuX (nuUp0_0 up q) (rX (roUp0_0 up q) X)) (nuX_one (nuL_one (l := nuUp0_0 up q) rfl)) 0 laidE laidE_stab) (DUp0 up y X) th) (run : RNUp0_0 h .normal th sg 5 (epUp0 y) (hpUp0 y) = true) : RHUp0 up E' x' e' h' (0, q) X :=
  RoundH.next (tb := tbl h) (L := []) (f := 3000) y ((tabkOk _ _).hyps ho) (LpOk.nil _) rfl hy lt ht run
theorem lvUp0_0 (up q : Int) {X : Nat → Value} {h : LK} {th : LA} {sg : List (Nat × Nat)} (hne : exB x' .normal = false) (ho : ∀ a' r', (a', r') ∈ h → HOk (cx (nuX (nuUp0_0 up q) (rX (roUp0_0 up q) X)) (nuX_one (nuL_one (l := nuUp0_0 up q) rfl)) 0 laidE laidE_stab) a' r') (ht : ThOk (cx (nuX (nuUp0_0 up q) (rX (roUp0_0 up q) X)) (nuX_one (nuL_one (l := nuUp0_0 up q) rfl)) 0 laidE laidE_stab) E' th) (run : RNUp0_0 h x' th sg 33 e' h' = true) : RHUp0 up E' x' e' h' (0, q) X :=
  RoundH.leave (tb := tbl h) (L := []) (f := 3000) ((tabkOk _ _).hyps ho) (LpOk.nil _) rfl hne ht run
noncomputable abbrev RNUp0_1 (h : LK) (x : Ex) (th : LA) (sg : List (Nat × Nat)) (m : Nat) (ep : LA) (hp : LE) : Bool := okRdH (code (tbl h) 3000 [] bodyUp0 (envOf (headOf epUp0_1 keepUp0) 80) ⟨lhSet hpUp0_1 .leaf, 5, 0, 0⟩) x keepUp0 80 33 th sg 5 m ep hp
theorem stUp0_1 (up q : Int) {X : Nat → Value} {h : LK} (y : Nat × Int) {th : LA} {sg : List (Nat × Nat)} (ho : ∀ a' r', (a', r') ∈ h → HOk (cx (nuX (nuUp0_1 up q) (rX (roUp0_1 up q) X)) (nuX_one (nuL_one (l := nuUp0_1 up q) rfl)) 0 laidE laidE_stab) a' r') (hy : InvUp0 up y) (lt : muUp0 up y < muUp0 up (1, q)) (ht : ThOk (cx (nuX (nuUp0_1 up q) (rX (roUp0_1 up q) X)) (nuX_one (nuL_one (l := nuUp0_1 up q) rfl)) 0 laidE laidE_stab) (DUp0 up y X) th) (run : RNUp0_1 h .normal th sg 5 (epUp0 y) (hpUp0 y) = true) : RHUp0 up E' x' e' h' (1, q) X :=
  RoundH.next (tb := tbl h) (L := []) (f := 3000) y ((tabkOk _ _).hyps ho) (LpOk.nil _) rfl hy lt ht run
theorem lvUp0_1 (up q : Int) {X : Nat → Value} {h : LK} {th : LA} {sg : List (Nat × Nat)} (hne : exB x' .normal = false) (ho : ∀ a' r', (a', r') ∈ h → HOk (cx (nuX (nuUp0_1 up q) (rX (roUp0_1 up q) X)) (nuX_one (nuL_one (l := nuUp0_1 up q) rfl)) 0 laidE laidE_stab) a' r') (ht : ThOk (cx (nuX (nuUp0_1 up q) (rX (roUp0_1 up q) X)) (nuX_one (nuL_one (l := nuUp0_1 up q) rfl)) 0 laidE laidE_stab) E' th) (run : RNUp0_1 h x' th sg 33 e' h' = true) : RHUp0 up E' x' e' h' (1, q) X :=
  RoundH.leave (tb := tbl h) (L := []) (f := 3000) ((tabkOk _ _).hyps ho) (LpOk.nil _) rfl hne ht run
noncomputable abbrev RNUp0_2 (h : LK) (x : Ex) (th : LA) (sg : List (Nat × Nat)) (m : Nat) (ep : LA) (hp : LE) : Bool := okRdH (code (tbl h) 3000 [] bodyUp0 (envOf (headOf epUp0_2 keepUp0) 80) ⟨lhSet hpUp0_2 .leaf, 5, 0, 0⟩) x keepUp0 80 33 th sg 5 m ep hp
theorem stUp0_2 (up q : Int) {X : Nat → Value} {h : LK} (y : Nat × Int) {th : LA} {sg : List (Nat × Nat)} (ho : ∀ a' r', (a', r') ∈ h → HOk (cx (nuX (nuUp0_2 up q) (rX (roUp0_2 up q) X)) (nuX_one (nuL_one (l := nuUp0_2 up q) rfl)) 0 laidE laidE_stab) a' r') (hy : InvUp0 up y) (lt : muUp0 up y < muUp0 up (2, q)) (ht : ThOk (cx (nuX (nuUp0_2 up q) (rX (roUp0_2 up q) X)) (nuX_one (nuL_one (l := nuUp0_2 up q) rfl)) 0 laidE laidE_stab) (DUp0 up y X) th) (run : RNUp0_2 h .normal th sg 5 (epUp0 y) (hpUp0 y) = true) : RHUp0 up E' x' e' h' (2, q) X :=
  RoundH.next (tb := tbl h) (L := []) (f := 3000) y ((tabkOk _ _).hyps ho) (LpOk.nil _) rfl hy lt ht run
theorem lvUp0_2 (up q : Int) {X : Nat → Value} {h : LK} {th : LA} {sg : List (Nat × Nat)} (hne : exB x' .normal = false) (ho : ∀ a' r', (a', r') ∈ h → HOk (cx (nuX (nuUp0_2 up q) (rX (roUp0_2 up q) X)) (nuX_one (nuL_one (l := nuUp0_2 up q) rfl)) 0 laidE laidE_stab) a' r') (ht : ThOk (cx (nuX (nuUp0_2 up q) (rX (roUp0_2 up q) X)) (nuX_one (nuL_one (l := nuUp0_2 up q) rfl)) 0 laidE laidE_stab) E' th) (run : RNUp0_2 h x' th sg 33 e' h' = true) : RHUp0 up E' x' e' h' (2, q) X :=
  RoundH.leave (tb := tbl h) (L := []) (f := 3000) ((tabkOk _ _).hyps ho) (LpOk.nil _) rfl hne ht run
noncomputable abbrev RNUp0_3 (h : LK) (x : Ex) (th : LA) (sg : List (Nat × Nat)) (m : Nat) (ep : LA) (hp : LE) : Bool := okRdH (code (tbl h) 3000 [] bodyUp0 (envOf (headOf epUp0_3 keepUp0) 80) ⟨lhSet hpUp0_3 .leaf, 5, 0, 0⟩) x keepUp0 80 33 th sg 5 m ep hp
theorem stUp0_3 (up q : Int) {X : Nat → Value} {h : LK} (y : Nat × Int) {th : LA} {sg : List (Nat × Nat)} (ho : ∀ a' r', (a', r') ∈ h → HOk (cx (nuX (nuUp0_3 up q) (rX (roUp0_3 up q) X)) (nuX_one (nuL_one (l := nuUp0_3 up q) rfl)) 0 laidE laidE_stab) a' r') (hy : InvUp0 up y) (lt : muUp0 up y < muUp0 up (3, q)) (ht : ThOk (cx (nuX (nuUp0_3 up q) (rX (roUp0_3 up q) X)) (nuX_one (nuL_one (l := nuUp0_3 up q) rfl)) 0 laidE laidE_stab) (DUp0 up y X) th) (run : RNUp0_3 h .normal th sg 5 (epUp0 y) (hpUp0 y) = true) : RHUp0 up E' x' e' h' (3, q) X :=
  RoundH.next (tb := tbl h) (L := []) (f := 3000) y ((tabkOk _ _).hyps ho) (LpOk.nil _) rfl hy lt ht run
theorem lvUp0_3 (up q : Int) {X : Nat → Value} {h : LK} {th : LA} {sg : List (Nat × Nat)} (hne : exB x' .normal = false) (ho : ∀ a' r', (a', r') ∈ h → HOk (cx (nuX (nuUp0_3 up q) (rX (roUp0_3 up q) X)) (nuX_one (nuL_one (l := nuUp0_3 up q) rfl)) 0 laidE laidE_stab) a' r') (ht : ThOk (cx (nuX (nuUp0_3 up q) (rX (roUp0_3 up q) X)) (nuX_one (nuL_one (l := nuUp0_3 up q) rfl)) 0 laidE laidE_stab) E' th) (run : RNUp0_3 h x' th sg 33 e' h' = true) : RHUp0 up E' x' e' h' (3, q) X :=
  RoundH.leave (tb := tbl h) (L := []) (f := 3000) ((tabkOk _ _).hyps ho) (LpOk.nil _) rfl hne ht run
noncomputable abbrev RNUp0_4 (h : LK) (x : Ex) (th : LA) (sg : List (Nat × Nat)) (m : Nat) (ep : LA) (hp : LE) : Bool := okRdH (code (tbl h) 3000 [] bodyUp0 (envOf (headOf epUp0_4 keepUp0) 80) ⟨lhSet hpUp0_4 .leaf, 5, 0, 0⟩) x keepUp0 80 33 th sg 5 m ep hp
theorem stUp0_4 (up q : Int) {X : Nat → Value} {h : LK} (y : Nat × Int) {th : LA} {sg : List (Nat × Nat)} (ho : ∀ a' r', (a', r') ∈ h → HOk (cx (nuX (nuUp0_4 up q) (rX (roUp0_4 up q) X)) (nuX_one (nuL_one (l := nuUp0_4 up q) rfl)) 0 laidE laidE_stab) a' r') (hy : InvUp0 up y) (lt : muUp0 up y < muUp0 up (4, q)) (ht : ThOk (cx (nuX (nuUp0_4 up q) (rX (roUp0_4 up q) X)) (nuX_one (nuL_one (l := nuUp0_4 up q) rfl)) 0 laidE laidE_stab) (DUp0 up y X) th) (run : RNUp0_4 h .normal th sg 5 (epUp0 y) (hpUp0 y) = true) : RHUp0 up E' x' e' h' (4, q) X :=
  RoundH.next (tb := tbl h) (L := []) (f := 3000) y ((tabkOk _ _).hyps ho) (LpOk.nil _) rfl hy lt ht run
theorem lvUp0_4 (up q : Int) {X : Nat → Value} {h : LK} {th : LA} {sg : List (Nat × Nat)} (hne : exB x' .normal = false) (ho : ∀ a' r', (a', r') ∈ h → HOk (cx (nuX (nuUp0_4 up q) (rX (roUp0_4 up q) X)) (nuX_one (nuL_one (l := nuUp0_4 up q) rfl)) 0 laidE laidE_stab) a' r') (ht : ThOk (cx (nuX (nuUp0_4 up q) (rX (roUp0_4 up q) X)) (nuX_one (nuL_one (l := nuUp0_4 up q) rfl)) 0 laidE laidE_stab) E' th) (run : RNUp0_4 h x' th sg 33 e' h' = true) : RHUp0 up E' x' e' h' (4, q) X :=
  RoundH.leave (tb := tbl h) (L := []) (f := 3000) ((tabkOk _ _).hyps ho) (LpOk.nil _) rfl hne ht run
noncomputable abbrev RNUp0_5 (h : LK) (x : Ex) (th : LA) (sg : List (Nat × Nat)) (m : Nat) (ep : LA) (hp : LE) : Bool := okRdH (code (tbl h) 3000 [] bodyUp0 (envOf (headOf epUp0_5 keepUp0) 80) ⟨lhSet hpUp0_5 .leaf, 5, 0, 0⟩) x keepUp0 80 33 th sg 5 m ep hp
theorem stUp0_5 (up q : Int) {X : Nat → Value} {h : LK} (y : Nat × Int) {th : LA} {sg : List (Nat × Nat)} (ho : ∀ a' r', (a', r') ∈ h → HOk (cx (nuX (nuUp0_5 up q) (rX (roUp0_5 up q) X)) (nuX_one (nuL_one (l := nuUp0_5 up q) rfl)) 0 laidE laidE_stab) a' r') (hy : InvUp0 up y) (lt : muUp0 up y < muUp0 up (5, q)) (ht : ThOk (cx (nuX (nuUp0_5 up q) (rX (roUp0_5 up q) X)) (nuX_one (nuL_one (l := nuUp0_5 up q) rfl)) 0 laidE laidE_stab) (DUp0 up y X) th) (run : RNUp0_5 h .normal th sg 5 (epUp0 y) (hpUp0 y) = true) : RHUp0 up E' x' e' h' (5, q) X :=
  RoundH.next (tb := tbl h) (L := []) (f := 3000) y ((tabkOk _ _).hyps ho) (LpOk.nil _) rfl hy lt ht run
theorem lvUp0_5 (up q : Int) {X : Nat → Value} {h : LK} {th : LA} {sg : List (Nat × Nat)} (hne : exB x' .normal = false) (ho : ∀ a' r', (a', r') ∈ h → HOk (cx (nuX (nuUp0_5 up q) (rX (roUp0_5 up q) X)) (nuX_one (nuL_one (l := nuUp0_5 up q) rfl)) 0 laidE laidE_stab) a' r') (ht : ThOk (cx (nuX (nuUp0_5 up q) (rX (roUp0_5 up q) X)) (nuX_one (nuL_one (l := nuUp0_5 up q) rfl)) 0 laidE laidE_stab) E' th) (run : RNUp0_5 h x' th sg 33 e' h' = true) : RHUp0 up E' x' e' h' (5, q) X :=
  RoundH.leave (tb := tbl h) (L := []) (f := 3000) ((tabkOk _ _).hyps ho) (LpOk.nil _) rfl hne ht run
noncomputable abbrev RNUp0_6 (h : LK) (x : Ex) (th : LA) (sg : List (Nat × Nat)) (m : Nat) (ep : LA) (hp : LE) : Bool := okRdH (code (tbl h) 3000 [] bodyUp0 (envOf (headOf epUp0_6 keepUp0) 80) ⟨lhSet hpUp0_6 .leaf, 5, 0, 0⟩) x keepUp0 80 33 th sg 5 m ep hp
theorem stUp0_6 (up q : Int) {X : Nat → Value} {h : LK} (y : Nat × Int) {th : LA} {sg : List (Nat × Nat)} (ho : ∀ a' r', (a', r') ∈ h → HOk (cx (nuX (nuUp0_6 up q) (rX (roUp0_6 up q) X)) (nuX_one (nuL_one (l := nuUp0_6 up q) rfl)) 0 laidE laidE_stab) a' r') (hy : InvUp0 up y) (lt : muUp0 up y < muUp0 up (6, q)) (ht : ThOk (cx (nuX (nuUp0_6 up q) (rX (roUp0_6 up q) X)) (nuX_one (nuL_one (l := nuUp0_6 up q) rfl)) 0 laidE laidE_stab) (DUp0 up y X) th) (run : RNUp0_6 h .normal th sg 5 (epUp0 y) (hpUp0 y) = true) : RHUp0 up E' x' e' h' (6, q) X :=
  RoundH.next (tb := tbl h) (L := []) (f := 3000) y ((tabkOk _ _).hyps ho) (LpOk.nil _) rfl hy lt ht run
theorem lvUp0_6 (up q : Int) {X : Nat → Value} {h : LK} {th : LA} {sg : List (Nat × Nat)} (hne : exB x' .normal = false) (ho : ∀ a' r', (a', r') ∈ h → HOk (cx (nuX (nuUp0_6 up q) (rX (roUp0_6 up q) X)) (nuX_one (nuL_one (l := nuUp0_6 up q) rfl)) 0 laidE laidE_stab) a' r') (ht : ThOk (cx (nuX (nuUp0_6 up q) (rX (roUp0_6 up q) X)) (nuX_one (nuL_one (l := nuUp0_6 up q) rfl)) 0 laidE laidE_stab) E' th) (run : RNUp0_6 h x' th sg 33 e' h' = true) : RHUp0 up E' x' e' h' (6, q) X :=
  RoundH.leave (tb := tbl h) (L := []) (f := 3000) ((tabkOk _ _).hyps ho) (LpOk.nil _) rfl hne ht run
noncomputable abbrev RNUp0_7 (h : LK) (x : Ex) (th : LA) (sg : List (Nat × Nat)) (m : Nat) (ep : LA) (hp : LE) : Bool := okRdH (code (tbl h) 3000 [] bodyUp0 (envOf (headOf epUp0_7 keepUp0) 80) ⟨lhSet hpUp0_7 .leaf, 5, 0, 0⟩) x keepUp0 80 33 th sg 5 m ep hp
theorem stUp0_7 (up q : Int) {X : Nat → Value} {h : LK} (y : Nat × Int) {th : LA} {sg : List (Nat × Nat)} (ho : ∀ a' r', (a', r') ∈ h → HOk (cx (nuX (nuUp0_7 up q) (rX (roUp0_7 up q) X)) (nuX_one (nuL_one (l := nuUp0_7 up q) rfl)) 0 laidE laidE_stab) a' r') (hy : InvUp0 up y) (lt : muUp0 up y < muUp0 up (7, q)) (ht : ThOk (cx (nuX (nuUp0_7 up q) (rX (roUp0_7 up q) X)) (nuX_one (nuL_one (l := nuUp0_7 up q) rfl)) 0 laidE laidE_stab) (DUp0 up y X) th) (run : RNUp0_7 h .normal th sg 5 (epUp0 y) (hpUp0 y) = true) : RHUp0 up E' x' e' h' (7, q) X :=
  RoundH.next (tb := tbl h) (L := []) (f := 3000) y ((tabkOk _ _).hyps ho) (LpOk.nil _) rfl hy lt ht run
theorem lvUp0_7 (up q : Int) {X : Nat → Value} {h : LK} {th : LA} {sg : List (Nat × Nat)} (hne : exB x' .normal = false) (ho : ∀ a' r', (a', r') ∈ h → HOk (cx (nuX (nuUp0_7 up q) (rX (roUp0_7 up q) X)) (nuX_one (nuL_one (l := nuUp0_7 up q) rfl)) 0 laidE laidE_stab) a' r') (ht : ThOk (cx (nuX (nuUp0_7 up q) (rX (roUp0_7 up q) X)) (nuX_one (nuL_one (l := nuUp0_7 up q) rfl)) 0 laidE laidE_stab) E' th) (run : RNUp0_7 h x' th sg 33 e' h' = true) : RHUp0 up E' x' e' h' (7, q) X :=
  RoundH.leave (tb := tbl h) (L := []) (f := 3000) ((tabkOk _ _).hyps ho) (LpOk.nil _) rfl hne ht run
noncomputable abbrev RNUp0_8 (h : LK) (x : Ex) (th : LA) (sg : List (Nat × Nat)) (m : Nat) (ep : LA) (hp : LE) : Bool := okRdH (code (tbl h) 3000 [] bodyUp0 (envOf (headOf epUp0_8 keepUp0) 80) ⟨lhSet hpUp0_8 .leaf, 5, 0, 0⟩) x keepUp0 80 33 th sg 5 m ep hp
theorem stUp0_8 (up q : Int) {X : Nat → Value} {h : LK} (y : Nat × Int) {th : LA} {sg : List (Nat × Nat)} (ho : ∀ a' r', (a', r') ∈ h → HOk (cx (nuX (nuUp0_8 up q) (rX (roUp0_8 up q) X)) (nuX_one (nuL_one (l := nuUp0_8 up q) rfl)) 0 laidE laidE_stab) a' r') (hy : InvUp0 up y) (lt : muUp0 up y < muUp0 up (8, q)) (ht : ThOk (cx (nuX (nuUp0_8 up q) (rX (roUp0_8 up q) X)) (nuX_one (nuL_one (l := nuUp0_8 up q) rfl)) 0 laidE laidE_stab) (DUp0 up y X) th) (run : RNUp0_8 h .normal th sg 5 (epUp0 y) (hpUp0 y) = true) : RHUp0 up E' x' e' h' (8, q) X :=
  RoundH.next (tb := tbl h) (L := []) (f := 3000) y ((tabkOk _ _).hyps ho) (LpOk.nil _) rfl hy lt ht run
theorem lvUp0_8 (up q : Int) {X : Nat → Value} {h : LK} {th : LA} {sg : List (Nat × Nat)} (hne : exB x' .normal = false) (ho : ∀ a' r', (a', r') ∈ h → HOk (cx (nuX (nuUp0_8 up q) (rX (roUp0_8 up q) X)) (nuX_one (nuL_one (l := nuUp0_8 up q) rfl)) 0 laidE laidE_stab) a' r') (ht : ThOk (cx (nuX (nuUp0_8 up q) (rX (roUp0_8 up q) X)) (nuX_one (nuL_one (l := nuUp0_8 up q) rfl)) 0 laidE laidE_stab) E' th) (run : RNUp0_8 h x' th sg 33 e' h' = true) : RHUp0 up E' x' e' h' (8, q) X :=
  RoundH.leave (tb := tbl h) (L := []) (f := 3000) ((tabkOk _ _).hyps ho) (LpOk.nil _) rfl hne ht run
noncomputable abbrev RNUp0_9 (h : LK) (x : Ex) (th : LA) (sg : List (Nat × Nat)) (m : Nat) (ep : LA) (hp : LE) : Bool := okRdH (code (tbl h) 3000 [] bodyUp0 (envOf (headOf epUp0_9 keepUp0) 80) ⟨lhSet hpUp0_9 .leaf, 5, 0, 0⟩) x keepUp0 80 33 th sg 5 m ep hp
theorem stUp0_9 (up q : Int) {X : Nat → Value} {h : LK} (y : Nat × Int) {th : LA} {sg : List (Nat × Nat)} (ho : ∀ a' r', (a', r') ∈ h → HOk (cx (nuX (nuUp0_9 up q) (rX (roUp0_9 up q) X)) (nuX_one (nuL_one (l := nuUp0_9 up q) rfl)) 0 laidE laidE_stab) a' r') (hy : InvUp0 up y) (lt : muUp0 up y < muUp0 up (9, q)) (ht : ThOk (cx (nuX (nuUp0_9 up q) (rX (roUp0_9 up q) X)) (nuX_one (nuL_one (l := nuUp0_9 up q) rfl)) 0 laidE laidE_stab) (DUp0 up y X) th) (run : RNUp0_9 h .normal th sg 5 (epUp0 y) (hpUp0 y) = true) : RHUp0 up E' x' e' h' (9, q) X :=
  RoundH.next (tb := tbl h) (L := []) (f := 3000) y ((tabkOk _ _).hyps ho) (LpOk.nil _) rfl hy lt ht run
theorem lvUp0_9 (up q : Int) {X : Nat → Value} {h : LK} {th : LA} {sg : List (Nat × Nat)} (hne : exB x' .normal = false) (ho : ∀ a' r', (a', r') ∈ h → HOk (cx (nuX (nuUp0_9 up q) (rX (roUp0_9 up q) X)) (nuX_one (nuL_one (l := nuUp0_9 up q) rfl)) 0 laidE laidE_stab) a' r') (ht : ThOk (cx (nuX (nuUp0_9 up q) (rX (roUp0_9 up q) X)) (nuX_one (nuL_one (l := nuUp0_9 up q) rfl)) 0 laidE laidE_stab) E' th) (run : RNUp0_9 h x' th sg 33 e' h' = true) : RHUp0 up E' x' e' h' (9, q) X :=
  RoundH.leave (tb := tbl h) (L := []) (f := 3000) ((tabkOk _ _).hyps ho) (LpOk.nil _) rfl hne ht run
noncomputable abbrev RNUp0_10 (h : LK) (x : Ex) (th : LA) (sg : List (Nat × Nat)) (m : Nat) (ep : LA) (hp : LE) : Bool := okRdH (code (tbl h) 3000 [] bodyUp0 (envOf (headOf epUp0_10 keepUp0) 80) ⟨lhSet hpUp0_10 .leaf, 5, 0, 0⟩) x keepUp0 80 33 th sg 5 m ep hp
theorem stUp0_10 (up q : Int) {X : Nat → Value} {h : LK} (y : Nat × Int) {th : LA} {sg : List (Nat × Nat)} (ho : ∀ a' r', (a', r') ∈ h → HOk (cx (nuX (nuUp0_10 up q) (rX (roUp0_10 up q) X)) (nuX_one (nuL_one (l := nuUp0_10 up q) rfl)) 0 laidE laidE_stab) a' r') (hy : InvUp0 up y) (lt : muUp0 up y < muUp0 up (10, q)) (ht : ThOk (cx (nuX (nuUp0_10 up q) (rX (roUp0_10 up q) X)) (nuX_one (nuL_one (l := nuUp0_10 up q) rfl)) 0 laidE laidE_stab) (DUp0 up y X) th) (run : RNUp0_10 h .normal th sg 5 (epUp0 y) (hpUp0 y) = true) : RHUp0 up E' x' e' h' (10, q) X :=
  RoundH.next (tb := tbl h) (L := []) (f := 3000) y ((tabkOk _ _).hyps ho) (LpOk.nil _) rfl hy lt ht run
theorem lvUp0_10 (up q : Int) {X : Nat → Value} {h : LK} {th : LA} {sg : List (Nat × Nat)} (hne : exB x' .normal = false) (ho : ∀ a' r', (a', r') ∈ h → HOk (cx (nuX (nuUp0_10 up q) (rX (roUp0_10 up q) X)) (nuX_one (nuL_one (l := nuUp0_10 up q) rfl)) 0 laidE laidE_stab) a' r') (ht : ThOk (cx (nuX (nuUp0_10 up q) (rX (roUp0_10 up q) X)) (nuX_one (nuL_one (l := nuUp0_10 up q) rfl)) 0 laidE laidE_stab) E' th) (run : RNUp0_10 h x' th sg 33 e' h' = true) : RHUp0 up E' x' e' h' (10, q) X :=
  RoundH.leave (tb := tbl h) (L := []) (f := 3000) ((tabkOk _ _).hyps ho) (LpOk.nil _) rfl hne ht run
noncomputable abbrev RNUp0_11 (h : LK) (x : Ex) (th : LA) (sg : List (Nat × Nat)) (m : Nat) (ep : LA) (hp : LE) : Bool := okRdH (code (tbl h) 3000 [] bodyUp0 (envOf (headOf epUp0_11 keepUp0) 80) ⟨lhSet hpUp0_11 .leaf, 5, 0, 0⟩) x keepUp0 80 33 th sg 5 m ep hp
theorem stUp0_11 (up q : Int) {X : Nat → Value} {h : LK} (y : Nat × Int) {th : LA} {sg : List (Nat × Nat)} (ho : ∀ a' r', (a', r') ∈ h → HOk (cx (nuX (nuUp0_11 up q) (rX (roUp0_11 up q) X)) (nuX_one (nuL_one (l := nuUp0_11 up q) rfl)) 0 laidE laidE_stab) a' r') (hy : InvUp0 up y) (lt : muUp0 up y < muUp0 up (11, q)) (ht : ThOk (cx (nuX (nuUp0_11 up q) (rX (roUp0_11 up q) X)) (nuX_one (nuL_one (l := nuUp0_11 up q) rfl)) 0 laidE laidE_stab) (DUp0 up y X) th) (run : RNUp0_11 h .normal th sg 5 (epUp0 y) (hpUp0 y) = true) : RHUp0 up E' x' e' h' (11, q) X :=
  RoundH.next (tb := tbl h) (L := []) (f := 3000) y ((tabkOk _ _).hyps ho) (LpOk.nil _) rfl hy lt ht run
theorem lvUp0_11 (up q : Int) {X : Nat → Value} {h : LK} {th : LA} {sg : List (Nat × Nat)} (hne : exB x' .normal = false) (ho : ∀ a' r', (a', r') ∈ h → HOk (cx (nuX (nuUp0_11 up q) (rX (roUp0_11 up q) X)) (nuX_one (nuL_one (l := nuUp0_11 up q) rfl)) 0 laidE laidE_stab) a' r') (ht : ThOk (cx (nuX (nuUp0_11 up q) (rX (roUp0_11 up q) X)) (nuX_one (nuL_one (l := nuUp0_11 up q) rfl)) 0 laidE laidE_stab) E' th) (run : RNUp0_11 h x' th sg 33 e' h' = true) : RHUp0 up E' x' e' h' (11, q) X :=
  RoundH.leave (tb := tbl h) (L := []) (f := 3000) ((tabkOk _ _).hyps ho) (LpOk.nil _) rfl hne ht run
noncomputable abbrev RNUp0_12 (h : LK) (x : Ex) (th : LA) (sg : List (Nat × Nat)) (m : Nat) (ep : LA) (hp : LE) : Bool := okRdH (code (tbl h) 3000 [] bodyUp0 (envOf (headOf epUp0_12 keepUp0) 80) ⟨lhSet hpUp0_12 .leaf, 5, 0, 0⟩) x keepUp0 80 33 th sg 5 m ep hp
theorem stUp0_12 (up q : Int) {X : Nat → Value} {h : LK} (y : Nat × Int) {th : LA} {sg : List (Nat × Nat)} (ho : ∀ a' r', (a', r') ∈ h → HOk (cx (nuX (nuUp0_12 up q) (rX (roUp0_12 up q) X)) (nuX_one (nuL_one (l := nuUp0_12 up q) rfl)) 0 laidE laidE_stab) a' r') (hy : InvUp0 up y) (lt : muUp0 up y < muUp0 up (12, q)) (ht : ThOk (cx (nuX (nuUp0_12 up q) (rX (roUp0_12 up q) X)) (nuX_one (nuL_one (l := nuUp0_12 up q) rfl)) 0 laidE laidE_stab) (DUp0 up y X) th) (run : RNUp0_12 h .normal th sg 5 (epUp0 y) (hpUp0 y) = true) : RHUp0 up E' x' e' h' (12, q) X :=
  RoundH.next (tb := tbl h) (L := []) (f := 3000) y ((tabkOk _ _).hyps ho) (LpOk.nil _) rfl hy lt ht run
theorem lvUp0_12 (up q : Int) {X : Nat → Value} {h : LK} {th : LA} {sg : List (Nat × Nat)} (hne : exB x' .normal = false) (ho : ∀ a' r', (a', r') ∈ h → HOk (cx (nuX (nuUp0_12 up q) (rX (roUp0_12 up q) X)) (nuX_one (nuL_one (l := nuUp0_12 up q) rfl)) 0 laidE laidE_stab) a' r') (ht : ThOk (cx (nuX (nuUp0_12 up q) (rX (roUp0_12 up q) X)) (nuX_one (nuL_one (l := nuUp0_12 up q) rfl)) 0 laidE laidE_stab) E' th) (run : RNUp0_12 h x' th sg 33 e' h' = true) : RHUp0 up E' x' e' h' (12, q) X :=
  RoundH.leave (tb := tbl h) (L := []) (f := 3000) ((tabkOk _ _).hyps ho) (LpOk.nil _) rfl hne ht run
def hyUp0_p0 : LK := [(.bin .shr (.x 0) (.i .u64 (.ofNat 0)), .x 1), (.bin .and (.x 1) (.i .u16 (.ofNat 1)), .x 2), (.bin .eql (.x 2) (.i .u16 (.ofNat 1)), .b false)]
theorem runUp0_p0 : RNUp0_0 hyUp0_p0 .normal [(0, .x 0), (1, .i .u8 (.ofNat 99))] [] 5 epUp0_1 hpUp0_1 = true := by kernel_rfl
theorem nxUp0_p0 (up : Int) (q : Int) (X : Nat → Value) (hI : InvUp0 up (0, q)) (h0 : ¬ ((up / 1) % 2 = 1)) : RHUp0 up E' x' e' h' (0, q) X := by
  obtain ⟨i0, i1, it⟩ := unIUp0 up 0 q hI
  refine stUp0_0 up q (h := hyUp0_p0) (1, q) ?_ (mkIUp0 up 1 q ⟨by omega, by omega, by omega⟩) (by show 12 - 1 < 12 - 0; omega) (thXv (v := .int .u16 (up)) rfl rfl (thCons (show Is _ (.i .u8 (.ofNat 99)) (.int .u8 ((czS 99 1 up))) from isTo (v := .int .u8 99) (isI _ _) (congrArg (Value.int .u8) (cz_f (by omega)))) (thNil))) runUp0_p0
  unfold hyUp0_p0
  exact hc (kShrM 0 1 rfl (isX rfl) (isZ (m := 0) rfl) (denX rfl) rfl (by decide) (by omega) rfl) <|
   hc (kAndM 1 2 rfl (isX rfl) (isZ (m := 1) rfl) (denX rfl) (by omega) (fU16 (by omega) (by omega)) (fU16 (by omega) (by omega)) rfl rfl) <|
   hc (eqcF rfl (by omega)) <|
   hnil
def hyUp0_p1 : LK := [(.bin .shr (.x 0) (.i .u64 (.ofNat 0)), .x 3), (.bin .and (.x 3) (.i .u16 (.ofNat 1)), .x 4), (.bin .eql (.x 4) (.i .u16 (.ofNat 1)), .b true)]
theorem runUp0_p1 : RNUp0_0 hyUp0_p1 .normal [(0, .x 0), (1, .i .u8 (.ofNat 67))] [] 5 epUp0_1 hpUp0_1 = true := by kernel_rfl
theorem nxUp0_p1 (up : Int) (q : Int) (X : Nat → Value) (hI : InvUp0 up (0, q)) (h0 : (up / 1) % 2 = 1) : RHUp0 up E' x' e' h' (0, q) X := by
  obtain ⟨i0, i1, it⟩ := unIUp0 up 0 q hI
  refine stUp0_0 up q (h := hyUp0_p1) (1, q) ?_ (mkIUp0 up 1 q ⟨by omega, by omega, by omega⟩) (by show 12 - 1 < 12 - 0; omega) (thXv (v := .int .u16 (up)) rfl rfl (thCons (show Is _ (.i .u8 (.ofNat 67)) (.int .u8 ((czS 99 1 up))) from isTo (v := .int .u8 67) (isI _ _) (congrArg (Value.int .u8) (cz_t (by omega) rfl))) (thNil))) runUp0_p1
  unfold hyUp0_p1
  exact hc (kShrM 0 1 rfl (isX rfl) (isZ (m := 0) rfl) (denX rfl) rfl (by decide) (by omega) rfl) <|
   hc (kAndM 1 2 rfl (isX rfl) (isZ (m := 1) rfl) (denX rfl) (by omega) (fU16 (by omega) (by omega)) (fU16 (by omega) (by omega)) rfl rfl) <|
   hc (eqcT rfl (by omega)) <|
   hnil
def hyUp0_p2 : LK := [(.bin .shr (.x 0) (.i .u64 (.ofNat 1)), .x 2), (.bin .and (.x 2) (.i .u16 (.ofNat 1)), .x 3), (.bin .eql (.x 3) (.i .u16 (.ofNat 1)), .b false)]
theorem runUp0_p2 : RNUp0_1 hyUp0_p2 .normal [(0, .x 0), (1, .x 1), (2, .i .u8 (.ofNat 111))] [] 5 epUp0_2 hpUp0_2 = true := by kernel_rfl
theorem nxUp0_p2 (up : Int) (q : Int) (X : Nat → Value) (hI : InvUp0 up (1, q)) (h0 : ¬ ((up / 2) % 2 = 1)) : RHUp0 up E' x' e' h' (1, q) X := by
  obtain ⟨i0, i1, it⟩ := unIUp0 up 1 q hI
  refine stUp0_1 up q (h := hyUp0_p2) (2, q) ?_ (mkIUp0 up 2 q ⟨by omega, by omega, by omega⟩) (by show 12 - 2 < 12 - 1; omega) (thXv (v := .int .u16 (up)) rfl rfl (thXv (v := .int .u8 ((czS 99 1 up))) rfl rfl (thCons (show Is _ (.i .u8 (.ofNat 111)) (.int .u8 ((czS 111 2 up))) from isTo (v := .int .u8 111) (isI _ _) (congrArg (Value.int .u8) (cz_f (by omega)))) (thNil)))) runUp0_p2
  unfold hyUp0_p2
  exact hc (kShrM 1 2 rfl (isX rfl) (isZ (m := 1) rfl) (denX rfl) rfl (by decide) (by omega) rfl) <|
   hc (kAndM 1 2 rfl (isX rfl) (isZ (m := 1) rfl) (denX rfl) (by omega) (fU16 (by omega) (by omega)) (fU16 (by omega) (by omega)) rfl rfl) <|
   hc (eqcF rfl (by omega)) <|
   hnil
def hyUp0_p3 : LK := [(.bin .shr (.x 0) (.i .u64 (.ofNat 1)), .x 4), (.bin .and (.x 4) (.i .u16 (.ofNat 1)), .x 5), (.bin .eql (.x 5) (.i .u16 (.ofNat 1)), .b true)]
theorem runUp0_p3 : RNUp0_1 hyUp0_p3 .normal [(0, .x 0), (1, .x 1), (2, .i .u8 (.ofNat 79))] [] 5 epUp0_2 hpUp0_2 = true := by kernel_rfl
theorem nxUp0_p3 (up : Int) (q : Int) (X : Nat → Value) (hI : InvUp0 up (1, q)) (h0 : (up / 2) % 2 = 1) : RHUp0 up E' x' e' h' (1, q) X := by
  obtain ⟨i0, i1, it⟩ := unIUp0 up 1 q hI
  refine stUp0_1 up q (h := hyUp0_p3) (2, q) ?_ (mkIUp0 up 2 q ⟨by omega, by omega, by omega⟩) (by show 12 - 2 < 12 - 1; omega) (thXv (v := .int .u16 (up)) rfl rfl (thXv (v := .int .u8 ((czS 99 1 up))) rfl rfl (thCons (show Is _ (.i .u8 (.ofNat 79)) (.int .u8 ((czS 111 2 up))) from isTo (v := .int .u8 79) (isI _ _) (congrArg (Value.int .u8) (cz_t (by omega) rfl))) (thNil)))) runUp0_p3
  unfold hyUp0_p3
  exact hc (kShrM 1 2 rfl (isX rfl) (isZ (m := 1) rfl) (denX rfl) rfl (by decide) (by omega) rfl) <|
   hc (kAndM 1 2 rfl (isX rfl) (isZ (m := 1) rfl) (denX rfl) (by omega) (fU16 (by omega) (by omega)) (fU16 (by omega) (by omega)) rfl rfl) <|
   hc (eqcT rfl (by omega)) <|
   hnil
def hyUp0_p4 : LK := [(.bin .shr (.x 0) (.i .u64 (.ofNat 2)), .x 3), (.bin .and (.x 3) (.i .u16 (.ofNat 1)), .x 4), (.bin .eql (.x 4) (.i .u16 (.ofNat 1)), .b false)]
theorem runUp0_p4 : RNUp0_2 hyUp0_p4 .normal [(0, .x 0), (1, .x 1), (2, .x 2), (3, .i .u8 (.ofNat 110))] [] 5 epUp0_3 hpUp0_3 = true := by kernel_rfl
theorem nxUp0_p4 (up : Int) (q : Int) (X : Nat → Value) (hI : InvUp0 up (2, q)) (h0 : ¬ ((up / 4) % 2 = 1)) : RHUp0 up E' x' e' h' (2, q) X := by
  obtain ⟨i0, i1, it⟩ := unIUp0 up 2 q hI
  refine stUp0_2 up q (h := hyUp0_p4) (3, q) ?_ (mkIUp0 up 3 q ⟨by omega, by omega, by omega⟩) (by show 12 - 3 < 12 - 2; omega) (thXv (v := .int .u16 (up)) rfl rfl (thXv (v := .int .u8 ((czS 99 1 up))) rfl rfl (thXv (v := .int .u8 ((czS 111 2 up))) rfl rfl (thCons (show Is _ (.i .u8 (.ofNat 110)) (.int .u8 ((czS 110 4 up))) from isTo (v := .int .u8 110) (isI _ _) (congrArg (Value.int .u8) (cz_f (by omega)))) (thNil))))) runUp0_p4
  unfold hyUp0_p4
  exact hc (kShrM 2 4 rfl (isX rfl) (isZ (m := 2) rfl) (denX rfl) rfl (by decide) (by omega) rfl) <|
   hc (kAndM 1 2 rfl (isX rfl) (isZ (m := 1) rfl) (denX rfl) (by omega) (fU16 (by omega) (by omega)) (fU16 (by omega) (by omega)) rfl rfl) <|
   hc (eqcF rfl (by omega)) <|
   hnil
def hyUp0_p5 : LK := [(.bin .shr (.x 0) (.i .u64 (.ofNat 2)), .x 5), (.bin .and (.x 5) (.i .u16 (.ofNat 1)), .x 6), (.bin .eql (.x 6) (.i .u16 (.ofNat 1)), .b true)]
theorem runUp0_p5 : RNUp0_2 hyUp0_p5 .normal [(0, .x 0), (1, .x 1), (2, .x 2), (3, .i .u8 (.ofNat 78))] [] 5 epUp0_3 hpUp0_3 = true := by kernel_rfl
theorem nxUp0_p5 (up : Int) (q : Int) (X : Nat → Value) (hI : InvUp0 up (2, q)) (h0 : (up / 4) % 2 = 1) : RHUp0 up E' x' e' h' (2, q) X := by
  obtain ⟨i0, i1, it⟩ := unIUp0 up 2 q hI
  refine stUp0_2 up q (h := hyUp0_p5) (3, q) ?_ (mkIUp0 up 3 q ⟨by omega, by omega, by omega⟩) (by show 12 - 3 < 12 - 2; omega) (thXv (v := .int .u16 (up)) rfl rfl (thXv (v := .int .u8 ((czS 99 1 up))) rfl rfl (thXv (v := .int .u8 ((czS 111 2 up))) rfl rfl (thCons (show Is _ (.i .u8 (.ofNat 78)) (.int .u8 ((czS 110 4 up))) from isTo (v := .int .u8 78) (isI _ _) (congrArg (Value.int .u8) (cz_t (by omega) rfl))) (thNil))))) runUp0_p5
  unfold hyUp0_p5
  exact hc (kShrM 2 4 rfl (isX rfl) (isZ (m := 2) rfl) (denX rfl) rfl (by decide) (by omega) rfl) <|
   hc (kAndM 1 2 rfl (isX rfl) (isZ (m := 1) rfl) (denX rfl) (by omega) (fU16 (by omega) (by omega)) (fU16 (by omega) (by omega)) rfl rfl) <|
   hc (eqcT rfl (by omega)) <|
   hnil
def hyUp0_p6 : LK := [(.bin .shr (.x 0) (.i .u64 (.ofNat 3)), .x 4), (.bin .and (.x 4) (.i .u16 (.ofNat 1)), .x 5), (.bin .eql (.x 5) (.i .u16 (.ofNat 1)), .b false)]
theorem runUp0_p6 : RNUp0_3 hyUp0_p6 .normal [(0, .x 0), (1, .x 1), (2, .x 2), (3, .x 3), (4, .i .u8 (.ofNat 116))] [] 5 epUp0_4 hpUp0_4 = true := by kernel_rfl
theorem nxUp0_p6 (up : Int) (q : Int) (X : Nat → Value) (hI : InvUp0 up (3, q)) (h0 : ¬ ((up / 8) % 2 = 1)) : RHUp0 up E' x' e' h' (3, q) X := by
  obtain ⟨i0, i1, it⟩ := unIUp0 up 3 q hI
  refine stUp0_3 up q (h := hyUp0_p6) (4, q) ?_ (mkIUp0 up 4 q ⟨by omega, by omega, by omega⟩) (by show 12 - 4 < 12 - 3; omega) (thXv (v := .int .u16 (up)) rfl rfl (thXv (v := .int .u8 ((czS 99 1 up))) rfl rfl (thXv (v := .int .u8 ((czS 111 2 up))) rfl rfl (thXv (v := .int .u8 ((czS 110 4 up))) rfl rfl (thCons (show Is _ (.i .u8 (.ofNat 116)) (.int .u8 ((czS 116 8 up))) from isTo (v := .int .u8 116) (isI _ _) (congrArg (Value.int .u8) (cz_f (by omega)))) (thNil)))))) runUp0_p6
  unfold hyUp0_p6
  exact hc (kShrM 3 8 rfl (isX rfl) (isZ (m := 3) rfl) (denX rfl) rfl (by decide) (by omega) rfl) <|
   hc (kAndM 1 2 rfl (isX rfl) (isZ (m := 1) rfl) (denX rfl) (by omega) (fU16 (by omega) (by omega)) (fU16 (by omega) (by omega)) rfl rfl) <|
   hc (eqcF rfl (by omega)) <|
   hnil
def hyUp0_p7 : LK := [(.bin .shr (.x 0) (.i .u64 (.ofNat 3)), .x 6), (.bin .and (.x 6) (.i .u16 (.ofNat 1)), .x 7), (.bin .eql (.x 7) (.i .u16 (.ofNat 1)), .b true)]
theorem runUp0_p7 : RNUp0_3 hyUp0_p7 .normal [(0, .x 0), (1, .x 1), (2, .x 2), (3, .x 3), (4, .i .u8 (.ofNat 84))] [] 5 epUp0_4 hpUp0_4 = true := by kernel_rfl
theorem nxUp0_p7 (up : Int) (q : Int) (X : Nat → Value) (hI : InvUp0 up (3, q)) (h0 : (up / 8) % 2 = 1) : RHUp0 up E' x' e' h' (3, q) X := by
  obtain ⟨i0, i1, it⟩ := unIUp0 up 3 q hI
  refine stUp0_3 up q (h := hyUp0_p7) (4, q) ?_ (mkIUp0 up 4 q ⟨by omega, by omega, by omega⟩) (by show 12 - 4 < 12 - 3; omega) (thXv (v := .int .u16 (up)) rfl rfl (thXv (v := .int .u8 ((czS 99 1 up))) rfl rfl (thXv (v := .int .u8 ((czS 111 2 up))) rfl rfl (thXv (v := .int .u8 ((czS 110 4 up))) rfl rfl (thCons (show Is _ (.i .u8 (.ofNat 84)) (.int .u8 ((czS 116 8 up))) from isTo (v := .int .u8 84) (isI _ _) (congrArg (Value.int .u8) (cz_t (by omega) rfl))) (thNil)))))) runUp0_p7
  unfold hyUp0_p7
  exact hc (kShrM 3 8 rfl (isX rfl) (isZ (m := 3) rfl) (denX rfl) rfl (by decide) (by omega) rfl) <|
   hc (kAndM 1 2 rfl (isX rfl) (isZ (m := 1) rfl) (denX rfl) (by omega) (fU16 (by omega) (by omega)) (fU16 (by omega) (by omega)) rfl rfl) <|
   hc (eqcT rfl (by omega)) <|
   hnil
def hyUp0_p8 : LK := [(.bin .shr (.x 0) (.i .u64 (.ofNat 4)), .x 5), (.bin .and (.x 5) (.i .u16 (.ofNat 1)), .x 6), (.bin .eql (.x 6) (.i .u16 (.ofNat 1)), .b false)]
theorem runUp0_p8 : RNUp0_4 hyUp0_p8 .normal [(0, .x 0), (1, .x 1), (2, .x 2), (3, .x 3), (4, .x 4), (5, .i .u8 (.ofNat 101))] [] 5 epUp0_5 hpUp0_5 = true := by kernel_rfl
theorem nxUp0_p8 (up : Int) (q : Int) (X : Nat → Value) (hI : InvUp0 up (4, q)) (h0 : ¬ ((up / 16) % 2 = 1)) : RHUp0 up E' x' e' h' (4, q) X := by
  obtain ⟨i0, i1, it⟩ := unIUp0 up 4 q hI
  refine stUp0_4 up q (h := hyUp0_p8) (5, q) ?_ (mkIUp0 up 5 q ⟨by omega, by omega, by omega⟩) (by show 12 - 5 < 12 - 4; omega) (thXv (v := .int .u16 (up)) rfl rfl (thXv (v := .int .u8 ((czS 99 1 up))) rfl rfl (thXv (v := .int .u8 ((czS 111 2 up))) rfl rfl (thXv (v := .int .u8 ((czS 110 4 up))) rfl rfl (thXv (v := .int .u8 ((czS 116 8 up))) rfl rfl (thCons (show Is _ (.i .u8 (.ofNat 101)) (.int .u8 ((czS 101 16 up))) from isTo (v := .int .u8 101) (isI _ _) (congrArg (Value.int .u8) (cz_f (by omega)))) (thNil))))))) runUp0_p8
  unfold hyUp0_p8
  exact hc (kShrM 4 16 rfl (isX rfl) (isZ (m := 4) rfl) (denX rfl) rfl (by decide) (by omega) rfl) <|
   hc (kAndM 1 2 rfl (isX rfl) (isZ (m := 1) rfl) (denX rfl) (by omega) (fU16 (by omega) (by omega)) (fU16 (by omega) (by omega)) rfl rfl) <|
   hc (eqcF rfl (by omega)) <|
   hnil
def hyUp0_p9 : LK := [(.bin .shr (.x 0) (.i .u64 (.ofNat 4)), .x 7), (.bin .and (.x 7) (.i .u16 (.ofNat 1)), .x 8), (.bin .eql (.x 8) (.i .u16 (.ofNat 1)), .b true)]
theorem runUp0_p9 : RNUp0_4 hyUp0_p9 .normal [(0, .x 0), (1, .x 1), (2, .x 2), (3, .x 3), (4, .x 4), (5, .i .u8 (.ofNat 69))] [] 5 epUp0_5 hpUp0_5 = true := by kernel_rfl
theorem nxUp0_p9 (up : Int) (q : Int) (X : Nat → Value) (hI : InvUp0 up (4, q)) (h0 : (up / 16) % 2 = 1) : RHUp0 up E' x' e' h' (4, q) X := by
  obtain ⟨i0, i1, it⟩ := unIUp0 up 4 q hI
  refine stUp0_4 up q (h := hyUp0_p9) (5, q) ?_ (mkIUp0 up 5 q ⟨by omega, by omega, by omega⟩) (by show 12 - 5 < 12 - 4; omega) (thXv (v := .int .u16 (up)) rfl rfl (thXv (v := .int .u8 ((czS 99 1 up))) rfl rfl (thXv (v := .int .u8 ((czS 111 2 up))) rfl rfl (thXv (v := .int .u8 ((czS 110 4 up))) rfl rfl (thXv (v := .int .u8 ((czS 116 8 up))) rfl rfl (thCons (show Is _ (.i .u8 (.ofNat 69)) (.int .u8 ((czS 101 16 up))) from isTo (v := .int .u8 69) (isI _ _) (congrArg (Value.int .u8) (cz_t (by omega) rfl))) (thNil))))))) runUp0_p9
  unfold hyUp0_p9
  exact hc (kShrM 4 16 rfl (isX rfl) (isZ (m := 4) rfl) (denX rfl) rfl (by decide) (by omega) rfl) <|
   hc (kAndM 1 2 rfl (isX rfl) (isZ (m := 1) rfl) (denX rfl) (by omega) (fU16 (by omega) (by omega)) (fU16 (by omega) (by omega)) rfl rfl) <|
   hc (eqcT rfl (by omega)) <|
   hnil
def hyUp0_p10 : LK := [(.bin .shr (.x 0) (.i .u64 (.ofNat 5)), .x 6), (.bin .and (.x 6) (.i .u16 (.ofNat 1)), .x 7), (.bin .eql (.x 7) (.i .u16 (.ofNat 1)), .b false)]
theorem runUp0_p10 : RNUp0_5 hyUp0_p10 .normal [(0, .x 0), (1, .x 1), (2, .x 2), (3, .x 3), (4, .x 4), (5, .x 5), (6, .i .u8 (.ofNat 110))] [] 5 epUp0_6 hpUp0_6 = true := by kernel_rfl
theorem nxUp0_p10 (up : Int) (q : Int) (X : Nat → Value) (hI : InvUp0 up (5, q)) (h0 : ¬ ((up / 32) % 2 = 1)) : RHUp0 up E' x' e' h' (5, q) X := by
  obtain ⟨i0, i1, it⟩ := unIUp0 up 5 q hI
  refine stUp0_5 up q (h := hyUp0_p10) (6, q) ?_ (mkIUp0 up 6 q ⟨by omega, by omega, by omega⟩) (by show 12 - 6 < 12 - 5; omega) (thXv (v := .int .u16 (up)) rfl rfl (thXv (v := .int .u8 ((czS 99 1 up))) rfl rfl (thXv (v := .int .u8 ((czS 111 2 up))) rfl rfl (thXv (v := .int .u8 ((czS 110 4 up))) rfl rfl (thXv (v := .int .u8 ((czS 116 8 up))) rfl rfl (thXv (v := .int .u8 ((czS 101 16 up))) rfl rfl (thCons (show Is _ (.i .u8 (.ofNat 110)) (.int .u8 ((czS 110 32 up))) from isTo (v := .int .u8 110) (isI _ _) (congrArg (Value.int .u8) (cz_f (by omega)))) (thNil)))))))) runUp0_p10
  unfold hyUp0_p10
  exact hc (kShrM 5 32 rfl (isX rfl) (isZ (m := 5) rfl) (denX rfl) rfl (by decide) (by omega) rfl) <|
   hc (kAndM 1 2 rfl (isX rfl) (isZ (m := 1) rfl) (denX rfl) (by omega) (fU16 (by omega) (by omega)) (fU16 (by omega) (by omega)) rfl rfl) <|
   hc (eqcF rfl (by omega)) <|
   hnil
def hyUp0_p11 : LK := [(.bin .shr (.x 0) (.i .u64 (.ofNat 5)), .x 8), (.bin .and (.x 8) (.i .u16 (.ofNat 1)), .x 9), (.bin .eql (.x 9) (.i .u16 (.ofNat 1)), .b true)]
theorem runUp0_p11 : RNUp0_5 hyUp0_p11 .normal [(0, .x 0), (1, .x 1), (2, .x 2), (3, .x 3), (4, .x 4), (5, .x 5), (6, .i .u8 (.ofNat 78))] [] 5 epUp0_6 hpUp0_6 = true := by kernel_rfl
theorem nxUp0_p11 (up : Int) (q : Int) (X : Nat → Value) (hI : InvUp0 up (5, q)) (h0 : (up / 32) % 2 = 1) : RHUp0 up E' x' e' h' (5, q) X := by
  obtain ⟨i0, i1, it⟩ := unIUp0 up 5 q hI
  refine stUp0_5 up q (h := hyUp0_p11) (6, q) ?_ (mkIUp0 up 6 q ⟨by omega, by omega, by omega⟩) (by show 12 - 6 < 12 - 5; omega) (thXv (v := .int .u16 (up)) rfl rfl (thXv (v := .int .u8 ((czS 99 1 up))) rfl rfl (thXv (v := .int .u8 ((czS 111 2 up))) rfl rfl (thXv (v := .int .u8 ((czS 110 4 up))) rfl rfl (thXv (v := .int .u8 ((czS 116 8 up))) rfl rfl (thXv (v := .int .u8 ((czS 101 16 up))) rfl rfl (thCons (show Is _ (.i .u8 (.ofNat 78)) (.int .u8 ((czS 110 32 up))) from isTo (v := .int .u8 78) (isI _ _) (congrArg (Value.int .u8) (cz_t (by omega) rfl))) (thNil)))))))) runUp0_p11
  unfold hyUp0_p11
  exact hc (kShrM 5 32 rfl (isX rfl) (isZ (m := 5) rfl) (denX rfl) rfl (by decide) (by omega) rfl) <|
   hc (kAndM 1 2 rfl (isX rfl) (isZ (m := 1) rfl) (denX rfl) (by omega) (fU16 (by omega) (by omega)) (fU16 (by omega) (by omega)) rfl rfl) <|
   hc (eqcT rfl (by omega)) <|
   hnil
def hyUp0_p12 : LK := [(.bin .shr (.x 0) (.i .u64 (.ofNat 6)), .x 7), (.bin .and (.x 7) (.i .u16 (.ofNat 1)), .x 8), (.bin .eql (.x 8) (.i .u16 (.ofNat 1)), .b false)]
theorem runUp0_p12 : RNUp0_6 hyUp0_p12 .normal [(0, .x 0), (1, .x 1), (2, .x 2), (3, .x 3), (4, .x 4), (5, .x 5), (6, .x 6), (7, .i .u8 (.ofNat 116))] [] 5 epUp0_7 hpUp0_7 = true := by kernel_rfl
theorem nxUp0_p12 (up : Int) (q : Int) (X : Nat → Value) (hI : InvUp0 up (6, q)) (h0 : ¬ ((up / 64) % 2 = 1)) : RHUp0 up E' x' e' h' (6, q) X := by
  obtain ⟨i0, i1, it⟩ := unIUp0 up 6 q hI
  refine stUp0_6 up q (h := hyUp0_p12) (7, q) ?_ (mkIUp0 up 7 q ⟨by omega, by omega, by omega⟩) (by show 12 - 7 < 12 - 6; omega) (thXv (v := .int .u16 (up)) rfl rfl (thXv (v := .int .u8 ((czS 99 1 up))) rfl rfl (thXv (v := .int .u8 ((czS 111 2 up))) rfl rfl (thXv (v := .int .u8 ((czS 110 4 up))) rfl rfl (thXv (v := .int .u8 ((czS 116 8 up))) rfl rfl (thXv (v := .int .u8 ((czS 101 16 up))) rfl rfl (thXv (v := .int .u8 ((czS 110 32 up))) rfl rfl (thCons (show Is _ (.i .u8 (.ofNat 116)) (.int .u8 ((czS 116 64 up))) from isTo (v := .int .u8 116) (isI _ _) (congrArg (Value.int .u8) (cz_f (by omega)))) (thNil))))))))) runUp0_p12
  unfold hyUp0_p12
  exact hc (kShrM 6 64 rfl (isX rfl) (isZ (m := 6) rfl) (denX rfl) rfl (by decide) (by omega) rfl) <|
   hc (kAndM 1 2 rfl (isX rfl) (isZ (m := 1) rfl) (denX rfl) (by omega) (fU16 (by omega) (by omega)) (fU16 (by omega) (by omega)) rfl rfl) <|
   hc (eqcF rfl (by omega)) <|
   hnil
def hyUp0_p13 : LK := [(.bin .shr (.x 0) (.i .u64 (.ofNat 6)), .x 9), (.bin .and (.x 9) (.i .u16 (.ofNat 1)), .x 10), (.bin .eql (.x 10) (.i .u16 (.ofNat 1)), .b true)]
theorem runUp0_p13 : RNUp0_6 hyUp0_p13 .normal [(0, .x 0), (1, .x 1), (2, .x 2), (3, .x 3), (4, .x 4), (5, .x 5), (6, .x 6), (7, .i .u8 (.ofNat 84))] [] 5 epUp0_7 hpUp0_7 = true := by kernel_rfl
theorem nxUp0_p13 (up : Int) (q : Int) (X : Nat → Value) (hI : InvUp0 up (6, q)) (h0 : (up / 64) % 2 = 1) : RHUp0 up E' x' e' h' (6, q) X := by
  obtain ⟨i0, i1, it⟩ := unIUp0 up 6 q hI
  refine stUp0_6 up q (h := hyUp0_p13) (7, q) ?_ (mkIUp0 up 7 q ⟨by omega, by omega, by omega⟩) (by show 12 - 7 < 12 - 6; omega) (thXv (v := .int .u16 (up)) rfl rfl (thXv (v := .int .u8 ((czS 99 1 up))) rfl rfl (thXv (v := .int .u8 ((czS 111 2 up))) rfl rfl (thXv (v := .int .u8 ((czS 110 4 up))) rfl rfl (thXv (v := .int .u8 ((czS 116 8 up))) rfl rfl (thXv (v := .int .u8 ((czS 101 16 up))) rfl rfl (thXv (v := .int .u8 ((czS 110 32 up))) rfl rfl (thCons (show Is _ (.i .u8 (.ofNat 84)) (.int .u8 ((czS 116 64 up))) from isTo (v := .int .u8 84) (isI _ _) (congrArg (Value.int .u8) (cz_t (by omega) rfl))) (thNil))))))))) runUp0_p13
  unfold hyUp0_p13
  exact hc (kShrM 6 64 rfl (isX rfl) (isZ (m := 6) rfl) (denX rfl) rfl (by decide) (by omega) rfl) <|
   hc (kAndM 1 2 rfl (isX rfl) (isZ (m := 1) rfl) (denX rfl) (by omega) (fU16 (by omega) (by omega)) (fU16 (by omega) (by omega)) rfl rfl) <|
   hc (eqcT rfl (by omega)) <|
   hnil
def hyUp0_p14 : LK := [(.bin .shr (.x 0) (.i .u64 (.ofNat 7)), .x 8), (.bin .and (.x 8) (.i .u16 (.ofNat 1)), .x 9), (.bin .eql (.x 9) (.i .u16 (.ofNat 1)), .b false)]
theorem runUp0_p14 : RNUp0_7 hyUp0_p14 .normal [(0, .x 0), (1, .x 1), (2, .x 2), (3, .x 3), (4, .x 4), (5, .x 5), (6, .x 6), (7, .x 7)] [] 5 epUp0_8 hpUp0_8 = true := by kernel_rfl
theorem nxUp0_p14 (up : Int) (q : Int) (X : Nat → Value) (hI : InvUp0 up (7, q)) (h0 : ¬ ((up / 128) % 2 = 1)) : RHUp0 up E' x' e' h' (7, q) X := by
  obtain ⟨i0, i1, it⟩ := unIUp0 up 7 q hI
  refine stUp0_7 up q (h := hyUp0_p14) (8, q) ?_ (mkIUp0 up 8 q ⟨by omega, by omega, by omega⟩) (by show 12 - 8 < 12 - 7; omega) (thXv (v := .int .u16 (up)) rfl rfl (thXv (v := .int .u8 ((czS 99 1 up))) rfl rfl (thXv (v := .int .u8 ((czS 111 2 up))) rfl rfl (thXv (v := .int .u8 ((czS 110 4 up))) rfl rfl (thXv (v := .int .u8 ((czS 116 8 up))) rfl rfl (thXv (v := .int .u8 ((czS 101 16 up))) rfl rfl (thXv (v := .int .u8 ((czS 110 32 up))) rfl rfl (thXv (v := .int .u8 ((czS 116 64 up))) rfl rfl (thNil))))))))) runUp0_p14
  unfold hyUp0_p14
  exact hc (kShrM 7 128 rfl (isX rfl) (isZ (m := 7) rfl) (denX rfl) rfl (by decide) (by omega) rfl) <|
   hc (kAndM 1 2 rfl (isX rfl) (isZ (m := 1) rfl) (denX rfl) (by omega) (fU16 (by omega) (by omega)) (fU16 (by omega) (by omega)) rfl rfl) <|
   hc (eqcF rfl (by omega)) <|
   hnil
def hyUp0_p15 : LK := [(.bin .shr (.x 0) (.i .u64 (.ofNat 7)), .x 10), (.bin .and (.x 10) (.i .u16 (.ofNat 1)), .x 11), (.bin .eql (.x 11) (.i .u16 (.ofNat 1)), .b true)]
theorem runUp0_p15 : RNUp0_7 hyUp0_p15 .normal [(0, .x 0), (1, .x 1), (2, .x 2), (3, .x 3), (4, .x 4), (5, .x 5), (6, .x 6), (7, .x 7)] [] 5 epUp0_8 hpUp0_8 = true := by kernel_rfl
theorem nxUp0_p15 (up : Int) (q : Int) (X : Nat → Value) (hI : InvUp0 up (7, q)) (h0 : (up / 128) % 2 = 1) : RHUp0 up E' x' e' h' (7, q) X := by
  obtain ⟨i0, i1, it⟩ := unIUp0 up 7 q hI
  refine stUp0_7 up q (h := hyUp0_p15) (8, q) ?_ (mkIUp0 up 8 q ⟨by omega, by omega, by omega⟩) (by show 12 - 8 < 12 - 7; omega) (thXv (v := .int .u16 (up)) rfl rfl (thXv (v := .int .u8 ((czS 99 1 up))) rfl rfl (thXv (v := .int .u8 ((czS 111 2 up))) rfl rfl (thXv (v := .int .u8 ((czS 110 4 up))) rfl rfl (thXv (v := .int .u8 ((czS 116 8 up))) rfl rfl (thXv (v := .int .u8 ((czS 101 16 up))) rfl rfl (thXv (v := .int .u8 ((czS 110 32 up))) rfl rfl (thXv (v := .int .u8 ((czS 116 64 up))) rfl rfl (thNil))))))))) runUp0_p15
  unfold hyUp0_p15
  exact hc (kShrM 7 128 rfl (isX rfl) (isZ (m := 7) rfl) (denX rfl) rfl (by decide) (by omega) rfl) <|
   hc (kAndM 1 2 rfl (isX rfl) (isZ (m := 1) rfl) (denX rfl) (by omega) (fU16 (by omega) (by omega)) (fU16 (by omega) (by omega)) rfl rfl) <|
   hc (eqcT rfl (by omega)) <|
   hnil
def hyUp0_p16 : LK := [(.bin .shr (.x 0) (.i .u64 (.ofNat 8)), .x 8), (.bin .and (.x 8) (.i .u16 (.ofNat 1)), .x 9), (.bin .eql (.x 9) (.i .u16 (.ofNat 1)), .b false)]
theorem runUp0_p16 : RNUp0_8 hyUp0_p16 .normal [(0, .x 0), (1, .x 1), (2, .x 2), (3, .x 3), (4, .x 4), (5, .x 5), (6, .x 6), (7, .x 7), (8, .i .u8 (.ofNat 116))] [] 5 epUp0_9 hpUp0_9 = true := by kernel_rfl
theorem nxUp0_p16 (up : Int) (q : Int) (X : Nat → Value) (hI : InvUp0 up (8, q)) (h0 : ¬ ((up / 256) % 2 = 1)) : RHUp0 up E' x' e' h' (8, q) X := by
  obtain ⟨i0, i1, it⟩ := unIUp0 up 8 q hI
  refine stUp0_8 up q (h := hyUp0_p16) (9, q) ?_ (mkIUp0 up 9 q ⟨by omega, by omega, by omega⟩) (by show 12 - 9 < 12 - 8; omega) (thXv (v := .int .u16 (up)) rfl rfl (thXv (v := .int .u8 ((czS 99 1 up))) rfl rfl (thXv (v := .int .u8 ((czS 111 2 up))) rfl rfl (thXv (v := .int .u8 ((czS 110 4 up))) rfl rfl (thXv (v := .int .u8 ((czS 116 8 up))) rfl rfl (thXv (v := .int .u8 ((czS 101 16 up))) rfl rfl (thXv (v := .int .u8 ((czS 110 32 up))) rfl rfl (thXv (v := .int .u8 ((czS 116 64 up))) rfl rfl (thCons (show Is _ (.i .u8 (.ofNat 116)) (.int .u8 ((czS 116 256 up))) from isTo (v := .int .u8 116) (isI _ _) (congrArg (Value.int .u8) (cz_f (by omega)))) (thNil)))))))))) runUp0_p16
  unfold hyUp0_p16
  exact hc (kShrM 8 256 rfl (isX rfl) (isZ (m := 8) rfl) (denX rfl) rfl (by decide) (by omega) rfl) <|
   hc (kAndM 1 2 rfl (isX rfl) (isZ (m := 1) rfl) (denX rfl) (by omega) (fU16 (by omega) (by omega)) (fU16 (by omega) (by omega)) rfl rfl) <|
   hc (eqcF rfl (by omega)) <|
   hnil
def hyUp0_p17 : LK := [(.bin .shr (.x 0) (.i .u64 (.ofNat 8)), .x 10), (.bin .and (.x 10) (.i .u16 (.ofNat 1)), .x 11), (.bin .eql (.x 11) (.i .u16 (.ofNat 1)), .b true)]
theorem runUp0_p17 : RNUp0_8 hyUp0_p17 .normal [(0, .x 0), (1, .x 1), (2, .x 2), (3, .x 3), (4, .x 4), (5, .x 5), (6, .x 6), (7, .x 7), (8, .i .u8 (.ofNat 84))] [] 5 epUp0_9 hpUp0_9 = true := by kernel_rfl
theorem nxUp0_p17 (up : Int) (q : Int) (X : Nat → Value) (hI : InvUp0 up (8, q)) (h0 : (up / 256) % 2 = 1) : RHUp0 up E' x' e' h' (8, q) X := by
  obtain ⟨i0, i1, it⟩ := unIUp0 up 8 q hI
  refine stUp0_8 up q (h := hyUp0_p17) (9, q) ?_ (mkIUp0 up 9 q ⟨by omega, by omega, by omega⟩) (by show 12 - 9 < 12 - 8; omega) (thXv (v := .int .u16 (up)) rfl rfl (thXv (v := .int .u8 ((czS 99 1 up))) rfl rfl (thXv (v := .int .u8 ((czS 111 2 up))) rfl rfl (thXv (v := .int .u8 ((czS 110 4 up))) rfl rfl (thXv (v := .int .u8 ((czS 116 8 up))) rfl rfl (thXv (v := .int .u8 ((czS 101 16 up))) rfl rfl (thXv (v := .int .u8 ((czS 110 32 up))) rfl rfl (thXv (v := .int .u8 ((czS 116 64 up))) rfl rfl (thCons (show Is _ (.i .u8 (.ofNat 84)) (.int .u8 ((czS 116 256 up))) from isTo (v := .int .u8 84) (isI _ _) (congrArg (Value.int .u8) (cz_t (by omega) rfl))) (thNil)))))))))) runUp0_p17
  unfold hyUp0_p17
  exact hc (kShrM 8 256 rfl (isX rfl) (isZ (m := 8) rfl) (denX rfl) rfl (by decide) (by omega) rfl) <|
   hc (kAndM 1 2 rfl (isX rfl) (isZ (m := 1) rfl) (denX rfl) (by omega) (fU16 (by omega) (by omega)) (fU16 (by omega) (by omega)) rfl rfl) <|
   hc (eqcT rfl (by omega)) <|
   hnil
def hyUp0_p18 : LK := [(.bin .shr (.x 0) (.i .u64 (.ofNat 9)), .x 9), (.bin .and (.x 9) (.i .u16 (.ofNat 1)), .x 10), (.bin .eql (.x 10) (.i .u16 (.ofNat 1)), .b false)]
theorem runUp0_p18 : RNUp0_9 hyUp0_p18 .normal [(0, .x 0), (1, .x 1), (2, .x 2), (3, .x 3), (4, .x 4), (5, .x 5), (6, .x 6), (7, .x 7), (8, .x 8), (9, .i .u8 (.ofNat 121))] [] 5 epUp0_10 hpUp0_10 = true := by kernel_rfl
theorem nxUp0_p18 (up : Int) (q : Int) (X : Nat → Value) (hI : InvUp0 up (9, q)) (h0 : ¬ ((up / 512) % 2 = 1)) : RHUp0 up E' x' e' h' (9, q) X := by
  obtain ⟨i0, i1, it⟩ := unIUp0 up 9 q hI
  refine stUp0_9 up q (h := hyUp0_p18) (10, q) ?_ (mkIUp0 up 10 q ⟨by omega, by omega, by omega⟩) (by show 12 - 10 < 12 - 9; omega) (thXv (v := .int .u16 (up)) rfl rfl (thXv (v := .int .u8 ((czS 99 1 up))) rfl rfl (thXv (v := .int .u8 ((czS 111 2 up))) rfl rfl (thXv (v := .int .u8 ((czS 110 4 up))) rfl rfl (thXv (v := .int .u8 ((czS 116 8 up))) rfl rfl (thXv (v := .int .u8 ((czS 101 16 up))) rfl rfl (thXv (v := .int .u8 ((czS 110 32 up))) rfl rfl (thXv (v := .int .u8 ((czS 116 64 up))) rfl rfl (thXv (v := .int .u8 ((czS 116 256 up))) rfl rfl (thCons (show Is _ (.i .u8 (.ofNat 121)) (.int .u8 ((czS 121 512 up))) from isTo (v := .int .u8 121) (isI _ _) (congrArg (Value.int .u8) (cz_f (by omega)))) (thNil))))))))))) runUp0_p18
  unfold hyUp0_p18
  exact hc (kShrM 9 512 rfl (isX rfl) (isZ (m := 9) rfl) (denX rfl) rfl (by decide) (by omega) rfl) <|
   hc (kAndM 1 2 rfl (isX rfl) (isZ (m := 1) rfl) (denX rfl) (by omega) (fU16 (by omega) (by omega)) (fU16 (by omega) (by omega)) rfl rfl) <|
   hc (eqcF rfl (by omega)) <|
   hnil
def hyUp0_p19 : LK := [(.bin .shr (.x 0) (.i .u64 (.ofNat 9)), .x 11), (.bin .and (.x 11) (.i .u16 (.ofNat 1)), .x 12), (.bin .eql (.x 12) (.i .u16 (.ofNat 1)), .b true)]
theorem runUp0_p19 : RNUp0_9 hyUp0_p19 .normal [(0, .x 0), (1, .x 1), (2, .x 2), (3, .x 3), (4, .x 4), (5, .x 5), (6, .x 6), (7, .x 7), (8, .x 8), (9, .i .u8 (.ofNat 89))] [] 5 epUp0_10 hpUp0_10 = true := by kernel_rfl
theorem nxUp0_p19 (up : Int) (q : Int) (X : Nat → Value) (hI : InvUp0 up (9, q)) (h0 : (up / 512) % 2 = 1) : RHUp0 up E' x' e' h' (9, q) X := by
  obtain ⟨i0, i1, it⟩ := unIUp0 up 9 q hI
  refine stUp0_9 up q (h := hyUp0_p19) (10, q) ?_ (mkIUp0 up 10 q ⟨by omega, by omega, by omega⟩) (by show 12 - 10 < 12 - 9; omega) (thXv (v := .int .u16 (up)) rfl rfl (thXv (v := .int .u8 ((czS 99 1 up))) rfl rfl (thXv (v := .int .u8 ((czS 111 2 up))) rfl rfl (thXv (v := .int .u8 ((czS 110 4 up))) rfl rfl (thXv (v := .int .u8 ((czS 116 8 up))) rfl rfl (thXv (v := .int .u8 ((czS 101 16 up))) rfl rfl (thXv (v := .int .u8 ((czS 110 32 up))) rfl rfl (thXv (v := .int .u8 ((czS 116 64 up))) rfl rfl (thXv (v := .int .u8 ((czS 116 256 up))) rfl rfl (thCons (show Is _ (.i .u8 (.ofNat 89)) (.int .u8 ((czS 121 512 up))) from isTo (v := .int .u8 89) (isI _ _) (congrArg (Value.int .u8) (cz_t (by omega) rfl))) (thNil))))))))))) runUp0_p19
  unfold hyUp0_p19
  exact hc (kShrM 9 512 rfl (isX rfl) (isZ (m := 9) rfl) (denX rfl) rfl (by decide) (by omega) rfl) <|
   hc (kAndM 1 2 rfl (isX rfl) (isZ (m := 1) rfl) (denX rfl) (by omega) (fU16 (by omega) (by omega)) (fU16 (by omega) (by omega)) rfl rfl) <|
   hc (eqcT rfl (by omega)) <|
   hnil
def hyUp0_p20 : LK := [(.bin .shr (.x 0) (.i .u64 (.ofNat 10)), .x 10), (.bin .and (.x 10) (.i .u16 (.ofNat 1)), .x 11), (.bin .eql (.x 11) (.i .u16 (.ofNat 1)), .b false)]
theorem runUp0_p20 : RNUp0_10 hyUp0_p20 .normal [(0, .x 0), (1, .x 1), (2, .x 2), (3, .x 3), (4, .x 4), (5, .x 5), (6, .x 6), (7, .x 7), (8, .x 8), (9, .x 9), (10, .i .u8 (.ofNat 112))] [] 5 epUp0_11 hpUp0_11 = true := by kernel_rfl
theorem nxUp0_p20 (up : Int) (q : Int) (X : Nat → Value) (hI : InvUp0 up (10, q)) (h0 : ¬ ((up / 1024) % 2 = 1)) : RHUp0 up E' x' e' h' (10, q) X := by
  obtain ⟨i0, i1, it⟩ := unIUp0 up 10 q hI
  refine stUp0_10 up q (h := hyUp0_p20) (11, q) ?_ (mkIUp0 up 11 q ⟨by omega, by omega, by omega⟩) (by show 12 - 11 < 12 - 10; omega) (thXv (v := .int .u16 (up)) rfl rfl (thXv (v := .int .u8 ((czS 99 1 up))) rfl rfl (thXv (v := .int .u8 ((czS 111 2 up))) rfl rfl (thXv (v := .int .u8 ((czS 110 4 up))) rfl rfl (thXv (v := .int .u8 ((czS 116 8 up))) rfl rfl (thXv (v := .int .u8 ((czS 101 16 up))) rfl rfl (thXv (v := .int .u8 ((czS 110 32 up))) rfl rfl (thXv (v := .int .u8 ((czS 116 64 up))) rfl rfl (thXv (v := .int .u8 ((czS 116 256 up))) rfl rfl (thXv (v := .int .u8 ((czS 121 512 up))) rfl rfl (thCons (show Is _ (.i .u8 (.ofNat 112)) (.int .u8 ((czS 112 1024 up))) from isTo (v := .int .u8 112) (isI _ _) (congrArg (Value.int .u8) (cz_f (by omega)))) (thNil)))))))))))) runUp0_p20
  unfold hyUp0_p20
  exact hc (kShrM 10 1024 rfl (isX rfl) (isZ (m := 10) rfl) (denX rfl) rfl (by decide) (by omega) rfl) <|
   hc (kAndM 1 2 rfl (isX rfl) (isZ (m := 1) rfl) (denX rfl) (by omega) (fU16 (by omega) (by omega)) (fU16 (by omega) (by omega)) rfl rfl) <|
   hc (eqcF rfl (by omega)) <|
   hnil
def hyUp0_p21 : LK := [(.bin .shr (.x 0) (.i .u64 (.ofNat 10)), .x 12), (.bin .and (.x 12) (.i .u16 (.ofNat 1)), .x 13), (.bin .eql (.x 13) (.i .u16 (.ofNat 1)), .b true)]
theorem runUp0_p21 : RNUp0_10 hyUp0_p21 .normal [(0, .x 0), (1, .x 1), (2, .x 2), (3, .x 3), (4, .x 4), (5, .x 5), (6, .x 6), (7, .x 7), (8, .x 8), (9, .x 9), (10, .i .u8 (.ofNat 80))] [] 5 epUp0_11 hpUp0_11 = true := by kernel_rfl
theorem nxUp0_p21 (up : Int) (q : Int) (X : Nat → Value) (hI : InvUp0 up (10, q)) (h0 : (up / 1024) % 2 = 1) : RHUp0 up E' x' e' h' (10, q) X := by
  obtain ⟨i0, i1, it⟩ := unIUp0 up 10 q hI
  refine stUp0_10 up q (h := hyUp0_p21) (11, q) ?_ (mkIUp0 up 11 q ⟨by omega, by omega, by omega⟩) (by show 12 - 11 < 12 - 10; omega) (thXv (v := .int .u16 (up)) rfl rfl (thXv (v := .int .u8 ((czS 99 1 up))) rfl rfl (thXv (v := .int .u8 ((czS 111 2 up))) rfl rfl (thXv (v := .int .u8 ((czS 110 4 up))) rfl rfl (thXv (v := .int .u8 ((czS 116 8 up))) rfl rfl (thXv (v := .int .u8 ((czS 101 16 up))) rfl rfl (thXv (v := .int .u8 ((czS 110 32 up))) rfl rfl (thXv (v := .int .u8 ((czS 116 64 up))) rfl rfl (thXv (v := .int .u8 ((czS 116 256 up))) rfl rfl (thXv (v := .int .u8 ((czS 121 512 up))) rfl rfl (thCons (show Is _ (.i .u8 (.ofNat 80)) (.int .u8 ((czS 112 1024 up))) from isTo (v := .int .u8 80) (isI _ _) (congrArg (Value.int .u8) (cz_t (by omega) rfl))) (thNil)))))))))))) runUp0_p21
  unfold hyUp0_p21
  exact hc (kShrM 10 1024 rfl (isX rfl) (isZ (m := 10) rfl) (denX rfl) rfl (by decide) (by omega) rfl) <|
   hc (kAndM 1 2 rfl (isX rfl) (isZ (m := 1) rfl) (denX rfl) (by omega) (fU16 (by omega) (by omega)) (fU16 (by omega) (by omega)) rfl rfl) <|
   hc (eqcT rfl (by omega)) <|
   hnil
def hyUp0_p22 : LK := [(.bin .shr (.x 0) (.i .u64 (.ofNat 11)), .x 11), (.bin .and (.x 11) (.i .u16 (.ofNat 1)), .x 12), (.bin .eql (.x 12) (.i .u16 (.ofNat 1)), .b false)]
theorem runUp0_p22 : RNUp0_11 hyUp0_p22 .normal [(0, .x 0), (1, .x 1), (2, .x 2), (3, .x 3), (4, .x 4), (5, .x 5), (6, .x 6), (7, .x 7), (8, .x 8), (9, .x 9), (10, .x 10), (11, .i .u8 (.ofNat 101))] [] 5 epUp0_12 hpUp0_12 = true := by kernel_rfl
theorem nxUp0_p22 (up : Int) (q : Int) (X : Nat → Value) (hI : InvUp0 up (11, q)) (h0 : ¬ ((up / 2048) % 2 = 1)) : RHUp0 up E' x' e' h' (11, q) X := by
  obtain ⟨i0, i1, it⟩ := unIUp0 up 11 q hI
  refine stUp0_11 up q (h := hyUp0_p22) (12, q) ?_ (mkIUp0 up 12 q ⟨by omega, by omega, by omega⟩) (by show 12 - 12 < 12 - 11; omega) (thXv (v := .int .u16 (up)) rfl rfl (thXv (v := .int .u8 ((czS 99 1 up))) rfl rfl (thXv (v := .int .u8 ((czS 111 2 up))) rfl rfl (thXv (v := .int .u8 ((czS 110 4 up))) rfl rfl (thXv (v := .int .u8 ((czS 116 8 up))) rfl rfl (thXv (v := .int .u8 ((czS 101 16 up))) rfl rfl (thXv (v := .int .u8 ((czS 110 32 up))) rfl rfl (thXv (v := .int .u8 ((czS 116 64 up))) rfl rfl (thXv (v := .int .u8 ((czS 116 256 up))) rfl rfl (thXv (v := .int .u8 ((czS 121 512 up))) rfl rfl (thXv (v := .int .u8 ((czS 112 1024 up))) rfl rfl (thCons (show Is _ (.i .u8 (.ofNat 101)) (.int .u8 ((czS 101 2048 up))) from isTo (v := .int .u8 101) (isI _ _) (congrArg (Value.int .u8) (cz_f (by omega)))) (thNil))))))))))))) runUp0_p22
  unfold hyUp0_p22
  exact hc (kShrM 11 2048 rfl (isX rfl) (isZ (m := 11) rfl) (denX rfl) rfl (by decide) (by omega) rfl) <|
   hc (kAndM 1 2 rfl (isX rfl) (isZ (m := 1) rfl) (denX rfl) (by omega) (fU16 (by omega) (by omega)) (fU16 (by omega) (by omega)) rfl rfl) <|
   hc (eqcF rfl (by omega)) <|
   hnil
def hyUp0_p23 : LK := [(.bin .shr (.x 0) (.i .u64 (.ofNat 11)), .x 13), (.bin .and (.x 13) (.i .u16 (.ofNat 1)), .x 14), (.bin .eql (.x 14) (.i .u16 (.ofNat 1)), .b true)]
theorem runUp0_p23 : RNUp0_11 hyUp0_p23 .normal [(0, .x 0), (1, .x 1), (2, .x 2), (3, .x 3), (4, .x 4), (5, .x 5), (6, .x 6), (7, .x 7), (8, .x 8), (9, .x 9), (10, .x 10), (11, .i .u8 (.ofNat 69))] [] 5 epUp0_12 hpUp0_12 = true := by kernel_rfl
theorem nxUp0_p23 (up : Int) (q : Int) (X : Nat → Value) (hI : InvUp0 up (11, q)) (h0 : (up / 2048) % 2 = 1) : RHUp0 up E' x' e' h' (11, q) X := by
  obtain ⟨i0, i1, it⟩ := unIUp0 up 11 q hI
  refine stUp0_11 up q (h := hyUp0_p23) (12, q) ?_ (mkIUp0 up 12 q ⟨by omega, by omega, by omega⟩) (by show 12 - 12 < 12 - 11; omega) (thXv (v := .int .u16 (up)) rfl rfl (thXv (v := .int .u8 ((czS 99 1 up))) rfl rfl (thXv (v := .int .u8 ((czS 111 2 up))) rfl rfl (thXv (v := .int .u8 ((czS 110 4 up))) rfl rfl (thXv (v := .int .u8 ((czS 116 8 up))) rfl rfl (thXv (v := .int .u8 ((czS 101 16 up))) rfl rfl (thXv (v := .int .u8 ((czS 110 32 up))) rfl rfl (thXv (v := .int .u8 ((czS 116 64 up))) rfl rfl (thXv (v := .int .u8 ((czS 116 256 up))) rfl rfl (thXv (v := .int .u8 ((czS 121 512 up))) rfl rfl (thXv (v := .int .u8 ((czS 112 1024 up))) rfl rfl (thCons (show Is _ (.i .u8 (.ofNat 69)) (.int .u8 ((czS 101 2048 up))) from isTo (v := .int .u8 69) (isI _ _) (congrArg (Value.int .u8) (cz_t (by omega) rfl))) (thNil))))))))))))) runUp0_p23
  unfold hyUp0_p23
  exact hc (kShrM 11 2048 rfl (isX rfl) (isZ (m := 11) rfl) (denX rfl) rfl (by decide) (by omega) rfl) <|
   hc (kAndM 1 2 rfl (isX rfl) (isZ (m := 1) rfl) (denX rfl) (by omega) (fU16 (by omega) (by omega)) (fU16 (by omega) (by omega)) rfl rfl) <|
   hc (eqcT rfl (by omega)) <|
   hnil
def hyUp0_p24 : LK := []
theorem runUp0_p24 : RNUp0_12 hyUp0_p24 (.exit 0) [(0, .x 1), (1, .x 2), (2, .x 3), (3, .x 4), (4, .x 5), (5, .x 6), (6, .x 7), (7, .x 8), (8, .x 9), (9, .x 10), (10, .x 11)] [] 33 [(5, .sl 3 0 12 12 false)] [(3, .b ⟨5, .l [.x 0, .x 1, .x 2, .x 3, .x 4, .x 5, .x 6, .i .u8 (.ofNat 45), .x 7, .x 8, .x 9, .x 10], 0, 0, 0, true, false⟩)] = true := by kernel_rfl
def nuEUp0_0 (up : Int) : List Value := [.int .u8 ((czS 99 1 up)), .int .u8 ((czS 111 2 up)), .int .u8 ((czS 110 4 up)), .int .u8 ((czS 116 8 up)), .int .u8 ((czS 101 16 up)), .int .u8 ((czS 110 32 up)), .int .u8 ((czS 116 64 up)), .int .u8 ((czS 116 256 up)), .int .u8 ((czS 121 512 up)), .int .u8 ((czS 112 1024 up)), .int .u8 ((czS 101 2048 up))]
def roEUp0_0 (up : Int) : List Value := []
noncomputable def EUp0_0 (up : Int) : Cx := cx (nuX (nuEUp0_0 up) (rX (roEUp0_0 up) (fun _ => .bool true))) (nuX_one (nuL_one (l := nuEUp0_0 up) rfl)) 0 laidE laidE_stab
theorem roundsUp0_0 (up : Int) (st : Nat × Int) (X : Nat → Value) (hI : InvUp0 up st) : RHUp0 up (EUp0_0 up) (.exit 0) [(5, .sl 3 0 12 12 false)] [(3, .b ⟨5, .l [.x 0, .x 1, .x 2, .x 3, .x 4, .x 5, .x 6, .i .u8 (.ofNat 45), .x 7, .x 8, .x 9, .x 10], 0, 0, 0, true, false⟩)] st X := by
  obtain ⟨tag, q⟩ := st
  have hI0 := hI
  obtain ⟨i0, i1, it⟩ := unIUp0 up tag q hI
  rcases (show tag = 0 ∨ tag = 1 ∨ tag = 2 ∨ tag = 3 ∨ tag = 4 ∨ tag = 5 ∨ tag = 6 ∨ tag = 7 ∨ tag = 8 ∨ tag = 9 ∨ tag = 10 ∨ tag = 11 ∨ tag = 12 from by omega) with rfl | rfl | rfl | rfl | rfl | rfl | rfl | rfl | rfl | rfl | rfl | rfl | rfl
  · skip
    by_cases h0 : (up / 1) % 2 = 1
    · exact nxUp0_p1 up q X hI0 h0
    · exact nxUp0_p0 up q X hI0 h0
  · skip
    by_cases h0 : (up / 2) % 2 = 1
    · exact nxUp0_p3 up q X hI0 h0
    · exact nxUp0_p2 up q X hI0 h0
  · skip
    by_cases h0 : (up / 4) % 2 = 1
    · exact nxUp0_p5 up q X hI0 h0
    · exact nxUp0_p4 up q X hI0 h0
  · skip
    by_cases h0 : (up / 8) % 2 = 1
    · exact nxUp0_p7 up q X hI0 h0
    · exact nxUp0_p6 up q X hI0 h0
  · skip
    by_cases h0 : (up / 16) % 2 = 1
    · exact nxUp0_p9 up q X hI0 h0
    · exact nxUp0_p8 up q X hI0 h0
  · skip
    by_cases h0 : (up / 32) % 2 = 1
    · exact nxUp0_p11 up q X hI0 h0
    · exact nxUp0_p10 up q X hI0 h0
  · skip
    by_cases h0 : (up / 64) % 2 = 1
    · exact nxUp0_p13 up q X hI0 h0
    · exact nxUp0_p12 up q X hI0 h0
  · skip
    by_cases h0 : (up / 128) % 2 = 1
    · exact nxUp0_p15 up q X hI0 h0
    · exact nxUp0_p14 up q X hI0 h0
  · skip
    by_cases h0 : (up / 256) % 2 = 1
    · exact nxUp0_p17 up q X hI0 h0
    · exact nxUp0_p16 up q X hI0 h0
  · skip
    by_cases h0 : (up / 512) % 2 = 1
    · exact nxUp0_p19 up q X hI0 h0
    · exact nxUp0_p18 up q X hI0 h0
  · skip
    by_cases h0 : (up / 1024) % 2 = 1
    · exact nxUp0_p21 up q X hI0 h0
    · exact nxUp0_p20 up q X hI0 h0
  · skip
    by_cases h0 : (up / 2048) % 2 = 1
    · exact nxUp0_p23 up q X hI0 h0
    · exact nxUp0_p22 up q X hI0 h0
  · skip
    skip
    refine lvUp0_12 up q (h := hyUp0_p24) rfl ?_ (thXv (v := .int .u8 ((czS 99 1 up))) rfl rfl (thXv (v := .int .u8 ((czS 111 2 up))) rfl rfl (thXv (v := .int .u8 ((czS 110 4 up))) rfl rfl (thXv (v := .int .u8 ((czS 116 8 up))) rfl rfl (thXv (v := .int .u8 ((czS 101 16 up))) rfl rfl (thXv (v := .int .u8 ((czS 110 32 up))) rfl rfl (thXv (v := .int .u8 ((czS 116 64 up))) rfl rfl (thXv (v := .int .u8 ((czS 116 256 up))) rfl rfl (thXv (v := .int .u8 ((czS 121 512 up))) rfl rfl (thXv (v := .int .u8 ((czS 112 1024 up))) rfl rfl (thXv (v := .int .u8 ((czS 101 2048 up))) rfl rfl (thNil)))))))))))) runUp0_p24
    unfold hyUp0_p24
    exact hnil
theorem lfOkUp0_0 {l : LF} {h : LH} (up : Int) (st : Nat × Int) (hI : InvUp0 up st) (hl : l.hp = some h) (hs : lfSame l h 80 keepUp0 (.exit 0) 3 5 33 = true) {th0 : LA} {sg0 : List (Nat × Nat)} (hth0 : ∀ X, ThOk (cx nu one 0 laidE laidE_stab) (DUp0 up st X) th0) (h0 : startOk l h 80 5 5 th0 sg0 (epUp0 st) (hpUp0 st) = true) {thx : LA} (hthx : ThOk (EUp0_0 up) (cx nu one 0 laidE laidE_stab) thx) (hx : exitOk l h 80 5 33 thx [(5, .sl 3 0 12 12 false)] [(3, .b ⟨5, .l [.x 0, .x 1, .x 2, .x 3, .x 4, .x 5, .x 6, .i .u8 (.ofNat 45), .x 7, .x 8, .x 9, .x 10], 0, 0, 0, true, false⟩)] = true) : LfOk (cx nu one 0 laidE laidE_stab) bodyUp0 l :=
  lfOkX (E := EUp0_0 up) (InvUp0 up) (muUp0 up) (DUp0 up) (fun _ _ => rfl) (fun _ _ => rfl) (fun _ _ => rfl) (fun st X t ht => nuX_keep.trans (rX_keep ((by decide : ∀ t, t ∈ keepUp0 → t < 1000000) t ht))) rfl rfl rfl hl hs ebUp0 rfl rfl st hI hth0 h0 hthx hx (roundsUp0_0 up)
noncomputable def bodyUp1 : Code := loopNo (Tryd.f3.body.getD .skip) 0
theorem keyUp1 : oneKey (loopsOf (Tryd.f3.body.getD .skip)) 7 0 0 = true := by kernel_rfl
def keepUp1 : List Nat := [1]
def epUp1_0 : LA := [(0, .x 0), (5, .sl 4 0 12 12 false), (6, .i .i64 (.ofNat 0))]
def hpUp1_0 : LE := [(4, .b ⟨5, .y 12 31393959233194794397178163043, 0, 0, 0, true, false⟩)]
def nuUp1_0 (up q : Int) : List Value := [.int .u16 (up), .int .u16 (up / 1), .int .u16 ((up / 1) % 2), .int .u16 (up / 1), .int .u16 ((up / 1) % 2)]
def roUp1_0 (up q : Int) : List Value := []
def epUp1_1 : LA := [(0, .x 0), (5, .sl 4 0 12 12 false), (6, .i .i64 (.ofNat 1))]
def hpUp1_1 : LE := [(4, .b ⟨5, .l [.x 1, .i .u8 (.ofNat 111), .i .u8 (.ofNat 110), .i .u8 (.ofNat 116), .i .u8 (.ofNat 101), .i .u8 (.ofNat 110), .i .u8 (.ofNat 116), .i .u8 (.ofNat 45), .i .u8 (.ofNat 116), .i .u8 (.ofNat 121), .i .u8 (.ofNat 112), .i .u8 (.ofNat 101)], 0, 0, 0, true, false⟩)]
def nuUp1_1 (up q : Int) : List Value := [.int .u16 (up), .int .u8 ((czS 99 1 up)), .int .u16 (up / 2), .int .u16 ((up / 2) % 2), .int .u16 (up / 2), .int .u16 ((up / 2) % 2)]
def roUp1_1 (up q : Int) : List Value := []
def epUp1_2 : LA := [(0, .x 0), (5, .sl 4 0 12 12 false), (6, .i .i64 (.ofNat 2))]
def hpUp1_2 : LE := [(4, .b ⟨5, .l [.x 1, .x 2, .i .u8 (.ofNat 110), .i .u8 (.ofNat 116), .i .u8 (.ofNat 101), .i .u8 (.ofNat 110), .i .u8 (.ofNat 116), .i .u8 (.ofNat 45), .i .u8 (.ofNat 116), .i .u8 (.ofNat 121), .i .u8 (.ofNat 112), .i .u8 (.ofNat 101)], 0, 0, 0, true, false⟩)]
def nuUp1_2 (up q : Int) : List Value := [.int .u16 (up), .int .u8 ((czS 99 1 up)), .int .u8 ((czS 111 2 up)), .int .u16 (up / 4), .int .u16 ((up / 4) % 2), .int .u16 (up / 4), .int .u16 ((up / 4) % 2)]
def roUp1_2 (up q : Int) : List Value := []
def epUp1_3 : LA := [(0, .x 0), (5, .sl 4 0 12 12 false), (6, .i .i64 (.ofNat 3))]
def hpUp1_3 : LE := [(4, .b ⟨5, .l [.x 1, .x 2, .x 3, .i .u8 (.ofNat 116), .i .u8 (.ofNat 101), .i .u8 (.ofNat 110), .i .u8 (.ofNat 116), .i .u8 (.ofNat 45), .i .u8 (.ofNat 116), .i .u8 (.ofNat 121), .i .u8 (.ofNat 112), .i .u8 (.ofNat 101)], 0, 0, 0, true, false⟩)]
def nuUp1_3 (up q : Int) : List Value := [.int .u16 (up), .int .u8 ((czS 99 1 up)), .int .u8 ((czS 111 2 up)), .int .u8 ((czS 110 4 up)), .int .u16 (up / 8), .int .u16 ((up / 8) % 2), .int .u16 (up / 8), .int .u16 ((up / 8) % 2)]
def roUp1_3 (up q : Int) : List Value := []
def epUp1_4 : LA := [(0, .x 0), (5, .sl 4 0 12 12 false), (6, .i .i64 (.ofNat 4))]
def hpUp1_4 : LE := [(4, .b ⟨5, .l [.x 1, .x 2, .x 3, .x 4, .i .u8 (.ofNat 101), .i .u8 (.ofNat 110), .i .u8 (.ofNat 116), .i .u8 (.ofNat 45), .i .u8 (.ofNat 116), .i .u8 (.ofNat 121), .i .u8 (.ofNat 112), .i .u8 (.ofNat 101)], 0, 0, 0, true, false⟩)]
def nuUp1_4 (up q : Int) : List Value := [.int .u16 (up), .int .u8 ((czS 99 1 up)), .int .u8 ((czS 111 2 up)), .int .u8 ((czS 110 4 up)), .int .u8 ((czS 116 8 up)), .int .u16 (up / 16), .int .u16 ((up / 16) % 2), .int .u16 (up / 16), .int .u16 ((up / 16) % 2)]
def roUp1_4 (up q : Int) : List Value := []
def epUp1_5 : LA := [(0, .x 0), (5, .sl 4 0 12 12 false), (6, .i .i64 (.ofNat 5))]
def hpUp1_5 : LE := [(4, .b ⟨5, .l [.x 1, .x 2, .x 3, .x 4, .x 5, .i .u8 (.ofNat 110), .i .u8 (.ofNat 116), .i .u8 (.ofNat 45), .i .u8 (.ofNat 116), .i .u8 (.ofNat 121), .i .u8 (.ofNat 112), .i .u8 (.ofNat 101)], 0, 0, 0, true, false⟩)]
def nuUp1_5 (up q : Int) : List Value := [.int .u16 (up), .int .u8 ((czS 99 1 up)), .int .u8 ((czS 111 2 up)), .int .u8 ((czS 110 4 up)), .int .u8 ((czS 116 8 up)), .int .u8 ((czS 101 16 up)), .int .u16 (up / 32), .int .u16 ((up / 32) % 2), .int .u16 (up / 32), .int .u16 ((up / 32) % 2)]
def roUp1_5 (up q : Int) : List Value := []
def epUp1_6 : LA := [(0, .x 0), (5, .sl 4 0 12 12 false), (6, .i .i64 (.ofNat 6))]
def hpUp1_6 : LE := [(4, .b ⟨5, .l [.x 1, .x 2, .x 3, .x 4, .x 5, .x 6, .i .u8 (.ofNat 116), .i .u8 (.ofNat 45), .i .u8 (.ofNat 116), .i .u8 (.ofNat 121), .i .u8 (.ofNat 112), .i .u8 (.ofNat 101)], 0, 0, 0, true, false⟩)]
def nuUp1_6 (up q : Int) : List Value := [.int .u16 (up), .int .u8 ((czS 99 1 up)), .int .u8 ((czS 111 2 up)), .int .u8 ((czS 110 4 up)), .int .u8 ((czS 116 8 up)), .int .u8 ((czS 101 16 up)), .int .u8 ((czS 110 32 up)), .int .u16 (up / 64), .int .u16 ((up / 64) % 2), .int .u16 (up / 64), .int .u16 ((up / 64) % 2)]
def roUp1_6 (up q : Int) : List Value := []
def epUp1_7 : LA := [(0, .x 0), (5, .sl 4 0 12 12 false), (6, .i .i64 (.ofNat 7))]
def hpUp1_7 : LE := [(4, .b ⟨5, .l [.x 1, .x 2, .x 3, .x 4, .x 5, .x 6, .x 7, .i .u8 (.ofNat 45), .i .u8 (.ofNat 116), .i .u8 (.ofNat 121), .i .u8 (.ofNat 112), .i .u8 (.ofNat 101)], 0, 0, 0, true, false⟩)]
def nuUp1_7 (up q : Int) : List Value := [.int .u16 (up), .int .u8 ((czS 99 1 up)), .int .u8 ((czS 111 2 up)), .int .u8 ((czS 110 4 up)), .int .u8 ((czS 116 8 up)), .int .u8 ((czS 101 16 up)), .int .u8 ((czS 110 32 up)), .int .u8 ((czS 116 64 up)), .int .u16 (up / 128), .int .u16 ((up / 128) % 2), .int .u16 (up / 128), .int .u16 ((up / 128) % 2)]
def roUp1_7 (up q : Int) : List Value := []
def epUp1_8 : LA := [(0, .x 0), (5, .sl 4 0 12 12 false), (6, .i .i64 (.ofNat 8))]
def hpUp1_8 : LE := [(4, .b ⟨5, .l [.x 1, .x 2, .x 3, .x 4, .x 5, .x 6, .x 7, .i .u8 (.ofNat 45), .i .u8 (.ofNat 116), .i .u8 (.ofNat 121), .i .u8 (.ofNat 112), .i .u8 (.ofNat 101)], 0, 0, 0, true, false⟩)]
def nuUp1_8 (up q : Int) : List Value := [.int .u16 (up), .int .u8 ((czS 99 1 up)), .int .u8 ((czS 111 2 up)), .int .u8 ((czS 110 4 up)), .int .u8 ((czS 116 8 up)), .int .u8 ((czS 101 16 up)), .int .u8 ((czS 110 32 up)), .int .u8 ((czS 116 64 up)), .int .u16 (up / 256), .int .u16 ((up / 256) % 2), .int .u16 (up / 256), .int .u16 ((up / 256) % 2)]
def roUp1_8 (up q : Int) : List Value := []
def epUp1_9 : LA := [(0, .x 0), (5, .sl 4 0 12 12 false), (6, .i .i64 (.ofNat 9))]
def hpUp1_9 : LE := [(4, .b ⟨5, .l [.x 1, .x 2, .x 3, .x 4, .x 5, .x 6, .x 7, .i .u8 (.ofNat 45), .x 8, .i .u8 (.ofNat 121), .i .u8 (.ofNat 112), .i .u8 (.ofNat 101)], 0, 0, 0, true, false⟩)]
def nuUp1_9 (up q : Int) : List Value := [.int .u16 (up), .int .u8 ((czS 99 1 up)), .int .u8 ((czS 111 2 up)), .int .u8 ((czS 110 4 up)), .int .u8 ((czS 116 8 up)), .int .u8 ((czS 101 16 up)), .int .u8 ((czS 110 32 up)), .int .u8 ((czS 116 64 up)), .int .u8 ((czS 116 256 up)), .int .u16 (up / 512), .int .u16 ((up / 512) % 2), .int .u16 (up / 512), .int .u16 ((up / 512) % 2)]
def roUp1_9 (up q : Int) : List Value := []
def epUp1_10 : LA := [(0, .x 0), (5, .sl 4 0 12 12 false), (6, .i .i64 (.ofNat 10))]
def hpUp1_10 : LE := [(4, .b ⟨5, .l [.x 1, .x 2, .x 3, .x 4, .x 5, .x 6, .x 7, .i .u8 (.ofNat 45), .x 8, .x 9, .i .u8 (.ofNat 112), .i .u8 (.ofNat 101)], 0, 0, 0, true, false⟩)]
def nuUp1_10 (up q : Int) : List Value := [.int .u16 (up), .int .u8 ((czS 99 1 up)), .int .u8 ((czS 111 2 up)), .int .u8 ((czS 110 4 up)), .int .u8 ((czS 116 8 up)), .int .u8 ((czS 101 16 up)), .int .u8 ((czS 110 32 up)), .int .u8 ((czS 116 64 up)), .int .u8 ((czS 116 256 up)), .int .u8 ((czS 121 512 up)), .int .u16 (up / 1024), .int .u16 ((up / 1024) % 2), .int .u16 (up / 1024), .int .u16 ((up / 1024) % 2)]
def roUp1_10 (up q : Int) : List Value := []
def epUp1_11 : LA := [(0, .x 0), (5, .sl 4 0 12 12 false), (6, .i .i64 (.ofNat 11))]
def hpUp1_11 : LE := [(4, .b ⟨5, .l [.x 1, .x 2, .x 3, .x 4, .x 5, .x 6, .x 7, .i .u8 (.ofNat 45), .x 8, .x 9, .x 10, .i .u8 (.ofNat 101)], 0, 0, 0, true, false⟩)]
def nuUp1_11 (up q : Int) : List Value := [.int .u16 (up), .int .u8 ((czS 99 1 up)), .int .u8 ((czS 111 2 up)), .int .u8 ((czS 110 4 up)), .int .u8 ((czS 116 8 up)), .int .u8 ((czS 101 16 up)), .int .u8 ((czS 110 32 up)), .int .u8 ((czS 116 64 up)), .int .u8 ((czS 116 256 up)), .int .u8 ((czS 121 512 up)), .int .u8 ((czS 112 1024 up)), .int .u16 (up / 2048), .int .u16 ((up / 2048) % 2), .int .u16 (up / 2048), .int .u16 ((up / 2048) % 2)]
def roUp1_11 (up q : Int) : List Value := []
def epUp1_12 : LA := [(0, .x 0), (5, .sl 4 0 12 12 false), (6, .i .i64 (.ofNat 12))]
def hpUp1_12 : LE := [(4, .b ⟨5, .l [.x 1, .x 2, .x 3, .x 4, .x 5, .x 6, .x 7, .i .u8 (.ofNat 45), .x 8, .x 9, .x 10, .x 11], 0, 0, 0, true, false⟩)]
def nuUp1_12 (up q : Int) : List Value := [.int .u16 (up), .int .u8 ((czS 99 1 up)), .int .u8 ((czS 111 2 up)), .int .u8 ((czS 110 4 up)), .int .u8 ((czS 116 8 up)), .int .u8 ((czS 101 16 up)), .int .u8 ((czS 110 32 up)), .int .u8 ((czS 116 64 up)), .int .u8 ((czS 116 256 up)), .int .u8 ((czS 121 512 up)), .int .u8 ((czS 112 1024 up)), .int .u8 ((czS 101 2048 up))]
def roUp1_12 (up q : Int) : List Value := []
def epUp1 (st : Nat × Int) : LA := if st.1 = 0 then epUp1_0 else if st.1 = 1 then epUp1_1 else if st.1 = 2 then epUp1_2 else if st.1 = 3 then epUp1_3 else if st.1 = 4 then epUp1_4 else if st.1 = 5 then epUp1_5 else if st.1 = 6 then epUp1_6 else if st.1 = 7 then epUp1_7 else if st.1 = 8 then epUp1_8 else if st.1 = 9 then epUp1_9 else if st.1 = 10 then epUp1_10 else if st.1 = 11 then epUp1_11 else epUp1_12
def hpUp1 (st : Nat × Int) : LE := if st.1 = 0 then hpUp1_0 else if st.1 = 1 then hpUp1_1 else if st.1 = 2 then hpUp1_2 else if st.1 = 3 then hpUp1_3 else if st.1 = 4 then hpUp1_4 else if st.1 = 5 then hpUp1_5 else if st.1 = 6 then hpUp1_6 else if st.1 = 7 then hpUp1_7 else if st.1 = 8 then hpUp1_8 else if st.1 = 9 then hpUp1_9 else if st.1 = 10 then hpUp1_10 else if st.1 = 11 then hpUp1_11 else hpUp1_12
def nuUp1 (up : Int) (st : Nat × Int) : List Value := if st.1 = 0 then nuUp1_0 up (st.2) else if st.1 = 1 then nuUp1_1 up (st.2) else if st.1 = 2 then nuUp1_2 up (st.2) else if st.1 = 3 then nuUp1_3 up (st.2) else if st.1 = 4 then nuUp1_4 up (st.2) else if st.1 = 5 then nuUp1_5 up (st.2) else if st.1 = 6 then nuUp1_6 up (st.2) else if st.1 = 7 then nuUp1_7 up (st.2) else if st.1 = 8 then nuUp1_8 up (st.2) else if st.1 = 9 then nuUp1_9 up (st.2) else if st.1 = 10 then nuUp1_10 up (st.2) else if st.1 = 11 then nuUp1_11 up (st.2) else nuUp1_12 up (st.2)
def roUp1 (up : Int) (st : Nat × Int) : List Value := if st.1 = 0 then roUp1_0 up (st.2) else if st.1 = 1 then roUp1_1 up (st.2) else if st.1 = 2 then roUp1_2 up (st.2) else if st.1 = 3 then roUp1_3 up (st.2) else if st.1 = 4 then roUp1_4 up (st.2) else if st.1 = 5 then roUp1_5 up (st.2) else if st.1 = 6 then roUp1_6 up (st.2) else if st.1 = 7 then roUp1_7 up (st.2) else if st.1 = 8 then roUp1_8 up (st.2) else if st.1 = 9 then roUp1_9 up (st.2) else if st.1 = 10 then roUp1_10 up (st.2) else if st.1 = 11 then roUp1_11 up (st.2) else roUp1_12 up (st.2)
theorem onUp1 (up : Int) (st : Nat × Int) : ∀ j, (nuL (nuUp1 up st) j).oneCell' = true := by
  intro j
  unfold nuUp1
  by_cases g0 : st.1 = 0
  · rw [if_pos g0]; exact nuL_one (l := nuUp1_0 up (st.2)) rfl j
  rw [if_neg g0]
  by_cases g1 : st.1 = 1
  · rw [if_pos g1]; exact nuL_one (l := nuUp1_1 up (st.2)) rfl j
  rw [if_neg g1]
  by_cases g2 : st.1 = 2
  · rw [if_pos g2]; exact nuL_one (l := nuUp1_2 up (st.2)) rfl j
  rw [if_neg g2]
  by_cases g3 : st.1 = 3
  · rw [if_pos g3]; exact nuL_one (l := nuUp1_3 up (st.2)) rfl j
  rw [if_neg g3]
  by_cases g4 : st.1 = 4
  · rw [if_pos g4]; exact nuL_one (l := nuUp1_4 up (st.2)) rfl j
  rw [if_neg g4]
  by_cases g5 : st.1 = 5
  · rw [if_pos g5]; exact nuL_one (l := nuUp1_5 up (st.2)) rfl j
  rw [if_neg g5]
  by_cases g6 : st.1 = 6
  · rw [if_pos g6]; exact nuL_one (l := nuUp1_6 up (st.2)) rfl j
  rw [if_neg g6]
  by_cases g7 : st.1 = 7
  · rw [if_pos g7]; exact nuL_one (l := nuUp1_7 up (st.2)) rfl j
  rw [if_neg g7]
  by_cases g8 : st.1 = 8
  · rw [if_pos g8]; exact nuL_one (l := nuUp1_8 up (st.2)) rfl j
  rw [if_neg g8]
  by_cases g9 : st.1 = 9
  · rw [if_pos g9]; exact nuL_one (l := nuUp1_9 up (st.2)) rfl j
  rw [if_neg g9]
  by_cases g10 : st.1 = 10
  · rw [if_pos g10]; exact nuL_one (l := nuUp1_10 up (st.2)) rfl j
  rw [if_neg g10]
  by_cases g11 : st.1 = 11
  · rw [if_pos g11]; exact nuL_one (l := nuUp1_11 up (st.2)) rfl j
  rw [if_neg g11]
  exact nuL_one (l := nuUp1_12 up (st.2)) rfl j
theorem ebUp1 (st : Nat × Int) : (lfB (epUp1 st) && lfC keepUp1) = true := by
  unfold epUp1
  by_cases g0 : st.1 = 0
  · rw [if_pos g0]; rfl
  rw [if_neg g0]
  by_cases g1 : st.1 = 1
  · rw [if_pos g1]; rfl
  rw [if_neg g1]
  by_cases g2 : st.1 = 2
  · rw [if_pos g2]; rfl
  rw [if_neg g2]
  by_cases g3 : st.1 = 3
  · rw [if_pos g3]; rfl
  rw [if_neg g3]
  by_cases g4 : st.1 = 4
  · rw [if_pos g4]; rfl
  rw [if_neg g4]
  by_cases g5 : st.1 = 5
  · rw [if_pos g5]; rfl
  rw [if_neg g5]
  by_cases g6 : st.1 = 6
  · rw [if_pos g6]; rfl
  rw [if_neg g6]
  by_cases g7 : st.1 = 7
  · rw [if_pos g7]; rfl
  rw [if_neg g7]
  by_cases g8 : st.1 = 8
  · rw [if_pos g8]; rfl
  rw [if_neg g8]
  by_cases g9 : st.1 = 9
  · rw [if_pos g9]; rfl
  rw [if_neg g9]
  by_cases g10 : st.1 = 10
  · rw [if_pos g10]; rfl
  rw [if_neg g10]
  by_cases g11 : st.1 = 11
  · rw [if_pos g11]; rfl
  rw [if_neg g11]
  rfl
noncomputable def DUp1 (up : Int) (st : Nat × Int) (X : Nat → Value) : Cx := cx (nuX (nuUp1 up st) (rX (roUp1 up st) X)) (nuX_one (onUp1 up st)) 0 laidE laidE_stab
def InvUp1 (up : Int) (st : Nat × Int) : Prop := (0 ≤ up) ∧ (up ≤ 65535) ∧ ((st.1) < 13)
abbrev CjUp1 (up : Int) (tag : Nat) (q : Int) : Prop := (0 ≤ up) ∧ (up ≤ 65535) ∧ (tag < 13)
theorem mkIUp1 (up : Int) (tag : Nat) (q : Int) (h : CjUp1 up tag q) : InvUp1 up (tag, q) := h
theorem unIUp1 (up : Int) (tag : Nat) (q : Int) (h : InvUp1 up (tag, q)) : (0 ≤ up) ∧ (up ≤ 65535) ∧ (tag < 13) := h
def muUp1 (up : Int) (st : Nat × Int) : Nat := (12 - (st.1))
abbrev RHUp1 (up : Int) (E' : Cx) (ex' : Ex) (epx' : LA) (hpx' : LE) (st : Nat × Int) (X : Nat → Value) : Prop := RoundH E' bodyUp1 keepUp1 80 ex' 3 5 5 33 epUp1 hpUp1 epx' hpx' (InvUp1 up) (muUp1 up) (DUp1 up) st X
noncomputable abbrev RNUp1_0 (h : LK) (x : Ex) (th : LA) (sg : List (Nat × Nat)) (m : Nat) (ep : LA) (hp : LE) : Bool := okRdH (code (tbl h) 3000 [] bodyUp1 (envOf (headOf epUp1_0 keepUp1) 80) ⟨lhSet hpUp1_0 .leaf, 5, 0, 0⟩) x keepUp1 80 33 th sg 5 m ep hp
theorem stUp1_0 (up q : Int) {X : Nat → Value} {h : LK} (y : Nat × Int) {th : LA} {sg : List (Nat × Nat)} (ho : ∀ a' r', (a', r') ∈ h → HOk (cx (nuX (nuUp1_0 up q) (rX (roUp1_0 up q) X)) (nuX_one (nuL_one (l := nuUp1_0 up q) rfl)) 0 laidE laidE_stab) a' r') (hy : InvUp1 up y) (lt : muUp1 up y < muUp1 up (0, q)) (ht : ThOk (cx (nuX (nuUp1_0 up q) (rX (roUp1_0 up q) X)) (nuX_one (nuL_one (l := nuUp1_0 up q) rfl)) 0 laidE laidE_stab) (DUp1 up y X) th) (run : RNUp1_0 h .normal th sg 5 (epUp1 y) (hpUp1 y) = true) : RHUp1 up E' x' e' h' (0, q) X :=
  RoundH.next (tb := tbl h) (L := []) (f := 3000) y ((tabkOk _ _).hyps ho) (LpOk.nil _) rfl hy lt ht run
theorem lvUp1_0 (up q : Int) {X : Nat → Value} {h : LK} {th : LA} {sg : List (Nat × Nat)} (hne : exB x' .normal = false) (ho : ∀ a' r', (a', r') ∈ h → HOk (cx (nuX (nuUp1_0 up q) (rX (roUp1_0 up q) X)) (nuX_one (nuL_one (l := nuUp1_0 up q) rfl)) 0 laidE laidE_stab) a' r') (ht : ThOk (cx (nuX (nuUp1_0 up q) (rX (roUp1_0 up q) X)) (nuX_one (nuL_one (l := nuUp1_0 up q) rfl)) 0 laidE laidE_stab) E' th) (run : RNUp1_0 h x' th sg 33 e' h' = true) : RHUp1 up E' x' e' h' (0, q) X :=
  RoundH.leave (tb := tbl h) (L := []) (f := 3000) ((tabkOk _ _).hyps ho) (LpOk.nil _) rfl hne ht run
noncomputable abbrev RNUp1_1 (h : LK) (x : Ex) (th : LA) (sg : List (Nat × Nat)) (m : Nat) (ep : LA) (hp : LE) : Bool := okRdH (code (tbl h) 3000 [] bodyUp1 (envOf (headOf epUp1_1 keepUp1) 80) ⟨lhSet hpUp1_1 .leaf, 5, 0, 0⟩) x keepUp1 80 33 th sg 5 m ep hp
theorem stUp1_1 (up q : Int) {X : Nat → Value} {h : LK} (y : Nat × Int) {th : LA} {sg : List (Nat × Nat)} (ho : ∀ a' r', (a', r') ∈ h → HOk (cx (nuX (nuUp1_1 up q) (rX (roUp1_1 up q) X)) (nuX_one (nuL_one (l := nuUp1_1 up q) rfl)) 0 laidE laidE_stab) a' r') (hy : InvUp1 up y) (lt : muUp1 up y < muUp1 up (1, q)) (ht : ThOk (cx (nuX (nuUp1_1 up q) (rX (roUp1_1 up q) X)) (nuX_one (nuL_one (l := nuUp1_1 up q) rfl)) 0 laidE laidE_stab) (DUp1 up y X) th) (run : RNUp1_1 h .normal th sg 5 (epUp1 y) (hpUp1 y) = true) : RHUp1 up E' x' e' h' (1, q) X :=
  RoundH.next (tb := tbl h) (L := []) (f := 3000) y ((tabkOk _ _).hyps ho) (LpOk.nil _) rfl hy lt ht run
theorem lvUp1_1 (up q : Int) {X : Nat → Value} {h : LK} {th : LA} {sg : List (Nat × Nat)} (hne : exB x' .normal = false) (ho : ∀ a' r', (a', r') ∈ h → HOk (cx (nuX (nuUp1_1 up q) (rX (roUp1_1 up q) X)) (nuX_one (nuL_one (l := nuUp1_1 up q) rfl)) 0 laidE laidE_stab) a' r') (ht : ThOk (cx (nuX (nuUp1_1 up q) (rX (roUp1_1 up q) X)) (nuX_one (nuL_one (l := nuUp1_1 up q) rfl)) 0 laidE laidE_stab) E' th) (run : RNUp1_1 h x' th sg 33 e' h' = true) : RHUp1 up E' x' e' h' (1, q) X :=
  RoundH.leave (tb := tbl h) (L := []) (f := 3000) ((tabkOk _ _).hyps ho) (LpOk.nil _) rfl hne ht run
noncomputable abbrev RNUp1_2 (h : LK) (x : Ex) (th : LA) (sg : List (Nat × Nat)) (m : Nat) (ep : LA) (hp : LE) : Bool := okRdH (code (tbl h) 3000 [] bodyUp1 (envOf (headOf epUp1_2 keepUp1) 80) ⟨lhSet hpUp1_2 .leaf, 5, 0, 0⟩) x keepUp1 80 33 th sg 5 m ep hp
theorem stUp1_2 (up q : Int) {X : Nat → Value} {h : LK} (y : Nat × Int) {th : LA} {sg : List (Nat × Nat)} (ho : ∀ a' r', (a', r') ∈ h → HOk (cx (nuX (nuUp1_2 up q) (rX (roUp1_2 up q) X)) (nuX_one (nuL_one (l := nuUp1_2 up q) rfl)) 0 laidE laidE_stab) a' r') (hy : InvUp1 up y) (lt : muUp1 up y < muUp1 up (2, q)) (ht : ThOk (cx (nuX (nuUp1_2 up q) (rX (roUp1_2 up q) X)) (nuX_one (nuL_one (l := nuUp1_2 up q) rfl)) 0 laidE laidE_stab) (DUp1 up y X) th) (run : RNUp1_2 h .normal th sg 5 (epUp1 y) (hpUp1 y) = true) : RHUp1 up E' x' e' h' (2, q) X :=
  RoundH.next (tb := tbl h) (L := []) (f := 3000) y ((tabkOk _ _).hyps ho) (LpOk.nil _) rfl hy lt ht run
theorem lvUp1_2 (up q : Int) {X : Nat → Value} {h : LK} {th : LA} {sg : List (Nat × Nat)} (hne : exB x' .normal = false) (ho : ∀ a' r', (a', r') ∈ h → HOk (cx (nuX (nuUp1_2 up q) (rX (roUp1_2 up q) X)) (nuX_one (nuL_one (l := nuUp1_2 up q) rfl)) 0 laidE laidE_stab) a' r') (ht : ThOk (cx (nuX (nuUp1_2 up q) (rX (roUp1_2 up q) X)) (nuX_one (nuL_one (l := nuUp1_2 up q) rfl)) 0 laidE laidE_stab) E' th) (run : RNUp1_2 h x' th sg 33 e' h' = true) : RHUp1 up E' x' e' h' (2, q) X :=
  RoundH.leave (tb := tbl h) (L := []) (f := 3000) ((tabkOk _ _).hyps ho) (LpOk.nil _) rfl hne ht run
noncomputable abbrev RNUp1_3 (h : LK) (x : Ex) (th : LA) (sg : List (Nat × Nat)) (m : Nat) (ep : LA) (hp : LE) : Bool := okRdH (code (tbl h) 3000 [] bodyUp1 (envOf (headOf epUp1_3 keepUp1) 80) ⟨lhSet hpUp1_3 .leaf, 5, 0, 0⟩) x keepUp1 80 33 th sg 5 m ep hp
theorem stUp1_3 (up q : Int) {X : Nat → Value} {h : LK} (y : Nat × Int) {th : LA} {sg : List (Nat × Nat)} (ho : ∀ a' r', (a', r') ∈ h → HOk (cx (nuX (nuUp1_3 up q) (rX (roUp1_3 up q) X)) (nuX_one (nuL_one (l := nuUp1_3 up q) rfl)) 0 laidE laidE_stab) a' r') (hy : InvUp1 up y) (lt : muUp1 up y < muUp1 up (3, q)) (ht : ThOk (cx (nuX (nuUp1_3 up q) (rX (roUp1_3 up q) X)) (nuX_one (nuL_one (l := nuUp1_3 up q) rfl)) 0 laidE laidE_stab) (DUp1 up y X) th) (run : RNUp1_3 h .normal th sg 5 (epUp1 y) (hpUp1 y) = true) : RHUp1 up E' x' e' h' (3, q) X :=
  RoundH.next (tb := tbl h) (L := []) (f := 3000) y ((tabkOk _ _).hyps ho) (LpOk.nil _) rfl hy lt ht run
theorem lvUp1_3 (up q : Int) {X : Nat → Value} {h : LK} {th : LA} {sg : List (Nat × Nat)} (hne : exB x' .normal = false) (ho : ∀ a' r', (a', r') ∈ h → HOk (cx (nuX (nuUp1_3 up q) (rX (roUp1_3 up q) X)) (nuX_one (nuL_one (l := nuUp1_3 up q) rfl)) 0 laidE laidE_stab) a' r') (ht : ThOk (cx (nuX (nuUp1_3 up q) (rX (roUp1_3 up q) X)) (nuX_one (nuL_one (l := nuUp1_3 up q) rfl)) 0 laidE laidE_stab) E' th) (run : RNUp1_3 h x' th sg 33 e' h' = true) : RHUp1 up E' x' e' h' (3, q) X :=
  RoundH.leave (tb := tbl h) (L := []) (f := 3000) ((tabkOk _ _).hyps ho) (LpOk.nil _) rfl hne ht run
noncomputable abbrev RNUp1_4 (h : LK) (x : Ex) (th : LA) (sg : List (Nat × Nat)) (m : Nat) (ep : LA) (hp : LE) : Bool := okRdH (code (tbl h) 3000 [] bodyUp1 (envOf (headOf epUp1_4 keepUp1) 80) ⟨lhSet hpUp1_4 .leaf, 5, 0, 0⟩) x keepUp1 80 33 th sg 5 m ep hp
theorem stUp1_4 (up q : Int) {X : Nat → Value} {h : LK} (y : Nat × Int) {th : LA} {sg : List (Nat × Nat)} (ho : ∀ a' r', (a', r') ∈ h → HOk (cx (nuX (nuUp1_4 up q) (rX (roUp1_4 up q) X)) (nuX_one (nuL_one (l := nuUp1_4 up q) rfl)) 0 laidE laidE_stab) a' r') (hy : InvUp1 up y) (lt : muUp1 up y < muUp1 up (4, q)) (ht : ThOk (cx (nuX (nuUp1_4 up q) (rX (roUp1_4 up q) X)) (nuX_one (nuL_one (l := nuUp1_4 up q) rfl)) 0 laidE laidE_stab) (DUp1 up y X) th) (run : RNUp1_4 h .normal th sg 5 (epUp1 y) (hpUp1 y) = true) : RHUp1 up E' x' e' h' (4, q) X :=
  RoundH.next (tb := tbl h) (L := []) (f := 3000) y ((tabkOk _ _).hyps ho) (LpOk.nil _) rfl hy lt ht run
theorem lvUp1_4 (up q : Int) {X : Nat → Value} {h : LK} {th : LA} {sg : List (Nat × Nat)} (hne : exB x' .normal = false) (ho : ∀ a' r', (a', r') ∈ h → HOk (cx (nuX (nuUp1_4 up q) (rX (roUp1_4 up q) X)) (nuX_one (nuL_one (l := nuUp1_4 up q) rfl)) 0 laidE laidE_stab) a' r') (ht : ThOk (cx (nuX (nuUp1_4 up q) (rX (roUp1_4 up q) X)) (nuX_one (nuL_one (l := nuUp1_4 up q) rfl)) 0 laidE laidE_stab) E' th) (run : RNUp1_4 h x' th sg 33 e' h' = true) : RHUp1 up E' x' e' h' (4, q) X :=
  RoundH.leave (tb := tbl h) (L := []) (f := 3000) ((tabkOk _ _).hyps ho) (LpOk.nil _) rfl hne ht run
noncomputable abbrev RNUp1_5 (h : LK) (x : Ex) (th : LA) (sg : List (Nat × Nat)) (m : Nat) (ep : LA) (hp : LE) : Bool := okRdH (code (tbl h) 3000 [] bodyUp1 (envOf (headOf epUp1_5 keepUp1) 80) ⟨lhSet hpUp1_5 .leaf, 5, 0, 0⟩) x keepUp1 80 33 th sg 5 m ep hp
theorem stUp1_5 (up q : Int) {X : Nat → Value} {h : LK} (y : Nat × Int) {th : LA} {sg : List (Nat × Nat)} (ho : ∀ a' r', (a', r') ∈ h → HOk (cx (nuX (nuUp1_5 up q) (rX (roUp1_5 up q) X)) (nuX_one (nuL_one (l := nuUp1_5 up q) rfl)) 0 laidE laidE_stab) a' r') (hy : InvUp1 up y) (lt : muUp1 up y < muUp1 up (5, q)) (ht : ThOk (cx (nuX (nuUp1_5 up q) (rX (roUp1_5 up q) X)) (nuX_one (nuL_one (l := nuUp1_5 up q) rfl)) 0 laidE laidE_stab) (DUp1 up y X) th) (run : RNUp1_5 h .normal th sg 5 (epUp1 y) (hpUp1 y) = true) : RHUp1 up E' x' e' h' (5, q) X :=
  RoundH.next (tb := tbl h) (L := []) (f := 3000) y ((tabkOk _ _).hyps ho) (LpOk.nil _) rfl hy lt ht run
theorem lvUp1_5 (up q : Int) {X : Nat → Value} {h : LK} {th : LA} {sg : List (Nat × Nat)} (hne : exB x' .normal = false) (ho : ∀ a' r', (a', r') ∈ h → HOk (cx (nuX (nuUp1_5 up q) (rX (roUp1_5 up q) X)) (nuX_one (nuL_one (l := nuUp1_5 up q) rfl)) 0 laidE laidE_stab) a' r') (ht : ThOk (cx (nuX (nuUp1_5 up q) (rX (roUp1_5 up q) X)) (nuX_one (nuL_one (l := nuUp1_5 up q) rfl)) 0 laidE laidE_stab) E' th) (run : RNUp1_5 h x' th sg 33 e' h' = true) : RHUp1 up E' x' e' h' (5, q) X :=
  RoundH.leave (tb := tbl h) (L := []) (f := 3000) ((tabkOk _ _).hyps ho) (LpOk.nil _) rfl hne ht run
noncomputable abbrev RNUp1_6 (h : LK) (x : Ex) (th : LA) (sg : List (Nat × Nat)) (m : Nat) (ep : LA) (hp : LE) : Bool := okRdH (code (tbl h) 3000 [] bodyUp1 (envOf (headOf epUp1_6 keepUp1) 80) ⟨lhSet hpUp1_6 .leaf, 5, 0, 0⟩) x keepUp1 80 33 th sg 5 m ep hp
theorem stUp1_6 (up q : Int) {X : Nat → Value} {h : LK} (y : Nat × Int) {th : LA} {sg : List (Nat × Nat)} (ho : ∀ a' r', (a', r') ∈ h → HOk (cx (nuX (nuUp1_6 up q) (rX (roUp1_6 up q) X)) (nuX_one (nuL_one (l := nuUp1_6 up q) rfl)) 0 laidE laidE_stab) a' r') (hy : InvUp1 up y) (lt : muUp1 up y < muUp1 up (6, q)) (ht : ThOk (cx (nuX (nuUp1_6 up q) (rX (roUp1_6 up q) X)) (nuX_one (nuL_one (l := nuUp1_6 up q) rfl)) 0 laidE laidE_stab) (DUp1 up y X) th) (run : RNUp1_6 h .normal th sg 5 (epUp1 y) (hpUp1 y) = true) : RHUp1 up E' x' e' h' (6, q) X :=
  RoundH.next (tb := tbl h) (L := []) (f := 3000) y ((tabkOk _ _).hyps ho) (LpOk.nil _) rfl hy lt ht run
theorem lvUp1_6 (up q : Int) {X : Nat → Value} {h : LK} {th : LA} {sg : List (Nat × Nat)} (hne : exB x' .normal = false) (ho : ∀ a' r', (a', r') ∈ h → HOk (cx (nuX (nuUp1_6 up q) (rX (roUp1_6 up q) X)) (nuX_one (nuL_one (l := nuUp1_6 up q) rfl)) 0 laidE laidE_stab) a' r') (ht : ThOk (cx (nuX (nuUp1_6 up q) (rX (roUp1_6 up q) X)) (nuX_one (nuL_one (l := nuUp1_6 up q) rfl)) 0 laidE laidE_stab) E' th) (run : RNUp1_6 h x' th sg 33 e' h' = true) : RHUp1 up E' x' e' h' (6, q) X :=
  RoundH.leave (tb := tbl h) (L := []) (f := 3000) ((tabkOk _ _).hyps ho) (LpOk.nil _) rfl hne ht run
noncomputable abbrev RNUp1_7 (h : LK) (x : Ex) (th : LA) (sg : List (Nat × Nat)) (m : Nat) (ep : LA) (hp : LE) : Bool := okRdH (code (tbl h) 3000 [] bodyUp1 (envOf (headOf epUp1_7 keepUp1) 80) ⟨lhSet hpUp1_7 .leaf, 5, 0, 0⟩) x keepUp1 80 33 th sg 5 m ep hp
theorem stUp1_7 (up q : Int) {X : Nat → Value} {h : LK} (y : Nat × Int) {th : LA} {sg : List (Nat × Nat)} (ho : ∀ a' r', (a', r') ∈ h → HOk (cx (nuX (nuUp1_7 up q) (rX (roUp1_7 up q) X)) (nuX_one (nuL_one (l := nuUp1_7 up q) rfl)) 0 laidE laidE_stab) a' r') (hy : InvUp1 up y) (lt : muUp1 up y < muUp1 up (7, q)) (ht : ThOk (cx (nuX (nuUp1_7 up q) (rX (roUp1_7 up q) X)) (nuX_one (nuL_one (l := nuUp1_7 up q) rfl)) 0 laidE laidE_stab) (DUp1 up y X) th) (run : RNUp1_7 h .normal th sg 5 (epUp1 y) (hpUp1 y) = true) : RHUp1 up E' x' e' h' (7, q) X :=
  RoundH.next (tb := tbl h) (L := []) (f := 3000) y ((tabkOk _ _).hyps ho) (LpOk.nil _) rfl hy lt ht run
theorem lvUp1_7 (up q : Int) {X : Nat → Value} {h : LK} {th : LA} {sg : List (Nat × Nat)} (hne : exB x' .normal = false) (ho : ∀ a' r', (a', r') ∈ h → HOk (cx (nuX (nuUp1_7 up q) (rX (roUp1_7 up q) X)) (nuX_one (nuL_one (l := nuUp1_7 up q) rfl)) 0 laidE laidE_stab) a' r') (ht : ThOk (cx (nuX (nuUp1_7 up q) (rX (roUp1_7 up q) X)) (nuX_one (nuL_one (l := nuUp1_7 up q) rfl)) 0 laidE laidE_stab) E' th) (run : RNUp1_7 h x' th sg 33 e' h' = true) : RHUp1 up E' x' e' h' (7, q) X :=
  RoundH.leave (tb := tbl h) (L := []) (f := 3000) ((tabkOk _ _).hyps ho) (LpOk.nil _) rfl hne ht run
noncomputable abbrev RNUp1_8 (h : LK) (x : Ex) (th : LA) (sg : List (Nat × Nat)) (m : Nat) (ep : LA) (hp : LE) : Bool := okRdH (code (tbl h) 3000 [] bodyUp1 (envOf (headOf epUp1_8 keepUp1) 80) ⟨lhSet hpUp1_8 .leaf, 5, 0, 0⟩) x keepUp1 80 33 th sg 5 m ep hp
theorem stUp1_8 (up q : Int) {X : Nat → Value} {h : LK} (y : Nat × Int) {th : LA} {sg : List (Nat × Nat)} (ho : ∀ a' r', (a', r') ∈ h → HOk (cx (nuX (nuUp1_8 up q) (rX (roUp1_8 up q) X)) (nuX_one (nuL_one (l := nuUp1_8 up q) rfl)) 0 laidE laidE_stab) a' r') (hy : InvUp1 up y) (lt : muUp1 up y < muUp1 up (8, q)) (ht : ThOk (cx (nuX (nuUp1_8 up q) (rX (roUp1_8 up q) X)) (nuX_one (nuL_one (l := nuUp1_8 up q) rfl)) 0 laidE laidE_stab) (DUp1 up y X) th) (run : RNUp1_8 h .normal th sg 5 (epUp1 y) (hpUp1 y) = true) : RHUp1 up E' x' e' h' (8, q) X :=
  RoundH.next (tb := tbl h) (L := []) (f := 3000) y ((tabkOk _ _).hyps ho) (LpOk.nil _) rfl hy lt ht run
theorem lvUp1_8 (up q : Int) {X : Nat → Value} {h : LK} {th : LA} {sg : List (Nat × Nat)} (hne : exB x' .normal = false) (ho : ∀ a' r', (a', r') ∈ h → HOk (cx (nuX (nuUp1_8 up q) (rX (roUp1_8 up q) X)) (nuX_one (nuL_one (l := nuUp1_8 up q) rfl)) 0 laidE laidE_stab) a' r') (ht : ThOk (cx (nuX (nuUp1_8 up q) (rX (roUp1_8 up q) X)) (nuX_one (nuL_one (l := nuUp1_8 up q) rfl)) 0 laidE laidE_stab) E' th) (run : RNUp1_8 h x' th sg 33 e' h' = true) : RHUp1 up E' x' e' h' (8, q) X :=
  RoundH.leave (tb := tbl h) (L := []) (f := 3000) ((tabkOk _ _).hyps ho) (LpOk.nil _) rfl hne ht run
noncomputable abbrev RNUp1_9 (h : LK) (x : Ex) (th : LA) (sg : List (Nat × Nat)) (m : Nat) (ep : LA) (hp : LE) : Bool := okRdH (code (tbl h) 3000 [] bodyUp1 (envOf (headOf epUp1_9 keepUp1) 80) ⟨lhSet hpUp1_9 .leaf, 5, 0, 0⟩) x keepUp1 80 33 th sg 5 m ep hp
theorem stUp1_9 (up q : Int) {X : Nat → Value} {h : LK} (y : Nat × Int) {th : LA} {sg : List (Nat × Nat)} (ho : ∀ a' r', (a', r') ∈ h → HOk (cx (nuX (nuUp1_9 up q) (rX (roUp1_9 up q) X)) (nuX_one (nuL_one (l := nuUp1_9 up q) rfl)) 0 laidE laidE_stab) a' r') (hy : InvUp1 up y) (lt : muUp1 up y < muUp1 up (9, q)) (ht : ThOk (cx (nuX (nuUp1_9 up q) (rX (roUp1_9 up q) X)) (nuX_one (nuL_one (l := nuUp1_9 up q) rfl)) 0 laidE laidE_stab) (DUp1 up y X) th) (run : RNUp1_9 h .normal th sg 5 (epUp1 y) (hpUp1 y) = true) : RHUp1 up E' x' e' h' (9, q) X :=
  RoundH.next (tb := tbl h) (L := []) (f := 3000) y ((tabkOk _ _).hyps ho) (LpOk.nil _) rfl hy lt ht run
theorem lvUp1_9 (up q : Int) {X : Nat → Value} {h : LK} {th : LA} {sg : List (Nat × Nat)} (hne : exB x' .normal = false) (ho : ∀ a' r', (a', r') ∈ h → HOk (cx (nuX (nuUp1_9 up q) (rX (roUp1_9 up q) X)) (nuX_one (nuL_one (l := nuUp1_9 up q) rfl)) 0 laidE laidE_stab) a' r') (ht : ThOk (cx (nuX (nuUp1_9 up q) (rX (roUp1_9 up q) X)) (nuX_one (nuL_one (l := nuUp1_9 up q) rfl)) 0 laidE laidE_stab) E' th) (run : RNUp1_9 h x' th sg 33 e' h' = true) : RHUp1 up E' x' e' h' (9, q) X :=
  RoundH.leave (tb := tbl h) (L := []) (f := 3000) ((tabkOk _ _).hyps ho) (LpOk.nil _) rfl hne ht run
noncomputable abbrev RNUp1_10 (h : LK) (x : Ex) (th : LA) (sg : List (Nat × Nat)) (m : Nat) (ep : LA) (hp : LE) : Bool := okRdH (code (tbl h) 3000 [] bodyUp1 (envOf (headOf epUp1_10 keepUp1) 80) ⟨lhSet hpUp1_10 .leaf, 5, 0, 0⟩) x keepUp1 80 33 th sg 5 m ep hp
theorem stUp1_10 (up q : Int) {X : Nat → Value} {h : LK} (y : Nat × Int) {th : LA} {sg : List (Nat × Nat)} (ho : ∀ a' r', (a', r') ∈ h → HOk (cx (nuX (nuUp1_10 up q) (rX (roUp1_10 up q) X)) (nuX_one (nuL_one (l := nuUp1_10 up q) rfl)) 0 laidE laidE_stab) a' r') (hy : InvUp1 up y) (lt : muUp1 up y < muUp1 up (10, q)) (ht : ThOk (cx (nuX (nuUp1_10 up q) (rX (roUp1_10 up q) X)) (nuX_one (nuL_one (l := nuUp1_10 up q) rfl)) 0 laidE laidE_stab) (DUp1 up y X) th) (run : RNUp1_10 h .normal th sg 5 (epUp1 y) (hpUp1 y) = true) : RHUp1 up E' x' e' h' (10, q) X :=
  RoundH.next (tb := tbl h) (L := []) (f := 3000) y ((tabkOk _ _).hyps ho) (LpOk.nil _) rfl hy lt ht run
theorem lvUp1_10 (up q : Int) {X : Nat → Value} {h : LK} {th : LA} {sg : List (Nat × Nat)} (hne : exB x' .normal = false) (ho : ∀ a' r', (a', r') ∈ h → HOk (cx (nuX (nuUp1_10 up q) (rX (roUp1_10 up q) X)) (nuX_one (nuL_one (l := nuUp1_10 up q) rfl)) 0 laidE laidE_stab) a' r') (ht : ThOk (cx (nuX (nuUp1_10 up q) (rX (roUp1_10 up q) X)) (nuX_one (nuL_one (l := nuUp1_10 up q) rfl)) 0 laidE laidE_stab) E' th) (run : RNUp1_10 h x' th sg 33 e' h' = true) : RHUp1 up E' x' e' h' (10, q) X :=
  RoundH.leave (tb := tbl h) (L := []) (f := 3000) ((tabkOk _ _).hyps ho) (LpOk.nil _) rfl hne ht run
noncomputable abbrev RNUp1_11 (h : LK) (x : Ex) (th : LA) (sg : List (Nat × Nat)) (m : Nat) (ep : LA) (hp : LE) : Bool := okRdH (code (tbl h) 3000 [] bodyUp1 (envOf (headOf epUp1_11 keepUp1) 80) ⟨lhSet hpUp1_11 .leaf, 5, 0, 0⟩) x keepUp1 80 33 th sg 5 m ep hp
theorem stUp1_11 (up q : Int) {X : Nat → Value} {h : LK} (y : Nat × Int) {th : LA} {sg : List (Nat × Nat)} (ho : ∀ a' r', (a', r') ∈ h → HOk (cx (nuX (nuUp1_11 up q) (rX (roUp1_11 up q) X)) (nuX_one (nuL_one (l := nuUp1_11 up q) rfl)) 0 laidE laidE_stab) a' r') (hy : InvUp1 up y) (lt : muUp1 up y < muUp1 up (11, q)) (ht : ThOk (cx (nuX (nuUp1_11 up q) (rX (roUp1_11 up q) X)) (nuX_one (nuL_one (l := nuUp1_11 up q) rfl)) 0 laidE laidE_stab) (DUp1 up y X) th) (run : RNUp1_11 h .normal th sg 5 (epUp1 y) (hpUp1 y) = true) : RHUp1 up E' x' e' h' (11, q) X :=
  RoundH.next (tb := tbl h) (L := []) (f := 3000) y ((tabkOk _ _).hyps ho) (LpOk.nil _) rfl hy lt ht run
theorem lvUp1_11 (up q : Int) {X : Nat → Value} {h : LK} {th : LA} {sg : List (Nat × Nat)} (hne : exB x' .normal = false) (ho : ∀ a' r', (a', r') ∈ h → HOk (cx (nuX (nuUp1_11 up q) (rX (roUp1_11 up q) X)) (nuX_one (nuL_one (l := nuUp1_11 up q) rfl)) 0 laidE laidE_stab) a' r') (ht : ThOk (cx (nuX (nuUp1_11 up q) (rX (roUp1_11 up q) X)) (nuX_one (nuL_one (l := nuUp1_11 up q) rfl)) 0 laidE laidE_stab) E' th) (run : RNUp1_11 h x' th sg 33 e' h' = true) : RHUp1 up E' x' e' h' (11, q) X :=
  RoundH.leave (tb := tbl h) (L := []) (f := 3000) ((tabkOk _ _).hyps ho) (LpOk.nil _) rfl hne ht run
noncomputable abbrev RNUp1_12 (h : LK) (x : Ex) (th : LA) (sg : List (Nat × Nat)) (m : Nat) (ep : LA) (hp : LE) : Bool := okRdH (code (tbl h) 3000 [] bodyUp1 (envOf (headOf epUp1_12 keepUp1) 80) ⟨lhSet hpUp1_12 .leaf, 5, 0, 0⟩) x keepUp1 80 33 th sg 5 m ep hp
theorem stUp1_12 (up q : Int) {X : Nat → Value} {h : LK} (y : Nat × Int) {th : LA} {sg : List (Nat × Nat)} (ho : ∀ a' r', (a', r') ∈ h → HOk (cx (nuX (nuUp1_12 up q) (rX (roUp1_12 up q) X)) (nuX_one (nuL_one (l := nuUp1_12 up q) rfl)) 0 laidE laidE_stab) a' r') (hy : InvUp1 up y) (lt : muUp1 up y < muUp1 up (12, q)) (ht : ThOk (cx (nuX (nuUp1_12 up q) (rX (roUp1_12 up q) X)) (nuX_one (nuL_one (l := nuUp1_12 up q) rfl)) 0 laidE laidE_stab) (DUp1 up y X) th) (run : RNUp1_12 h .normal th sg 5 (epUp1 y) (hpUp1 y) = true) : RHUp1 up E' x' e' h' (12, q) X :=
  RoundH.next (tb := tbl h) (L := []) (f := 3000) y ((tabkOk _ _).hyps ho) (LpOk.nil _) rfl hy lt ht run
theorem lvUp1_12 (up q : Int) {X : Nat → Value} {h : LK} {th : LA} {sg : List (Nat × Nat)} (hne : exB x' .normal = false) (ho : ∀ a' r', (a', r') ∈ h → HOk (cx (nuX (nuUp1_12 up q) (rX (roUp1_12 up q) X)) (nuX_one (nuL_one (l := nuUp1_12 up q) rfl)) 0 laidE laidE_stab) a' r') (ht : ThOk (cx (nuX (nuUp1_12 up q) (rX (roUp1_12 up q) X)) (nuX_one (nuL_one (l := nuUp1_12 up q) rfl)) 0 laidE laidE_stab) E' th) (run : RNUp1_12 h x' th sg 33 e' h' = true) : RHUp1 up E' x' e' h' (12, q) X :=
  RoundH.leave (tb := tbl h) (L := []) (f := 3000) ((tabkOk _ _).hyps ho) (LpOk.nil _) rfl hne ht run
def hyUp1_p0 : LK := [(.bin .shr (.x 0) (.i .u64 (.ofNat 0)), .x 1), (.bin .and (.x 1) (.i .u16 (.ofNat 1)), .x 2), (.bin .eql (.x 2) (.i .u16 (.ofNat 1)), .b false)]
theorem runUp1_p0 : RNUp1_0 hyUp1_p0 .normal [(0, .x 0), (1, .i .u8 (.ofNat 99))] [] 5 epUp1_1 hpUp1_1 = true := by kernel_rfl
theorem nxUp1_p0 (up : Int) (q : Int) (X : Nat → Value) (hI : InvUp1 up (0, q)) (h0 : ¬ ((up / 1) % 2 = 1)) : RHUp1 up E' x' e' h' (0, q) X := by
  obtain ⟨i0, i1, it⟩ := unIUp1 up 0 q hI
  refine stUp1_0 up q (h := hyUp1_p0) (1, q) ?_ (mkIUp1 up 1 q ⟨by omega, by omega, by omega⟩) (by show 12 - 1 < 12 - 0; omega) (thXv (v := .int .u16 (up)) rfl rfl (thCons (show Is _ (.i .u8 (.ofNat 99)) (.int .u8 ((czS 99 1 up))) from isTo (v := .int .u8 99) (isI _ _) (congrArg (Value.int .u8) (cz_f (by omega)))) (thNil))) runUp1_p0
  unfold hyUp1_p0
  exact hc (kShrM 0 1 rfl (isX rfl) (isZ (m := 0) rfl) (denX rfl) rfl (by decide) (by omega) rfl) <|
   hc (kAndM 1 2 rfl (isX rfl) (isZ (m := 1) rfl) (denX rfl) (by omega) (fU16 (by omega) (by omega)) (fU16 (by omega) (by omega)) rfl rfl) <|
   hc (eqcF rfl (by omega)) <|
   hnil
def hyUp1_p1 : LK := [(.bin .shr (.x 0) (.i .u64 (.ofNat 0)), .x 3), (.bin .and (.x 3) (.i .u16 (.ofNat 1)), .x 4), (.bin .eql (.x 4) (.i .u16 (.ofNat 1)), .b true)]
theorem runUp1_p1 : RNUp1_0 hyUp1_p1 .normal [(0, .x 0), (1, .i .u8 (.ofNat 67))] [] 5 epUp1_1 hpUp1_1 = true := by kernel_rfl
theorem nxUp1_p1 (up : Int) (q : Int) (X : Nat → Value) (hI : InvUp1 up (0, q)) (h0 : (up / 1) % 2 = 1) : RHUp1 up E' x' e' h' (0, q) X := by
  obtain ⟨i0, i1, it⟩ := unIUp1 up 0 q hI
  refine stUp1_0 up q (h := hyUp1_p1) (1, q) ?_ (mkIUp1 up 1 q ⟨by omega, by omega, by omega⟩) (by show 12 - 1 < 12 - 0; omega) (thXv (v := .int .u16 (up)) rfl rfl (thCons (show Is _ (.i .u8 (.ofNat 67)) (.int .u8 ((czS 99 1 up))) from isTo (v := .int .u8 67) (isI _ _) (congrArg (Value.int .u8) (cz_t (by omega) rfl))) (thNil))) runUp1_p1
  unfold hyUp1_p1
  exact hc (kShrM 0 1 rfl (isX rfl) (isZ (m := 0) rfl) (denX rfl) rfl (by decide) (by omega) rfl) <|
   hc (kAndM 1 2 rfl (isX rfl) (isZ (m := 1) rfl) (denX rfl) (by omega) (fU16 (by omega) (by omega)) (fU16 (by omega) (by omega)) rfl rfl) <|
   hc (eqcT rfl (by omega)) <|
   hnil
def hyUp1_p2 : LK := [(.bin .shr (.x 0) (.i .u64 (.ofNat 1)), .x 2), (.bin .and (.x 2) (.i .u16 (.ofNat 1)), .x 3), (.bin .eql (.x 3) (.i .u16 (.ofNat 1)), .b false)]
theorem runUp1_p2 : RNUp1_1 hyUp1_p2 .normal [(0, .x 0), (1, .x 1), (2, .i .u8 (.ofNat 111))] [] 5 epUp1_2 hpUp1_2 = true := by kernel_rfl
theorem nxUp1_p2 (up : Int) (q : Int) (X : Nat → Value) (hI : InvUp1 up (1, q)) (h0 : ¬ ((up / 2) % 2 = 1)) : RHUp1 up E' x' e' h' (1, q) X := by
  obtain ⟨i0, i1, it⟩ := unIUp1 up 1 q hI
  refine stUp1_1 up q (h := hyUp1_p2) (2, q) ?_ (mkIUp1 up 2 q ⟨by omega, by omega, by omega⟩) (by show 12 - 2 < 12 - 1; omega) (thXv (v := .int .u16 (up)) rfl rfl (thXv (v := .int .u8 ((czS 99 1 up))) rfl rfl (thCons (show Is _ (.i .u8 (.ofNat 111)) (.int .u8 ((czS 111 2 up))) from isTo (v := .int .u8 111) (isI _ _) (congrArg (Value.int .u8) (cz_f (by omega)))) (thNil)))) runUp1_p2
  unfold hyUp1_p2
  exact hc (kShrM 1 2 rfl (isX rfl) (isZ (m := 1) rfl) (denX rfl) rfl (by decide) (by omega) rfl) <|
   hc (kAndM 1 2 rfl (isX rfl) (isZ (m := 1) rfl) (denX rfl) (by omega) (fU16 (by omega) (by omega)) (fU16 (by omega) (by omega)) rfl rfl) <|
   hc (eqcF rfl (by omega)) <|
   hnil
def hyUp1_p3 : LK := [(.bin .shr (.x 0) (.i .u64 (.ofNat 1)), .x 4), (.bin .and (.x 4) (.i .u16 (.ofNat 1)), .x 5), (.bin .eql (.x 5) (.i .u16 (.ofNat 1)), .b true)]
theorem runUp1_p3 : RNUp1_1 hyUp1_p3 .normal [(0, .x 0), (1, .x 1), (2, .i .u8 (.ofNat 79))] [] 5 epUp1_2 hpUp1_2 = true := by kernel_rfl
theorem nxUp1_p3 (up : Int) (q : Int) (X : Nat → Value) (hI : InvUp1 up (1, q)) (h0 : (up / 2) % 2 = 1) : RHUp1 up E' x' e' h' (1, q) X := by
  obtain ⟨i0, i1, it⟩ := unIUp1 up 1 q hI
  refine stUp1_1 up q (h := hyUp1_p3) (2, q) ?_ (mkIUp1 up 2 q ⟨by omega, by omega, by omega⟩) (by show 12 - 2 < 12 - 1; omega) (thXv (v := .int .u16 (up)) rfl rfl (thXv (v := .int .u8 ((czS 99 1 up))) rfl rfl (thCons (show Is _ (.i .u8 (.ofNat 79)) (.int .u8 ((czS 111 2 up))) from isTo (v := .int .u8 79) (isI _ _) (congrArg (Value.int .u8) (cz_t (by omega) rfl))) (thNil)))) runUp1_p3
  unfold hyUp1_p3
  exact hc (kShrM 1 2 rfl (isX rfl) (isZ (m := 1) rfl) (denX rfl) rfl (by decide) (by omega) rfl) <|
   hc (kAndM 1 2 rfl (isX rfl) (isZ (m := 1) rfl) (denX rfl) (by omega) (fU16 (by omega) (by omega)) (fU16 (by omega) (by omega)) rfl rfl) <|
   hc (eqcT rfl (by omega)) <|
   hnil
def hyUp1_p4 : LK := [(.bin .shr (.x 0) (.i .u64 (.ofNat 2)), .x 3), (.bin .and (.x 3) (.i .u16 (.ofNat 1)), .x 4), (.bin .eql (.x 4) (.i .u16 (.ofNat 1)), .b false)]
theorem runUp1_p4 : RNUp1_2 hyUp1_p4 .normal [(0, .x 0), (1, .x 1), (2, .x 2), (3, .i .u8 (.ofNat 110))] [] 5 epUp1_3 hpUp1_3 = true := by kernel_rfl
theorem nxUp1_p4 (up : Int) (q : Int) (X : Nat → Value) (hI : InvUp1 up (2, q)) (h0 : ¬ ((up / 4) % 2 = 1)) : RHUp1 up E' x' e' h' (2, q) X := by
  obtain ⟨i0, i1, it⟩ := unIUp1 up 2 q hI
  refine stUp1_2 up q (h := hyUp1_p4) (3, q) ?_ (mkIUp1 up 3 q ⟨by omega, by omega, by omega⟩) (by show 12 - 3 < 12 - 2; omega) (thXv (v := .int .u16 (up)) rfl rfl (thXv (v := .int .u8 ((czS 99 1 up))) rfl rfl (thXv (v := .int .u8 ((czS 111 2 up))) rfl rfl (thCons (show Is _ (.i .u8 (.ofNat 110)) (.int .u8 ((czS 110 4 up))) from isTo (v := .int .u8 110) (isI _ _) (congrArg (Value.int .u8) (cz_f (by omega)))) (thNil))))) runUp1_p4
  unfold hyUp1_p4
  exact hc (kShrM 2 4 rfl (isX rfl) (isZ (m := 2) rfl) (denX rfl) rfl (by decide) (by omega) rfl) <|
   hc (kAndM 1 2 rfl (isX rfl) (isZ (m := 1) rfl) (denX rfl) (by omega) (fU16 (by omega) (by omega)) (fU16 (by omega) (by omega)) rfl rfl) <|
   hc (eqcF rfl (by omega)) <|
   hnil
def hyUp1_p5 : LK := [(.bin .shr (.x 0) (.i .u64 (.ofNat 2)), .x 5), (.bin .and (.x 5) (.i .u16 (.ofNat 1)), .x 6), (.bin .eql (.x 6) (.i .u16 (.ofNat 1)), .b true)]
theorem runUp1_p5 : RNUp1_2 hyUp1_p5 .normal [(0, .x 0), (1, .x 1), (2, .x 2), (3, .i .u8 (.ofNat 78))] [] 5 epUp1_3 hpUp1_3 = true := by kernel_rfl
theorem nxUp1_p5 (up : Int) (q : Int) (X : Nat → Value) (hI : InvUp1 up (2, q)) (h0 : (up / 4) % 2 = 1) : RHUp1 up E' x' e' h' (2, q) X := by
  obtain ⟨i0, i1, it⟩ := unIUp1 up 2 q hI
  refine stUp1_2 up q (h := hyUp1_p5) (3, q) ?_ (mkIUp1 up 3 q ⟨by omega, by omega, by omega⟩) (by show 12 - 3 < 12 - 2; omega) (thXv (v := .int .u16 (up)) rfl rfl (thXv (v := .int .u8 ((czS 99 1 up))) rfl rfl (thXv (v := .int .u8 ((czS 111 2 up))) rfl rfl (thCons (show Is _ (.i .u8 (.ofNat 78)) (.int .u8 ((czS 110 4 up))) from isTo (v := .int .u8 78) (isI _ _) (congrArg (Value.int .u8) (cz_t (by omega) rfl))) (thNil))))) runUp1_p5
  unfold hyUp1_p5
  exact hc (kShrM 2 4 rfl (isX rfl) (isZ (m := 2) rfl) (denX rfl) rfl (by decide) (by omega) rfl) <|
   hc (kAndM 1 2 rfl (isX rfl) (isZ (m := 1) rfl) (denX rfl) (by omega) (fU16 (by omega) (by omega)) (fU16 (by omega) (by omega)) rfl rfl) <|
   hc (eqcT rfl (by omega)) <|
   hnil
def hyUp1_p6 : LK := [(.bin .shr (.x 0) (.i .u64 (.ofNat 3)), .x 4), (.bin .and (.x 4) (.i .u16 (.ofNat 1)), .x 5), (.bin .eql (.x 5) (.i .u16 (.ofNat 1)), .b false)]
theorem runUp1_p6 : RNUp1_3 hyUp1_p6 .normal [(0, .x 0), (1, .x 1), (2, .x 2), (3, .x 3), (4, .i .u8 (.ofNat 116))] [] 5 epUp1_4 hpUp1_4 = true := by kernel_rfl
theorem nxUp1_p6 (up : Int) (q : Int) (X : Nat → Value) (hI : InvUp1 up (3, q)) (h0 : ¬ ((up / 8) % 2 = 1)) : RHUp1 up E' x' e' h' (3, q) X := by
  obtain ⟨i0, i1, it⟩ := unIUp1 up 3 q hI
  refine stUp1_3 up q (h := hyUp1_p6) (4, q) ?_ (mkIUp1 up 4 q ⟨by omega, by omega, by omega⟩) (by show 12 - 4 < 12 - 3; omega) (thXv (v := .int .u16 (up)) rfl rfl (thXv (v := .int .u8 ((czS 99 1 up))) rfl rfl (thXv (v := .int .u8 ((czS 111 2 up))) rfl rfl (thXv (v := .int .u8 ((czS 110 4 up))) rfl rfl (thCons (show Is _ (.i .u8 (.ofNat 116)) (.int .u8 ((czS 116 8 up))) from isTo (v := .int .u8 116) (isI _ _) (congrArg (Value.int .u8) (cz_f (by omega)))) (thNil)))))) runUp1_p6
  unfold hyUp1_p6
  exact hc (kShrM 3 8 rfl (isX rfl) (isZ (m := 3) rfl) (denX rfl) rfl (by decide) (by omega) rfl) <|
   hc (kAndM 1 2 rfl (isX rfl) (isZ (m := 1) rfl) (denX rfl) (by omega) (fU16 (by omega) (by omega)) (fU16 (by omega) (by omega)) rfl rfl) <|
   hc (eqcF rfl (by omega)) <|
   hnil
def hyUp1_p7 : LK := [(.bin .shr (.x 0) (.i .u64 (.ofNat 3)), .x 6), (.bin .and (.x 6) (.i .u16 (.ofNat 1)), .x 7), (.bin .eql (.x 7) (.i .u16 (.ofNat 1)), .b true)]
theorem runUp1_p7 : RNUp1_3 hyUp1_p7 .normal [(0, .x 0), (1, .x 1), (2, .x 2), (3, .x 3), (4, .i .u8 (.ofNat 84))] [] 5 epUp1_4 hpUp1_4 = true := by kernel_rfl
theorem nxUp1_p7 (up : Int) (q : Int) (X : Nat → Value) (hI : InvUp1 up (3, q)) (h0 : (up / 8) % 2 = 1) : RHUp1 up E' x' e' h' (3, q) X := by
  obtain ⟨i0, i1, it⟩ := unIUp1 up 3 q hI
  refine stUp1_3 up q (h := hyUp1_p7) (4, q) ?_ (mkIUp1 up 4 q ⟨by omega, by omega, by omega⟩) (by show 12 - 4 < 12 - 3; omega) (thXv (v := .int .u16 (up)) rfl rfl (thXv (v := .int .u8 ((czS 99 1 up))) rfl rfl (thXv (v := .int .u8 ((czS 111 2 up))) rfl rfl (thXv (v := .int .u8 ((czS 110 4 up))) rfl rfl (thCons (show Is _ (.i .u8 (.ofNat 84)) (.int .u8 ((czS 116 8 up))) from isTo (v := .int .u8 84) (isI _ _) (congrArg (Value.int .u8) (cz_t (by omega) rfl))) (thNil)))))) runUp1_p7
  unfold hyUp1_p7
  exact hc (kShrM 3 8 rfl (isX rfl) (isZ (m := 3) rfl) (denX rfl) rfl (by decide) (by omega) rfl) <|
   hc (kAndM 1 2 rfl (isX rfl) (isZ (m := 1) rfl) (denX rfl) (by omega) (fU16 (by omega) (by omega)) (fU16 (by omega) (by omega)) rfl rfl) <|
   hc (eqcT rfl (by omega)) <|
   hnil
def hyUp1_p8 : LK := [(.bin .shr (.x 0) (.i .u64 (.ofNat 4)), .x 5), (.bin .and (.x 5) (.i .u16 (.ofNat 1)), .x 6), (.bin .eql (.x 6) (.i .u16 (.ofNat 1)), .b false)]
theorem runUp1_p8 : RNUp1_4 hyUp1_p8 .normal [(0, .x 0), (1, .x 1), (2, .x 2), (3, .x 3), (4, .x 4), (5, .i .u8 (.ofNat 101))] [] 5 epUp1_5 hpUp1_5 = true := by kernel_rfl
theorem nxUp1_p8 (up : Int) (q : Int) (X : Nat → Value) (hI : InvUp1 up (4, q)) (h0 : ¬ ((up / 16) % 2 = 1)) : RHUp1 up E' x' e' h' (4, q) X := by
  obtain ⟨i0, i1, it⟩ := unIUp1 up 4 q hI
  refine stUp1_4 up q (h := hyUp1_p8) (5, q) ?_ (mkIUp1 up 5 q ⟨by omega, by omega, by omega⟩) (by show 12 - 5 < 12 - 4; omega) (thXv (v := .int .u16 (up)) rfl rfl (thXv (v := .int .u8 ((czS 99 1 up))) rfl rfl (thXv (v := .int .u8 ((czS 111 2 up))) rfl rfl (thXv (v := .int .u8 ((czS 110 4 up))) rfl rfl (thXv (v := .int .u8 ((czS 116 8 up))) rfl rfl (thCons (show Is _ (.i .u8 (.ofNat 101)) (.int .u8 ((czS 101 16 up))) from isTo (v := .int .u8 101) (isI _ _) (congrArg (Value.int .u8) (cz_f (by omega)))) (thNil))))))) runUp1_p8
  unfold hyUp1_p8
  exact hc (kShrM 4 16 rfl (isX rfl) (isZ (m := 4) rfl) (denX rfl) rfl (by decide) (by omega) rfl) <|
   hc (kAndM 1 2 rfl (isX rfl) (isZ (m := 1) rfl) (denX rfl) (by omega) (fU16 (by omega) (by omega)) (fU16 (by omega) (by omega)) rfl rfl) <|
   hc (eqcF rfl (by omega)) <|
   hnil
def hyUp1_p9 : LK := [(.bin .shr (.x 0) (.i .u64 (.ofNat 4)), .x 7), (.bin .and (.x 7) (.i .u16 (.ofNat 1)), .x 8), (.bin .eql (.x 8) (.i .u16 (.ofNat 1)), .b true)]
theorem runUp1_p9 : RNUp1_4 hyUp1_p9 .normal [(0, .x 0), (1, .x 1), (2, .x 2), (3, .x 3), (4, .x 4), (5, .i .u8 (.ofNat 69))] [] 5 epUp1_5 hpUp1_5 = true := by kernel_rfl
theorem nxUp1_p9 (up : Int) (q : Int) (X : Nat → Value) (hI : InvUp1 up (4, q)) (h0 : (up / 16) % 2 = 1) : RHUp1 up E' x' e' h' (4, q) X := by
  obtain ⟨i0, i1, it⟩ := unIUp1 up 4 q hI
  refine stUp1_4 up q (h := hyUp1_p9) (5, q) ?_ (mkIUp1 up 5 q ⟨by omega, by omega, by omega⟩) (by show 12 - 5 < 12 - 4; omega) (thXv (v := .int .u16 (up)) rfl rfl (thXv (v := .int .u8 ((czS 99 1 up))) rfl rfl (thXv (v := .int .u8 ((czS 111 2 up))) rfl rfl (thXv (v := .int .u8 ((czS 110 4 up))) rfl rfl (thXv (v := .int .u8 ((czS 116 8 up))) rfl rfl (thCons (show Is _ (.i .u8 (.ofNat 69)) (.int .u8 ((czS 101 16 up))) from isTo (v := .int .u8 69) (isI _ _) (congrArg (Value.int .u8) (cz_t (by omega) rfl))) (thNil))))))) runUp1_p9
  unfold hyUp1_p9
  exact hc (kShrM 4 16 rfl (isX rfl) (isZ (m := 4) rfl) (denX rfl) rfl (by decide) (by omega) rfl) <|
   hc (kAndM 1 2 rfl (isX rfl) (isZ (m := 1) rfl) (denX rfl) (by omega) (fU16 (by omega) (by omega)) (fU16 (by omega) (by omega)) rfl rfl) <|
   hc (eqcT rfl (by omega)) <|
   hnil
def hyUp1_p10 : LK := [(.bin .shr (.x 0) (.i .u64 (.ofNat 5)), .x 6), (.bin .and (.x 6) (.i .u16 (.ofNat 1)), .x 7), (.bin .eql (.x 7) (.i .u16 (.ofNat 1)), .b false)]
theorem runUp1_p10 : RNUp1_5 hyUp1_p10 .normal [(0, .x 0), (1, .x 1), (2, .x 2), (3, .x 3), (4, .x 4), (5, .x 5), (6, .i .u8 (.ofNat 110))] [] 5 epUp1_6 hpUp1_6 = true := by kernel_rfl
theorem nxUp1_p10 (up : Int) (q : Int) (X : Nat → Value) (hI : InvUp1 up (5, q)) (h0 : ¬ ((up / 32) % 2 = 1)) : RHUp1 up E' x' e' h' (5, q) X := by
  obtain ⟨i0, i1, it⟩ := unIUp1 up 5 q hI
  refine stUp1_5 up q (h := hyUp1_p10) (6, q) ?_ (mkIUp1 up 6 q ⟨by omega, by omega, by omega⟩) (by show 12 - 6 < 12 - 5; omega) (thXv (v := .int .u16 (up)) rfl rfl (thXv (v := .int .u8 ((czS 99 1 up))) rfl rfl (thXv (v := .int .u8 ((czS 111 2 up))) rfl rfl (thXv (v := .int .u8 ((czS 110 4 up))) rfl rfl (thXv (v := .int .u8 ((czS 116 8 up))) rfl rfl (thXv (v := .int .u8 ((czS 101 16 up))) rfl rfl (thCons (show Is _ (.i .u8 (.ofNat 110)) (.int .u8 ((czS 110 32 up))) from isTo (v := .int .u8 110) (isI _ _) (congrArg (Value.int .u8) (cz_f (by omega)))) (thNil)))))))) runUp1_p10
  unfold hyUp1_p10
  exact hc (kShrM 5 32 rfl (isX rfl) (isZ (m := 5) rfl) (denX rfl) rfl (by decide) (by omega) rfl) <|
   hc (kAndM 1 2 rfl (isX rfl) (isZ (m := 1) rfl) (denX rfl) (by omega) (fU16 (by omega) (by omega)) (fU16 (by omega) (by omega)) rfl rfl) <|
   hc (eqcF rfl (by omega)) <|
   hnil
def hyUp1_p11 : LK := [(.bin .shr (.x 0) (.i .u64 (.ofNat 5)), .x 8), (.bin .and (.x 8) (.i .u16 (.ofNat 1)), .x 9), (.bin .eql (.x 9) (.i .u16 (.ofNat 1)), .b true)]
theorem runUp1_p11 : RNUp1_5 hyUp1_p11 .normal [(0, .x 0), (1, .x 1), (2, .x 2), (3, .x 3), (4, .x 4), (5, .x 5), (6, .i .u8 (.ofNat 78))] [] 5 epUp1_6 hpUp1_6 = true := by kernel_rfl
theorem nxUp1_p11 (up : Int) (q : Int) (X : Nat → Value) (hI : InvUp1 up (5, q)) (h0 : (up / 32) % 2 = 1) : RHUp1 up E' x' e' h' (5, q) X := by
  obtain ⟨i0, i1, it⟩ := unIUp1 up 5 q hI
  refine stUp1_5 up q (h := hyUp1_p11) (6, q) ?_ (mkIUp1 up 6 q ⟨by omega, by omega, by omega⟩) (by show 12 - 6 < 12 - 5; omega) (thXv (v := .int .u16 (up)) rfl rfl (thXv (v := .int .u8 ((czS 99 1 up))) rfl rfl (thXv (v := .int .u8 ((czS 111 2 up))) rfl rfl (thXv (v := .int .u8 ((czS 110 4 up))) rfl rfl (thXv (v := .int .u8 ((czS 116 8 up))) rfl rfl (thXv (v := .int .u8 ((czS 101 16 up))) rfl rfl (thCons (show Is _ (.i .u8 (.ofNat 78)) (.int .u8 ((czS 110 32 up))) from isTo (v := .int .u8 78) (isI _ _) (congrArg (Value.int .u8) (cz_t (by omega) rfl))) (thNil)))))))) runUp1_p11
  unfold hyUp1_p11
  exact hc (kShrM 5 32 rfl (isX rfl) (isZ (m := 5) rfl) (denX rfl) rfl (by decide) (by omega) rfl) <|
   hc (kAndM 1 2 rfl (isX rfl) (isZ (m := 1) rfl) (denX rfl) (by omega) (fU16 (by omega) (by omega)) (fU16 (by omega) (by omega)) rfl rfl) <|
   hc (eqcT rfl (by omega)) <|
   hnil
def hyUp1_p12 : LK := [(.bin .shr (.x 0) (.i .u64 (.ofNat 6)), .x 7), (.bin .and (.x 7) (.i .u16 (.ofNat 1)), .x 8), (.bin .eql (.x 8) (.i .u16 (.ofNat 1)), .b false)]
theorem runUp1_p12 : RNUp1_6 hyUp1_p12 .normal [(0, .x 0), (1, .x 1), (2, .x 2), (3, .x 3), (4, .x 4), (5, .x 5), (6, .x 6), (7, .i .u8 (.ofNat 116))] [] 5 epUp1_7 hpUp1_7 = true := by kernel_rfl
theorem nxUp1_p12 (up : Int) (q : Int) (X : Nat → Value) (hI : InvUp1 up (6, q)) (h0 : ¬ ((up / 64) % 2 = 1)) : RHUp1 up E' x' e' h' (6, q) X := by
  obtain ⟨i0, i1, it⟩ := unIUp1 up 6 q hI
  refine stUp1_6 up q (h := hyUp1_p12) (7, q) ?_ (mkIUp1 up 7 q ⟨by omega, by omega, by omega⟩) (by show 12 - 7 < 12 - 6; omega) (thXv (v := .int .u16 (up)) rfl rfl (thXv (v := .int .u8 ((czS 99 1 up))) rfl rfl (thXv (v := .int .u8 ((czS 111 2 up))) rfl rfl (thXv (v := .int .u8 ((czS 110 4 up))) rfl rfl (thXv (v := .int .u8 ((czS 116 8 up))) rfl rfl (thXv (v := .int .u8 ((czS 101 16 up))) rfl rfl (thXv (v := .int .u8 ((czS 110 32 up))) rfl rfl (thCons (show Is _ (.i .u8 (.ofNat 116)) (.int .u8 ((czS 116 64 up))) from isTo (v := .int .u8 116) (isI _ _) (congrArg (Value.int .u8) (cz_f (by omega)))) (thNil))))))))) runUp1_p12
  unfold hyUp1_p12
  exact hc (kShrM 6 64 rfl (isX rfl) (isZ (m := 6) rfl) (denX rfl) rfl (by decide) (by omega) rfl) <|
   hc (kAndM 1 2 rfl (isX rfl) (isZ (m := 1) rfl) (denX rfl) (by omega) (fU16 (by omega) (by omega)) (fU16 (by omega) (by omega)) rfl rfl) <|
   hc (eqcF rfl (by omega)) <|
   hnil
def hyUp1_p13 : LK := [(.bin .shr (.x 0) (.i .u64 (.ofNat 6)), .x 9), (.bin .and (.x 9) (.i .u16 (.ofNat 1)), .x 10), (.bin .eql (.x 10) (.i .u16 (.ofNat 1)), .b true)]
theorem runUp1_p13 : RNUp1_6 hyUp1_p13 .normal [(0, .x 0), (1, .x 1), (2, .x 2), (3, .x 3), (4, .x 4), (5, .x 5), (6, .x 6), (7, .i .u8 (.ofNat 84))] [] 5 epUp1_7 hpUp1_7 = true := by kernel_rfl
theorem nxUp1_p13 (up : Int) (q : Int) (X : Nat → Value) (hI : InvUp1 up (6, q)) (h0 : (up / 64) % 2 = 1) : RHUp1 up E' x' e' h' (6, q) X := by
  obtain ⟨i0, i1, it⟩ := unIUp1 up 6 q hI
  refine stUp1_6 up q (h := hyUp1_p13) (7, q) ?_ (mkIUp1 up 7 q ⟨by omega, by omega, by omega⟩) (by show 12 - 7 < 12 - 6; omega) (thXv (v := .int .u16 (up)) rfl rfl (thXv (v := .int .u8 ((czS 99 1 up))) rfl rfl (thXv (v := .int .u8 ((czS 111 2 up))) rfl rfl (thXv (v := .int .u8 ((czS 110 4 up))) rfl rfl (thXv (v := .int .u8 ((czS 116 8 up))) rfl rfl (thXv (v := .int .u8 ((czS 101 16 up))) rfl rfl (thXv (v := .int .u8 ((czS 110 32 up))) rfl rfl (thCons (show Is _ (.i .u8 (.ofNat 84)) (.int .u8 ((czS 116 64 up))) from isTo (v := .int .u8 84) (isI _ _) (congrArg (Value.int .u8) (cz_t (by omega) rfl))) (thNil))))))))) runUp1_p13
  unfold hyUp1_p13
  exact hc (kShrM 6 64 rfl (isX rfl) (isZ (m := 6) rfl) (denX rfl) rfl (by decide) (by omega) rfl) <|
   hc (kAndM 1 2 rfl (isX rfl) (isZ (m := 1) rfl) (denX rfl) (by omega) (fU16 (by omega) (by omega)) (fU16 (by omega) (by omega)) rfl rfl) <|
   hc (eqcT rfl (by omega)) <|
   hnil
def hyUp1_p14 : LK := [(.bin .shr (.x 0) (.i .u64 (.ofNat 7)), .x 8), (.bin .and (.x 8) (.i .u16 (.ofNat 1)), .x 9), (.bin .eql (.x 9) (.i .u16 (.ofNat 1)), .b false)]
theorem runUp1_p14 : RNUp1_7 hyUp1_p14 .normal [(0, .x 0), (1, .x 1), (2, .x 2), (3, .x 3), (4, .x 4), (5, .x 5), (6, .x 6), (7, .x 7)] [] 5 epUp1_8 hpUp1_8 = true := by kernel_rfl
theorem nxUp1_p14 (up : Int) (q : Int) (X : Nat → Value) (hI : InvUp1 up (7, q)) (h0 : ¬ ((up / 128) % 2 = 1)) : RHUp1 up E' x' e' h' (7, q) X := by
  obtain ⟨i0, i1, it⟩ := unIUp1 up 7 q hI
  refine stUp1_7 up q (h := hyUp1_p14) (8, q) ?_ (mkIUp1 up 8 q ⟨by omega, by omega, by omega⟩) (by show 12 - 8 < 12 - 7; omega) (thXv (v := .int .u16 (up)) rfl rfl (thXv (v := .int .u8 ((czS 99 1 up))) rfl rfl (thXv (v := .int .u8 ((czS 111 2 up))) rfl rfl (thXv (v := .int .u8 ((czS 110 4 up))) rfl rfl (thXv (v := .int .u8 ((czS 116 8 up))) rfl rfl (thXv (v := .int .u8 ((czS 101 16 up))) rfl rfl (thXv (v := .int .u8 ((czS 110 32 up))) rfl rfl (thXv (v := .int .u8 ((czS 116 64 up))) rfl rfl (thNil))))))))) runUp1_p14
  unfold hyUp1_p14
  exact hc (kShrM 7 128 rfl (isX rfl) (isZ (m := 7) rfl) (denX rfl) rfl (by decide) (by omega) rfl) <|
   hc (kAndM 1 2 rfl (isX rfl) (isZ (m := 1) rfl) (denX rfl) (by omega) (fU16 (by omega) (by omega)) (fU16 (by omega) (by omega)) rfl rfl) <|
   hc (eqcF rfl (by omega)) <|
   hnil
def hyUp1_p15 : LK := [(.bin .shr (.x 0) (.i .u64 (.ofNat 7)), .x 10), (.bin .and (.x 10) (.i .u16 (.ofNat 1)), .x 11), (.bin .eql (.x 11) (.i .u16 (.ofNat 1)), .b true)]
theorem runUp1_p15 : RNUp1_7 hyUp1_p15 .normal [(0, .x 0), (1, .x 1), (2, .x 2), (3, .x 3), (4, .x 4), (5, .x 5), (6, .x 6), (7, .x 7)] [] 5 epUp1_8 hpUp1_8 = true := by kernel_rfl
theorem nxUp1_p15 (up : Int) (q : Int) (X : Nat → Value) (hI : InvUp1 up (7, q)) (h0 : (up / 128) % 2 = 1) : RHUp1 up E' x' e' h' (7, q) X := by
  obtain ⟨i0, i1, it⟩ := unIUp1 up 7 q hI
  refine stUp1_7 up q (h := hyUp1_p15) (8, q) ?_ (mkIUp1 up 8 q ⟨by omega, by omega, by omega⟩) (by show 12 - 8 < 12 - 7; omega) (thXv (v := .int .u16 (up)) rfl rfl (thXv (v := .int .u8 ((czS 99 1 up))) rfl rfl (thXv (v := .int .u8 ((czS 111 2 up))) rfl rfl (thXv (v := .int .u8 ((czS 110 4 up))) rfl rfl (thXv (v := .int .u8 ((czS 116 8 up))) rfl rfl (thXv (v := .int .u8 ((czS 101 16 up))) rfl rfl (thXv (v := .int .u8 ((czS 110 32 up))) rfl rfl (thXv (v := .int .u8 ((czS 116 64 up))) rfl rfl (thNil))))))))) runUp1_p15
  unfold hyUp1_p15
  exact hc (kShrM 7 128 rfl (isX rfl) (isZ (m := 7) rfl) (denX rfl) rfl (by decide) (by omega) rfl) <|
   hc (kAndM 1 2 rfl (isX rfl) (isZ (m := 1) rfl) (denX rfl) (by omega) (fU16 (by omega) (by omega)) (fU16 (by omega) (by omega)) rfl rfl) <|
   hc (eqcT rfl (by omega)) <|
   hnil
def hyUp1_p16 : LK := [(.bin .shr (.x 0) (.i .u64 (.ofNat 8)), .x 8), (.bin .and (.x 8) (.i .u16 (.ofNat 1)), .x 9), (.bin .eql (.x 9) (.i .u16 (.ofNat 1)), .b false)]
theorem runUp1_p16 : RNUp1_8 hyUp1_p16 .normal [(0, .x 0), (1, .x 1), (2, .x 2), (3, .x 3), (4, .x 4), (5, .x 5), (6, .x 6), (7, .x 7), (8, .i .u8 (.ofNat 116))] [] 5 epUp1_9 hpUp1_9 = true := by kernel_rfl
theorem nxUp1_p16 (up : Int) (q : Int) (X : Nat → Value) (hI : InvUp1 up (8, q)) (h0 : ¬ ((up / 256) % 2 = 1)) : RHUp1 up E' x' e' h' (8, q) X := by
  obtain ⟨i0, i1, it⟩ := unIUp1 up 8 q hI
  refine stUp1_8 up q (h := hyUp1_p16) (9, q) ?_ (mkIUp1 up 9 q ⟨by omega, by omega, by omega⟩) (by show 12 - 9 < 12 - 8; omega) (thXv (v := .int .u16 (up)) rfl rfl (thXv (v := .int .u8 ((czS 99 1 up))) rfl rfl (thXv (v := .int .u8 ((czS 111 2 up))) rfl rfl (thXv (v := .int .u8 ((czS 110 4 up))) rfl rfl (thXv (v := .int .u8 ((czS 116 8 up))) rfl rfl (thXv (v := .int .u8 ((czS 101 16 up))) rfl rfl (thXv (v := .int .u8 ((czS 110 32 up))) rfl rfl (thXv (v := .int .u8 ((czS 116 64 up))) rfl rfl (thCons (show Is _ (.i .u8 (.ofNat 116)) (.int .u8 ((czS 116 256 up))) from isTo (v := .int .u8 116) (isI _ _) (congrArg (Value.int .u8) (cz_f (by omega)))) (thNil)))))))))) runUp1_p16
  unfold hyUp1_p16
  exact hc (kShrM 8 256 rfl (isX rfl) (isZ (m := 8) rfl) (denX rfl) rfl (by decide) (by omega) rfl) <|
   hc (kAndM 1 2 rfl (isX rfl) (isZ (m := 1) rfl) (denX rfl) (by omega) (fU16 (by omega) (by omega)) (fU16 (by omega) (by omega)) rfl rfl) <|
   hc (eqcF rfl (by omega)) <|
   hnil
def hyUp1_p17 : LK := [(.bin .shr (.x 0) (.i .u64 (.ofNat 8)), .x 10), (.bin .and (.x 10) (.i .u16 (.ofNat 1)), .x 11), (.bin .eql (.x 11) (.i .u16 (.ofNat 1)), .b true)]
theorem runUp1_p17 : RNUp1_8 hyUp1_p17 .normal [(0, .x 0), (1, .x 1), (2, .x 2), (3, .x 3), (4, .x 4), (5, .x 5), (6, .x 6), (7, .x 7), (8, .i .u8 (.ofNat 84))] [] 5 epUp1_9 hpUp1_9 = true := by kernel_rfl
theorem nxUp1_p17 (up : Int) (q : Int) (X : Nat → Value) (hI : InvUp1 up (8, q)) (h0 : (up / 256) % 2 = 1) : RHUp1 up E' x' e' h' (8, q) X := by
  obtain ⟨i0, i1, it⟩ := unIUp1 up 8 q hI
  refine stUp1_8 up q (h := hyUp1_p17) (9, q) ?_ (mkIUp1 up 9 q ⟨by omega, by omega, by omega⟩) (by show 12 - 9 < 12 - 8; omega) (thXv (v := .int .u16 (up)) rfl rfl (thXv (v := .int .u8 ((czS 99 1 up))) rfl rfl (thXv (v := .int .u8 ((czS 111 2 up))) rfl rfl (thXv (v := .int .u8 ((czS 110 4 up))) rfl rfl (thXv (v := .int .u8 ((czS 116 8 up))) rfl rfl (thXv (v := .int .u8 ((czS 101 16 up))) rfl rfl (thXv (v := .int .u8 ((czS 110 32 up))) rfl rfl (thXv (v := .int .u8 ((czS 116 64 up))) rfl rfl (thCons (show Is _ (.i .u8 (.ofNat 84)) (.int .u8 ((czS 116 256 up))) from isTo (v := .int .u8 84) (isI _ _) (congrArg (Value.int .u8) (cz_t (by omega) rfl))) (thNil)))))))))) runUp1_p17
  unfold hyUp1_p17
  exact hc (kShrM 8 256 rfl (isX rfl) (isZ (m := 8) rfl) (denX rfl) rfl (by decide) (by omega) rfl) <|
   hc (kAndM 1 2 rfl (isX rfl) (isZ (m := 1) rfl) (denX rfl) (by omega) (fU16 (by omega) (by omega)) (fU16 (by omega) (by omega)) rfl rfl) <|
   hc (eqcT rfl (by omega)) <|
   hnil
def hyUp1_p18 : LK := [(.bin .shr (.x 0) (.i .u64 (.ofNat 9)), .x 9), (.bin .and (.x 9) (.i .u16 (.ofNat 1)), .x 10), (.bin .eql (.x 10) (.i .u16 (.ofNat 1)), .b false)]
theorem runUp1_p18 : RNUp1_9 hyUp1_p18 .normal [(0, .x 0), (1, .x 1), (2, .x 2), (3, .x 3), (4, .x 4), (5, .x 5), (6, .x 6), (7, .x 7), (8, .x 8), (9, .i .u8 (.ofNat 121))] [] 5 epUp1_10 hpUp1_10 = true := by kernel_rfl
theorem nxUp1_p18 (up : Int) (q : Int) (X : Nat → Value) (hI : InvUp1 up (9, q)) (h0 : ¬ ((up / 512) % 2 = 1)) : RHUp1 up E' x' e' h' (9, q) X := by
  obtain ⟨i0, i1, it⟩ := unIUp1 up 9 q hI
  refine stUp1_9 up q (h := hyUp1_p18) (10, q) ?_ (mkIUp1 up 10 q ⟨by omega, by omega, by omega⟩) (by show 12 - 10 < 12 - 9; omega) (thXv (v := .int .u16 (up)) rfl rfl (thXv (v := .int .u8 ((czS 99 1 up))) rfl rfl (thXv (v := .int .u8 ((czS 111 2 up))) rfl rfl (thXv (v := .int .u8 ((czS 110 4 up))) rfl rfl (thXv (v := .int .u8 ((czS 116 8 up))) rfl rfl (thXv (v := .int .u8 ((czS 101 16 up))) rfl rfl (thXv (v := .int .u8 ((czS 110 32 up))) rfl rfl (thXv (v := .int .u8 ((czS 116 64 up))) rfl rfl (thXv (v := .int .u8 ((czS 116 256 up))) rfl rfl (thCons (show Is _ (.i .u8 (.ofNat 121)) (.int .u8 ((czS 121 512 up))) from isTo (v := .int .u8 121) (isI _ _) (congrArg (Value.int .u8) (cz_f (by omega)))) (thNil))))))))))) runUp1_p18
  unfold hyUp1_p18
  exact hc (kShrM 9 512 rfl (isX rfl) (isZ (m := 9) rfl) (denX rfl) rfl (by decide) (by omega) rfl) <|
   hc (kAndM 1 2 rfl (isX rfl) (isZ (m := 1) rfl) (denX rfl) (by omega) (fU16 (by omega) (by omega)) (fU16 (by omega) (by omega)) rfl rfl) <|
   hc (eqcF rfl (by omega)) <|
   hnil
def hyUp1_p19 : LK := [(.bin .shr (.x 0) (.i .u64 (.ofNat 9)), .x 11), (.bin .and (.x 11) (.i .u16 (.ofNat 1)), .x 12), (.bin .eql (.x 12) (.i .u16 (.ofNat 1)), .b true)]
theorem runUp1_p19 : RNUp1_9 hyUp1_p19 .normal [(0, .x 0), (1, .x 1), (2, .x 2), (3, .x 3), (4, .x 4), (5, .x 5), (6, .x 6), (7, .x 7), (8, .x 8), (9, .i .u8 (.ofNat 89))] [] 5 epUp1_10 hpUp1_10 = true := by kernel_rfl
theorem nxUp1_p19 (up : Int) (q : Int) (X : Nat → Value) (hI : InvUp1 up (9, q)) (h0 : (up / 512) % 2 = 1) : RHUp1 up E' x' e' h' (9, q) X := by
  obtain ⟨i0, i1, it⟩ := unIUp1 up 9 q hI
  refine stUp1_9 up q (h := hyUp1_p19) (10, q) ?_ (mkIUp1 up 10 q ⟨by omega, by omega, by omega⟩) (by show 12 - 10 < 12 - 9; omega) (thXv (v := .int .u16 (up)) rfl rfl (thXv (v := .int .u8 ((czS 99 1 up))) rfl rfl (thXv (v := .int .u8 ((czS 111 2 up))) rfl rfl (thXv (v := .int .u8 ((czS 110 4 up))) rfl rfl (thXv (v := .int .u8 ((czS 116 8 up))) rfl rfl (thXv (v := .int .u8 ((czS 101 16 up))) rfl rfl (thXv (v := .int .u8 ((czS 110 32 up))) rfl rfl (thXv (v := .int .u8 ((czS 116 64 up))) rfl rfl (thXv (v := .int .u8 ((czS 116 256 up))) rfl rfl (thCons (show Is _ (.i .u8 (.ofNat 89)) (.int .u8 ((czS 121 512 up))) from isTo (v := .int .u8 89) (isI _ _) (congrArg (Value.int .u8) (cz_t (by omega) rfl))) (thNil))))))))))) runUp1_p19
  unfold hyUp1_p19
  exact hc (kShrM 9 512 rfl (isX rfl) (isZ (m := 9) rfl) (denX rfl) rfl (by decide) (by omega) rfl) <|
   hc (kAndM 1 2 rfl (isX rfl) (isZ (m := 1) rfl) (denX rfl) (by omega) (fU16 (by omega) (by omega)) (fU16 (by omega) (by omega)) rfl rfl) <|
   hc (eqcT rfl (by omega)) <|
   hnil
def hyUp1_p20 : LK := [(.bin .shr (.x 0) (.i .u64 (.ofNat 10)), .x 10), (.bin .and (.x 10) (.i .u16 (.ofNat 1)), .x 11), (.bin .eql (.x 11) (.i .u16 (.ofNat 1)), .b false)]
theorem runUp1_p20 : RNUp1_10 hyUp1_p20 .normal [(0, .x 0), (1, .x 1), (2, .x 2), (3, .x 3), (4, .x 4), (5, .x 5), (6, .x 6), (7, .x 7), (8, .x 8), (9, .x 9), (10, .i .u8 (.ofNat 112))] [] 5 epUp1_11 hpUp1_11 = true := by kernel_rfl
theorem nxUp1_p20 (up : Int) (q : Int) (X : Nat → Value) (hI : InvUp1 up (10, q)) (h0 : ¬ ((up / 1024) % 2 = 1)) : RHUp1 up E' x' e' h' (10, q) X := by
  obtain ⟨i0, i1, it⟩ := unIUp1 up 10 q hI
  refine stUp1_10 up q (h := hyUp1_p20) (11, q) ?_ (mkIUp1 up 11 q ⟨by omega, by omega, by omega⟩) (by show 12 - 11 < 12 - 10; omega) (thXv (v := .int .u16 (up)) rfl rfl (thXv (v := .int .u8 ((czS 99 1 up))) rfl rfl (thXv (v := .int .u8 ((czS 111 2 up))) rfl rfl (thXv (v := .int .u8 ((czS 110 4 up))) rfl rfl (thXv (v := .int .u8 ((czS 116 8 up))) rfl rfl (thXv (v := .int .u8 ((czS 101 16 up))) rfl rfl (thXv (v := .int .u8 ((czS 110 32 up))) rfl rfl (thXv (v := .int .u8 ((czS 116 64 up))) rfl rfl (thXv (v := .int .u8 ((czS 116 256 up))) rfl rfl (thXv (v := .int .u8 ((czS 121 512 up))) rfl rfl (thCons (show Is _ (.i .u8 (.ofNat 112)) (.int .u8 ((czS 112 1024 up))) from isTo (v := .int .u8 112) (isI _ _) (congrArg (Value.int .u8) (cz_f (by omega)))) (thNil)))))))))))) runUp1_p20
  unfold hyUp1_p20
  exact hc (kShrM 10 1024 rfl (isX rfl) (isZ (m := 10) rfl) (denX rfl) rfl (by decide) (by omega) rfl) <|
   hc (kAndM 1 2 rfl (isX rfl) (isZ (m := 1) rfl) (denX rfl) (by omega) (fU16 (by omega) (by omega)) (fU16 (by omega) (by omega)) rfl rfl) <|
   hc (eqcF rfl (by omega)) <|
   hnil
def hyUp1_p21 : LK := [(.bin .shr (.x 0) (.i .u64 (.ofNat 10)), .x 12), (.bin .and (.x 12) (.i .u16 (.ofNat 1)), .x 13), (.bin .eql (.x 13) (.i .u16 (.ofNat 1)), .b true)]
theorem runUp1_p21 : RNUp1_10 hyUp1_p21 .normal [(0, .x 0), (1, .x 1), (2, .x 2), (3, .x 3), (4, .x 4), (5, .x 5), (6, .x 6), (7, .x 7), (8, .x 8), (9, .x 9), (10, .i .u8 (.ofNat 80))] [] 5 epUp1_11 hpUp1_11 = true := by kernel_rfl
theorem nxUp1_p21 (up : Int) (q : Int) (X : Nat → Value) (hI : InvUp1 up (10, q)) (h0 : (up / 1024) % 2 = 1) : RHUp1 up E' x' e' h' (10, q) X := by
  obtain ⟨i0, i1, it⟩ := unIUp1 up 10 q hI
  refine stUp1_10 up q (h := hyUp1_p21) (11, q) ?_ (mkIUp1 up 11 q ⟨by omega, by omega, by omega⟩) (by show 12 - 11 < 12 - 10; omega) (thXv (v := .int .u16 (up)) rfl rfl (thXv (v := .int .u8 ((czS 99 1 up))) rfl rfl (thXv (v := .int .u8 ((czS 111 2 up))) rfl rfl (thXv (v := .int .u8 ((czS 110 4 up))) rfl rfl (thXv (v := .int .u8 ((czS 116 8 up))) rfl rfl (thXv (v := .int .u8 ((czS 101 16 up))) rfl rfl (thXv (v := .int .u8 ((czS 110 32 up))) rfl rfl (thXv (v := .int .u8 ((czS 116 64 up))) rfl rfl (thXv (v := .int .u8 ((czS 116 256 up))) rfl rfl (thXv (v := .int .u8 ((czS 121 512 up))) rfl rfl (thCons (show Is _ (.i .u8 (.ofNat 80)) (.int .u8 ((czS 112 1024 up))) from isTo (v := .int .u8 80) (isI _ _) (congrArg (Value.int .u8) (cz_t (by omega) rfl))) (thNil)))))))))))) runUp1_p21
  unfold hyUp1_p21
  exact hc (kShrM 10 1024 rfl (isX rfl) (isZ (m := 10) rfl) (denX rfl) rfl (by decide) (by omega) rfl) <|
   hc (kAndM 1 2 rfl (isX rfl) (isZ (m := 1) rfl) (denX rfl) (by omega) (fU16 (by omega) (by omega)) (fU16 (by omega) (by omega)) rfl rfl) <|
   hc (eqcT rfl (by omega)) <|
   hnil
def hyUp1_p22 : LK := [(.bin .shr (.x 0) (.i .u64 (.ofNat 11)), .x 11), (.bin .and (.x 11) (.i .u16 (.ofNat 1)), .x 12), (.bin .eql (.x 12) (.i .u16 (.ofNat 1)), .b false)]
theorem runUp1_p22 : RNUp1_11 hyUp1_p22 .normal [(0, .x 0), (1, .x 1), (2, .x 2), (3, .x 3), (4, .x 4), (5, .x 5), (6, .x 6), (7, .x 7), (8, .x 8), (9, .x 9), (10, .x 10), (11, .i .u8 (.ofNat 101))] [] 5 epUp1_12 hpUp1_12 = true := by kernel_rfl
theorem nxUp1_p22 (up : Int) (q : Int) (X : Nat → Value) (hI : InvUp1 up (11, q)) (h0 : ¬ ((up / 2048) % 2 = 1)) : RHUp1 up E' x' e' h' (11, q) X := by
  obtain ⟨i0, i1, it⟩ := unIUp1 up 11 q hI
  refine stUp1_11 up q (h := hyUp1_p22) (12, q) ?_ (mkIUp1 up 12 q ⟨by omega, by omega, by omega⟩) (by show 12 - 12 < 12 - 11; omega) (thXv (v := .int .u16 (up)) rfl rfl (thXv (v := .int .u8 ((czS 99 1 up))) rfl rfl (thXv (v := .int .u8 ((czS 111 2 up))) rfl rfl (thXv (v := .int .u8 ((czS 110 4 up))) rfl rfl (thXv (v := .int .u8 ((czS 116 8 up))) rfl rfl (thXv (v := .int .u8 ((czS 101 16 up))) rfl rfl (thXv (v := .int .u8 ((czS 110 32 up))) rfl rfl (thXv (v := .int .u8 ((czS 116 64 up))) rfl rfl (thXv (v := .int .u8 ((czS 116 256 up))) rfl rfl (thXv (v := .int .u8 ((czS 121 512 up))) rfl rfl (thXv (v := .int .u8 ((czS 112 1024 up))) rfl rfl (thCons (show Is _ (.i .u8 (.ofNat 101)) (.int .u8 ((czS 101 2048 up))) from isTo (v := .int .u8 101) (isI _ _) (congrArg (Value.int .u8) (cz_f (by omega)))) (thNil))))))))))))) runUp1_p22
  unfold hyUp1_p22
  exact hc (kShrM 11 2048 rfl (isX rfl) (isZ (m := 11) rfl) (denX rfl) rfl (by decide) (by omega) rfl) <|
   hc (kAndM 1 2 rfl (isX rfl) (isZ (m := 1) rfl) (denX rfl) (by omega) (fU16 (by omega) (by omega)) (fU16 (by omega) (by omega)) rfl rfl) <|
   hc (eqcF rfl (by omega)) <|
   hnil
def hyUp1_p23 : LK := [(.bin .shr (.x 0) (.i .u64 (.ofNat 11)), .x 13), (.bin .and (.x 13) (.i .u16 (.ofNat 1)), .x 14), (.bin .eql (.x 14) (.i .u16 (.ofNat 1)), .b true)]
theorem runUp1_p23 : RNUp1_11 hyUp1_p23 .normal [(0, .x 0), (1, .x 1), (2, .x 2), (3, .x 3), (4, .x 4), (5, .x 5), (6, .x 6), (7, .x 7), (8, .x 8), (9, .x 9), (10, .x 10), (11, .i .u8 (.ofNat 69))] [] 5 epUp1_12 hpUp1_12 = true := by kernel_rfl
theorem nxUp1_p23 (up : Int) (q : Int) (X : Nat → Value) (hI : InvUp1 up (11, q)) (h0 : (up / 2048) % 2 = 1) : RHUp1 up E' x' e' h' (11, q) X := by
  obtain ⟨i0, i1, it⟩ := unIUp1 up 11 q hI
  refine stUp1_11 up q (h := hyUp1_p23) (12, q) ?_ (mkIUp1 up 12 q ⟨by omega, by omega, by omega⟩) (by show 12 - 12 < 12 - 11; omega) (thXv (v := .int .u16 (up)) rfl rfl (thXv (v := .int .u8 ((czS 99 1 up))) rfl rfl (thXv (v := .int .u8 ((czS 111 2 up))) rfl rfl (thXv (v := .int .u8 ((czS 110 4 up))) rfl rfl (thXv (v := .int .u8 ((czS 116 8 up))) rfl rfl (thXv (v := .int .u8 ((czS 101 16 up))) rfl rfl (thXv (v := .int .u8 ((czS 110 32 up))) rfl rfl (thXv (v := .int .u8 ((czS 116 64 up))) rfl rfl (thXv (v := .int .u8 ((czS 116 256 up))) rfl rfl (thXv (v := .int .u8 ((czS 121 512 up))) rfl rfl (thXv (v := .int .u8 ((czS 112 1024 up))) rfl rfl (thCons (show Is _ (.i .u8 (.ofNat 69)) (.int .u8 ((czS 101 2048 up))) from isTo (v := .int .u8 69) (isI _ _) (congrArg (Value.int .u8) (cz_t (by omega) rfl))) (thNil))))))))))))) runUp1_p23
  unfold hyUp1_p23
  exact hc (kShrM 11 2048 rfl (isX rfl) (isZ (m := 11) rfl) (denX rfl) rfl (by decide) (by omega) rfl) <|
   hc (kAndM 1 2 rfl (isX rfl) (isZ (m := 1) rfl) (denX rfl) (by omega) (fU16 (by omega) (by omega)) (fU16 (by omega) (by omega)) rfl rfl) <|
   hc (eqcT rfl (by omega)) <|
   hnil
def hyUp1_p24 : LK := []
theorem runUp1_p24 : RNUp1_12 hyUp1_p24 (.exit 0) [(0, .x 1), (1, .x 2), (2, .x 3), (3, .x 4), (4, .x 5), (5, .x 6), (6, .x 7), (7, .x 8), (8, .x 9), (9, .x 10), (10, .x 11)] [] 33 [(5, .sl 4 0 12 12 false)] [(4, .b ⟨5, .l [.x 0, .x 1, .x 2, .x 3, .x 4, .x 5, .x 6, .i .u8 (.ofNat 45), .x 7, .x 8, .x 9, .x 10], 0, 0, 0, true, false⟩)] = true := by kernel_rfl
def nuEUp1_0 (up : Int) : List Value := [.int .u8 ((czS 99 1 up)), .int .u8 ((czS 111 2 up)), .int .u8 ((czS 110 4 up)), .int .u8 ((czS 116 8 up)), .int .u8 ((czS 101 16 up)), .int .u8 ((czS 110 32 up)), .int .u8 ((czS 116 64 up)), .int .u8 ((czS 116 256 up)), .int .u8 ((czS 121 512 up)), .int .u8 ((czS 112 1024 up)), .int .u8 ((czS 101 2048 up))]
def roEUp1_0 (up : Int) : List Value := []
noncomputable def EUp1_0 (up : Int) : Cx := cx (nuX (nuEUp1_0 up) (rX (roEUp1_0 up) (fun _ => .bool true))) (nuX_one (nuL_one (l := nuEUp1_0 up) rfl)) 0 laidE laidE_stab
theorem roundsUp1_0 (up : Int) (st : Nat × Int) (X : Nat → Value) (hI : InvUp1 up st) : RHUp1 up (EUp1_0 up) (.exit 0) [(5, .sl 4 0 12 12 false)] [(4, .b ⟨5, .l [.x 0, .x 1, .x 2, .x 3, .x 4, .x 5, .x 6, .i .u8 (.ofNat 45), .x 7, .x 8, .x 9, .x 10], 0, 0, 0, true, false⟩)] st X := by
  obtain ⟨tag, q⟩ := st
  have hI0 := hI
  obtain ⟨i0, i1, it⟩ := unIUp1 up tag q hI
  rcases (show tag = 0 ∨ tag = 1 ∨ tag = 2 ∨ tag = 3 ∨ tag = 4 ∨ tag = 5 ∨ tag = 6 ∨ tag = 7 ∨ tag = 8 ∨ tag = 9 ∨ tag = 10 ∨ tag = 11 ∨ tag = 12 from by omega) with rfl | rfl | rfl | rfl | rfl | rfl | rfl | rfl | rfl | rfl | rfl | rfl | rfl
  · skip
    by_cases h0 : (up / 1) % 2 = 1
    · exact nxUp1_p1 up q X hI0 h0
    · exact nxUp1_p0 up q X hI0 h0
  · skip
    by_cases h0 : (up / 2) % 2 = 1
    · exact nxUp1_p3 up q X hI0 h0
    · exact nxUp1_p2 up q X hI0 h0
  · skip
    by_cases h0 : (up / 4) % 2 = 1
    · exact nxUp1_p5 up q X hI0 h0
    · exact nxUp1_p4 up q X hI0 h0
  · skip
    by_cases h0 : (up / 8) % 2 = 1
    · exact nxUp1_p7 up q X hI0 h0
    · exact nxUp1_p6 up q X hI0 h0
  · skip
    by_cases h0 : (up / 16) % 2 = 1
    · exact nxUp1_p9 up q X hI0 h0
    · exact nxUp1_p8 up q X hI0 h0
  · skip
    by_cases h0 : (up / 32) % 2 = 1
    · exact nxUp1_p11 up q X hI0 h0
    · exact nxUp1_p10 up q X hI0 h0
  · skip
    by_cases h0 : (up / 64) % 2 = 1
    · exact nxUp1_p13 up q X hI0 h0
    · exact nxUp1_p12 up q X hI0 h0
  · skip
    by_cases h0 : (up / 128) % 2 = 1
    · exact nxUp1_p15 up q X hI0 h0
    · exact nxUp1_p14 up q X hI0 h0
  · skip
    by_cases h0 : (up / 256) % 2 = 1
    · exact nxUp1_p17 up q X hI0 h0
    · exact nxUp1_p16 up q X hI0 h0
  · skip
    by_cases h0 : (up / 512) % 2 = 1
    · exact nxUp1_p19 up q X hI0 h0
    · exact nxUp1_p18 up q X hI0 h0
  · skip
    by_cases h0 : (up / 1024) % 2 = 1
    · exact nxUp1_p21 up q X hI0 h0
    · exact nxUp1_p20 up q X hI0 h0
  · skip
    by_cases h0 : (up / 2048) % 2 = 1
    · exact nxUp1_p23 up q X hI0 h0
    · exact nxUp1_p22 up q X hI0 h0
  · skip
    skip
    refine lvUp1_12 up q (h := hyUp1_p24) rfl ?_ (thXv (v := .int .u8 ((czS 99 1 up))) rfl rfl (thXv (v := .int .u8 ((czS 111 2 up))) rfl rfl (thXv (v := .int .u8 ((czS 110 4 up))) rfl rfl (thXv (v := .int .u8 ((czS 116 8 up))) rfl rfl (thXv (v := .int .u8 ((czS 101 16 up))) rfl rfl (thXv (v := .int .u8 ((czS 110 32 up))) rfl rfl (thXv (v := .int .u8 ((czS 116 64 up))) rfl rfl (thXv (v := .int .u8 ((czS 116 256 up))) rfl rfl (thXv (v := .int .u8 ((czS 121 512 up))) rfl rfl (thXv (v := .int .u8 ((czS 112 1024 up))) rfl rfl (thXv (v := .int .u8 ((czS 101 2048 up))) rfl rfl (thNil)))))))))))) runUp1_p24
    unfold hyUp1_p24
    exact hnil
theorem lfOkUp1_0 {l : LF} {h : LH} (up : Int) (st : Nat × Int) (hI : InvUp1 up st) (hl : l.hp = some h) (hs : lfSame l h 80 keepUp1 (.exit 0) 3 5 33 = true) {th0 : LA} {sg0 : List (Nat × Nat)} (hth0 : ∀ X, ThOk (cx nu one 0 laidE laidE_stab) (DUp1 up st X) th0) (h0 : startOk l h 80 5 5 th0 sg0 (epUp1 st) (hpUp1 st) = true) {thx : LA} (hthx : ThOk (EUp1_0 up) (cx nu one 0 laidE laidE_stab) thx) (hx : exitOk l h 80 5 33 thx [(5, .sl 4 0 12 12 false)] [(4, .b ⟨5, .l [.x 0, .x 1, .x 2, .x 3, .x 4, .x 5, .x 6, .i .u8 (.ofNat 45), .x 7, .x 8, .x 9, .x 10], 0, 0, 0, true, false⟩)] = true) : LfOk (cx nu one 0 laidE laidE_stab) bodyUp1 l :=
  lfOkX (E := EUp1_0 up) (InvUp1 up) (muUp1 up) (DUp1 up) (fun _ _ => rfl) (fun _ _ => rfl) (fun _ _ => rfl) (fun st X t ht => nuX_keep.trans (rX_keep ((by decide : ∀ t, t ∈ keepUp1 → t < 1000000) t ht))) rfl rfl rfl hl hs ebUp1 rfl rfl st hI hth0 h0 hthx hx (roundsUp1_0 up)
end Go.Proofs.YtobklhnepmgbmaaDoor.fieldCases
