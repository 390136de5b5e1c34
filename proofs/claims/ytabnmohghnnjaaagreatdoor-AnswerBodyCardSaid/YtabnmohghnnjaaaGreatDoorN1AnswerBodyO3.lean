/- A part of the proof: an interpreter of the model's own code on partly known states, and that what it answers is what the program answers. No condition of its own. -/
import Derived.Test.YtabnmohghnnjaaaGreatDoorN1AnswerBodyO2
set_option maxRecDepth 100000
set_option linter.unusedVariables false
set_option linter.unusedSimpArgs false
set_option maxHeartbeats 4000000
namespace Go.Proofs.YtabnmohghnnjaaaGreatDoor.answerBody
open Go Go.AX Go.Proofs Go.Proofs.YtabnmohghnnjaaaGreatDoor
variable {nu : Nat → Value} {one : ∀ i, i < 1000000 → (nu i).oneCell' = true} {E' : Cx} {x' : Ex} {e' : LA} {h' : LE}
noncomputable def fi99 : FI := (tabk.fn.get 99).getD default
theorem fi99_at : tabk.fn.get 99 = some fi99 := by kernel_rfl
theorem fi99_body : fi99.body = some (Tryz.f99.body.getD .skip) := by kernel_rfl
theorem fiB99 : fi99.body.isSome = true := by rw [fi99_body]; rfl
theorem cfA99 : (loopsOf (Tryz.f99.body.getD .skip)).all (fun b => !(keyEq (Go.AX.keyOf b) 8888888)) = true := by kernel_rfl
noncomputable def fi17 : FI := (tabk.fn.get 17).getD default
theorem fi17_at : tabk.fn.get 17 = some fi17 := by kernel_rfl
theorem fi17_body : fi17.body = some (Tryz.f17.body.getD .skip) := by kernel_rfl
theorem fiB17 : fi17.body.isSome = true := by rw [fi17_body]; rfl
theorem cfA17 : (loopsOf (Tryz.f17.body.getD .skip)).all (fun b => !(keyEq (Go.AX.keyOf b) 8888888)) = true := by kernel_rfl
noncomputable def bodyFd : Code := loopNo (Tryz.f17.body.getD .skip) 0
theorem keyFd : oneKey (loopsOf (Tryz.f17.body.getD .skip)) 4 0 0 = true := by kernel_rfl
def keepFd : List Nat := []
def epFd_0 : LA := [(0, .p 636 0), (1, .x 0), (6, .x 1)]
def hpFd_0 : LE := [(636, .b ⟨49, .l [.i .i64 (.ofNat 4000), .i .i64 (.ofNat 0), .x 3, .b false, .und, .i .i64 (.ofNat 0), .x 2, .b false, .b false], 0, 0, 0, false, false⟩)]
def nuFd_0 (s W : LB) (i : Int) (ln xs c : LB) (R : List LB) (D : LB) : List Value := [St' s, .int .i64 (i), St' D, St' ln, St' ([] : LB), .int .i64 ((s.length : Int)), .int .u8 (bt s (Int.toNat (i))), St' ([u8 (bt s (Int.toNat (i)))]), St' (ln ++ [u8 (bt s (Int.toNat (i)))]), .int .i64 ((ln.length : Int) + 1), .int .i64 (i + 1), St' ([] : LB), .int .i64 ((s.length : Int)), .int .u8 (bt s (Int.toNat (i))), .int .i64 (i + 1)]
def roFd_0 (s W : LB) (i : Int) (ln xs c : LB) (R : List LB) (D : LB) : List Value := [rwS ([] : List LB), rwS ([] : List LB)]
def epFd_1 : LA := [(0, .p 636 0), (1, .x 0), (6, .x 1)]
def hpFd_1 : LE := [(636, .b ⟨49, .l [.i .i64 (.ofNat 4000), .i .i64 (.ofNat 0), .x 3, .b true, .und, .i .i64 (.ofNat 0), .x 2, .b false, .b false], 0, 0, 0, false, false⟩)]
def nuFd_1 (s W : LB) (i : Int) (ln xs c : LB) (R : List LB) (D : LB) : List Value := [St' s, .int .i64 (i), St' D, St' ln, St' ([] : LB), .int .i64 ((s.length : Int)), .int .u8 (bt s (Int.toNat (i))), St' (hexS (c.length : Int)), .int .i64 ((c.length : Int)), .int .i64 ((D.length : Int)), .int .i64 ((D.length : Int) + (c.length : Int)), .int .i64 (i + 1), St' ([] : LB), .int .i64 ((s.length : Int)), .int .u8 (bt s (Int.toNat (i))), St' (hexS (c.length : Int)), .int .i64 ((c.length : Int)), .int .i64 ((D.length : Int)), .int .i64 ((D.length : Int) + (c.length : Int)), .int .i64 (i + 1)]
def roFd_1 (s W : LB) (i : Int) (ln xs c : LB) (R : List LB) (D : LB) : List Value := [rwS ([] : List LB), rwS (([] : List LB) ++ [(hexS (c.length : Int))]), rwS ([] : List LB), rwS (([] : List LB) ++ [(hexS (c.length : Int))])]
def epFd_2 : LA := [(0, .p 636 0), (1, .x 0), (6, .x 1)]
def hpFd_2 : LE := [(636, .b ⟨49, .l [.i .i64 (.ofNat 4000), .i .i64 (.ofNat 1), .s 0 0, .b false, .x 3, .i .i64 (.ofNat 0), .x 2, .b false, .b false], 0, 0, 0, false, false⟩)]
def nuFd_2 (s W : LB) (i : Int) (ln xs c : LB) (R : List LB) (D : LB) : List Value := [St' s, .int .i64 (i), St' D, .int .i64 ((c.length : Int)), St' ([] : LB), .int .i64 ((s.length : Int)), .int .u8 (bt s (Int.toNat (i))), St' ([u8 (bt s (Int.toNat (i)))]), St' (D ++ [u8 (bt s (Int.toNat (i)))]), .int .i64 ((c.length : Int) - 1), .int .i64 (i + 1), St' ([] : LB), .int .i64 ((s.length : Int)), .int .u8 (bt s (Int.toNat (i))), St' ([u8 (bt s (Int.toNat (i)))]), St' (D ++ [u8 (bt s (Int.toNat (i)))]), .int .i64 ((c.length : Int) - 1), .int .i64 (i + 1)]
def roFd_2 (s W : LB) (i : Int) (ln xs c : LB) (R : List LB) (D : LB) : List Value := [rwS ([] : List LB), rwS ([] : List LB)]
def epFd_3 : LA := [(0, .p 636 0), (1, .x 0), (6, .x 1)]
def hpFd_3 : LE := [(636, .b ⟨49, .l [.i .i64 (.ofNat 4000), .i .i64 (.ofNat 2), .s 0 0, .b false, .und, .i .i64 (.ofNat 0), .x 2, .b false, .b false], 0, 0, 0, false, false⟩)]
def nuFd_3 (s W : LB) (i : Int) (ln xs c : LB) (R : List LB) (D : LB) : List Value := [St' s, .int .i64 (i), St' D, St' ([] : LB), .int .i64 ((s.length : Int)), .int .u8 (bt s (Int.toNat (i))), .int .i64 (i + 1)]
def roFd_3 (s W : LB) (i : Int) (ln xs c : LB) (R : List LB) (D : LB) : List Value := [rwS ([] : List LB)]
def epFd_4 : LA := [(0, .p 636 0), (1, .x 0), (6, .x 1)]
def hpFd_4 : LE := [(636, .b ⟨49, .l [.i .i64 (.ofNat 4000), .i .i64 (.ofNat 2), .s 0 0, .b true, .und, .i .i64 (.ofNat 0), .x 2, .b false, .b false], 0, 0, 0, false, false⟩)]
def nuFd_4 (s W : LB) (i : Int) (ln xs c : LB) (R : List LB) (D : LB) : List Value := [St' s, .int .i64 (i), St' D, St' ([] : LB), .int .i64 ((s.length : Int)), .int .u8 (bt s (Int.toNat (i))), .int .i64 (i + 1)]
def roFd_4 (s W : LB) (i : Int) (ln xs c : LB) (R : List LB) (D : LB) : List Value := [rwS ([] : List LB)]
def epFd_5 : LA := [(0, .p 636 0), (1, .x 0), (6, .x 1)]
def hpFd_5 : LE := [(636, .b ⟨49, .l [.i .i64 (.ofNat 4000), .i .i64 (.ofNat 3), .s 0 0, .b false, .und, .i .i64 (.ofNat 0), .x 2, .b false, .b false], 0, 0, 0, false, false⟩)]
def nuFd_5 (s W : LB) (i : Int) (ln xs c : LB) (R : List LB) (D : LB) : List Value := [St' s, .int .i64 (i), St' D, St' ([] : LB), .int .i64 ((s.length : Int)), .int .u8 (bt s (Int.toNat (i))), .int .i64 (i + 1)]
def roFd_5 (s W : LB) (i : Int) (ln xs c : LB) (R : List LB) (D : LB) : List Value := [rwS ([] : List LB)]
def epFd_6 : LA := [(0, .p 636 0), (1, .x 0), (6, .x 1)]
def hpFd_6 : LE := [(636, .b ⟨49, .l [.i .i64 (.ofNat 4000), .i .i64 (.ofNat 3), .s 0 0, .b true, .und, .i .i64 (.ofNat 0), .x 2, .b false, .b false], 0, 0, 0, false, false⟩)]
def nuFd_6 (s W : LB) (i : Int) (ln xs c : LB) (R : List LB) (D : LB) : List Value := [St' s, .int .i64 (i), St' D, St' ([] : LB), .int .i64 ((s.length : Int)), .int .u8 (bt s (Int.toNat (i))), .int .i64 (i + 1)]
def roFd_6 (s W : LB) (i : Int) (ln xs c : LB) (R : List LB) (D : LB) : List Value := [rwS ([] : List LB)]
def epFd_7 : LA := [(0, .p 636 0), (1, .x 0), (6, .x 1)]
def hpFd_7 : LE := [(636, .b ⟨49, .l [.i .i64 (.ofNat 4000), .i .i64 (.ofNat 4), .s 0 0, .b false, .und, .i .i64 (.ofNat 0), .x 2, .b false, .b false], 0, 0, 0, false, false⟩)]
def nuFd_7 (s W : LB) (i : Int) (ln xs c : LB) (R : List LB) (D : LB) : List Value := [St' s, .int .i64 (i), St' D, St' ([] : LB), .int .i64 ((s.length : Int))]
def roFd_7 (s W : LB) (i : Int) (ln xs c : LB) (R : List LB) (D : LB) : List Value := [rwS ([] : List LB)]
def epFd (st : Nat × Int × LB × LB × LB × List LB × LB) : LA := if st.1 = 0 then epFd_0 else if st.1 = 1 then epFd_1 else if st.1 = 2 then epFd_2 else if st.1 = 3 then epFd_3 else if st.1 = 4 then epFd_4 else if st.1 = 5 then epFd_5 else if st.1 = 6 then epFd_6 else epFd_7
def hpFd (st : Nat × Int × LB × LB × LB × List LB × LB) : LE := if st.1 = 0 then hpFd_0 else if st.1 = 1 then hpFd_1 else if st.1 = 2 then hpFd_2 else if st.1 = 3 then hpFd_3 else if st.1 = 4 then hpFd_4 else if st.1 = 5 then hpFd_5 else if st.1 = 6 then hpFd_6 else hpFd_7
def nuFd (s W : LB) (st : Nat × Int × LB × LB × LB × List LB × LB) : List Value := if st.1 = 0 then nuFd_0 s W (st.2.1) (st.2.2.1) (st.2.2.2.1) (st.2.2.2.2.1) (st.2.2.2.2.2.1) (st.2.2.2.2.2.2) else if st.1 = 1 then nuFd_1 s W (st.2.1) (st.2.2.1) (st.2.2.2.1) (st.2.2.2.2.1) (st.2.2.2.2.2.1) (st.2.2.2.2.2.2) else if st.1 = 2 then nuFd_2 s W (st.2.1) (st.2.2.1) (st.2.2.2.1) (st.2.2.2.2.1) (st.2.2.2.2.2.1) (st.2.2.2.2.2.2) else if st.1 = 3 then nuFd_3 s W (st.2.1) (st.2.2.1) (st.2.2.2.1) (st.2.2.2.2.1) (st.2.2.2.2.2.1) (st.2.2.2.2.2.2) else if st.1 = 4 then nuFd_4 s W (st.2.1) (st.2.2.1) (st.2.2.2.1) (st.2.2.2.2.1) (st.2.2.2.2.2.1) (st.2.2.2.2.2.2) else if st.1 = 5 then nuFd_5 s W (st.2.1) (st.2.2.1) (st.2.2.2.1) (st.2.2.2.2.1) (st.2.2.2.2.2.1) (st.2.2.2.2.2.2) else if st.1 = 6 then nuFd_6 s W (st.2.1) (st.2.2.1) (st.2.2.2.1) (st.2.2.2.2.1) (st.2.2.2.2.2.1) (st.2.2.2.2.2.2) else nuFd_7 s W (st.2.1) (st.2.2.1) (st.2.2.2.1) (st.2.2.2.2.1) (st.2.2.2.2.2.1) (st.2.2.2.2.2.2)
def roFd (s W : LB) (st : Nat × Int × LB × LB × LB × List LB × LB) : List Value := if st.1 = 0 then roFd_0 s W (st.2.1) (st.2.2.1) (st.2.2.2.1) (st.2.2.2.2.1) (st.2.2.2.2.2.1) (st.2.2.2.2.2.2) else if st.1 = 1 then roFd_1 s W (st.2.1) (st.2.2.1) (st.2.2.2.1) (st.2.2.2.2.1) (st.2.2.2.2.2.1) (st.2.2.2.2.2.2) else if st.1 = 2 then roFd_2 s W (st.2.1) (st.2.2.1) (st.2.2.2.1) (st.2.2.2.2.1) (st.2.2.2.2.2.1) (st.2.2.2.2.2.2) else if st.1 = 3 then roFd_3 s W (st.2.1) (st.2.2.1) (st.2.2.2.1) (st.2.2.2.2.1) (st.2.2.2.2.2.1) (st.2.2.2.2.2.2) else if st.1 = 4 then roFd_4 s W (st.2.1) (st.2.2.1) (st.2.2.2.1) (st.2.2.2.2.1) (st.2.2.2.2.2.1) (st.2.2.2.2.2.2) else if st.1 = 5 then roFd_5 s W (st.2.1) (st.2.2.1) (st.2.2.2.1) (st.2.2.2.2.1) (st.2.2.2.2.2.1) (st.2.2.2.2.2.2) else if st.1 = 6 then roFd_6 s W (st.2.1) (st.2.2.1) (st.2.2.2.1) (st.2.2.2.2.1) (st.2.2.2.2.2.1) (st.2.2.2.2.2.2) else roFd_7 s W (st.2.1) (st.2.2.1) (st.2.2.2.1) (st.2.2.2.2.1) (st.2.2.2.2.2.1) (st.2.2.2.2.2.2)
theorem onFd (s W : LB) (st : Nat × Int × LB × LB × LB × List LB × LB) : ∀ j, (nuL (nuFd s W st) j).oneCell' = true := by
  intro j
  unfold nuFd
  by_cases g0 : st.1 = 0
  · rw [if_pos g0]; exact nuL_one (l := nuFd_0 s W (st.2.1) (st.2.2.1) (st.2.2.2.1) (st.2.2.2.2.1) (st.2.2.2.2.2.1) (st.2.2.2.2.2.2)) rfl j
  rw [if_neg g0]
  by_cases g1 : st.1 = 1
  · rw [if_pos g1]; exact nuL_one (l := nuFd_1 s W (st.2.1) (st.2.2.1) (st.2.2.2.1) (st.2.2.2.2.1) (st.2.2.2.2.2.1) (st.2.2.2.2.2.2)) rfl j
  rw [if_neg g1]
  by_cases g2 : st.1 = 2
  · rw [if_pos g2]; exact nuL_one (l := nuFd_2 s W (st.2.1) (st.2.2.1) (st.2.2.2.1) (st.2.2.2.2.1) (st.2.2.2.2.2.1) (st.2.2.2.2.2.2)) rfl j
  rw [if_neg g2]
  by_cases g3 : st.1 = 3
  · rw [if_pos g3]; exact nuL_one (l := nuFd_3 s W (st.2.1) (st.2.2.1) (st.2.2.2.1) (st.2.2.2.2.1) (st.2.2.2.2.2.1) (st.2.2.2.2.2.2)) rfl j
  rw [if_neg g3]
  by_cases g4 : st.1 = 4
  · rw [if_pos g4]; exact nuL_one (l := nuFd_4 s W (st.2.1) (st.2.2.1) (st.2.2.2.1) (st.2.2.2.2.1) (st.2.2.2.2.2.1) (st.2.2.2.2.2.2)) rfl j
  rw [if_neg g4]
  by_cases g5 : st.1 = 5
  · rw [if_pos g5]; exact nuL_one (l := nuFd_5 s W (st.2.1) (st.2.2.1) (st.2.2.2.1) (st.2.2.2.2.1) (st.2.2.2.2.2.1) (st.2.2.2.2.2.2)) rfl j
  rw [if_neg g5]
  by_cases g6 : st.1 = 6
  · rw [if_pos g6]; exact nuL_one (l := nuFd_6 s W (st.2.1) (st.2.2.1) (st.2.2.2.1) (st.2.2.2.2.1) (st.2.2.2.2.2.1) (st.2.2.2.2.2.2)) rfl j
  rw [if_neg g6]
  exact nuL_one (l := nuFd_7 s W (st.2.1) (st.2.2.1) (st.2.2.2.1) (st.2.2.2.2.1) (st.2.2.2.2.2.1) (st.2.2.2.2.2.2)) rfl j
theorem ebFd (st : Nat × Int × LB × LB × LB × List LB × LB) : (lfB (epFd st) && lfC keepFd) = true := by
  unfold epFd
  by_cases g0 : st.1 = 0
  · rw [if_pos g0]; rfl
  rw [if_neg g0]
  by_cases g1 : st.1 = 1
  · rw [if_pos g1]; rfl
  rw [if_neg g1]
  by_cases g2 : st.1 = 2
  · rw [if_pos g2]; rfl
  rw [if_neg g2]
  by_cases g3 : st.1 = 3
  · rw [if_pos g3]; rfl
  rw [if_neg g3]
  by_cases g4 : st.1 = 4
  · rw [if_pos g4]; rfl
  rw [if_neg g4]
  by_cases g5 : st.1 = 5
  · rw [if_pos g5]; rfl
  rw [if_neg g5]
  by_cases g6 : st.1 = 6
  · rw [if_pos g6]; rfl
  rw [if_neg g6]
  rfl
noncomputable def DFd (s W : LB) (st : Nat × Int × LB × LB × LB × List LB × LB) (X : Nat → Value) : Cx := cx (nuX (nuFd s W st) (rX (roFd s W st) X)) (nuX_one (onFd s W st)) 7 laidE laidE_stab
def InvFd (s W : LB) (st : Nat × Int × LB × LB × LB × List LB × LB) : Prop := (0 ≤ (st.2.1)) ∧ (s.length ≤ 100000) ∧ (W.length ≤ 4000) ∧ (W = (st.2.2.2.2.2.2) ++ ((st.2.2.2.2.1) ++ (st.2.2.2.2.2.1).flatten)) ∧ ((st.2.2.2.2.1).length ≤ 300) ∧ (ok3 (st.2.2.2.2.2.1)) ∧ (s.drop (Int.toNat (st.2.1)) = rsS (st.1) (st.2.2.2.1) (st.2.2.2.2.1) (st.2.2.2.2.2.1)) ∧ ((st.1) = 0 → (st.2.2.1) ++ (st.2.2.2.1) = hexS ((st.2.2.2.2.1).length : Int)) ∧ ((st.1) = 1 → (st.2.2.1) = hexS ((st.2.2.2.2.1).length : Int)) ∧ ((st.1) ≤ 1 → (st.2.2.2.2.1).length = 0 → (st.2.2.2.2.2.1) = []) ∧ ((st.1) = 2 → 1 ≤ (st.2.2.2.2.1).length) ∧ (3 ≤ (st.1) → (st.2.2.2.2.1) = []) ∧ (5 ≤ (st.1) → (st.2.2.2.2.2.1) = []) ∧ ((st.1) < 8)
abbrev CjFd (s W : LB) (tag : Nat) (i : Int) (ln xs c : LB) (R : List LB) (D : LB) : Prop := (0 ≤ i) ∧ (s.length ≤ 100000) ∧ (W.length ≤ 4000) ∧ (W = D ++ (c ++ R.flatten)) ∧ (c.length ≤ 300) ∧ (ok3 R) ∧ (s.drop (Int.toNat i) = rsS tag xs c R) ∧ (tag = 0 → ln ++ xs = hexS (c.length : Int)) ∧ (tag = 1 → ln = hexS (c.length : Int)) ∧ (tag ≤ 1 → c.length = 0 → R = []) ∧ (tag = 2 → 1 ≤ c.length) ∧ (3 ≤ tag → c = []) ∧ (5 ≤ tag → R = []) ∧ (tag < 8)
theorem mkIFd (s W : LB) (tag : Nat) (i : Int) (ln xs c : LB) (R : List LB) (D : LB) (h : CjFd s W tag i ln xs c R D) : InvFd s W (tag, i, ln, xs, c, R, D) := h
theorem unIFd (s W : LB) (tag : Nat) (i : Int) (ln xs c : LB) (R : List LB) (D : LB) (h : InvFd s W (tag, i, ln, xs, c, R, D)) : (0 ≤ i) ∧ (s.length ≤ 100000) ∧ (W.length ≤ 4000) ∧ (W = D ++ (c ++ R.flatten)) ∧ (c.length ≤ 300) ∧ (ok3 R) ∧ (s.drop (Int.toNat i) = rsS tag xs c R) ∧ (tag = 0 → ln ++ xs = hexS (c.length : Int)) ∧ (tag = 1 → ln = hexS (c.length : Int)) ∧ (tag ≤ 1 → c.length = 0 → R = []) ∧ (tag = 2 → 1 ≤ c.length) ∧ (3 ≤ tag → c = []) ∧ (5 ≤ tag → R = []) ∧ (tag < 8) := h
def muFd (s W : LB) (st : Nat × Int × LB × LB × LB × List LB × LB) : Nat := (s.length - (st.2.1).toNat)
abbrev RHFd (s W : LB) (E' : Cx) (ex' : Ex) (epx' : LA) (hpx' : LE) (st : Nat × Int × LB × LB × LB × List LB × LB) (X : Nat → Value) : Prop := RoundH E' bodyFd keepFd 39 ex' 7 900 900 960 epFd hpFd epx' hpx' (InvFd s W) (muFd s W) (DFd s W) st X
noncomputable abbrev CXFd_0 (s W : LB) (i : Int) (ln xs c : LB) (R : List LB) (D : LB) (X : Nat → Value) : Cx := cx (nuX (nuFd_0 s W i ln xs c R D) (rX (roFd_0 s W i ln xs c R D) X)) (nuX_one (nuL_one (l := nuFd_0 s W i ln xs c R D) rfl)) 7 laidE laidE_stab
noncomputable abbrev RNFd_0 (h : LK) (x : Ex) (th : LA) (sg : List (Nat × Nat)) (m : Nat) (ep : LA) (hp : LE) : Bool := okRdH (code (tbl h) 5000 [] bodyFd (envOf (headOf epFd_0 keepFd) 39) ⟨lhSet hpFd_0 .leaf, 900, 0, 0⟩) x keepFd 39 960 th sg 900 m ep hp
theorem stFd_0 (s W : LB) (i : Int) (ln xs c : LB) (R : List LB) (D : LB) {X : Nat → Value} {h : LK} (y : Nat × Int × LB × LB × LB × List LB × LB) {th : LA} {sg : List (Nat × Nat)} (ho : ∀ a' r', (a', r') ∈ h → HOk (CXFd_0 s W i ln xs c R D X) a' r') (hy : InvFd s W y) (lt : muFd s W y < muFd s W (0, i, ln, xs, c, R, D)) (ht : ThOk (CXFd_0 s W i ln xs c R D X) (DFd s W y X) th) (run : RNFd_0 h .normal th sg 900 (epFd y) (hpFd y) = true) : RHFd s W E' x' e' h' (0, i, ln, xs, c, R, D) X :=
  RoundH.next (tb := tbl h) (L := []) (f := 5000) y ((tabkOk _ _).hyps ho) (LpOk.nil _) rfl hy lt ht run
theorem lvFd_0 (s W : LB) (i : Int) (ln xs c : LB) (R : List LB) (D : LB) {X : Nat → Value} {h : LK} {th : LA} {sg : List (Nat × Nat)} (hne : exB x' .normal = false) (ho : ∀ a' r', (a', r') ∈ h → HOk (CXFd_0 s W i ln xs c R D X) a' r') (ht : ThOk (CXFd_0 s W i ln xs c R D X) E' th) (run : RNFd_0 h x' th sg 960 e' h' = true) : RHFd s W E' x' e' h' (0, i, ln, xs, c, R, D) X :=
  RoundH.leave (tb := tbl h) (L := []) (f := 5000) ((tabkOk _ _).hyps ho) (LpOk.nil _) rfl hne ht run
noncomputable abbrev CXFd_1 (s W : LB) (i : Int) (ln xs c : LB) (R : List LB) (D : LB) (X : Nat → Value) : Cx := cx (nuX (nuFd_1 s W i ln xs c R D) (rX (roFd_1 s W i ln xs c R D) X)) (nuX_one (nuL_one (l := nuFd_1 s W i ln xs c R D) rfl)) 7 laidE laidE_stab
theorem sLFd_1 (s W : LB) (i : Int) (ln xs c : LB) (R : List LB) (D : LB) {X : Nat → Value} {tb : Tab} {L : List LF} (y : Nat × Int × LB × LB × LB × List LB × LB) {th : LA} {sg : List (Nat × Nat)} (hall : AllOk (CXFd_1 s W i ln xs c R D X) tb) (hlp : LpOk (CXFd_1 s W i ln xs c R D X) L bodyFd) (hng : tb.ng = 7) (hy : InvFd s W y) (lt : muFd s W y < muFd s W (1, i, ln, xs, c, R, D)) (ht : ThOk (CXFd_1 s W i ln xs c R D X) (DFd s W y X) th) (run : okRdH (code tb 5000 L bodyFd (envOf (headOf epFd_1 keepFd) 39) ⟨lhSet hpFd_1 .leaf, 900, 0, 0⟩) .normal keepFd 39 960 th sg 900 900 (epFd y) (hpFd y) = true) : RHFd s W E' x' e' h' (1, i, ln, xs, c, R, D) X :=
  RoundH.next (tb := tb) (L := L) (f := 5000) y hall hlp hng hy lt ht run
theorem lLFd_1 (s W : LB) (i : Int) (ln xs c : LB) (R : List LB) (D : LB) {X : Nat → Value} {tb : Tab} {L : List LF} {th : LA} {sg : List (Nat × Nat)} (hne : exB x' .normal = false) (hall : AllOk (CXFd_1 s W i ln xs c R D X) tb) (hlp : LpOk (CXFd_1 s W i ln xs c R D X) L bodyFd) (hng : tb.ng = 7) (ht : ThOk (CXFd_1 s W i ln xs c R D X) E' th) (run : okRdH (code tb 5000 L bodyFd (envOf (headOf epFd_1 keepFd) 39) ⟨lhSet hpFd_1 .leaf, 900, 0, 0⟩) x' keepFd 39 960 th sg 900 960 e' h' = true) : RHFd s W E' x' e' h' (1, i, ln, xs, c, R, D) X :=
  RoundH.leave (tb := tb) (L := L) (f := 5000) hall hlp hng hne ht run
noncomputable abbrev RNFd_1 (h : LK) (x : Ex) (th : LA) (sg : List (Nat × Nat)) (m : Nat) (ep : LA) (hp : LE) : Bool := okRdH (code (tbl h) 5000 [] bodyFd (envOf (headOf epFd_1 keepFd) 39) ⟨lhSet hpFd_1 .leaf, 900, 0, 0⟩) x keepFd 39 960 th sg 900 m ep hp
theorem stFd_1 (s W : LB) (i : Int) (ln xs c : LB) (R : List LB) (D : LB) {X : Nat → Value} {h : LK} (y : Nat × Int × LB × LB × LB × List LB × LB) {th : LA} {sg : List (Nat × Nat)} (ho : ∀ a' r', (a', r') ∈ h → HOk (CXFd_1 s W i ln xs c R D X) a' r') (hy : InvFd s W y) (lt : muFd s W y < muFd s W (1, i, ln, xs, c, R, D)) (ht : ThOk (CXFd_1 s W i ln xs c R D X) (DFd s W y X) th) (run : RNFd_1 h .normal th sg 900 (epFd y) (hpFd y) = true) : RHFd s W E' x' e' h' (1, i, ln, xs, c, R, D) X :=
  RoundH.next (tb := tbl h) (L := []) (f := 5000) y ((tabkOk _ _).hyps ho) (LpOk.nil _) rfl hy lt ht run
theorem lvFd_1 (s W : LB) (i : Int) (ln xs c : LB) (R : List LB) (D : LB) {X : Nat → Value} {h : LK} {th : LA} {sg : List (Nat × Nat)} (hne : exB x' .normal = false) (ho : ∀ a' r', (a', r') ∈ h → HOk (CXFd_1 s W i ln xs c R D X) a' r') (ht : ThOk (CXFd_1 s W i ln xs c R D X) E' th) (run : RNFd_1 h x' th sg 960 e' h' = true) : RHFd s W E' x' e' h' (1, i, ln, xs, c, R, D) X :=
  RoundH.leave (tb := tbl h) (L := []) (f := 5000) ((tabkOk _ _).hyps ho) (LpOk.nil _) rfl hne ht run
noncomputable abbrev CXFd_2 (s W : LB) (i : Int) (ln xs c : LB) (R : List LB) (D : LB) (X : Nat → Value) : Cx := cx (nuX (nuFd_2 s W i ln xs c R D) (rX (roFd_2 s W i ln xs c R D) X)) (nuX_one (nuL_one (l := nuFd_2 s W i ln xs c R D) rfl)) 7 laidE laidE_stab
noncomputable abbrev RNFd_2 (h : LK) (x : Ex) (th : LA) (sg : List (Nat × Nat)) (m : Nat) (ep : LA) (hp : LE) : Bool := okRdH (code (tbl h) 5000 [] bodyFd (envOf (headOf epFd_2 keepFd) 39) ⟨lhSet hpFd_2 .leaf, 900, 0, 0⟩) x keepFd 39 960 th sg 900 m ep hp
theorem stFd_2 (s W : LB) (i : Int) (ln xs c : LB) (R : List LB) (D : LB) {X : Nat → Value} {h : LK} (y : Nat × Int × LB × LB × LB × List LB × LB) {th : LA} {sg : List (Nat × Nat)} (ho : ∀ a' r', (a', r') ∈ h → HOk (CXFd_2 s W i ln xs c R D X) a' r') (hy : InvFd s W y) (lt : muFd s W y < muFd s W (2, i, ln, xs, c, R, D)) (ht : ThOk (CXFd_2 s W i ln xs c R D X) (DFd s W y X) th) (run : RNFd_2 h .normal th sg 900 (epFd y) (hpFd y) = true) : RHFd s W E' x' e' h' (2, i, ln, xs, c, R, D) X :=
  RoundH.next (tb := tbl h) (L := []) (f := 5000) y ((tabkOk _ _).hyps ho) (LpOk.nil _) rfl hy lt ht run
theorem lvFd_2 (s W : LB) (i : Int) (ln xs c : LB) (R : List LB) (D : LB) {X : Nat → Value} {h : LK} {th : LA} {sg : List (Nat × Nat)} (hne : exB x' .normal = false) (ho : ∀ a' r', (a', r') ∈ h → HOk (CXFd_2 s W i ln xs c R D X) a' r') (ht : ThOk (CXFd_2 s W i ln xs c R D X) E' th) (run : RNFd_2 h x' th sg 960 e' h' = true) : RHFd s W E' x' e' h' (2, i, ln, xs, c, R, D) X :=
  RoundH.leave (tb := tbl h) (L := []) (f := 5000) ((tabkOk _ _).hyps ho) (LpOk.nil _) rfl hne ht run
noncomputable abbrev CXFd_3 (s W : LB) (i : Int) (ln xs c : LB) (R : List LB) (D : LB) (X : Nat → Value) : Cx := cx (nuX (nuFd_3 s W i ln xs c R D) (rX (roFd_3 s W i ln xs c R D) X)) (nuX_one (nuL_one (l := nuFd_3 s W i ln xs c R D) rfl)) 7 laidE laidE_stab
noncomputable abbrev RNFd_3 (h : LK) (x : Ex) (th : LA) (sg : List (Nat × Nat)) (m : Nat) (ep : LA) (hp : LE) : Bool := okRdH (code (tbl h) 5000 [] bodyFd (envOf (headOf epFd_3 keepFd) 39) ⟨lhSet hpFd_3 .leaf, 900, 0, 0⟩) x keepFd 39 960 th sg 900 m ep hp
theorem stFd_3 (s W : LB) (i : Int) (ln xs c : LB) (R : List LB) (D : LB) {X : Nat → Value} {h : LK} (y : Nat × Int × LB × LB × LB × List LB × LB) {th : LA} {sg : List (Nat × Nat)} (ho : ∀ a' r', (a', r') ∈ h → HOk (CXFd_3 s W i ln xs c R D X) a' r') (hy : InvFd s W y) (lt : muFd s W y < muFd s W (3, i, ln, xs, c, R, D)) (ht : ThOk (CXFd_3 s W i ln xs c R D X) (DFd s W y X) th) (run : RNFd_3 h .normal th sg 900 (epFd y) (hpFd y) = true) : RHFd s W E' x' e' h' (3, i, ln, xs, c, R, D) X :=
  RoundH.next (tb := tbl h) (L := []) (f := 5000) y ((tabkOk _ _).hyps ho) (LpOk.nil _) rfl hy lt ht run
theorem lvFd_3 (s W : LB) (i : Int) (ln xs c : LB) (R : List LB) (D : LB) {X : Nat → Value} {h : LK} {th : LA} {sg : List (Nat × Nat)} (hne : exB x' .normal = false) (ho : ∀ a' r', (a', r') ∈ h → HOk (CXFd_3 s W i ln xs c R D X) a' r') (ht : ThOk (CXFd_3 s W i ln xs c R D X) E' th) (run : RNFd_3 h x' th sg 960 e' h' = true) : RHFd s W E' x' e' h' (3, i, ln, xs, c, R, D) X :=
  RoundH.leave (tb := tbl h) (L := []) (f := 5000) ((tabkOk _ _).hyps ho) (LpOk.nil _) rfl hne ht run
noncomputable abbrev CXFd_4 (s W : LB) (i : Int) (ln xs c : LB) (R : List LB) (D : LB) (X : Nat → Value) : Cx := cx (nuX (nuFd_4 s W i ln xs c R D) (rX (roFd_4 s W i ln xs c R D) X)) (nuX_one (nuL_one (l := nuFd_4 s W i ln xs c R D) rfl)) 7 laidE laidE_stab
noncomputable abbrev RNFd_4 (h : LK) (x : Ex) (th : LA) (sg : List (Nat × Nat)) (m : Nat) (ep : LA) (hp : LE) : Bool := okRdH (code (tbl h) 5000 [] bodyFd (envOf (headOf epFd_4 keepFd) 39) ⟨lhSet hpFd_4 .leaf, 900, 0, 0⟩) x keepFd 39 960 th sg 900 m ep hp
theorem stFd_4 (s W : LB) (i : Int) (ln xs c : LB) (R : List LB) (D : LB) {X : Nat → Value} {h : LK} (y : Nat × Int × LB × LB × LB × List LB × LB) {th : LA} {sg : List (Nat × Nat)} (ho : ∀ a' r', (a', r') ∈ h → HOk (CXFd_4 s W i ln xs c R D X) a' r') (hy : InvFd s W y) (lt : muFd s W y < muFd s W (4, i, ln, xs, c, R, D)) (ht : ThOk (CXFd_4 s W i ln xs c R D X) (DFd s W y X) th) (run : RNFd_4 h .normal th sg 900 (epFd y) (hpFd y) = true) : RHFd s W E' x' e' h' (4, i, ln, xs, c, R, D) X :=
  RoundH.next (tb := tbl h) (L := []) (f := 5000) y ((tabkOk _ _).hyps ho) (LpOk.nil _) rfl hy lt ht run
theorem lvFd_4 (s W : LB) (i : Int) (ln xs c : LB) (R : List LB) (D : LB) {X : Nat → Value} {h : LK} {th : LA} {sg : List (Nat × Nat)} (hne : exB x' .normal = false) (ho : ∀ a' r', (a', r') ∈ h → HOk (CXFd_4 s W i ln xs c R D X) a' r') (ht : ThOk (CXFd_4 s W i ln xs c R D X) E' th) (run : RNFd_4 h x' th sg 960 e' h' = true) : RHFd s W E' x' e' h' (4, i, ln, xs, c, R, D) X :=
  RoundH.leave (tb := tbl h) (L := []) (f := 5000) ((tabkOk _ _).hyps ho) (LpOk.nil _) rfl hne ht run
noncomputable abbrev CXFd_5 (s W : LB) (i : Int) (ln xs c : LB) (R : List LB) (D : LB) (X : Nat → Value) : Cx := cx (nuX (nuFd_5 s W i ln xs c R D) (rX (roFd_5 s W i ln xs c R D) X)) (nuX_one (nuL_one (l := nuFd_5 s W i ln xs c R D) rfl)) 7 laidE laidE_stab
noncomputable abbrev RNFd_5 (h : LK) (x : Ex) (th : LA) (sg : List (Nat × Nat)) (m : Nat) (ep : LA) (hp : LE) : Bool := okRdH (code (tbl h) 5000 [] bodyFd (envOf (headOf epFd_5 keepFd) 39) ⟨lhSet hpFd_5 .leaf, 900, 0, 0⟩) x keepFd 39 960 th sg 900 m ep hp
theorem stFd_5 (s W : LB) (i : Int) (ln xs c : LB) (R : List LB) (D : LB) {X : Nat → Value} {h : LK} (y : Nat × Int × LB × LB × LB × List LB × LB) {th : LA} {sg : List (Nat × Nat)} (ho : ∀ a' r', (a', r') ∈ h → HOk (CXFd_5 s W i ln xs c R D X) a' r') (hy : InvFd s W y) (lt : muFd s W y < muFd s W (5, i, ln, xs, c, R, D)) (ht : ThOk (CXFd_5 s W i ln xs c R D X) (DFd s W y X) th) (run : RNFd_5 h .normal th sg 900 (epFd y) (hpFd y) = true) : RHFd s W E' x' e' h' (5, i, ln, xs, c, R, D) X :=
  RoundH.next (tb := tbl h) (L := []) (f := 5000) y ((tabkOk _ _).hyps ho) (LpOk.nil _) rfl hy lt ht run
theorem lvFd_5 (s W : LB) (i : Int) (ln xs c : LB) (R : List LB) (D : LB) {X : Nat → Value} {h : LK} {th : LA} {sg : List (Nat × Nat)} (hne : exB x' .normal = false) (ho : ∀ a' r', (a', r') ∈ h → HOk (CXFd_5 s W i ln xs c R D X) a' r') (ht : ThOk (CXFd_5 s W i ln xs c R D X) E' th) (run : RNFd_5 h x' th sg 960 e' h' = true) : RHFd s W E' x' e' h' (5, i, ln, xs, c, R, D) X :=
  RoundH.leave (tb := tbl h) (L := []) (f := 5000) ((tabkOk _ _).hyps ho) (LpOk.nil _) rfl hne ht run
noncomputable abbrev CXFd_6 (s W : LB) (i : Int) (ln xs c : LB) (R : List LB) (D : LB) (X : Nat → Value) : Cx := cx (nuX (nuFd_6 s W i ln xs c R D) (rX (roFd_6 s W i ln xs c R D) X)) (nuX_one (nuL_one (l := nuFd_6 s W i ln xs c R D) rfl)) 7 laidE laidE_stab
noncomputable abbrev RNFd_6 (h : LK) (x : Ex) (th : LA) (sg : List (Nat × Nat)) (m : Nat) (ep : LA) (hp : LE) : Bool := okRdH (code (tbl h) 5000 [] bodyFd (envOf (headOf epFd_6 keepFd) 39) ⟨lhSet hpFd_6 .leaf, 900, 0, 0⟩) x keepFd 39 960 th sg 900 m ep hp
theorem stFd_6 (s W : LB) (i : Int) (ln xs c : LB) (R : List LB) (D : LB) {X : Nat → Value} {h : LK} (y : Nat × Int × LB × LB × LB × List LB × LB) {th : LA} {sg : List (Nat × Nat)} (ho : ∀ a' r', (a', r') ∈ h → HOk (CXFd_6 s W i ln xs c R D X) a' r') (hy : InvFd s W y) (lt : muFd s W y < muFd s W (6, i, ln, xs, c, R, D)) (ht : ThOk (CXFd_6 s W i ln xs c R D X) (DFd s W y X) th) (run : RNFd_6 h .normal th sg 900 (epFd y) (hpFd y) = true) : RHFd s W E' x' e' h' (6, i, ln, xs, c, R, D) X :=
  RoundH.next (tb := tbl h) (L := []) (f := 5000) y ((tabkOk _ _).hyps ho) (LpOk.nil _) rfl hy lt ht run
theorem lvFd_6 (s W : LB) (i : Int) (ln xs c : LB) (R : List LB) (D : LB) {X : Nat → Value} {h : LK} {th : LA} {sg : List (Nat × Nat)} (hne : exB x' .normal = false) (ho : ∀ a' r', (a', r') ∈ h → HOk (CXFd_6 s W i ln xs c R D X) a' r') (ht : ThOk (CXFd_6 s W i ln xs c R D X) E' th) (run : RNFd_6 h x' th sg 960 e' h' = true) : RHFd s W E' x' e' h' (6, i, ln, xs, c, R, D) X :=
  RoundH.leave (tb := tbl h) (L := []) (f := 5000) ((tabkOk _ _).hyps ho) (LpOk.nil _) rfl hne ht run
noncomputable abbrev CXFd_7 (s W : LB) (i : Int) (ln xs c : LB) (R : List LB) (D : LB) (X : Nat → Value) : Cx := cx (nuX (nuFd_7 s W i ln xs c R D) (rX (roFd_7 s W i ln xs c R D) X)) (nuX_one (nuL_one (l := nuFd_7 s W i ln xs c R D) rfl)) 7 laidE laidE_stab
noncomputable abbrev RNFd_7 (h : LK) (x : Ex) (th : LA) (sg : List (Nat × Nat)) (m : Nat) (ep : LA) (hp : LE) : Bool := okRdH (code (tbl h) 5000 [] bodyFd (envOf (headOf epFd_7 keepFd) 39) ⟨lhSet hpFd_7 .leaf, 900, 0, 0⟩) x keepFd 39 960 th sg 900 m ep hp
theorem stFd_7 (s W : LB) (i : Int) (ln xs c : LB) (R : List LB) (D : LB) {X : Nat → Value} {h : LK} (y : Nat × Int × LB × LB × LB × List LB × LB) {th : LA} {sg : List (Nat × Nat)} (ho : ∀ a' r', (a', r') ∈ h → HOk (CXFd_7 s W i ln xs c R D X) a' r') (hy : InvFd s W y) (lt : muFd s W y < muFd s W (7, i, ln, xs, c, R, D)) (ht : ThOk (CXFd_7 s W i ln xs c R D X) (DFd s W y X) th) (run : RNFd_7 h .normal th sg 900 (epFd y) (hpFd y) = true) : RHFd s W E' x' e' h' (7, i, ln, xs, c, R, D) X :=
  RoundH.next (tb := tbl h) (L := []) (f := 5000) y ((tabkOk _ _).hyps ho) (LpOk.nil _) rfl hy lt ht run
theorem lvFd_7 (s W : LB) (i : Int) (ln xs c : LB) (R : List LB) (D : LB) {X : Nat → Value} {h : LK} {th : LA} {sg : List (Nat × Nat)} (hne : exB x' .normal = false) (ho : ∀ a' r', (a', r') ∈ h → HOk (CXFd_7 s W i ln xs c R D X) a' r') (ht : ThOk (CXFd_7 s W i ln xs c R D X) E' th) (run : RNFd_7 h x' th sg 960 e' h' = true) : RHFd s W E' x' e' h' (7, i, ln, xs, c, R, D) X :=
  RoundH.leave (tb := tbl h) (L := []) (f := 5000) ((tabkOk _ _).hyps ho) (LpOk.nil _) rfl hne ht run
def hyFd_p0 : LK := [(.rn, .x 2000000), (.bytes [], .x 4), (.len (.x 0), .x 5), (.bin .lss (.x 1) (.x 5), .b true), (.idx (.x 0) (.x 1), .x 6), (.bin .eql (.x 6) (.i .u8 (.ofNat 10)), .b false), (.bin .eql (.x 6) (.i .u8 (.ofNat 13)), .b false), (.bytes [.x 6], .x 7), (.bin .add (.x 3) (.x 7), .x 8), (.len (.x 8), .x 9), (.bin .gtr (.x 9) (.i .i64 (.ofNat 1024)), .b false), (.bin .add (.x 1) (.i .i64 (.ofNat 1)), .x 10)]
theorem runFd_p0 : RNFd_0 hyFd_p0 .normal [(0, .x 0), (1, .x 10), (2, .x 2), (3, .x 8)] [] 900 epFd_0 hpFd_0 = true := by kernel_rfl
theorem nxFd_p0 (s W : LB) (i : Int) (ln xs c : LB) (R : List LB) (D : LB) (X : Nat → Value) (hI : InvFd s W (0, i, ln, xs, c, R, D)) (h0 : ¬ (xs.length = 0)) : RHFd s W E' x' e' h' (0, i, ln, xs, c, R, D) X := by
  obtain ⟨i0, i1, i2, i3, i4, i5, i6, i7, i8, i9, i10, i11, i12, it⟩ := unIFd s W 0 i ln xs c R D hI
  have hWl : W.length = D.length + (c.length + R.flatten.length) := by rw [i3, List.length_append, List.length_append]
  have hn0 : ([] : LB).length = 0 := rfl
  have hxl := hexS_len (n := (c.length : Int))
  obtain ⟨hi, hb, hr, hL2, hl3⟩ := rA i0 (by assumption) i6 (i7 rfl) i4
  have := bt_lo s (Int.toNat (i)); have := bt_hi s (Int.toNat (i))
  refine stFd_0 s W i ln xs c R D (h := hyFd_p0) (0, (i + 1), (ln ++ [u8 (bt s (Int.toNat (i)))]), (xs.drop 1), c, R, D) ?_ (mkIFd s W 0 (i + 1) (ln ++ [u8 (bt s (Int.toNat (i)))]) (xs.drop 1) c R D ⟨by omega, i1, i2, i3, i4, i5, hr, fun _ => hL2, fun h => by omega, fun _ => i9 (by omega), fun h => by omega, fun h => by omega, fun h => by omega, by omega⟩) (by show s.length - (i + 1).toNat < s.length - i.toNat; omega) (thXv (v := St' s) rfl rfl (thXi (b := ((i + 1))) rfl rfl (by omega) (thXv (v := St' D) rfl rfl (thXv (v := St' (ln ++ [u8 (bt s (Int.toNat (i)))])) rfl rfl (thNil))))) runFd_p0
  unfold hyFd_p0
  exact hc (kRn (denX rfl)) <|
   hc (kBytesB (bs := ([] : LB)) .nil (denX rfl)) <|
   hc (lnV rfl rfl (by omega)) <|
   hc (ltT rfl rfl (by omega)) <|
   hc (ixV rfl rfl rfl (by omega)) <|
   hc (eqcF rfl (by omega)) <|
   hc (eqcF rfl (by omega)) <|
   hc (kBytesB (bs := [u8 (bt s (Int.toNat (i)))]) (.cons (isB8 (isX rfl) (by omega) (by omega)) .nil) (denX rfl)) <|
   hc (kCat (isX rfl) (isX rfl) (denX rfl) (by first | (simp; done) | rfl) (by first | omega | (simp <;> omega))) <|
   hc (lnV rfl rfl (by first | omega | (simp <;> omega))) <|
   hc (gtcF rfl (by omega)) <|
   hc (adC rfl rfl (by omega)) <|
   hnil
def hyFd_p1 : LK := [(.rn, .x 2000001), (.bytes [], .x 11), (.len (.x 0), .x 12), (.bin .lss (.x 1) (.x 12), .b true), (.idx (.x 0) (.x 1), .x 13), (.bin .eql (.x 13) (.i .u8 (.ofNat 10)), .b false), (.bin .eql (.x 13) (.i .u8 (.ofNat 13)), .b true), (.bin .add (.x 1) (.i .i64 (.ofNat 1)), .x 14)]
theorem runFd_p1 : RNFd_0 hyFd_p1 .normal [(0, .x 0), (1, .x 14), (2, .x 2), (3, .x 3)] [] 900 epFd_1 hpFd_1 = true := by kernel_rfl
theorem nxFd_p1 (s W : LB) (i : Int) (ln xs c : LB) (R : List LB) (D : LB) (X : Nat → Value) (hI : InvFd s W (0, i, ln, xs, c, R, D)) (h0 : xs.length = 0) : RHFd s W E' x' e' h' (0, i, ln, xs, c, R, D) X := by
  obtain ⟨i0, i1, i2, i3, i4, i5, i6, i7, i8, i9, i10, i11, i12, it⟩ := unIFd s W 0 i ln xs c R D hI
  have hWl : W.length = D.length + (c.length + R.flatten.length) := by rw [i3, List.length_append, List.length_append]
  have hn0 : ([] : LB).length = 0 := rfl
  have hxl := hexS_len (n := (c.length : Int))
  obtain ⟨hi, hb, hr, hL2⟩ := rA2 i0 (by assumption) i6 (i7 rfl)
  have := bt_lo s (Int.toNat (i)); have := bt_hi s (Int.toNat (i))
  refine stFd_0 s W i ln xs c R D (h := hyFd_p1) (1, (i + 1), ln, xs, c, R, D) ?_ (mkIFd s W 1 (i + 1) ln xs c R D ⟨by omega, i1, i2, i3, i4, i5, hr, fun h => by omega, fun _ => hL2, fun _ => i9 (by omega), fun h => by omega, fun h => by omega, fun h => by omega, by omega⟩) (by show s.length - (i + 1).toNat < s.length - i.toNat; omega) (thXv (v := St' s) rfl rfl (thXi (b := ((i + 1))) rfl rfl (by omega) (thXv (v := St' D) rfl rfl (thXv (v := St' ln) rfl rfl (thNil))))) runFd_p1
  unfold hyFd_p1
  exact hc (kRn (denX rfl)) <|
   hc (kBytesB (bs := ([] : LB)) .nil (denX rfl)) <|
   hc (lnV rfl rfl (by omega)) <|
   hc (ltT rfl rfl (by omega)) <|
   hc (ixV rfl rfl rfl (by omega)) <|
   hc (eqcF rfl (by omega)) <|
   hc (eqcT rfl (by omega)) <|
   hc (adC rfl rfl (by omega)) <|
   hnil
def hyFd_p2 : LK := [(.rn, .x 2000000), (.bytes [], .x 4), (.len (.x 0), .x 5), (.bin .lss (.x 1) (.x 5), .b true), (.idx (.x 0) (.x 1), .x 6), (.bin .neq (.x 6) (.i .u8 (.ofNat 10)), .b false), (.bin .eql (.x 6) (.i .u8 (.ofNat 13)), .b false), (.bin .eql (.x 6) (.i .u8 (.ofNat 10)), .b true), (.el (.x 2000001) (.i .i64 (.ofNat 0)) 1 0, .x 7), (.call 98 [.x 7], .tu [.x 8, .b true]), (.len (.x 2), .x 9), (.bin .add (.x 9) (.x 8), .x 10), (.bin .gtr (.x 10) (.i .i64 (.ofNat 4000)), .b false), (.bin .eql (.x 8) (.i .i64 (.ofNat 0)), .b false), (.bin .add (.x 1) (.i .i64 (.ofNat 1)), .x 11)]
def lh1 : LH := ⟨7, 920, 940, [], [(920, .r 2000001 9 1 false)]⟩
def lf1 : LF := ⟨4, 35, [(0, .x 3), (1, .i .u8 (.ofNat 59)), (5, .nils), (6, .i .i64 (.ofNat 0)), (7, .i .i64 (.ofNat 0))], [], (.exit 0), [(5, .sr 920)], some lh1⟩
noncomputable def tbFd_p2 : Tab := addLps ((tbl hyFd_p2)) 99 fi99 [lf1]
def LFd_p2 : List LF := []
theorem runFd_p2 : okRdH (code tbFd_p2 5000 LFd_p2 bodyFd (envOf (headOf epFd_1 keepFd) 39) ⟨lhSet hpFd_1 .leaf, 900, 0, 0⟩) .normal keepFd 39 960 [(0, .x 0), (1, .x 11), (2, .x 2), (3, .x 8)] [] 900 900 epFd_2 hpFd_2 = true := by kernel_rfl
theorem nxFd_p2 (s W : LB) (i : Int) (ln xs c : LB) (R : List LB) (D : LB) (X : Nat → Value) (hI : InvFd s W (1, i, ln, xs, c, R, D)) (h5 : ¬ ((c.length : Int) = 0)) : RHFd s W E' x' e' h' (1, i, ln, xs, c, R, D) X := by
  obtain ⟨i0, i1, i2, i3, i4, i5, i6, i7, i8, i9, i10, i11, i12, it⟩ := unIFd s W 1 i ln xs c R D hI
  have hWl : W.length = D.length + (c.length + R.flatten.length) := by rw [i3, List.length_append, List.length_append]
  have hn0 : ([] : LB).length = 0 := rfl
  have hxl := hexS_len (n := (c.length : Int))
  obtain ⟨hi, hb, hr2, hr3⟩ := rB i0 i6 (i9 (by omega))
  have := bt_lo s (Int.toNat (i)); have := bt_hi s (Int.toNat (i))
  have ho : ∀ a' r', (a', r') ∈ hyFd_p2 → HOk (CXFd_1 s W i ln xs c R D X) a' r' := by
    unfold hyFd_p2
    exact hc (kRn (denX rfl)) <|
     hc (kBytesB (bs := ([] : LB)) .nil (denX rfl)) <|
     hc (lnV rfl rfl (by omega)) <|
     hc (ltT rfl rfl (by omega)) <|
     hc (ixV rfl rfl rfl (by omega)) <|
     hc (necF rfl (by omega)) <|
     hc (eqcF rfl (by omega)) <|
     hc (eqcT rfl (by omega)) <|
     hc (kEl (j := 0) (isX rfl) (isZ (m := 0) rfl) (denX rfl) (by omega) Nat.zero_lt_one) <|
     hc (hokRhx (n := (c.length : Int)) (isX rfl) (denT2 (denX rfl) (denB true)) (by omega) (by omega)) <|
     hc (lnV rfl rfl (by omega)) <|
     hc (adX rfl rfl rfl (by omega)) <|
     hc (gtcF rfl (by omega)) <|
     hc (eqcF rfl (by omega)) <|
     hc (adC rfl rfl (by omega)) <|
     hnil
  exact sLFd_1 s W i ln xs c R D (tb := tbFd_p2) (L := LFd_p2) (2, (i + 1), ln, xs, c, R, D) (AllOk.lp1 ((tabkOk _ _).hyps ho) (by omega) fi99_at fi99_body (lfCons (lpKnown rfl ⟨0, keySpl, lfOkSpl_0 (l := lf1) (h := lh1) (c.length : Int) (0, (0 : Int)) (mkISpl (c.length : Int) 0 (0 : Int) ⟨by omega, by omega, by omega, by omega, fun h => by omega, fun h => by omega, by omega⟩) rfl (by kernel_rfl) (th0 := [(0, .x 3), (1, .i .i64 (.ofNat 0))]) (sg0 := []) (fun X => thXe (v := St' ln) (u := St' (hexS (c.length : Int))) rfl rfl (congrArg (fun l => St' l) (i8 rfl)) (thCons (show Is _ (.i .i64 (.ofNat 0)) (.int .i64 ((0 : Int))) from isTo (v := .int .i64 0) (isI _ _) (by first | rfl | (congr 1; omega))) (thNil))) (by kernel_rfl) (thx := [(2000001, .x 2000000)]) (thXv (v := rwS (([] : List LB) ++ [(hexS (c.length : Int))])) rfl rfl (thNil)) (by kernel_rfl)⟩) lfNil)) (lpOk_one lfNil) rfl (mkIFd s W 2 (i + 1) ln xs c R D ⟨by omega, i1, i2, i3, i4, i5, hr2 (by omega), fun h => by omega, fun h => by omega, fun h => by omega, fun _ => by omega, fun h => by omega, fun h => by omega, by omega⟩) (by show s.length - (i + 1).toNat < s.length - i.toNat; omega) (thXv (v := St' s) rfl rfl (thXi (b := ((i + 1))) rfl rfl (by omega) (thXv (v := St' D) rfl rfl (thXv (v := .int .i64 ((c.length : Int))) rfl rfl (thNil))))) runFd_p2
def hyFd_p3 : LK := [(.rn, .x 2000000), (.bytes [], .x 4), (.len (.x 0), .x 5), (.bin .lss (.x 1) (.x 5), .b true), (.idx (.x 0) (.x 1), .x 6), (.bytes [.x 6], .x 7), (.bin .add (.x 2) (.x 7), .x 8), (.bin .sub (.x 3) (.i .i64 (.ofNat 1)), .x 9), (.bin .eql (.x 9) (.i .i64 (.ofNat 0)), .b false), (.bin .add (.x 1) (.i .i64 (.ofNat 1)), .x 10)]
theorem runFd_p3 : RNFd_2 hyFd_p3 .normal [(0, .x 0), (1, .x 10), (2, .x 8), (3, .x 9)] [] 900 epFd_2 hpFd_2 = true := by kernel_rfl
theorem nxFd_p3 (s W : LB) (i : Int) (ln xs c : LB) (R : List LB) (D : LB) (X : Nat → Value) (hI : InvFd s W (2, i, ln, xs, c, R, D)) (h1 : ¬ ((c.length : Int) - 1 = 0)) : RHFd s W E' x' e' h' (2, i, ln, xs, c, R, D) X := by
  obtain ⟨i0, i1, i2, i3, i4, i5, i6, i7, i8, i9, i10, i11, i12, it⟩ := unIFd s W 2 i ln xs c R D hI
  have hWl : W.length = D.length + (c.length + R.flatten.length) := by rw [i3, List.length_append, List.length_append]
  have hn0 : ([] : LB).length = 0 := rfl
  have hxl := hexS_len (n := (c.length : Int))
  obtain ⟨hi, hW2, hr2, hr3⟩ := rC i0 (i10 rfl) i6 i3
  have hdl : (c.drop 1).length = c.length - 1 := List.length_drop
  have hc1 := i10 rfl
  have := bt_lo s (Int.toNat (i)); have := bt_hi s (Int.toNat (i))
  refine stFd_2 s W i ln xs c R D (h := hyFd_p3) (2, (i + 1), ln, xs, (c.drop 1), R, (D ++ [u8 (bt s (Int.toNat (i)))])) ?_ (mkIFd s W 2 (i + 1) ln xs (c.drop 1) R (D ++ [u8 (bt s (Int.toNat (i)))]) ⟨by omega, i1, i2, hW2, (by omega), i5, hr2 (by omega), fun h => by omega, fun h => by omega, fun h => by omega, fun _ => by omega, fun h => by omega, fun h => by omega, by omega⟩) (by show s.length - (i + 1).toNat < s.length - i.toNat; omega) (thXv (v := St' s) rfl rfl (thXi (b := ((i + 1))) rfl rfl (by omega) (thXv (v := St' (D ++ [u8 (bt s (Int.toNat (i)))])) rfl rfl (thXi (b := (((c.drop 1).length : Int))) rfl rfl (by omega) (thNil))))) runFd_p3
  unfold hyFd_p3
  exact hc (kRn (denX rfl)) <|
   hc (kBytesB (bs := ([] : LB)) .nil (denX rfl)) <|
   hc (lnV rfl rfl (by omega)) <|
   hc (ltT rfl rfl (by omega)) <|
   hc (ixV rfl rfl rfl (by omega)) <|
   hc (kBytesB (bs := [u8 (bt s (Int.toNat (i)))]) (.cons (isB8 (isX rfl) (by omega) (by omega)) .nil) (denX rfl)) <|
   hc (kCat (isX rfl) (isX rfl) (denX rfl) (by first | (simp; done) | rfl) (by first | omega | (simp <;> omega))) <|
   hc (sbC rfl rfl (by omega)) <|
   hc (eqcF rfl (by omega)) <|
   hc (adC rfl rfl (by omega)) <|
   hnil
def hyFd_p4 : LK := [(.rn, .x 2000001), (.bytes [], .x 11), (.len (.x 0), .x 12), (.bin .lss (.x 1) (.x 12), .b true), (.idx (.x 0) (.x 1), .x 13), (.bytes [.x 13], .x 14), (.bin .add (.x 2) (.x 14), .x 15), (.bin .sub (.x 3) (.i .i64 (.ofNat 1)), .x 16), (.bin .eql (.x 16) (.i .i64 (.ofNat 0)), .b true), (.bin .add (.x 1) (.i .i64 (.ofNat 1)), .x 17)]
theorem runFd_p4 : RNFd_2 hyFd_p4 .normal [(0, .x 0), (1, .x 17), (2, .x 15)] [] 900 epFd_3 hpFd_3 = true := by kernel_rfl
theorem nxFd_p4 (s W : LB) (i : Int) (ln xs c : LB) (R : List LB) (D : LB) (X : Nat → Value) (hI : InvFd s W (2, i, ln, xs, c, R, D)) (h1 : (c.length : Int) - 1 = 0) : RHFd s W E' x' e' h' (2, i, ln, xs, c, R, D) X := by
  obtain ⟨i0, i1, i2, i3, i4, i5, i6, i7, i8, i9, i10, i11, i12, it⟩ := unIFd s W 2 i ln xs c R D hI
  have hWl : W.length = D.length + (c.length + R.flatten.length) := by rw [i3, List.length_append, List.length_append]
  have hn0 : ([] : LB).length = 0 := rfl
  have hxl := hexS_len (n := (c.length : Int))
  obtain ⟨hi, hW2, hr2, hr3⟩ := rC i0 (i10 rfl) i6 i3
  have hdl : (c.drop 1).length = c.length - 1 := List.length_drop
  have hc1 := i10 rfl
  have := bt_lo s (Int.toNat (i)); have := bt_hi s (Int.toNat (i))
  refine stFd_2 s W i ln xs c R D (h := hyFd_p4) (3, (i + 1), ln, xs, (c.drop 1), R, (D ++ [u8 (bt s (Int.toNat (i)))])) ?_ (mkIFd s W 3 (i + 1) ln xs (c.drop 1) R (D ++ [u8 (bt s (Int.toNat (i)))]) ⟨by omega, i1, i2, hW2, (by omega), i5, (hr3 (by omega)).1, fun h => by omega, fun h => by omega, fun h => by omega, fun h => by omega, fun _ => (hr3 (by omega)).2, fun h => by omega, by omega⟩) (by show s.length - (i + 1).toNat < s.length - i.toNat; omega) (thXv (v := St' s) rfl rfl (thXi (b := ((i + 1))) rfl rfl (by omega) (thXv (v := St' (D ++ [u8 (bt s (Int.toNat (i)))])) rfl rfl (thNil)))) runFd_p4
  unfold hyFd_p4
  exact hc (kRn (denX rfl)) <|
   hc (kBytesB (bs := ([] : LB)) .nil (denX rfl)) <|
   hc (lnV rfl rfl (by omega)) <|
   hc (ltT rfl rfl (by omega)) <|
   hc (ixV rfl rfl rfl (by omega)) <|
   hc (kBytesB (bs := [u8 (bt s (Int.toNat (i)))]) (.cons (isB8 (isX rfl) (by omega) (by omega)) .nil) (denX rfl)) <|
   hc (kCat (isX rfl) (isX rfl) (denX rfl) (by first | (simp; done) | rfl) (by first | omega | (simp <;> omega))) <|
   hc (sbC rfl rfl (by omega)) <|
   hc (eqcT rfl (by omega)) <|
   hc (adC rfl rfl (by omega)) <|
   hnil
def hyFd_p5 : LK := [(.rn, .x 2000000), (.bytes [], .x 3), (.len (.x 0), .x 4), (.bin .lss (.x 1) (.x 4), .b true), (.idx (.x 0) (.x 1), .x 5), (.bin .eql (.x 5) (.i .u8 (.ofNat 10)), .b false), (.bin .eql (.x 5) (.i .u8 (.ofNat 13)), .b true), (.bin .add (.x 1) (.i .i64 (.ofNat 1)), .x 6)]
theorem runFd_p5 : RNFd_3 hyFd_p5 .normal [(0, .x 0), (1, .x 6), (2, .x 2)] [] 900 epFd_4 hpFd_4 = true := by kernel_rfl
theorem nxFd_p5 (s W : LB) (i : Int) (ln xs c : LB) (R : List LB) (D : LB) (X : Nat → Value) (hI : InvFd s W (3, i, ln, xs, c, R, D)) : RHFd s W E' x' e' h' (3, i, ln, xs, c, R, D) X := by
  obtain ⟨i0, i1, i2, i3, i4, i5, i6, i7, i8, i9, i10, i11, i12, it⟩ := unIFd s W 3 i ln xs c R D hI
  have hWl : W.length = D.length + (c.length + R.flatten.length) := by rw [i3, List.length_append, List.length_append]
  have hn0 : ([] : LB).length = 0 := rfl
  have hxl := hexS_len (n := (c.length : Int))
  obtain ⟨hi, hb, hr⟩ := rD i0 i6
  have := bt_lo s (Int.toNat (i)); have := bt_hi s (Int.toNat (i))
  refine stFd_3 s W i ln xs c R D (h := hyFd_p5) (4, (i + 1), ln, xs, c, R, D) ?_ (mkIFd s W 4 (i + 1) ln xs c R D ⟨by omega, i1, i2, i3, i4, i5, hr, fun h => by omega, fun h => by omega, fun h => by omega, fun h => by omega, fun _ => i11 (by omega), fun h => by omega, by omega⟩) (by show s.length - (i + 1).toNat < s.length - i.toNat; omega) (thXv (v := St' s) rfl rfl (thXi (b := ((i + 1))) rfl rfl (by omega) (thXv (v := St' D) rfl rfl (thNil)))) runFd_p5
  unfold hyFd_p5
  exact hc (kRn (denX rfl)) <|
   hc (kBytesB (bs := ([] : LB)) .nil (denX rfl)) <|
   hc (lnV rfl rfl (by omega)) <|
   hc (ltT rfl rfl (by omega)) <|
   hc (ixV rfl rfl rfl (by omega)) <|
   hc (eqcF rfl (by omega)) <|
   hc (eqcT rfl (by omega)) <|
   hc (adC rfl rfl (by omega)) <|
   hnil
def hyFd_p6 : LK := [(.rn, .x 2000000), (.bytes [], .x 3), (.len (.x 0), .x 4), (.bin .lss (.x 1) (.x 4), .b true), (.idx (.x 0) (.x 1), .x 5), (.bin .neq (.x 5) (.i .u8 (.ofNat 10)), .b false), (.bin .eql (.x 5) (.i .u8 (.ofNat 13)), .b false), (.bin .eql (.x 5) (.i .u8 (.ofNat 10)), .b true), (.bin .add (.x 1) (.i .i64 (.ofNat 1)), .x 6)]
theorem runFd_p6 : RNFd_4 hyFd_p6 .normal [(0, .x 0), (1, .x 6), (2, .x 2), (3, .s 0 0)] [] 900 epFd_0 hpFd_0 = true := by kernel_rfl
theorem nxFd_p6 (s W : LB) (i : Int) (ln xs c : LB) (R : List LB) (D : LB) (X : Nat → Value) (hI : InvFd s W (4, i, ln, xs, c, R, D)) : RHFd s W E' x' e' h' (4, i, ln, xs, c, R, D) X := by
  obtain ⟨i0, i1, i2, i3, i4, i5, i6, i7, i8, i9, i10, i11, i12, it⟩ := unIFd s W 4 i ln xs c R D hI
  have hWl : W.length = D.length + (c.length + R.flatten.length) := by rw [i3, List.length_append, List.length_append]
  have hn0 : ([] : LB).length = 0 := rfl
  have hxl := hexS_len (n := (c.length : Int))
  obtain ⟨hi, hb, hr, hW2, hok, h30, h9⟩ := rE i0 i6 (i11 (by omega)) i3 i5
  have := bt_lo s (Int.toNat (i)); have := bt_hi s (Int.toNat (i))
  refine stFd_4 s W i ln xs c R D (h := hyFd_p6) (0, (i + 1), ([] : LB), (hexS ((hdC R).length : Int)), (hdC R), (tlC R), D) ?_ (mkIFd s W 0 (i + 1) ([] : LB) (hexS ((hdC R).length : Int)) (hdC R) (tlC R) D ⟨by omega, i1, i2, hW2, h30, hok, hr, fun _ => rfl, fun h => by omega, fun _ => h9, fun h => by omega, fun h => by omega, fun h => by omega, by omega⟩) (by show s.length - (i + 1).toNat < s.length - i.toNat; omega) (thXv (v := St' s) rfl rfl (thXi (b := ((i + 1))) rfl rfl (by omega) (thXv (v := St' D) rfl rfl (thCons (show Is _ (.s 0 0) (St' ([] : LB)) from isTo (v := St' ([] : LB)) (isSx (l := ([] : LB)) 0 0 rfl) (by first | rfl | (simp; done))) (thNil))))) runFd_p6
  unfold hyFd_p6
  exact hc (kRn (denX rfl)) <|
   hc (kBytesB (bs := ([] : LB)) .nil (denX rfl)) <|
   hc (lnV rfl rfl (by omega)) <|
   hc (ltT rfl rfl (by omega)) <|
   hc (ixV rfl rfl rfl (by omega)) <|
   hc (necF rfl (by omega)) <|
   hc (eqcF rfl (by omega)) <|
   hc (eqcT rfl (by omega)) <|
   hc (adC rfl rfl (by omega)) <|
   hnil
def hyFd_p7 : LK := [(.rn, .x 2000002), (.bytes [], .x 12), (.len (.x 0), .x 13), (.bin .lss (.x 1) (.x 13), .b true), (.idx (.x 0) (.x 1), .x 14), (.bin .neq (.x 14) (.i .u8 (.ofNat 10)), .b false), (.bin .eql (.x 14) (.i .u8 (.ofNat 13)), .b false), (.bin .eql (.x 14) (.i .u8 (.ofNat 10)), .b true), (.el (.x 2000003) (.i .i64 (.ofNat 0)) 1 0, .x 15), (.call 98 [.x 15], .tu [.x 16, .b true]), (.len (.x 2), .x 17), (.bin .add (.x 17) (.x 16), .x 18), (.bin .gtr (.x 18) (.i .i64 (.ofNat 4000)), .b false), (.bin .eql (.x 16) (.i .i64 (.ofNat 0)), .b true), (.bin .add (.x 1) (.i .i64 (.ofNat 1)), .x 19)]
def lh2 : LH := ⟨7, 920, 940, [], [(920, .r 2000003 9 1 false)]⟩
def lf2 : LF := ⟨4, 35, [(0, .x 3), (1, .i .u8 (.ofNat 59)), (5, .nils), (6, .i .i64 (.ofNat 0)), (7, .i .i64 (.ofNat 0))], [], (.exit 0), [(5, .sr 920)], some lh2⟩
noncomputable def tbFd_p7 : Tab := addLps ((tbl hyFd_p7)) 99 fi99 [lf2]
def LFd_p7 : List LF := []
theorem runFd_p7 : okRdH (code tbFd_p7 5000 LFd_p7 bodyFd (envOf (headOf epFd_1 keepFd) 39) ⟨lhSet hpFd_1 .leaf, 900, 0, 0⟩) .normal keepFd 39 960 [(0, .x 0), (1, .x 19), (2, .x 2)] [] 900 900 epFd_5 hpFd_5 = true := by kernel_rfl
theorem nxFd_p7 (s W : LB) (i : Int) (ln xs c : LB) (R : List LB) (D : LB) (X : Nat → Value) (hI : InvFd s W (1, i, ln, xs, c, R, D)) (h5 : (c.length : Int) = 0) : RHFd s W E' x' e' h' (1, i, ln, xs, c, R, D) X := by
  obtain ⟨i0, i1, i2, i3, i4, i5, i6, i7, i8, i9, i10, i11, i12, it⟩ := unIFd s W 1 i ln xs c R D hI
  have hWl : W.length = D.length + (c.length + R.flatten.length) := by rw [i3, List.length_append, List.length_append]
  have hn0 : ([] : LB).length = 0 := rfl
  have hxl := hexS_len (n := (c.length : Int))
  obtain ⟨hi, hb, hr2, hr3⟩ := rB i0 i6 (i9 (by omega))
  have := bt_lo s (Int.toNat (i)); have := bt_hi s (Int.toNat (i))
  have ho : ∀ a' r', (a', r') ∈ hyFd_p7 → HOk (CXFd_1 s W i ln xs c R D X) a' r' := by
    unfold hyFd_p7
    exact hc (kRn (denX rfl)) <|
     hc (kBytesB (bs := ([] : LB)) .nil (denX rfl)) <|
     hc (lnV rfl rfl (by omega)) <|
     hc (ltT rfl rfl (by omega)) <|
     hc (ixV rfl rfl rfl (by omega)) <|
     hc (necF rfl (by omega)) <|
     hc (eqcF rfl (by omega)) <|
     hc (eqcT rfl (by omega)) <|
     hc (kEl (j := 0) (isX rfl) (isZ (m := 0) rfl) (denX rfl) (by omega) Nat.zero_lt_one) <|
     hc (hokRhx (n := (c.length : Int)) (isX rfl) (denT2 (denX rfl) (denB true)) (by omega) (by omega)) <|
     hc (lnV rfl rfl (by omega)) <|
     hc (adX rfl rfl rfl (by omega)) <|
     hc (gtcF rfl (by omega)) <|
     hc (eqcT rfl (by omega)) <|
     hc (adC rfl rfl (by omega)) <|
     hnil
  exact sLFd_1 s W i ln xs c R D (tb := tbFd_p7) (L := LFd_p7) (5, (i + 1), ln, xs, c, R, D) (AllOk.lp1 ((tabkOk _ _).hyps ho) (by omega) fi99_at fi99_body (lfCons (lpKnown rfl ⟨0, keySpl, lfOkSpl_0 (l := lf2) (h := lh2) (c.length : Int) (0, (0 : Int)) (mkISpl (c.length : Int) 0 (0 : Int) ⟨by omega, by omega, by omega, by omega, fun h => by omega, fun h => by omega, by omega⟩) rfl (by kernel_rfl) (th0 := [(0, .x 3), (1, .i .i64 (.ofNat 0))]) (sg0 := []) (fun X => thXe (v := St' ln) (u := St' (hexS (c.length : Int))) rfl rfl (congrArg (fun l => St' l) (i8 rfl)) (thCons (show Is _ (.i .i64 (.ofNat 0)) (.int .i64 ((0 : Int))) from isTo (v := .int .i64 0) (isI _ _) (by first | rfl | (congr 1; omega))) (thNil))) (by kernel_rfl) (thx := [(2000003, .x 2000000)]) (thXv (v := rwS (([] : List LB) ++ [(hexS (c.length : Int))])) rfl rfl (thNil)) (by kernel_rfl)⟩) lfNil)) (lpOk_one lfNil) rfl (mkIFd s W 5 (i + 1) ln xs c R D ⟨by omega, i1, i2, i3, i4, i5, (hr3 (by omega)).1, fun h => by omega, fun h => by omega, fun h => by omega, fun h => by omega, fun _ => (hr3 (by omega)).2.1, fun _ => (hr3 (by omega)).2.2, by omega⟩) (by show s.length - (i + 1).toNat < s.length - i.toNat; omega) (thXv (v := St' s) rfl rfl (thXi (b := ((i + 1))) rfl rfl (by omega) (thXv (v := St' D) rfl rfl (thNil)))) runFd_p7
def hyFd_p8 : LK := [(.rn, .x 2000000), (.bytes [], .x 3), (.len (.x 0), .x 4), (.bin .lss (.x 1) (.x 4), .b true), (.idx (.x 0) (.x 1), .x 5), (.bin .eql (.x 5) (.i .u8 (.ofNat 10)), .b false), (.bin .eql (.x 5) (.i .u8 (.ofNat 13)), .b true), (.bin .add (.x 1) (.i .i64 (.ofNat 1)), .x 6)]
theorem runFd_p8 : RNFd_5 hyFd_p8 .normal [(0, .x 0), (1, .x 6), (2, .x 2)] [] 900 epFd_6 hpFd_6 = true := by kernel_rfl
theorem nxFd_p8 (s W : LB) (i : Int) (ln xs c : LB) (R : List LB) (D : LB) (X : Nat → Value) (hI : InvFd s W (5, i, ln, xs, c, R, D)) : RHFd s W E' x' e' h' (5, i, ln, xs, c, R, D) X := by
  obtain ⟨i0, i1, i2, i3, i4, i5, i6, i7, i8, i9, i10, i11, i12, it⟩ := unIFd s W 5 i ln xs c R D hI
  have hWl : W.length = D.length + (c.length + R.flatten.length) := by rw [i3, List.length_append, List.length_append]
  have hn0 : ([] : LB).length = 0 := rfl
  have hxl := hexS_len (n := (c.length : Int))
  obtain ⟨hi, hb, hr⟩ := rF i0 i6
  have := bt_lo s (Int.toNat (i)); have := bt_hi s (Int.toNat (i))
  refine stFd_5 s W i ln xs c R D (h := hyFd_p8) (6, (i + 1), ln, xs, c, R, D) ?_ (mkIFd s W 6 (i + 1) ln xs c R D ⟨by omega, i1, i2, i3, i4, i5, hr, fun h => by omega, fun h => by omega, fun h => by omega, fun h => by omega, fun _ => i11 (by omega), fun _ => i12 (by omega), by omega⟩) (by show s.length - (i + 1).toNat < s.length - i.toNat; omega) (thXv (v := St' s) rfl rfl (thXi (b := ((i + 1))) rfl rfl (by omega) (thXv (v := St' D) rfl rfl (thNil)))) runFd_p8
  unfold hyFd_p8
  exact hc (kRn (denX rfl)) <|
   hc (kBytesB (bs := ([] : LB)) .nil (denX rfl)) <|
   hc (lnV rfl rfl (by omega)) <|
   hc (ltT rfl rfl (by omega)) <|
   hc (ixV rfl rfl rfl (by omega)) <|
   hc (eqcF rfl (by omega)) <|
   hc (eqcT rfl (by omega)) <|
   hc (adC rfl rfl (by omega)) <|
   hnil
def hyFd_p9 : LK := [(.rn, .x 2000000), (.bytes [], .x 3), (.len (.x 0), .x 4), (.bin .lss (.x 1) (.x 4), .b true), (.idx (.x 0) (.x 1), .x 5), (.bin .neq (.x 5) (.i .u8 (.ofNat 10)), .b false), (.bin .eql (.x 5) (.i .u8 (.ofNat 13)), .b false), (.bin .eql (.x 5) (.i .u8 (.ofNat 10)), .b true), (.bin .add (.x 1) (.i .i64 (.ofNat 1)), .x 6)]
theorem runFd_p9 : RNFd_6 hyFd_p9 .normal [(0, .x 0), (1, .x 6), (2, .x 2)] [] 900 epFd_7 hpFd_7 = true := by kernel_rfl
theorem nxFd_p9 (s W : LB) (i : Int) (ln xs c : LB) (R : List LB) (D : LB) (X : Nat → Value) (hI : InvFd s W (6, i, ln, xs, c, R, D)) : RHFd s W E' x' e' h' (6, i, ln, xs, c, R, D) X := by
  obtain ⟨i0, i1, i2, i3, i4, i5, i6, i7, i8, i9, i10, i11, i12, it⟩ := unIFd s W 6 i ln xs c R D hI
  have hWl : W.length = D.length + (c.length + R.flatten.length) := by rw [i3, List.length_append, List.length_append]
  have hn0 : ([] : LB).length = 0 := rfl
  have hxl := hexS_len (n := (c.length : Int))
  obtain ⟨hi, hb, hr⟩ := rG i0 i6
  have := bt_lo s (Int.toNat (i)); have := bt_hi s (Int.toNat (i))
  refine stFd_6 s W i ln xs c R D (h := hyFd_p9) (7, (i + 1), ln, xs, c, R, D) ?_ (mkIFd s W 7 (i + 1) ln xs c R D ⟨by omega, i1, i2, i3, i4, i5, hr, fun h => by omega, fun h => by omega, fun h => by omega, fun h => by omega, fun _ => i11 (by omega), fun _ => i12 (by omega), by omega⟩) (by show s.length - (i + 1).toNat < s.length - i.toNat; omega) (thXv (v := St' s) rfl rfl (thXi (b := ((i + 1))) rfl rfl (by omega) (thXv (v := St' D) rfl rfl (thNil)))) runFd_p9
  unfold hyFd_p9
  exact hc (kRn (denX rfl)) <|
   hc (kBytesB (bs := ([] : LB)) .nil (denX rfl)) <|
   hc (lnV rfl rfl (by omega)) <|
   hc (ltT rfl rfl (by omega)) <|
   hc (ixV rfl rfl rfl (by omega)) <|
   hc (necF rfl (by omega)) <|
   hc (eqcF rfl (by omega)) <|
   hc (eqcT rfl (by omega)) <|
   hc (adC rfl rfl (by omega)) <|
   hnil
def hyFd_p10 : LK := [(.rn, .x 2000000), (.bytes [], .x 3), (.len (.x 0), .x 4), (.bin .lss (.x 1) (.x 4), .b false)]
theorem runFd_p10 : RNFd_7 hyFd_p10 (.exit 0) [(0, .x 2), (1, .x 0)] [] 960 [(1, .x 1)] [(636, .b ⟨49, .l [.und, .i .i64 (.ofNat 4), .und, .und, .und, .und, .x 0, .und, .und], 0, 0, 0, false, false⟩)] = true := by kernel_rfl
def nuEFd_0 (s W : LB) : List Value := [St' W, St' s]
def roEFd_0 (s W : LB) : List Value := []
noncomputable def EFd_0 (s W : LB) : Cx := cx (nuX (nuEFd_0 s W) (rX (roEFd_0 s W) (fun _ => .bool true))) (nuX_one (nuL_one (l := nuEFd_0 s W) rfl)) 7 laidE laidE_stab
theorem roundsFd_0 (s W : LB) (st : Nat × Int × LB × LB × LB × List LB × LB) (X : Nat → Value) (hI : InvFd s W st) : RHFd s W (EFd_0 s W) (.exit 0) [(1, .x 1)] [(636, .b ⟨49, .l [.und, .i .i64 (.ofNat 4), .und, .und, .und, .und, .x 0, .und, .und], 0, 0, 0, false, false⟩)] st X := by
  obtain ⟨tag, i, ln, xs, c, R, D⟩ := st
  have hI0 := hI
  obtain ⟨i0, i1, i2, i3, i4, i5, i6, i7, i8, i9, i10, i11, i12, it⟩ := unIFd s W tag i ln xs c R D hI
  rcases (show tag = 0 ∨ tag = 1 ∨ tag = 2 ∨ tag = 3 ∨ tag = 4 ∨ tag = 5 ∨ tag = 6 ∨ tag = 7 from by omega) with rfl | rfl | rfl | rfl | rfl | rfl | rfl | rfl
  · skip
    by_cases h0 : xs.length = 0
    · exact nxFd_p1 s W i ln xs c R D X hI0 h0
    · exact nxFd_p0 s W i ln xs c R D X hI0 h0
  · skip
    by_cases h5 : (c.length : Int) = 0
    · exact nxFd_p7 s W i ln xs c R D X hI0 h5
    · exact nxFd_p2 s W i ln xs c R D X hI0 h5
  · skip
    by_cases h1 : (c.length : Int) - 1 = 0
    · exact nxFd_p4 s W i ln xs c R D X hI0 h1
    · exact nxFd_p3 s W i ln xs c R D X hI0 h1
  · skip
    exact nxFd_p5 s W i ln xs c R D X hI0
  · skip
    exact nxFd_p6 s W i ln xs c R D X hI0
  · skip
    exact nxFd_p8 s W i ln xs c R D X hI0
  · skip
    exact nxFd_p9 s W i ln xs c R D X hI0
  · skip
    skip
    have hWl : W.length = D.length + (c.length + R.flatten.length) := by rw [i3, List.length_append, List.length_append]
    have hn0 : ([] : LB).length = 0 := rfl
    have hxl := hexS_len (n := (c.length : Int))
    have hi := rH i0 i6
    have hWD : D = W := by rw [i3, i11 (by omega), i12 (by omega)]; simp
    refine lvFd_7 s W i ln xs c R D (h := hyFd_p10) rfl ?_ (thXe (v := St' D) (u := St' W) rfl rfl (congrArg (fun l => St' l) hWD) (thXv (v := St' s) rfl rfl (thNil))) runFd_p10
    unfold hyFd_p10
    exact hc (kRn (denX rfl)) <|
     hc (kBytesB (bs := ([] : LB)) .nil (denX rfl)) <|
     hc (lnV rfl rfl (by omega)) <|
     hc (ltF rfl rfl (by omega)) <|
     hnil
theorem lfOkFd_0 {l : LF} {h : LH} (s W : LB) (st : Nat × Int × LB × LB × LB × List LB × LB) (hI : InvFd s W st) (hl : l.hp = some h) (hs : lfSame l h 39 keepFd (.exit 0) 7 900 960 = true) {th0 : LA} {sg0 : List (Nat × Nat)} (hth0 : ∀ X, ThOk (cx nu one 7 laidE laidE_stab) (DFd s W st X) th0) (h0 : startOk l h 39 900 900 th0 sg0 (epFd st) (hpFd st) = true) {thx : LA} (hthx : ThOk (EFd_0 s W) (cx nu one 7 laidE laidE_stab) thx) (hx : exitOk l h 39 900 960 thx [(1, .x 1)] [(636, .b ⟨49, .l [.und, .i .i64 (.ofNat 4), .und, .und, .und, .und, .x 0, .und, .und], 0, 0, 0, false, false⟩)] = true) : LfOk (cx nu one 7 laidE laidE_stab) bodyFd l :=
  lfOkX (E := EFd_0 s W) (InvFd s W) (muFd s W) (DFd s W) (fun _ _ => rfl) (fun _ _ => rfl) (fun _ _ => rfl) (fun st X t ht => nuX_keep.trans (rX_keep ((by decide : ∀ t, t ∈ keepFd → t < 1000000) t ht))) rfl rfl rfl hl hs ebFd rfl rfl st hI hth0 h0 hthx hx (roundsFd_0 s W)
noncomputable def fi4 : FI := (tabk.fn.get 4).getD default
theorem fi4_at : tabk.fn.get 4 = some fi4 := by kernel_rfl
theorem fi4_body : fi4.body = some (Tryz.f4.body.getD .skip) := by kernel_rfl
theorem fiB4 : fi4.body.isSome = true := by rw [fi4_body]; rfl
theorem cfA4 : (loopsOf (Tryz.f4.body.getD .skip)).all (fun b => !(keyEq (Go.AX.keyOf b) 8888888)) = true := by kernel_rfl
theorem hokRun {nu : Nat → Value} {one : ∀ i, i < 1000000 → (nu i).oneCell' = true} {f g : Nat} {l : List AV} {ra : AV} (hfi : (tabk.fn.get g).isSome = true) (hb : ((tabk.fn.get g).getD default).body.isSome = true) (hnl : allP (noR 8) l = true) (hnr : noR 8 ra = true) (hr : ∀ e1 e6, okA (call tabk f g l ⟨H0 e1 e6 , 7, 0, 0⟩) ra = true) : HOk (cx nu one 7 laidE laidE_stab) (.call g l) ra := by
  intro ρ args ha w hl _
  obtain ⟨fi, hf⟩ := Option.isSome_iff_exists.1 hfi
  rw [hf] at hb
  refine (runA (tabkOk nu one) rfl hf hb hnr hr (RelL.move l args (fun a h v => noR_rel 8 a (allP_mem hnl a h) v) ha) w hl).mono fun e w' he => ?_
  obtain ⟨x, e1, e2, e3⟩ := he
  exact ⟨x, e1, noR_rel 8 _ hnr _ e2, e3⟩
theorem runM0 (e1 : Nat) (e6 : Nat) : okA (call tabk 30000 81 [.i .i64 (.ofNat 201)] ⟨H0 e1 e6 , 7, 0, 0⟩) (.s 3 3223602) = true := by kernel_rfl
theorem hokM0 {nu : Nat → Value} {one : ∀ i, i < 1000000 → (nu i).oneCell' = true} : HOk (cx nu one 7 laidE laidE_stab) (.call 81 [.i .i64 (.ofNat 201)]) (.s 3 3223602) := hokRun (by kernel_rfl) (by kernel_rfl) rfl rfl (fun e1 e6 => runM0 e1 e6 )
noncomputable def fi41 : FI := (tabk.fn.get 41).getD default
theorem fi41_at : tabk.fn.get 41 = some fi41 := by kernel_rfl
theorem fi41_body : fi41.body = some (Tryz.f41.body.getD .skip) := by kernel_rfl
theorem fiB41 : fi41.body.isSome = true := by rw [fi41_body]; rfl
theorem cfA41 : (loopsOf (Tryz.f41.body.getD .skip)).all (fun b => !(keyEq (Go.AX.keyOf b) 8888888)) = true := by kernel_rfl
def rd (cnt : Nat) (ln fl : AV) : Nat × Ent := (31, .b ⟨93, .l [.i .i64 (.ofNat 1000), .i .i64 (.ofNat cnt), ln, fl, .i .i64 (.ofNat 0), .s 0 0, .nils, .b false, .b false], 0, 0, 0, false, false⟩)
def ly (b n v : Nat) : Nat × Ent := (b, .b ⟨5, .y n v, n, 1, 0, false, true⟩)
def hsA (b : Nat) : List LE := [[rd 0 .nils .nils], [rd 1 (.sl b 0 1 0 true) .nils, ly b 1 83], [rd 2 (.sl b 0 2 0 true) .nils, ly b 2 29779], [rd 3 (.sl b 0 3 0 true) .nils, ly b 3 6386771], [rd 4 (.sl b 0 4 0 true) .nils, ly b 4 1952543827], [rd 5 (.sl b 0 5 0 true) .nils, ly b 5 504463717459], [rd 6 (.sl b 0 6 0 true) .nils, ly b 6 126948300911699], [rd 7 (.sl b 0 7 0 true) .nils, ly b 7 16452496950129747], [rd 8 (.sl b 0 8 0 true) .nils, ly b 8 2322295506163823699], [rd 9 (.sl b 0 9 0 true) .nils, ly b 9 924659499191641404499], [rd 10 (.sl b 0 10 0 true) .nils, ly b 10 227598250676934611661907], [rd 11 (.sl b 0 11 0 true) .nils, ly b 11 59464963411793764172264531], [rd 12 (.sl b 0 12 0 true) .nils, ly b 12 9962985277694835963365258323], [rd 13 (.sl b 0 13 0 true) .nils, ly b 13 6110531498876048830666249434195], [rd 14 (.sl b 0 14 0 true) .nils, ly b 14 1973504263053088079953549624177747], [rd 15 (.sl b 0 15 0 true) .nils, ly b 15 521203190116535850933003182546187347], [rd 16 (.sl b 0 16 0 true) .nils, ly b 16 134773230764393039014217516270860989523], [rd 17 (.sl b 0 17 0 true) .nils, ly b 17 4558444000736593064038087412883847738451], [rd 18 (.sl b 0 0 0 true) (.sl (Nat.succ b) 0 1 0 true), ly b 17 4558444000736593064038087412883847738451, (Nat.succ b, .b ⟨43, .l [.s 6 126948300911699, .s 8 7306071479382257714], 2, 2, 0, false, true⟩)], [rd 19 (.sl b 0 1 0 true) (.sl (Nat.succ b) 0 1 0 true), ly b 17 4558444000736593064038087412883847738456, (Nat.succ b, .b ⟨43, .l [.s 6 126948300911699, .s 8 7306071479382257714], 2, 2, 0, false, true⟩)], [rd 20 (.sl b 0 2 0 true) (.sl (Nat.succ b) 0 1 0 true), ly b 17 4558444000736593064038087412883847723608, (Nat.succ b, .b ⟨43, .l [.s 6 126948300911699, .s 8 7306071479382257714], 2, 2, 0, false, true⟩)], [rd 21 (.sl b 0 3 0 true) (.sl (Nat.succ b) 0 1 0 true), ly b 17 4558444000736593064038087412883843463768, (Nat.succ b, .b ⟨43, .l [.s 6 126948300911699, .s 8 7306071479382257714], 2, 2, 0, false, true⟩)], [rd 22 (.sl b 0 4 0 true) (.sl (Nat.succ b) 0 1 0 true), ly b 17 4558444000736593064038087412883927349848, (Nat.succ b, .b ⟨43, .l [.s 6 126948300911699, .s 8 7306071479382257714], 2, 2, 0, false, true⟩)], [rd 23 (.sl b 0 5 0 true) (.sl (Nat.succ b) 0 1 0 true), ly b 17 4558444000736593064038087412437250751064, (Nat.succ b, .b ⟨43, .l [.s 6 126948300911699, .s 8 7306071479382257714], 2, 2, 0, false, true⟩)], [rd 24 (.sl b 0 0 0 true) (.sl (Nat.succ b) 0 2 0 true), ly b 17 4558444000736593064038087412437250751064, (Nat.succ b, .b ⟨43, .l [.s 6 126948300911699, .s 8 7306071479382257714, .s 1 88, .s 1 121], 4, 2, 0, false, true⟩)], [rd 25 (.sl b 0 1 0 true) (.sl (Nat.succ b) 0 2 0 true), ly b 17 4558444000736593064038087412437250750989, (Nat.succ b, .b ⟨43, .l [.s 6 126948300911699, .s 8 7306071479382257714, .s 1 88, .s 1 121], 4, 2, 0, false, true⟩)], [(31, .b ⟨93, .l [.i .i64 (.ofNat 1000), .i .i64 (.ofNat 26), .sl b 0 0 0 true, .nils, .i .i64 (.ofNat 201), .s 4 1701077325, .sl (Nat.succ b) 0 1 0 true, .b true, .b false], 0, 0, 0, false, false⟩), ly b 17 4558444000736593064038087412437250750989, (Nat.succ b, .b ⟨43, .l [.s 1 88, .s 1 121], 2, 2, 0, false, true⟩)]]
def ansH (v : Nat) : Nat × Ent := List.getD [(30, .b ⟨72, .l [.s 3 5522759, .s 0 0, .i .i64 (.ofNat 0), .nils, .s 0 0, .b false, .p 31 0, .i .i64 (.ofNat 0), .s 0 0, .nils, .b false, .b false, .i .i64 (.ofNat 0)], 0, 0, 0, false, false⟩), (30, .b ⟨72, .l [.s 4 1145128264, .s 0 0, .i .i64 (.ofNat 0), .nils, .s 0 0, .b false, .p 31 0, .i .i64 (.ofNat 0), .s 0 0, .nils, .b false, .b false, .i .i64 (.ofNat 0)], 0, 0, 0, false, false⟩), (30, .b ⟨72, .l [.s 4 1145128264, .s 0 0, .i .i64 (.ofNat 1), .nils, .s 0 0, .b true, .p 31 0, .i .i64 (.ofNat 0), .s 0 0, .nils, .b false, .b false, .i .i64 (.ofNat 0)], 0, 0, 0, false, false⟩), (30, .b ⟨72, .l [.s 3 5522759, .s 0 0, .i .i64 (.ofNat 1), .nils, .s 0 0, .b true, .p 31 0, .i .i64 (.ofNat 0), .s 0 0, .nils, .b false, .b false, .i .i64 (.ofNat 0)], 0, 0, 0, false, false⟩)] v (30, .t 0 0)
def ansB (v : Nat) : Nat × Ent := List.getD [(30, .b ⟨72, .l [.s 3 5522759, .s 0 0, .i .i64 (.ofNat 0), .nils, .s 0 0, .b false, .p 31 0, .i .i64 (.ofNat 201), .s 0 0, .nils, .b true, .b false, .i .i64 (.ofNat 201)], 0, 0, 0, false, false⟩), (30, .b ⟨72, .l [.s 4 1145128264, .s 0 0, .i .i64 (.ofNat 0), .nils, .s 0 0, .b false, .p 31 0, .i .i64 (.ofNat 201), .s 0 0, .nils, .b true, .b false, .i .i64 (.ofNat 201)], 0, 0, 0, false, false⟩), (30, .b ⟨72, .l [.s 4 1145128264, .s 0 0, .i .i64 (.ofNat 1), .nils, .s 0 0, .b true, .p 31 0, .i .i64 (.ofNat 201), .s 0 0, .nils, .b true, .b false, .i .i64 (.ofNat 201)], 0, 0, 0, false, false⟩), (30, .b ⟨72, .l [.s 3 5522759, .s 0 0, .i .i64 (.ofNat 1), .nils, .s 0 0, .b true, .p 31 0, .i .i64 (.ofNat 201), .s 0 0, .nils, .b true, .b false, .i .i64 (.ofNat 201)], 0, 0, 0, false, false⟩)] v (30, .t 0 0)
def rwE : Nat × Ent := (7, .r 2000000 5 1 true)
def t0 : List Nat := [83, 116, 97, 116, 117, 115, 58, 32, 50, 48, 49, 32, 77, 97, 100, 101, 13, 10, 88, 58, 32, 121, 13, 10, 13, 10]
def tx (q : Nat) : Nat := t0.getD q 0
noncomputable def bodyI : Code := loopNo (Tryz.f41.body.getD .skip) 0
theorem keyI : oneKey (loopsOf (Tryz.f41.body.getD .skip)) 4 0 0 = true := by kernel_rfl
noncomputable def bodyO : Code := loopNo (Tryz.f4.body.getD .skip) 0
theorem keyO : oneKey (loopsOf (Tryz.f4.body.getD .skip)) 14 0 0 = true := by kernel_rfl
def hyI (c : Nat) : LK := [(.len (.x 0), .x 2), (.bin .lss (.x 1) (.x 2), .b true), (.idx (.x 0) (.x 1), .i .u8 (.ofNat c)), (.bin .add (.x 1) (.i .i64 (.ofNat 1)), .x 3), (.sub (.x 0) (some (.x 3)) none, .x 4)]
def hyIX : LK := [(.len (.x 0), .x 2), (.bin .lss (.x 1) (.x 2), .b false)]
def epI : LA := [(0, .p 31 0), (1, .x 0), (6, .x 1)]
def epIX : LA := [(0, .p 31 0)]
def epIR : LA := [(4, .x 0), (5, .ni)]
def sgI (q : Nat) : List (Nat × Nat) := cond (Nat.blt q 17) [(100, 111)] (cond (Nat.beq q 17 || Nat.beq q 23) [(101, 117)] [])
noncomputable def rnI (q : Nat) : Bool := okRdH (code (tbl (hyI (tx q))) 9000 [] bodyI (envOf (headOf epI []) 58) ⟨lhSet ((hsA 100).getD q []) .leaf, 110, 0, 0⟩) .normal [] 58 300 [(0, .x 0), (1, .x 3)] (sgI q) 100 110 epI ((hsA 100).getD (Nat.succ q) [])
noncomputable def rxI (J : Nat) : Bool := okRdH (code (tbl hyIX) 9000 [] bodyI (envOf (headOf epI []) 58) ⟨lhSet ((hsA 100).getD J []) .leaf, 110, 0, 0⟩) (.exit 0) [] 58 300 [] [] 100 300 epIX ((hsA 100).getD J [])
noncomputable def ryI : Bool := okRdH (code (tbl (hyI (tx 25))) 9000 [] bodyI (envOf (headOf epI []) 58) ⟨lhSet ((hsA 100).getD 25 []) .leaf, 110, 0, 0⟩) .ret [] 58 300 [(0, .x 4)] [(101, 131)] 100 300 epIR ((hsA 100).getD 26 [])
def lhI (q J : Nat) : LH := ⟨7, 100, 300, (hsA 32).getD q [], (hsA 100).getD J []⟩
def lfI (q J : Nat) : LF := ⟨4, 58, [(0, .p 31 0), (1, .x 12), (6, .i .i64 (.ofNat 0))], [], .exit 0, [(0, .p 31 0)], some (lhI q J)⟩
def lfR (q : Nat) : LF := ⟨4, 58, [(0, .p 31 0), (1, .x 12), (6, .i .i64 (.ofNat 0))], [], .ret, [(4, .x 15), (5, .ni)], some (lhI q 26)⟩
noncomputable def chI (q J : Nat) : Bool := lfSame (lfI q J) (lhI q J) 58 [] (.exit 0) 7 100 300 && (startOk (lfI q J) (lhI q J) 58 100 110 [(0, .x 12), (1, .i .i64 (.ofNat 0))] [(100, 32), (101, 33)] epI ((hsA 100).getD q []) && exitOk (lfI q J) (lhI q J) 58 100 300 [] epIX ((hsA 100).getD J []))
noncomputable def chR (q : Nat) : Bool := lfSame (lfR q) (lhI q 26) 58 [] .ret 7 100 300 && (startOk (lfR q) (lhI q 26) 58 100 110 [(0, .x 12), (1, .i .i64 (.ofNat 0))] [(100, 32), (101, 33)] epI ((hsA 100).getD q []) && exitOk (lfR q) (lhI q 26) 58 100 300 [(15, .x 0)] epIR ((hsA 100).getD 26 []))
def cmH (fr : Bool) (q : Nat) (M : AV) : LK := cond fr [(.len (.x 0), .x 2), (.bin .lss (.i .i64 (.ofNat q)) (.x 2), .b true), (.rl (.x 2000000) 1, .x 5), (.bin .gtr (.x 5) (.i .i64 (.ofNat 0)), .b true), (.bin .rem (.x 1) (.x 5), .x 6), (.el (.x 2000000) (.x 6) 1 0, .x 7), (.conv 3 (.x 7), .x 8), (.bin .add (.x 8) (.i .i64 (.ofNat 1)), .x 9), (.bin .add (.i .i64 (.ofNat q)) (.x 9), .x 10), (.mm false (.x 2) (.x 10), M), (.sub (.x 0) (some (.i .i64 (.ofNat q))) (some M), .x 12), (.bin .add (.x 1) (.i .i64 (.ofNat 1)), .x 14)]
  [(.len (.x 0), .x 2), (.bin .lss (.i .i64 (.ofNat q)) (.x 2), .b true), (.mm false (.x 2) (.i .i64 (.ofNat (Nat.succ q))), M), (.sub (.x 0) (some (.i .i64 (.ofNat q))) (some M), .x 12), (.bin .add (.x 1) (.i .i64 (.ofNat 1)), .x 14)]
def cmB (fr : Bool) : LK := cond fr [(.len (.x 0), .x 2), (.bin .lss (.x 19) (.x 2), .b true), (.rl (.x 2000000) 1, .x 5), (.bin .gtr (.x 5) (.i .i64 (.ofNat 0)), .b true), (.bin .rem (.x 1) (.x 5), .x 6), (.el (.x 2000000) (.x 6) 1 0, .x 7), (.conv 3 (.x 7), .x 8), (.bin .add (.x 8) (.i .i64 (.ofNat 1)), .x 9), (.bin .add (.x 19) (.x 9), .x 10), (.mm false (.x 2) (.x 10), .x 11), (.sub (.x 0) (some (.x 19)) (some (.x 11)), .x 12), (.bin .add (.x 1) (.i .i64 (.ofNat 1)), .x 14)]
  [(.len (.x 0), .x 2), (.bin .lss (.x 19) (.x 2), .b true), (.bin .add (.x 19) (.i .i64 (.ofNat 1)), .x 10), (.mm false (.x 2) (.x 10), .x 11), (.sub (.x 0) (some (.x 19)) (some (.x 11)), .x 12), (.bin .add (.x 1) (.i .i64 (.ofNat 1)), .x 14)]
def itF : LK := [(.call 81 [.i .i64 (.ofNat 201)], .s 3 3223602)]
def ckF (y : AV) : LK := [(.bin .eql y (.s 0 0), .b false), (.len y, .x 21), (.call 96 [.x 21, .i .i64 (.ofNat 16)], .x 22), (.bin .add (.x 22) (.s 2 2573), .x 23), (.bin .add (.x 23) y, .x 24), (.bin .add (.x 24) (.s 2 2573), .x 25)]
def hdK (v : Nat) : AV := List.getD [.s 46 23605047990195816458787346071088520349780116605015139794765624846520029364126283435732835343648820701594670152, .s 46 23605047990195816458787346071088520349780116605015139794765624846520029364126283435732835343648820701594670152, .s 51 25954024739437790027095400375585218782597969300194501825586029968472451323085499632887057246259242977264848089326009209928, .s 79 699719122773151099652368017482371917658534646426500772031192367960189780700660834968255910641099587127948890822413447897441614828045918342681871131251651436933130591450307296372760104948808] v .und
def hyHB (v : Nat) (e : Bool) : LK := List.getD [[(.bin .add (hdK 0) (.x 15), .x 20), (.bin .add (.s 0 0) (.x 20), .x 20)], [], [], cond e [(.bin .eql (.x 15) (.s 0 0), .b true)] (ckF (.x 15) ++ [(.bin .add (hdK 3) (.x 25), .x 20), (.bin .add (.s 0 0) (.x 20), .x 20)])] v []
def hyBB (v : Nat) : LK := List.getD [[(.bin .add (.s 0 0) (.x 12), .x 12), (.bin .add (.x 18) (.x 12), .x 20)], [(.bin .add (.x 18) (.s 0 0), .x 18)], [(.bin .add (.x 18) (.s 0 0), .x 18)], ckF (.x 12) ++ [(.bin .add (.s 0 0) (.x 25), .x 25), (.bin .add (.x 18) (.x 25), .x 20)]] v []
def lnF : LK := [(.len (.x 12), .x 21), (.bin .lss (.i .i64 (.ofNat 0)) (.x 21), .b true)]
def epO (fr : Bool) (p : Nat) : LA := (1, cond fr (.sr 7) .es) :: (10, .x 0) :: (11, .p 30 0) :: (13, .x 1) :: cond (Nat.blt p 26) [(12, .s 0 0), (14, .i .i64 (.ofNat p))] [(12, .x 18), (14, .x 19)]
def epOX : LA := [(11, .p 30 0), (12, .x 0)]
def hpB (fr : Bool) (a : Nat × Ent) (p : Nat) : LE := a :: cond fr (rwE :: (hsA 32).getD p []) ((hsA 32).getD p [])
def hpO (v : Nat) (fr : Bool) (p : Nat) : LE := cond (Nat.blt p 26) (hpB fr (ansH v) p) (hpB fr (ansB v) p)
def thH (fr : Bool) : LA := cond fr [(0, .x 0), (1, .x 14), (2000000, .x 2000000)] [(0, .x 0), (1, .x 14)]
def x18 (v : Nat) (e : Bool) : AV := List.getD [.x 20, hdK 1, hdK 2, cond e (hdK 3) (.x 20)] v .und
def y18 (v : Nat) : AV := List.getD [.x 20, .x 18, .x 18, .x 20] v .und
def thB (fr : Bool) (x : AV) : LA := (18, x) :: (19, .x 11) :: thH fr
def sgO : List (Nat × Nat) := [(32, 100), (33, 101)]
noncomputable def rnHH (v : Nat) (fr : Bool) (q J : Nat) : Bool := okRdH (code (addLps (tbl (cmH fr q (.i .i64 (.ofNat J)))) 41 fi41 [lfI q J]) 9000 [] bodyO (envOf (headOf (epO fr q) [0, 2, 3, 9]) 156) ⟨lhSet (hpO v fr q) .leaf, 40, 0, 0⟩) .normal [0, 2, 3, 9] 156 600 (thH fr) sgO 30 40 (epO fr J) (hpO v fr J)
noncomputable def rnHB (v : Nat) (fr e : Bool) (q : Nat) : Bool := okRdH (code (addLps (tbl (cmH fr q (.x 11) ++ (itF ++ hyHB v e))) 41 fi41 [lfR q]) 20000 [] bodyO (envOf (headOf (epO fr q) [0, 2, 3, 9]) 156) ⟨lhSet (hpO v fr q) .leaf, 40, 0, 0⟩) .normal [0, 2, 3, 9] 156 600 (thB fr (x18 v e)) sgO 30 40 (epO fr 26) (hpO v fr 26)
noncomputable def rnBB (v : Nat) (fr : Bool) : Bool := okRdH (code (tbl (cmB fr ++ (lnF ++ hyBB v))) 9000 [] bodyO (envOf (headOf (epO fr 26) [0, 2, 3, 9]) 156) ⟨lhSet (hpO v fr 26) .leaf, 40, 0, 0⟩) .normal [0, 2, 3, 9] 156 600 (thB fr (y18 v)) [] 30 40 (epO fr 26) (hpO v fr 26)
def hyOX : LK := [(.len (.x 0), .x 2), (.bin .lss (.x 19) (.x 2), .b false)]
noncomputable def rxO (v : Nat) (fr : Bool) : Bool := okRdH (code (tbl hyOX) 9000 [] bodyO (envOf (headOf (epO fr 26) [0, 2, 3, 9]) 156) ⟨lhSet (hpO v fr 26) .leaf, 40, 0, 0⟩) (.exit 0) [0, 2, 3, 9] 156 600 [(0, .x 18)] [] 30 600 epOX [ansB v]
end Go.Proofs.YtabnmohghnnjaaaGreatDoor.answerBody
