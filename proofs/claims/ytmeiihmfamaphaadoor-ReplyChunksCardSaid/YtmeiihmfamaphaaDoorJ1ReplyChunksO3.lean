/- A part of the proof: an interpreter of the model's own code on partly known states, and that what it answers is what the program answers. No condition of its own. -/
import Derived.Test.YtmeiihmfamaphaaDoorJ1ReplyChunksO2
set_option maxRecDepth 100000
set_option linter.unusedVariables false
set_option linter.unusedSimpArgs false
set_option maxHeartbeats 4000000
namespace Go.Proofs.YtmeiihmfamaphaaDoor.replyChunks
open Go Go.AX Go.Proofs Go.Proofs.YtmeiihmfamaphaaDoor
variable {nu : Nat → Value} {one : ∀ i, i < 1000000 → (nu i).oneCell' = true} {E' : Cx} {x' : Ex} {e' : LA} {h' : LE}
noncomputable def fi34 : FI := (tabk.fn.get 34).getD default
theorem fi34_at : tabk.fn.get 34 = some fi34 := by kernel_rfl
theorem fi34_body : fi34.body = some (Tryd.f34.body.getD .skip) := by kernel_rfl
theorem fiB34 : fi34.body.isSome = true := by rw [fi34_body]; rfl
theorem cfA34 : (loopsOf (Tryd.f34.body.getD .skip)).all (fun b => !(keyEq (Go.AX.keyOf b) 8888888)) = true := by kernel_rfl
noncomputable def fi7 : FI := (tabk.fn.get 7).getD default
theorem fi7_at : tabk.fn.get 7 = some fi7 := by kernel_rfl
theorem fi7_body : fi7.body = some (Tryd.f7.body.getD .skip) := by kernel_rfl
theorem fiB7 : fi7.body.isSome = true := by rw [fi7_body]; rfl
theorem cfA7 : (loopsOf (Tryd.f7.body.getD .skip)).all (fun b => !(keyEq (Go.AX.keyOf b) 8888888)) = true := by kernel_rfl
noncomputable def bodyFd : Code := loopNo (Tryd.f7.body.getD .skip) 0
theorem keyFd : oneKey (loopsOf (Tryd.f7.body.getD .skip)) 4 0 0 = true := by kernel_rfl
def keepFd : List Nat := []
def epFd_0 : LA := [(0, .p 44 0), (1, .x 0), (6, .x 1)]
def hpFd_0 : LE := [(44, .b ⟨34, .l [.i .i64 (.ofNat 4000), .i .i64 (.ofNat 0), .x 3, .b false, .und, .i .i64 (.ofNat 0), .x 2, .b false, .b false], 0, 0, 0, false, false⟩)]
def nuFd_0 (s W : LB) (i : Int) (ln xs c : LB) (R : List LB) (D : LB) : List Value := [St' s, .int .i64 (i), St' D, St' ln, St' ([] : LB), .int .i64 ((s.length : Int)), .int .u8 (bt s (Int.toNat (i))), St' ([u8 (bt s (Int.toNat (i)))]), St' (ln ++ [u8 (bt s (Int.toNat (i)))]), .int .i64 ((ln.length : Int) + 1), .int .i64 (i + 1), St' ([] : LB), .int .i64 ((s.length : Int)), .int .u8 (bt s (Int.toNat (i))), .int .i64 (i + 1)]
def roFd_0 (s W : LB) (i : Int) (ln xs c : LB) (R : List LB) (D : LB) : List Value := [rwS ([] : List LB), rwS ([] : List LB)]
def epFd_1 : LA := [(0, .p 44 0), (1, .x 0), (6, .x 1)]
def hpFd_1 : LE := [(44, .b ⟨34, .l [.i .i64 (.ofNat 4000), .i .i64 (.ofNat 0), .x 3, .b true, .und, .i .i64 (.ofNat 0), .x 2, .b false, .b false], 0, 0, 0, false, false⟩)]
def nuFd_1 (s W : LB) (i : Int) (ln xs c : LB) (R : List LB) (D : LB) : List Value := [St' s, .int .i64 (i), St' D, St' ln, St' ([] : LB), .int .i64 ((s.length : Int)), .int .u8 (bt s (Int.toNat (i))), St' (hexS (c.length : Int)), .int .i64 ((c.length : Int)), .int .i64 ((D.length : Int)), .int .i64 ((D.length : Int) + (c.length : Int)), .int .i64 (i + 1), St' ([] : LB), .int .i64 ((s.length : Int)), .int .u8 (bt s (Int.toNat (i))), St' (hexS (c.length : Int)), .int .i64 ((c.length : Int)), .int .i64 ((D.length : Int)), .int .i64 ((D.length : Int) + (c.length : Int)), .int .i64 (i + 1)]
def roFd_1 (s W : LB) (i : Int) (ln xs c : LB) (R : List LB) (D : LB) : List Value := [rwS ([] : List LB), rwS (([] : List LB) ++ [(hexS (c.length : Int))]), rwS ([] : List LB), rwS (([] : List LB) ++ [(hexS (c.length : Int))])]
def epFd_2 : LA := [(0, .p 44 0), (1, .x 0), (6, .x 1)]
def hpFd_2 : LE := [(44, .b ⟨34, .l [.i .i64 (.ofNat 4000), .i .i64 (.ofNat 1), .s 0 0, .b false, .x 3, .i .i64 (.ofNat 0), .x 2, .b false, .b false], 0, 0, 0, false, false⟩)]
def nuFd_2 (s W : LB) (i : Int) (ln xs c : LB) (R : List LB) (D : LB) : List Value := [St' s, .int .i64 (i), St' D, .int .i64 ((c.length : Int)), St' ([] : LB), .int .i64 ((s.length : Int)), .int .u8 (bt s (Int.toNat (i))), St' ([u8 (bt s (Int.toNat (i)))]), St' (D ++ [u8 (bt s (Int.toNat (i)))]), .int .i64 ((c.length : Int) - 1), .int .i64 (i + 1), St' ([] : LB), .int .i64 ((s.length : Int)), .int .u8 (bt s (Int.toNat (i))), St' ([u8 (bt s (Int.toNat (i)))]), St' (D ++ [u8 (bt s (Int.toNat (i)))]), .int .i64 ((c.length : Int) - 1), .int .i64 (i + 1)]
def roFd_2 (s W : LB) (i : Int) (ln xs c : LB) (R : List LB) (D : LB) : List Value := [rwS ([] : List LB), rwS ([] : List LB)]
def epFd_3 : LA := [(0, .p 44 0), (1, .x 0), (6, .x 1)]
def hpFd_3 : LE := [(44, .b ⟨34, .l [.i .i64 (.ofNat 4000), .i .i64 (.ofNat 2), .s 0 0, .b false, .und, .i .i64 (.ofNat 0), .x 2, .b false, .b false], 0, 0, 0, false, false⟩)]
def nuFd_3 (s W : LB) (i : Int) (ln xs c : LB) (R : List LB) (D : LB) : List Value := [St' s, .int .i64 (i), St' D, St' ([] : LB), .int .i64 ((s.length : Int)), .int .u8 (bt s (Int.toNat (i))), .int .i64 (i + 1)]
def roFd_3 (s W : LB) (i : Int) (ln xs c : LB) (R : List LB) (D : LB) : List Value := [rwS ([] : List LB)]
def epFd_4 : LA := [(0, .p 44 0), (1, .x 0), (6, .x 1)]
def hpFd_4 : LE := [(44, .b ⟨34, .l [.i .i64 (.ofNat 4000), .i .i64 (.ofNat 2), .s 0 0, .b true, .und, .i .i64 (.ofNat 0), .x 2, .b false, .b false], 0, 0, 0, false, false⟩)]
def nuFd_4 (s W : LB) (i : Int) (ln xs c : LB) (R : List LB) (D : LB) : List Value := [St' s, .int .i64 (i), St' D, St' ([] : LB), .int .i64 ((s.length : Int)), .int .u8 (bt s (Int.toNat (i))), .int .i64 (i + 1)]
def roFd_4 (s W : LB) (i : Int) (ln xs c : LB) (R : List LB) (D : LB) : List Value := [rwS ([] : List LB)]
def epFd_5 : LA := [(0, .p 44 0), (1, .x 0), (6, .x 1)]
def hpFd_5 : LE := [(44, .b ⟨34, .l [.i .i64 (.ofNat 4000), .i .i64 (.ofNat 3), .s 0 0, .b false, .und, .i .i64 (.ofNat 0), .x 2, .b false, .b false], 0, 0, 0, false, false⟩)]
def nuFd_5 (s W : LB) (i : Int) (ln xs c : LB) (R : List LB) (D : LB) : List Value := [St' s, .int .i64 (i), St' D, St' ([] : LB), .int .i64 ((s.length : Int)), .int .u8 (bt s (Int.toNat (i))), .int .i64 (i + 1)]
def roFd_5 (s W : LB) (i : Int) (ln xs c : LB) (R : List LB) (D : LB) : List Value := [rwS ([] : List LB)]
def epFd_6 : LA := [(0, .p 44 0), (1, .x 0), (6, .x 1)]
def hpFd_6 : LE := [(44, .b ⟨34, .l [.i .i64 (.ofNat 4000), .i .i64 (.ofNat 3), .s 0 0, .b true, .und, .i .i64 (.ofNat 0), .x 2, .b false, .b false], 0, 0, 0, false, false⟩)]
def nuFd_6 (s W : LB) (i : Int) (ln xs c : LB) (R : List LB) (D : LB) : List Value := [St' s, .int .i64 (i), St' D, St' ([] : LB), .int .i64 ((s.length : Int)), .int .u8 (bt s (Int.toNat (i))), .int .i64 (i + 1)]
def roFd_6 (s W : LB) (i : Int) (ln xs c : LB) (R : List LB) (D : LB) : List Value := [rwS ([] : List LB)]
def epFd_7 : LA := [(0, .p 44 0), (1, .x 0), (6, .x 1)]
def hpFd_7 : LE := [(44, .b ⟨34, .l [.i .i64 (.ofNat 4000), .i .i64 (.ofNat 4), .s 0 0, .b false, .und, .i .i64 (.ofNat 0), .x 2, .b false, .b false], 0, 0, 0, false, false⟩)]
def nuFd_7 (s W : LB) (i : Int) (ln xs c : LB) (R : List LB) (D : LB) : List Value := [St' s, .int .i64 (i), St' D, St' ([] : LB), .int .i64 ((s.length : Int))]
def roFd_7 (s W : LB) (i : Int) (ln xs c : LB) (R : List LB) (D : LB) : List Value := [rwS ([] : List LB)]
def epFd (st : Nat × Int × LB × LB × LB × List LB × LB) : LA := if st.1 = 0 then epFd_0 else if st.1 = 1 then epFd_1 else if st.1 = 2 then epFd_2 else if st.1 = 3 then epFd_3 else if st.1 = 4 then epFd_4 else if st.1 = 5 then epFd_5 else if st.1 = 6 then epFd_6 else epFd_7
def hpFd (st : Nat × Int × LB × LB × LB × List LB × LB) : LE := if st.1 = 0 then hpFd_0 else if st.1 = 1 then hpFd_1 else if st.1 = 2 then hpFd_2 else if st.1 = 3 then hpFd_3 else if st.1 = 4 then hpFd_4 else if st.1 = 5 then hpFd_5 else if st.1 = 6 then hpFd_6 else hpFd_7
def nuFd (s W : LB) (st : Nat × Int × LB × LB × LB × List LB × LB) : List Value := if st.1 = 0 then nuFd_0 s W (st.2.1) (st.2.2.1) (st.2.2.2.1) (st.2.2.2.2.1) (st.2.2.2.2.2.1) (st.2.2.2.2.2.2) else if st.1 = 1 then nuFd_1 s W (st.2.1) (st.2.2.1) (st.2.2.2.1) (st.2.2.2.2.1) (st.2.2.2.2.2.1) (st.2.2.2.2.2.2) else if st.1 = 2 then nuFd_2 s W (st.2.1) (st.2.2.1) (st.2.2.2.1) (st.2.2.2.2.1) (st.2.2.2.2.2.1) (st.2.2.2.2.2.2) else if st.1 = 3 then nuFd_3 s W (st.2.1) (st.2.2.1) (st.2.2.2.1) (st.2.2.2.2.1) (st.2.2.2.2.2.1) (st.2.2.2.2.2.2) else if st.1 = 4 then nuFd_4 s W (st.2.1) (st.2.2.1) (st.2.2.2.1) (st.2.2.2.2.1) (st.2.2.2.2.2.1) (st.2.2.2.2.2.2) else if st.1 = 5 then nuFd_5 s W (st.2.1) (st.2.2.1) (st.2.2.2.1) (st.2.2.2.2.1) (st.2.2.2.2.2.1) (st.2.2.2.2.2.2) else if st.1 = 6 then nuFd_6 s W (st.2.1) (st.2.2.1) (st.2.2.2.1) (st.2.2.2.2.1) (st.2.2.2.2.2.1) (st.2.2.2.2.2.2) else nuFd_7 s W (st.2.1) (st.2.2.1) (st.2.2.2.1) (st.2.2.2.2.1) (st.2.2.2.2.2.1) (st.2.2.2.2.2.2)
def roFd (s W : LB) (st : Nat × Int × LB × LB × LB × List LB × LB) : List Value := if st.1 = 0 then roFd_0 s W (st.2.1) (st.2.2.1) (st.2.2.2.1) (st.2.2.2.2.1) (st.2.2.2.2.2.1) (st.2.2.2.2.2.2) else if st.1 = 1 then roFd_1 s W (st.2.1) (st.2.2.1) (st.2.2.2.1) (st.2.2.2.2.1) (st.2.2.2.2.2.1) (st.2.2.2.2.2.2) else if st.1 = 2 then roFd_2 s W (st.2.1) (st.2.2.1) (st.2.2.2.1) (st.2.2.2.2.1) (st.2.2.2.2.2.1) (st.2.2.2.2.2.2) else if st.1 = 3 then roFd_3 s W (st.2.1) (st.2.2.1) (st.2.2.2.1) (st.2.2.2.2.1) (st.2.2.2.2.2.1) (st.2.2.2.2.2.2) else if st.1 = 4 then roFd_4 s W (st.2.1) (st.2.2.1) (st.2.2.2.1) (st.2.2.2.2.1) (st.2.2.2.2.2.1) (st.2.2.2.2.2.2) else if st.1 = 5 then roFd_5 s W (st.2.1) (st.2.2.1) (st.2.2.2.1) (st.2.2.2.2.1) (st.2.2.2.2.2.1) (st.2.2.2.2.2.2) else if st.1 = 6 then roFd_6 s W (st.2.1) (st.2.2.1) (st.2.2.2.1) (st.2.2.2.2.1) (st.2.2.2.2.2.1) (st.2.2.2.2.2.2) else roFd_7 s W (st.2.1) (st.2.2.1) (st.2.2.2.1) (st.2.2.2.2.1) (st.2.2.2.2.2.1) (st.2.2.2.2.2.2)
theorem onFd (s W : LB) (st : Nat × Int × LB × LB × LB × List LB × LB) : ∀ j, (nuL (nuFd s W st) j).oneCell' = true := by
  intro j
  unfold nuFd
  by_cases g0 : st.1 = 0
  · rw [if_pos g0]; exact nuL_one (l := nuFd_0 s W (st.2.1) (st.2.2.1) (st.2.2.2.1) (st.2.2.2.2.1) (st.2.2.2.2.2.1) (st.2.2.2.2.2.2)) rfl j
  rw [if_neg g0]
  by_cases g1 : st.1 = 1
  · rw [if_pos g1]; exact nuL_one (l := nuFd_1 s W (st.2.1) (st.2.2.1) (st.2.2.2.1) (st.2.2.2.2.1) (st.2.2.2.2.2.1) (st.2.2.2.2.2.2)) rfl j
  rw [if_neg g1]
  by_cases g2 : st.1 = 2
  · rw [if_pos g2]; exact nuL_one (l := nuFd_2 s W (st.2.1) (st.2.2.1) (st.2.2.2.1) (st.2.2.2.2.1) (st.2.2.2.2.2.1) (st.2.2.2.2.2.2)) rfl j
  rw [if_neg g2]
  by_cases g3 : st.1 = 3
  · rw [if_pos g3]; exact nuL_one (l := nuFd_3 s W (st.2.1) (st.2.2.1) (st.2.2.2.1) (st.2.2.2.2.1) (st.2.2.2.2.2.1) (st.2.2.2.2.2.2)) rfl j
  rw [if_neg g3]
  by_cases g4 : st.1 = 4
  · rw [if_pos g4]; exact nuL_one (l := nuFd_4 s W (st.2.1) (st.2.2.1) (st.2.2.2.1) (st.2.2.2.2.1) (st.2.2.2.2.2.1) (st.2.2.2.2.2.2)) rfl j
  rw [if_neg g4]
  by_cases g5 : st.1 = 5
  · rw [if_pos g5]; exact nuL_one (l := nuFd_5 s W (st.2.1) (st.2.2.1) (st.2.2.2.1) (st.2.2.2.2.1) (st.2.2.2.2.2.1) (st.2.2.2.2.2.2)) rfl j
  rw [if_neg g5]
  by_cases g6 : st.1 = 6
  · rw [if_pos g6]; exact nuL_one (l := nuFd_6 s W (st.2.1) (st.2.2.1) (st.2.2.2.1) (st.2.2.2.2.1) (st.2.2.2.2.2.1) (st.2.2.2.2.2.2)) rfl j
  rw [if_neg g6]
  exact nuL_one (l := nuFd_7 s W (st.2.1) (st.2.2.1) (st.2.2.2.1) (st.2.2.2.2.1) (st.2.2.2.2.2.1) (st.2.2.2.2.2.2)) rfl j
theorem ebFd (st : Nat × Int × LB × LB × LB × List LB × LB) : (lfB (epFd st) && lfC keepFd) = true := by
  unfold epFd
  by_cases g0 : st.1 = 0
  · rw [if_pos g0]; rfl
  rw [if_neg g0]
  by_cases g1 : st.1 = 1
  · rw [if_pos g1]; rfl
  rw [if_neg g1]
  by_cases g2 : st.1 = 2
  · rw [if_pos g2]; rfl
  rw [if_neg g2]
  by_cases g3 : st.1 = 3
  · rw [if_pos g3]; rfl
  rw [if_neg g3]
  by_cases g4 : st.1 = 4
  · rw [if_pos g4]; rfl
  rw [if_neg g4]
  by_cases g5 : st.1 = 5
  · rw [if_pos g5]; rfl
  rw [if_neg g5]
  by_cases g6 : st.1 = 6
  · rw [if_pos g6]; rfl
  rw [if_neg g6]
  rfl
noncomputable def DFd (s W : LB) (st : Nat × Int × LB × LB × LB × List LB × LB) (X : Nat → Value) : Cx := cx (nuX (nuFd s W st) (rX (roFd s W st) X)) (nuX_one (onFd s W st)) 3 laidE laidE_stab
def InvFd (s W : LB) (st : Nat × Int × LB × LB × LB × List LB × LB) : Prop := (0 ≤ (st.2.1)) ∧ (s.length ≤ 100000) ∧ (W.length ≤ 4000) ∧ (W = (st.2.2.2.2.2.2) ++ ((st.2.2.2.2.1) ++ (st.2.2.2.2.2.1).flatten)) ∧ ((st.2.2.2.2.1).length ≤ 300) ∧ (ok3 (st.2.2.2.2.2.1)) ∧ (s.drop (Int.toNat (st.2.1)) = rsS (st.1) (st.2.2.2.1) (st.2.2.2.2.1) (st.2.2.2.2.2.1)) ∧ ((st.1) = 0 → (st.2.2.1) ++ (st.2.2.2.1) = hexS ((st.2.2.2.2.1).length : Int)) ∧ ((st.1) = 1 → (st.2.2.1) = hexS ((st.2.2.2.2.1).length : Int)) ∧ ((st.1) ≤ 1 → (st.2.2.2.2.1).length = 0 → (st.2.2.2.2.2.1) = []) ∧ ((st.1) = 2 → 1 ≤ (st.2.2.2.2.1).length) ∧ (3 ≤ (st.1) → (st.2.2.2.2.1) = []) ∧ (5 ≤ (st.1) → (st.2.2.2.2.2.1) = []) ∧ ((st.1) < 8)
abbrev CjFd (s W : LB) (tag : Nat) (i : Int) (ln xs c : LB) (R : List LB) (D : LB) : Prop := (0 ≤ i) ∧ (s.length ≤ 100000) ∧ (W.length ≤ 4000) ∧ (W = D ++ (c ++ R.flatten)) ∧ (c.length ≤ 300) ∧ (ok3 R) ∧ (s.drop (Int.toNat i) = rsS tag xs c R) ∧ (tag = 0 → ln ++ xs = hexS (c.length : Int)) ∧ (tag = 1 → ln = hexS (c.length : Int)) ∧ (tag ≤ 1 → c.length = 0 → R = []) ∧ (tag = 2 → 1 ≤ c.length) ∧ (3 ≤ tag → c = []) ∧ (5 ≤ tag → R = []) ∧ (tag < 8)
theorem mkIFd (s W : LB) (tag : Nat) (i : Int) (ln xs c : LB) (R : List LB) (D : LB) (h : CjFd s W tag i ln xs c R D) : InvFd s W (tag, i, ln, xs, c, R, D) := h
theorem unIFd (s W : LB) (tag : Nat) (i : Int) (ln xs c : LB) (R : List LB) (D : LB) (h : InvFd s W (tag, i, ln, xs, c, R, D)) : (0 ≤ i) ∧ (s.length ≤ 100000) ∧ (W.length ≤ 4000) ∧ (W = D ++ (c ++ R.flatten)) ∧ (c.length ≤ 300) ∧ (ok3 R) ∧ (s.drop (Int.toNat i) = rsS tag xs c R) ∧ (tag = 0 → ln ++ xs = hexS (c.length : Int)) ∧ (tag = 1 → ln = hexS (c.length : Int)) ∧ (tag ≤ 1 → c.length = 0 → R = []) ∧ (tag = 2 → 1 ≤ c.length) ∧ (3 ≤ tag → c = []) ∧ (5 ≤ tag → R = []) ∧ (tag < 8) := h
def muFd (s W : LB) (st : Nat × Int × LB × LB × LB × List LB × LB) : Nat := (s.length - (st.2.1).toNat)
abbrev RHFd (s W : LB) (E' : Cx) (ex' : Ex) (epx' : LA) (hpx' : LE) (st : Nat × Int × LB × LB × LB × List LB × LB) (X : Nat → Value) : Prop := RoundH E' bodyFd keepFd 39 ex' 3 60 60 120 epFd hpFd epx' hpx' (InvFd s W) (muFd s W) (DFd s W) st X
noncomputable abbrev RNFd_0 (h : LK) (x : Ex) (th : LA) (sg : List (Nat × Nat)) (m : Nat) (ep : LA) (hp : LE) : Bool := okRdH (code (tbl h) 5000 [] bodyFd (envOf (headOf epFd_0 keepFd) 39) ⟨lhSet hpFd_0 .leaf, 60, 0, 0⟩) x keepFd 39 120 th sg 60 m ep hp
theorem stFd_0 (s W : LB) (i : Int) (ln xs c : LB) (R : List LB) (D : LB) {X : Nat → Value} {h : LK} (y : Nat × Int × LB × LB × LB × List LB × LB) {th : LA} {sg : List (Nat × Nat)} (ho : ∀ a' r', (a', r') ∈ h → HOk (cx (nuX (nuFd_0 s W i ln xs c R D) (rX (roFd_0 s W i ln xs c R D) X)) (nuX_one (nuL_one (l := nuFd_0 s W i ln xs c R D) rfl)) 3 laidE laidE_stab) a' r') (hy : InvFd s W y) (lt : muFd s W y < muFd s W (0, i, ln, xs, c, R, D)) (ht : ThOk (cx (nuX (nuFd_0 s W i ln xs c R D) (rX (roFd_0 s W i ln xs c R D) X)) (nuX_one (nuL_one (l := nuFd_0 s W i ln xs c R D) rfl)) 3 laidE laidE_stab) (DFd s W y X) th) (run : RNFd_0 h .normal th sg 60 (epFd y) (hpFd y) = true) : RHFd s W E' x' e' h' (0, i, ln, xs, c, R, D) X :=
  RoundH.next (tb := tbl h) (L := []) (f := 5000) y ((tabkOk _ _).hyps ho) (LpOk.nil _) rfl hy lt ht run
theorem lvFd_0 (s W : LB) (i : Int) (ln xs c : LB) (R : List LB) (D : LB) {X : Nat → Value} {h : LK} {th : LA} {sg : List (Nat × Nat)} (hne : exB x' .normal = false) (ho : ∀ a' r', (a', r') ∈ h → HOk (cx (nuX (nuFd_0 s W i ln xs c R D) (rX (roFd_0 s W i ln xs c R D) X)) (nuX_one (nuL_one (l := nuFd_0 s W i ln xs c R D) rfl)) 3 laidE laidE_stab) a' r') (ht : ThOk (cx (nuX (nuFd_0 s W i ln xs c R D) (rX (roFd_0 s W i ln xs c R D) X)) (nuX_one (nuL_one (l := nuFd_0 s W i ln xs c R D) rfl)) 3 laidE laidE_stab) E' th) (run : RNFd_0 h x' th sg 120 e' h' = true) : RHFd s W E' x' e' h' (0, i, ln, xs, c, R, D) X :=
  RoundH.leave (tb := tbl h) (L := []) (f := 5000) ((tabkOk _ _).hyps ho) (LpOk.nil _) rfl hne ht run
theorem sLFd_1 (s W : LB) (i : Int) (ln xs c : LB) (R : List LB) (D : LB) {X : Nat → Value} {tb : Tab} {L : List LF} (y : Nat × Int × LB × LB × LB × List LB × LB) {th : LA} {sg : List (Nat × Nat)} (hall : AllOk (cx (nuX (nuFd_1 s W i ln xs c R D) (rX (roFd_1 s W i ln xs c R D) X)) (nuX_one (nuL_one (l := nuFd_1 s W i ln xs c R D) rfl)) 3 laidE laidE_stab) tb) (hlp : LpOk (cx (nuX (nuFd_1 s W i ln xs c R D) (rX (roFd_1 s W i ln xs c R D) X)) (nuX_one (nuL_one (l := nuFd_1 s W i ln xs c R D) rfl)) 3 laidE laidE_stab) L bodyFd) (hng : tb.ng = 3) (hy : InvFd s W y) (lt : muFd s W y < muFd s W (1, i, ln, xs, c, R, D)) (ht : ThOk (cx (nuX (nuFd_1 s W i ln xs c R D) (rX (roFd_1 s W i ln xs c R D) X)) (nuX_one (nuL_one (l := nuFd_1 s W i ln xs c R D) rfl)) 3 laidE laidE_stab) (DFd s W y X) th) (run : okRdH (code tb 5000 L bodyFd (envOf (headOf epFd_1 keepFd) 39) ⟨lhSet hpFd_1 .leaf, 60, 0, 0⟩) .normal keepFd 39 120 th sg 60 60 (epFd y) (hpFd y) = true) : RHFd s W E' x' e' h' (1, i, ln, xs, c, R, D) X :=
  RoundH.next (tb := tb) (L := L) (f := 5000) y hall hlp hng hy lt ht run
theorem lLFd_1 (s W : LB) (i : Int) (ln xs c : LB) (R : List LB) (D : LB) {X : Nat → Value} {tb : Tab} {L : List LF} {th : LA} {sg : List (Nat × Nat)} (hne : exB x' .normal = false) (hall : AllOk (cx (nuX (nuFd_1 s W i ln xs c R D) (rX (roFd_1 s W i ln xs c R D) X)) (nuX_one (nuL_one (l := nuFd_1 s W i ln xs c R D) rfl)) 3 laidE laidE_stab) tb) (hlp : LpOk (cx (nuX (nuFd_1 s W i ln xs c R D) (rX (roFd_1 s W i ln xs c R D) X)) (nuX_one (nuL_one (l := nuFd_1 s W i ln xs c R D) rfl)) 3 laidE laidE_stab) L bodyFd) (hng : tb.ng = 3) (ht : ThOk (cx (nuX (nuFd_1 s W i ln xs c R D) (rX (roFd_1 s W i ln xs c R D) X)) (nuX_one (nuL_one (l := nuFd_1 s W i ln xs c R D) rfl)) 3 laidE laidE_stab) E' th) (run : okRdH (code tb 5000 L bodyFd (envOf (headOf epFd_1 keepFd) 39) ⟨lhSet hpFd_1 .leaf, 60, 0, 0⟩) x' keepFd 39 120 th sg 60 120 e' h' = true) : RHFd s W E' x' e' h' (1, i, ln, xs, c, R, D) X :=
  RoundH.leave (tb := tb) (L := L) (f := 5000) hall hlp hng hne ht run
noncomputable abbrev RNFd_1 (h : LK) (x : Ex) (th : LA) (sg : List (Nat × Nat)) (m : Nat) (ep : LA) (hp : LE) : Bool := okRdH (code (tbl h) 5000 [] bodyFd (envOf (headOf epFd_1 keepFd) 39) ⟨lhSet hpFd_1 .leaf, 60, 0, 0⟩) x keepFd 39 120 th sg 60 m ep hp
theorem stFd_1 (s W : LB) (i : Int) (ln xs c : LB) (R : List LB) (D : LB) {X : Nat → Value} {h : LK} (y : Nat × Int × LB × LB × LB × List LB × LB) {th : LA} {sg : List (Nat × Nat)} (ho : ∀ a' r', (a', r') ∈ h → HOk (cx (nuX (nuFd_1 s W i ln xs c R D) (rX (roFd_1 s W i ln xs c R D) X)) (nuX_one (nuL_one (l := nuFd_1 s W i ln xs c R D) rfl)) 3 laidE laidE_stab) a' r') (hy : InvFd s W y) (lt : muFd s W y < muFd s W (1, i, ln, xs, c, R, D)) (ht : ThOk (cx (nuX (nuFd_1 s W i ln xs c R D) (rX (roFd_1 s W i ln xs c R D) X)) (nuX_one (nuL_one (l := nuFd_1 s W i ln xs c R D) rfl)) 3 laidE laidE_stab) (DFd s W y X) th) (run : RNFd_1 h .normal th sg 60 (epFd y) (hpFd y) = true) : RHFd s W E' x' e' h' (1, i, ln, xs, c, R, D) X :=
  RoundH.next (tb := tbl h) (L := []) (f := 5000) y ((tabkOk _ _).hyps ho) (LpOk.nil _) rfl hy lt ht run
theorem lvFd_1 (s W : LB) (i : Int) (ln xs c : LB) (R : List LB) (D : LB) {X : Nat → Value} {h : LK} {th : LA} {sg : List (Nat × Nat)} (hne : exB x' .normal = false) (ho : ∀ a' r', (a', r') ∈ h → HOk (cx (nuX (nuFd_1 s W i ln xs c R D) (rX (roFd_1 s W i ln xs c R D) X)) (nuX_one (nuL_one (l := nuFd_1 s W i ln xs c R D) rfl)) 3 laidE laidE_stab) a' r') (ht : ThOk (cx (nuX (nuFd_1 s W i ln xs c R D) (rX (roFd_1 s W i ln xs c R D) X)) (nuX_one (nuL_one (l := nuFd_1 s W i ln xs c R D) rfl)) 3 laidE laidE_stab) E' th) (run : RNFd_1 h x' th sg 120 e' h' = true) : RHFd s W E' x' e' h' (1, i, ln, xs, c, R, D) X :=
  RoundH.leave (tb := tbl h) (L := []) (f := 5000) ((tabkOk _ _).hyps ho) (LpOk.nil _) rfl hne ht run
noncomputable abbrev RNFd_2 (h : LK) (x : Ex) (th : LA) (sg : List (Nat × Nat)) (m : Nat) (ep : LA) (hp : LE) : Bool := okRdH (code (tbl h) 5000 [] bodyFd (envOf (headOf epFd_2 keepFd) 39) ⟨lhSet hpFd_2 .leaf, 60, 0, 0⟩) x keepFd 39 120 th sg 60 m ep hp
theorem stFd_2 (s W : LB) (i : Int) (ln xs c : LB) (R : List LB) (D : LB) {X : Nat → Value} {h : LK} (y : Nat × Int × LB × LB × LB × List LB × LB) {th : LA} {sg : List (Nat × Nat)} (ho : ∀ a' r', (a', r') ∈ h → HOk (cx (nuX (nuFd_2 s W i ln xs c R D) (rX (roFd_2 s W i ln xs c R D) X)) (nuX_one (nuL_one (l := nuFd_2 s W i ln xs c R D) rfl)) 3 laidE laidE_stab) a' r') (hy : InvFd s W y) (lt : muFd s W y < muFd s W (2, i, ln, xs, c, R, D)) (ht : ThOk (cx (nuX (nuFd_2 s W i ln xs c R D) (rX (roFd_2 s W i ln xs c R D) X)) (nuX_one (nuL_one (l := nuFd_2 s W i ln xs c R D) rfl)) 3 laidE laidE_stab) (DFd s W y X) th) (run : RNFd_2 h .normal th sg 60 (epFd y) (hpFd y) = true) : RHFd s W E' x' e' h' (2, i, ln, xs, c, R, D) X :=
  RoundH.next (tb := tbl h) (L := []) (f := 5000) y ((tabkOk _ _).hyps ho) (LpOk.nil _) rfl hy lt ht run
theorem lvFd_2 (s W : LB) (i : Int) (ln xs c : LB) (R : List LB) (D : LB) {X : Nat → Value} {h : LK} {th : LA} {sg : List (Nat × Nat)} (hne : exB x' .normal = false) (ho : ∀ a' r', (a', r') ∈ h → HOk (cx (nuX (nuFd_2 s W i ln xs c R D) (rX (roFd_2 s W i ln xs c R D) X)) (nuX_one (nuL_one (l := nuFd_2 s W i ln xs c R D) rfl)) 3 laidE laidE_stab) a' r') (ht : ThOk (cx (nuX (nuFd_2 s W i ln xs c R D) (rX (roFd_2 s W i ln xs c R D) X)) (nuX_one (nuL_one (l := nuFd_2 s W i ln xs c R D) rfl)) 3 laidE laidE_stab) E' th) (run : RNFd_2 h x' th sg 120 e' h' = true) : RHFd s W E' x' e' h' (2, i, ln, xs, c, R, D) X :=
  RoundH.leave (tb := tbl h) (L := []) (f := 5000) ((tabkOk _ _).hyps ho) (LpOk.nil _) rfl hne ht run
noncomputable abbrev RNFd_3 (h : LK) (x : Ex) (th : LA) (sg : List (Nat × Nat)) (m : Nat) (ep : LA) (hp : LE) : Bool := okRdH (code (tbl h) 5000 [] bodyFd (envOf (headOf epFd_3 keepFd) 39) ⟨lhSet hpFd_3 .leaf, 60, 0, 0⟩) x keepFd 39 120 th sg 60 m ep hp
theorem stFd_3 (s W : LB) (i : Int) (ln xs c : LB) (R : List LB) (D : LB) {X : Nat → Value} {h : LK} (y : Nat × Int × LB × LB × LB × List LB × LB) {th : LA} {sg : List (Nat × Nat)} (ho : ∀ a' r', (a', r') ∈ h → HOk (cx (nuX (nuFd_3 s W i ln xs c R D) (rX (roFd_3 s W i ln xs c R D) X)) (nuX_one (nuL_one (l := nuFd_3 s W i ln xs c R D) rfl)) 3 laidE laidE_stab) a' r') (hy : InvFd s W y) (lt : muFd s W y < muFd s W (3, i, ln, xs, c, R, D)) (ht : ThOk (cx (nuX (nuFd_3 s W i ln xs c R D) (rX (roFd_3 s W i ln xs c R D) X)) (nuX_one (nuL_one (l := nuFd_3 s W i ln xs c R D) rfl)) 3 laidE laidE_stab) (DFd s W y X) th) (run : RNFd_3 h .normal th sg 60 (epFd y) (hpFd y) = true) : RHFd s W E' x' e' h' (3, i, ln, xs, c, R, D) X :=
  RoundH.next (tb := tbl h) (L := []) (f := 5000) y ((tabkOk _ _).hyps ho) (LpOk.nil _) rfl hy lt ht run
theorem lvFd_3 (s W : LB) (i : Int) (ln xs c : LB) (R : List LB) (D : LB) {X : Nat → Value} {h : LK} {th : LA} {sg : List (Nat × Nat)} (hne : exB x' .normal = false) (ho : ∀ a' r', (a', r') ∈ h → HOk (cx (nuX (nuFd_3 s W i ln xs c R D) (rX (roFd_3 s W i ln xs c R D) X)) (nuX_one (nuL_one (l := nuFd_3 s W i ln xs c R D) rfl)) 3 laidE laidE_stab) a' r') (ht : ThOk (cx (nuX (nuFd_3 s W i ln xs c R D) (rX (roFd_3 s W i ln xs c R D) X)) (nuX_one (nuL_one (l := nuFd_3 s W i ln xs c R D) rfl)) 3 laidE laidE_stab) E' th) (run : RNFd_3 h x' th sg 120 e' h' = true) : RHFd s W E' x' e' h' (3, i, ln, xs, c, R, D) X :=
  RoundH.leave (tb := tbl h) (L := []) (f := 5000) ((tabkOk _ _).hyps ho) (LpOk.nil _) rfl hne ht run
noncomputable abbrev RNFd_4 (h : LK) (x : Ex) (th : LA) (sg : List (Nat × Nat)) (m : Nat) (ep : LA) (hp : LE) : Bool := okRdH (code (tbl h) 5000 [] bodyFd (envOf (headOf epFd_4 keepFd) 39) ⟨lhSet hpFd_4 .leaf, 60, 0, 0⟩) x keepFd 39 120 th sg 60 m ep hp
theorem stFd_4 (s W : LB) (i : Int) (ln xs c : LB) (R : List LB) (D : LB) {X : Nat → Value} {h : LK} (y : Nat × Int × LB × LB × LB × List LB × LB) {th : LA} {sg : List (Nat × Nat)} (ho : ∀ a' r', (a', r') ∈ h → HOk (cx (nuX (nuFd_4 s W i ln xs c R D) (rX (roFd_4 s W i ln xs c R D) X)) (nuX_one (nuL_one (l := nuFd_4 s W i ln xs c R D) rfl)) 3 laidE laidE_stab) a' r') (hy : InvFd s W y) (lt : muFd s W y < muFd s W (4, i, ln, xs, c, R, D)) (ht : ThOk (cx (nuX (nuFd_4 s W i ln xs c R D) (rX (roFd_4 s W i ln xs c R D) X)) (nuX_one (nuL_one (l := nuFd_4 s W i ln xs c R D) rfl)) 3 laidE laidE_stab) (DFd s W y X) th) (run : RNFd_4 h .normal th sg 60 (epFd y) (hpFd y) = true) : RHFd s W E' x' e' h' (4, i, ln, xs, c, R, D) X :=
  RoundH.next (tb := tbl h) (L := []) (f := 5000) y ((tabkOk _ _).hyps ho) (LpOk.nil _) rfl hy lt ht run
theorem lvFd_4 (s W : LB) (i : Int) (ln xs c : LB) (R : List LB) (D : LB) {X : Nat → Value} {h : LK} {th : LA} {sg : List (Nat × Nat)} (hne : exB x' .normal = false) (ho : ∀ a' r', (a', r') ∈ h → HOk (cx (nuX (nuFd_4 s W i ln xs c R D) (rX (roFd_4 s W i ln xs c R D) X)) (nuX_one (nuL_one (l := nuFd_4 s W i ln xs c R D) rfl)) 3 laidE laidE_stab) a' r') (ht : ThOk (cx (nuX (nuFd_4 s W i ln xs c R D) (rX (roFd_4 s W i ln xs c R D) X)) (nuX_one (nuL_one (l := nuFd_4 s W i ln xs c R D) rfl)) 3 laidE laidE_stab) E' th) (run : RNFd_4 h x' th sg 120 e' h' = true) : RHFd s W E' x' e' h' (4, i, ln, xs, c, R, D) X :=
  RoundH.leave (tb := tbl h) (L := []) (f := 5000) ((tabkOk _ _).hyps ho) (LpOk.nil _) rfl hne ht run
noncomputable abbrev RNFd_5 (h : LK) (x : Ex) (th : LA) (sg : List (Nat × Nat)) (m : Nat) (ep : LA) (hp : LE) : Bool := okRdH (code (tbl h) 5000 [] bodyFd (envOf (headOf epFd_5 keepFd) 39) ⟨lhSet hpFd_5 .leaf, 60, 0, 0⟩) x keepFd 39 120 th sg 60 m ep hp
theorem stFd_5 (s W : LB) (i : Int) (ln xs c : LB) (R : List LB) (D : LB) {X : Nat → Value} {h : LK} (y : Nat × Int × LB × LB × LB × List LB × LB) {th : LA} {sg : List (Nat × Nat)} (ho : ∀ a' r', (a', r') ∈ h → HOk (cx (nuX (nuFd_5 s W i ln xs c R D) (rX (roFd_5 s W i ln xs c R D) X)) (nuX_one (nuL_one (l := nuFd_5 s W i ln xs c R D) rfl)) 3 laidE laidE_stab) a' r') (hy : InvFd s W y) (lt : muFd s W y < muFd s W (5, i, ln, xs, c, R, D)) (ht : ThOk (cx (nuX (nuFd_5 s W i ln xs c R D) (rX (roFd_5 s W i ln xs c R D) X)) (nuX_one (nuL_one (l := nuFd_5 s W i ln xs c R D) rfl)) 3 laidE laidE_stab) (DFd s W y X) th) (run : RNFd_5 h .normal th sg 60 (epFd y) (hpFd y) = true) : RHFd s W E' x' e' h' (5, i, ln, xs, c, R, D) X :=
  RoundH.next (tb := tbl h) (L := []) (f := 5000) y ((tabkOk _ _).hyps ho) (LpOk.nil _) rfl hy lt ht run
theorem lvFd_5 (s W : LB) (i : Int) (ln xs c : LB) (R : List LB) (D : LB) {X : Nat → Value} {h : LK} {th : LA} {sg : List (Nat × Nat)} (hne : exB x' .normal = false) (ho : ∀ a' r', (a', r') ∈ h → HOk (cx (nuX (nuFd_5 s W i ln xs c R D) (rX (roFd_5 s W i ln xs c R D) X)) (nuX_one (nuL_one (l := nuFd_5 s W i ln xs c R D) rfl)) 3 laidE laidE_stab) a' r') (ht : ThOk (cx (nuX (nuFd_5 s W i ln xs c R D) (rX (roFd_5 s W i ln xs c R D) X)) (nuX_one (nuL_one (l := nuFd_5 s W i ln xs c R D) rfl)) 3 laidE laidE_stab) E' th) (run : RNFd_5 h x' th sg 120 e' h' = true) : RHFd s W E' x' e' h' (5, i, ln, xs, c, R, D) X :=
  RoundH.leave (tb := tbl h) (L := []) (f := 5000) ((tabkOk _ _).hyps ho) (LpOk.nil _) rfl hne ht run
noncomputable abbrev RNFd_6 (h : LK) (x : Ex) (th : LA) (sg : List (Nat × Nat)) (m : Nat) (ep : LA) (hp : LE) : Bool := okRdH (code (tbl h) 5000 [] bodyFd (envOf (headOf epFd_6 keepFd) 39) ⟨lhSet hpFd_6 .leaf, 60, 0, 0⟩) x keepFd 39 120 th sg 60 m ep hp
theorem stFd_6 (s W : LB) (i : Int) (ln xs c : LB) (R : List LB) (D : LB) {X : Nat → Value} {h : LK} (y : Nat × Int × LB × LB × LB × List LB × LB) {th : LA} {sg : List (Nat × Nat)} (ho : ∀ a' r', (a', r') ∈ h → HOk (cx (nuX (nuFd_6 s W i ln xs c R D) (rX (roFd_6 s W i ln xs c R D) X)) (nuX_one (nuL_one (l := nuFd_6 s W i ln xs c R D) rfl)) 3 laidE laidE_stab) a' r') (hy : InvFd s W y) (lt : muFd s W y < muFd s W (6, i, ln, xs, c, R, D)) (ht : ThOk (cx (nuX (nuFd_6 s W i ln xs c R D) (rX (roFd_6 s W i ln xs c R D) X)) (nuX_one (nuL_one (l := nuFd_6 s W i ln xs c R D) rfl)) 3 laidE laidE_stab) (DFd s W y X) th) (run : RNFd_6 h .normal th sg 60 (epFd y) (hpFd y) = true) : RHFd s W E' x' e' h' (6, i, ln, xs, c, R, D) X :=
  RoundH.next (tb := tbl h) (L := []) (f := 5000) y ((tabkOk _ _).hyps ho) (LpOk.nil _) rfl hy lt ht run
theorem lvFd_6 (s W : LB) (i : Int) (ln xs c : LB) (R : List LB) (D : LB) {X : Nat → Value} {h : LK} {th : LA} {sg : List (Nat × Nat)} (hne : exB x' .normal = false) (ho : ∀ a' r', (a', r') ∈ h → HOk (cx (nuX (nuFd_6 s W i ln xs c R D) (rX (roFd_6 s W i ln xs c R D) X)) (nuX_one (nuL_one (l := nuFd_6 s W i ln xs c R D) rfl)) 3 laidE laidE_stab) a' r') (ht : ThOk (cx (nuX (nuFd_6 s W i ln xs c R D) (rX (roFd_6 s W i ln xs c R D) X)) (nuX_one (nuL_one (l := nuFd_6 s W i ln xs c R D) rfl)) 3 laidE laidE_stab) E' th) (run : RNFd_6 h x' th sg 120 e' h' = true) : RHFd s W E' x' e' h' (6, i, ln, xs, c, R, D) X :=
  RoundH.leave (tb := tbl h) (L := []) (f := 5000) ((tabkOk _ _).hyps ho) (LpOk.nil _) rfl hne ht run
noncomputable abbrev RNFd_7 (h : LK) (x : Ex) (th : LA) (sg : List (Nat × Nat)) (m : Nat) (ep : LA) (hp : LE) : Bool := okRdH (code (tbl h) 5000 [] bodyFd (envOf (headOf epFd_7 keepFd) 39) ⟨lhSet hpFd_7 .leaf, 60, 0, 0⟩) x keepFd 39 120 th sg 60 m ep hp
theorem stFd_7 (s W : LB) (i : Int) (ln xs c : LB) (R : List LB) (D : LB) {X : Nat → Value} {h : LK} (y : Nat × Int × LB × LB × LB × List LB × LB) {th : LA} {sg : List (Nat × Nat)} (ho : ∀ a' r', (a', r') ∈ h → HOk (cx (nuX (nuFd_7 s W i ln xs c R D) (rX (roFd_7 s W i ln xs c R D) X)) (nuX_one (nuL_one (l := nuFd_7 s W i ln xs c R D) rfl)) 3 laidE laidE_stab) a' r') (hy : InvFd s W y) (lt : muFd s W y < muFd s W (7, i, ln, xs, c, R, D)) (ht : ThOk (cx (nuX (nuFd_7 s W i ln xs c R D) (rX (roFd_7 s W i ln xs c R D) X)) (nuX_one (nuL_one (l := nuFd_7 s W i ln xs c R D) rfl)) 3 laidE laidE_stab) (DFd s W y X) th) (run : RNFd_7 h .normal th sg 60 (epFd y) (hpFd y) = true) : RHFd s W E' x' e' h' (7, i, ln, xs, c, R, D) X :=
  RoundH.next (tb := tbl h) (L := []) (f := 5000) y ((tabkOk _ _).hyps ho) (LpOk.nil _) rfl hy lt ht run
theorem lvFd_7 (s W : LB) (i : Int) (ln xs c : LB) (R : List LB) (D : LB) {X : Nat → Value} {h : LK} {th : LA} {sg : List (Nat × Nat)} (hne : exB x' .normal = false) (ho : ∀ a' r', (a', r') ∈ h → HOk (cx (nuX (nuFd_7 s W i ln xs c R D) (rX (roFd_7 s W i ln xs c R D) X)) (nuX_one (nuL_one (l := nuFd_7 s W i ln xs c R D) rfl)) 3 laidE laidE_stab) a' r') (ht : ThOk (cx (nuX (nuFd_7 s W i ln xs c R D) (rX (roFd_7 s W i ln xs c R D) X)) (nuX_one (nuL_one (l := nuFd_7 s W i ln xs c R D) rfl)) 3 laidE laidE_stab) E' th) (run : RNFd_7 h x' th sg 120 e' h' = true) : RHFd s W E' x' e' h' (7, i, ln, xs, c, R, D) X :=
  RoundH.leave (tb := tbl h) (L := []) (f := 5000) ((tabkOk _ _).hyps ho) (LpOk.nil _) rfl hne ht run
def hyFd_p0 : LK := [(.rn, .x 2000000), (.bytes [], .x 4), (.len (.x 0), .x 5), (.bin .lss (.x 1) (.x 5), .b true), (.idx (.x 0) (.x 1), .x 6), (.bin .eql (.x 6) (.i .u8 (.ofNat 10)), .b false), (.bin .eql (.x 6) (.i .u8 (.ofNat 13)), .b false), (.bytes [.x 6], .x 7), (.bin .add (.x 3) (.x 7), .x 8), (.len (.x 8), .x 9), (.bin .gtr (.x 9) (.i .i64 (.ofNat 1024)), .b false), (.bin .add (.x 1) (.i .i64 (.ofNat 1)), .x 10)]
theorem runFd_p0 : RNFd_0 hyFd_p0 .normal [(0, .x 0), (1, .x 10), (2, .x 2), (3, .x 8)] [] 60 epFd_0 hpFd_0 = true := by kernel_rfl
theorem nxFd_p0 (s W : LB) (i : Int) (ln xs c : LB) (R : List LB) (D : LB) (X : Nat → Value) (hI : InvFd s W (0, i, ln, xs, c, R, D)) (h0 : ¬ (xs.length = 0)) : RHFd s W E' x' e' h' (0, i, ln, xs, c, R, D) X := by
  obtain ⟨i0, i1, i2, i3, i4, i5, i6, i7, i8, i9, i10, i11, i12, it⟩ := unIFd s W 0 i ln xs c R D hI
  have hWl : W.length = D.length + (c.length + R.flatten.length) := by rw [i3, List.length_append, List.length_append]
  have hn0 : ([] : LB).length = 0 := rfl
  have hxl := hexS_len (n := (c.length : Int))
  obtain ⟨hi, hb, hr, hL2, hl3⟩ := rA i0 (by assumption) i6 (i7 rfl) i4
  have := bt_lo s (Int.toNat (i)); have := bt_hi s (Int.toNat (i))
  refine stFd_0 s W i ln xs c R D (h := hyFd_p0) (0, (i + 1), (ln ++ [u8 (bt s (Int.toNat (i)))]), (xs.drop 1), c, R, D) ?_ (mkIFd s W 0 (i + 1) (ln ++ [u8 (bt s (Int.toNat (i)))]) (xs.drop 1) c R D ⟨by omega, i1, i2, i3, i4, i5, hr, fun _ => hL2, fun h => by omega, fun _ => i9 (by omega), fun h => by omega, fun h => by omega, fun h => by omega, by omega⟩) (by show s.length - (i + 1).toNat < s.length - i.toNat; omega) (thXv (v := St' s) rfl rfl (thXi (b := ((i + 1))) rfl rfl (by omega) (thXv (v := St' D) rfl rfl (thXv (v := St' (ln ++ [u8 (bt s (Int.toNat (i)))])) rfl rfl (thNil))))) runFd_p0
  unfold hyFd_p0
  exact hc (kRn (denX rfl)) <|
   hc (kBytesB (bs := ([] : LB)) .nil (denX rfl)) <|
   hc (lnV rfl rfl (by omega)) <|
   hc (ltT rfl rfl (by omega)) <|
   hc (ixV rfl rfl rfl (by omega)) <|
   hc (eqcF rfl (by omega)) <|
   hc (eqcF rfl (by omega)) <|
   hc (kBytesB (bs := [u8 (bt s (Int.toNat (i)))]) (.cons (isB8 (isX rfl) (by omega) (by omega)) .nil) (denX rfl)) <|
   hc (kCat (isX rfl) (isX rfl) (denX rfl) (by first | rfl | (simp; done)) (by first | omega | (simp <;> omega))) <|
   hc (lnV rfl rfl (by first | omega | (simp <;> omega))) <|
   hc (gtcF rfl (by omega)) <|
   hc (adC rfl rfl (by omega)) <|
   hnil
def hyFd_p1 : LK := [(.rn, .x 2000001), (.bytes [], .x 11), (.len (.x 0), .x 12), (.bin .lss (.x 1) (.x 12), .b true), (.idx (.x 0) (.x 1), .x 13), (.bin .eql (.x 13) (.i .u8 (.ofNat 10)), .b false), (.bin .eql (.x 13) (.i .u8 (.ofNat 13)), .b true), (.bin .add (.x 1) (.i .i64 (.ofNat 1)), .x 14)]
theorem runFd_p1 : RNFd_0 hyFd_p1 .normal [(0, .x 0), (1, .x 14), (2, .x 2), (3, .x 3)] [] 60 epFd_1 hpFd_1 = true := by kernel_rfl
theorem nxFd_p1 (s W : LB) (i : Int) (ln xs c : LB) (R : List LB) (D : LB) (X : Nat → Value) (hI : InvFd s W (0, i, ln, xs, c, R, D)) (h0 : xs.length = 0) : RHFd s W E' x' e' h' (0, i, ln, xs, c, R, D) X := by
  obtain ⟨i0, i1, i2, i3, i4, i5, i6, i7, i8, i9, i10, i11, i12, it⟩ := unIFd s W 0 i ln xs c R D hI
  have hWl : W.length = D.length + (c.length + R.flatten.length) := by rw [i3, List.length_append, List.length_append]
  have hn0 : ([] : LB).length = 0 := rfl
  have hxl := hexS_len (n := (c.length : Int))
  obtain ⟨hi, hb, hr, hL2⟩ := rA2 i0 (by assumption) i6 (i7 rfl)
  have := bt_lo s (Int.toNat (i)); have := bt_hi s (Int.toNat (i))
  refine stFd_0 s W i ln xs c R D (h := hyFd_p1) (1, (i + 1), ln, xs, c, R, D) ?_ (mkIFd s W 1 (i + 1) ln xs c R D ⟨by omega, i1, i2, i3, i4, i5, hr, fun h => by omega, fun _ => hL2, fun _ => i9 (by omega), fun h => by omega, fun h => by omega, fun h => by omega, by omega⟩) (by show s.length - (i + 1).toNat < s.length - i.toNat; omega) (thXv (v := St' s) rfl rfl (thXi (b := ((i + 1))) rfl rfl (by omega) (thXv (v := St' D) rfl rfl (thXv (v := St' ln) rfl rfl (thNil))))) runFd_p1
  unfold hyFd_p1
  exact hc (kRn (denX rfl)) <|
   hc (kBytesB (bs := ([] : LB)) .nil (denX rfl)) <|
   hc (lnV rfl rfl (by omega)) <|
   hc (ltT rfl rfl (by omega)) <|
   hc (ixV rfl rfl rfl (by omega)) <|
   hc (eqcF rfl (by omega)) <|
   hc (eqcT rfl (by omega)) <|
   hc (adC rfl rfl (by omega)) <|
   hnil
def hyFd_p2 : LK := [(.rn, .x 2000000), (.bytes [], .x 4), (.len (.x 0), .x 5), (.bin .lss (.x 1) (.x 5), .b true), (.idx (.x 0) (.x 1), .x 6), (.bin .neq (.x 6) (.i .u8 (.ofNat 10)), .b false), (.bin .eql (.x 6) (.i .u8 (.ofNat 13)), .b false), (.bin .eql (.x 6) (.i .u8 (.ofNat 10)), .b true), (.el (.x 2000001) (.i .i64 (.ofNat 0)) 1 0, .x 7), (.call 33 [.x 7], .tu [.x 8, .b true]), (.len (.x 2), .x 9), (.bin .add (.x 9) (.x 8), .x 10), (.bin .gtr (.x 10) (.i .i64 (.ofNat 4000)), .b false), (.bin .eql (.x 8) (.i .i64 (.ofNat 0)), .b false), (.bin .add (.x 1) (.i .i64 (.ofNat 1)), .x 11)]
def lh2 : LH := ⟨3, 80, 100, [], [(80, .r 2000001 9 1 false)]⟩
def lf2 : LF := ⟨4, 35, [(0, .x 3), (1, .i .u8 (.ofNat 59)), (5, .nils), (6, .i .i64 (.ofNat 0)), (7, .i .i64 (.ofNat 0))], [], (.exit 0), [(5, .sr 80)], some lh2⟩
noncomputable def tbFd_p2 : Tab := addLps ((tbl hyFd_p2)) 34 fi34 [lf2]
def LFd_p2 : List LF := []
theorem runFd_p2 : okRdH (code tbFd_p2 5000 LFd_p2 bodyFd (envOf (headOf epFd_1 keepFd) 39) ⟨lhSet hpFd_1 .leaf, 60, 0, 0⟩) .normal keepFd 39 120 [(0, .x 0), (1, .x 11), (2, .x 2), (3, .x 8)] [] 60 60 epFd_2 hpFd_2 = true := by kernel_rfl
theorem nxFd_p2 (s W : LB) (i : Int) (ln xs c : LB) (R : List LB) (D : LB) (X : Nat → Value) (hI : InvFd s W (1, i, ln, xs, c, R, D)) (h5 : ¬ ((c.length : Int) = 0)) : RHFd s W E' x' e' h' (1, i, ln, xs, c, R, D) X := by
  obtain ⟨i0, i1, i2, i3, i4, i5, i6, i7, i8, i9, i10, i11, i12, it⟩ := unIFd s W 1 i ln xs c R D hI
  have hWl : W.length = D.length + (c.length + R.flatten.length) := by rw [i3, List.length_append, List.length_append]
  have hn0 : ([] : LB).length = 0 := rfl
  have hxl := hexS_len (n := (c.length : Int))
  obtain ⟨hi, hb, hr2, hr3⟩ := rB i0 i6 (i9 (by omega))
  have := bt_lo s (Int.toNat (i)); have := bt_hi s (Int.toNat (i))
  have ho : ∀ a' r', (a', r') ∈ hyFd_p2 → HOk (cx (nuX (nuFd_1 s W i ln xs c R D) (rX (roFd_1 s W i ln xs c R D) X)) (nuX_one (nuL_one (l := nuFd_1 s W i ln xs c R D) rfl)) 3 laidE laidE_stab) a' r' := by
    unfold hyFd_p2
    exact hc (kRn (denX rfl)) <|
     hc (kBytesB (bs := ([] : LB)) .nil (denX rfl)) <|
     hc (lnV rfl rfl (by omega)) <|
     hc (ltT rfl rfl (by omega)) <|
     hc (ixV rfl rfl rfl (by omega)) <|
     hc (necF rfl (by omega)) <|
     hc (eqcF rfl (by omega)) <|
     hc (eqcT rfl (by omega)) <|
     hc (kEl (j := 0) (isX rfl) (isZ (m := 0) rfl) (denX rfl) (by omega) Nat.zero_lt_one) <|
     hc (hokRhx (n := (c.length : Int)) (isX rfl) (denT2 (denX rfl) (denB true)) (by omega) (by omega)) <|
     hc (lnV rfl rfl (by omega)) <|
     hc (adX rfl rfl rfl (by omega)) <|
     hc (gtcF rfl (by omega)) <|
     hc (eqcF rfl (by omega)) <|
     hc (adC rfl rfl (by omega)) <|
     hnil
  exact sLFd_1 s W i ln xs c R D (tb := tbFd_p2) (L := LFd_p2) (2, (i + 1), ln, xs, c, R, D) (AllOk.lp1 ((tabkOk _ _).hyps ho) (by omega) fi34_at fi34_body (lfCons (lpKnown rfl ⟨0, keySpl, lfOkSpl_0 (l := lf2) (h := lh2) (c.length : Int) (0, (0 : Int)) (mkISpl (c.length : Int) 0 (0 : Int) ⟨by omega, by omega, by omega, by omega, fun h => by omega, fun h => by omega, by omega⟩) rfl (by kernel_rfl) (th0 := [(0, .x 3), (1, .i .i64 (.ofNat 0))]) (sg0 := []) (fun X => thXe (v := St' ln) (u := St' (hexS (c.length : Int))) rfl rfl (congrArg (fun l => St' l) (i8 rfl)) (thCons (show Is _ (.i .i64 (.ofNat 0)) (.int .i64 ((0 : Int))) from isTo (v := .int .i64 0) (isI _ _) (by first | rfl | (congr 1; omega))) (thNil))) (by kernel_rfl) (thx := [(2000001, .x 2000000)]) (thXv (v := rwS (([] : List LB) ++ [(hexS (c.length : Int))])) rfl rfl (thNil)) (by kernel_rfl)⟩) lfNil)) (lpOk_one lfNil) rfl (mkIFd s W 2 (i + 1) ln xs c R D ⟨by omega, i1, i2, i3, i4, i5, hr2 (by omega), fun h => by omega, fun h => by omega, fun h => by omega, fun _ => by omega, fun h => by omega, fun h => by omega, by omega⟩) (by show s.length - (i + 1).toNat < s.length - i.toNat; omega) (thXv (v := St' s) rfl rfl (thXi (b := ((i + 1))) rfl rfl (by omega) (thXv (v := St' D) rfl rfl (thXv (v := .int .i64 ((c.length : Int))) rfl rfl (thNil))))) runFd_p2
def hyFd_p3 : LK := [(.rn, .x 2000000), (.bytes [], .x 4), (.len (.x 0), .x 5), (.bin .lss (.x 1) (.x 5), .b true), (.idx (.x 0) (.x 1), .x 6), (.bytes [.x 6], .x 7), (.bin .add (.x 2) (.x 7), .x 8), (.bin .sub (.x 3) (.i .i64 (.ofNat 1)), .x 9), (.bin .eql (.x 9) (.i .i64 (.ofNat 0)), .b false), (.bin .add (.x 1) (.i .i64 (.ofNat 1)), .x 10)]
theorem runFd_p3 : RNFd_2 hyFd_p3 .normal [(0, .x 0), (1, .x 10), (2, .x 8), (3, .x 9)] [] 60 epFd_2 hpFd_2 = true := by kernel_rfl
theorem nxFd_p3 (s W : LB) (i : Int) (ln xs c : LB) (R : List LB) (D : LB) (X : Nat → Value) (hI : InvFd s W (2, i, ln, xs, c, R, D)) (h1 : ¬ ((c.length : Int) - 1 = 0)) : RHFd s W E' x' e' h' (2, i, ln, xs, c, R, D) X := by
  obtain ⟨i0, i1, i2, i3, i4, i5, i6, i7, i8, i9, i10, i11, i12, it⟩ := unIFd s W 2 i ln xs c R D hI
  have hWl : W.length = D.length + (c.length + R.flatten.length) := by rw [i3, List.length_append, List.length_append]
  have hn0 : ([] : LB).length = 0 := rfl
  have hxl := hexS_len (n := (c.length : Int))
  obtain ⟨hi, hW2, hr2, hr3⟩ := rC i0 (i10 rfl) i6 i3
  have hdl : (c.drop 1).length = c.length - 1 := List.length_drop
  have hc1 := i10 rfl
  have := bt_lo s (Int.toNat (i)); have := bt_hi s (Int.toNat (i))
  refine stFd_2 s W i ln xs c R D (h := hyFd_p3) (2, (i + 1), ln, xs, (c.drop 1), R, (D ++ [u8 (bt s (Int.toNat (i)))])) ?_ (mkIFd s W 2 (i + 1) ln xs (c.drop 1) R (D ++ [u8 (bt s (Int.toNat (i)))]) ⟨by omega, i1, i2, hW2, (by omega), i5, hr2 (by omega), fun h => by omega, fun h => by omega, fun h => by omega, fun _ => by omega, fun h => by omega, fun h => by omega, by omega⟩) (by show s.length - (i + 1).toNat < s.length - i.toNat; omega) (thXv (v := St' s) rfl rfl (thXi (b := ((i + 1))) rfl rfl (by omega) (thXv (v := St' (D ++ [u8 (bt s (Int.toNat (i)))])) rfl rfl (thXi (b := (((c.drop 1).length : Int))) rfl rfl (by omega) (thNil))))) runFd_p3
  unfold hyFd_p3
  exact hc (kRn (denX rfl)) <|
   hc (kBytesB (bs := ([] : LB)) .nil (denX rfl)) <|
   hc (lnV rfl rfl (by omega)) <|
   hc (ltT rfl rfl (by omega)) <|
   hc (ixV rfl rfl rfl (by omega)) <|
   hc (kBytesB (bs := [u8 (bt s (Int.toNat (i)))]) (.cons (isB8 (isX rfl) (by omega) (by omega)) .nil) (denX rfl)) <|
   hc (kCat (isX rfl) (isX rfl) (denX rfl) (by first | rfl | (simp; done)) (by first | omega | (simp <;> omega))) <|
   hc (sbC rfl rfl (by omega)) <|
   hc (eqcF rfl (by omega)) <|
   hc (adC rfl rfl (by omega)) <|
   hnil
def hyFd_p4 : LK := [(.rn, .x 2000001), (.bytes [], .x 11), (.len (.x 0), .x 12), (.bin .lss (.x 1) (.x 12), .b true), (.idx (.x 0) (.x 1), .x 13), (.bytes [.x 13], .x 14), (.bin .add (.x 2) (.x 14), .x 15), (.bin .sub (.x 3) (.i .i64 (.ofNat 1)), .x 16), (.bin .eql (.x 16) (.i .i64 (.ofNat 0)), .b true), (.bin .add (.x 1) (.i .i64 (.ofNat 1)), .x 17)]
theorem runFd_p4 : RNFd_2 hyFd_p4 .normal [(0, .x 0), (1, .x 17), (2, .x 15)] [] 60 epFd_3 hpFd_3 = true := by kernel_rfl
theorem nxFd_p4 (s W : LB) (i : Int) (ln xs c : LB) (R : List LB) (D : LB) (X : Nat → Value) (hI : InvFd s W (2, i, ln, xs, c, R, D)) (h1 : (c.length : Int) - 1 = 0) : RHFd s W E' x' e' h' (2, i, ln, xs, c, R, D) X := by
  obtain ⟨i0, i1, i2, i3, i4, i5, i6, i7, i8, i9, i10, i11, i12, it⟩ := unIFd s W 2 i ln xs c R D hI
  have hWl : W.length = D.length + (c.length + R.flatten.length) := by rw [i3, List.length_append, List.length_append]
  have hn0 : ([] : LB).length = 0 := rfl
  have hxl := hexS_len (n := (c.length : Int))
  obtain ⟨hi, hW2, hr2, hr3⟩ := rC i0 (i10 rfl) i6 i3
  have hdl : (c.drop 1).length = c.length - 1 := List.length_drop
  have hc1 := i10 rfl
  have := bt_lo s (Int.toNat (i)); have := bt_hi s (Int.toNat (i))
  refine stFd_2 s W i ln xs c R D (h := hyFd_p4) (3, (i + 1), ln, xs, (c.drop 1), R, (D ++ [u8 (bt s (Int.toNat (i)))])) ?_ (mkIFd s W 3 (i + 1) ln xs (c.drop 1) R (D ++ [u8 (bt s (Int.toNat (i)))]) ⟨by omega, i1, i2, hW2, (by omega), i5, (hr3 (by omega)).1, fun h => by omega, fun h => by omega, fun h => by omega, fun h => by omega, fun _ => (hr3 (by omega)).2, fun h => by omega, by omega⟩) (by show s.length - (i + 1).toNat < s.length - i.toNat; omega) (thXv (v := St' s) rfl rfl (thXi (b := ((i + 1))) rfl rfl (by omega) (thXv (v := St' (D ++ [u8 (bt s (Int.toNat (i)))])) rfl rfl (thNil)))) runFd_p4
  unfold hyFd_p4
  exact hc (kRn (denX rfl)) <|
   hc (kBytesB (bs := ([] : LB)) .nil (denX rfl)) <|
   hc (lnV rfl rfl (by omega)) <|
   hc (ltT rfl rfl (by omega)) <|
   hc (ixV rfl rfl rfl (by omega)) <|
   hc (kBytesB (bs := [u8 (bt s (Int.toNat (i)))]) (.cons (isB8 (isX rfl) (by omega) (by omega)) .nil) (denX rfl)) <|
   hc (kCat (isX rfl) (isX rfl) (denX rfl) (by first | rfl | (simp; done)) (by first | omega | (simp <;> omega))) <|
   hc (sbC rfl rfl (by omega)) <|
   hc (eqcT rfl (by omega)) <|
   hc (adC rfl rfl (by omega)) <|
   hnil
def hyFd_p5 : LK := [(.rn, .x 2000000), (.bytes [], .x 3), (.len (.x 0), .x 4), (.bin .lss (.x 1) (.x 4), .b true), (.idx (.x 0) (.x 1), .x 5), (.bin .eql (.x 5) (.i .u8 (.ofNat 10)), .b false), (.bin .eql (.x 5) (.i .u8 (.ofNat 13)), .b true), (.bin .add (.x 1) (.i .i64 (.ofNat 1)), .x 6)]
theorem runFd_p5 : RNFd_3 hyFd_p5 .normal [(0, .x 0), (1, .x 6), (2, .x 2)] [] 60 epFd_4 hpFd_4 = true := by kernel_rfl
theorem nxFd_p5 (s W : LB) (i : Int) (ln xs c : LB) (R : List LB) (D : LB) (X : Nat → Value) (hI : InvFd s W (3, i, ln, xs, c, R, D)) : RHFd s W E' x' e' h' (3, i, ln, xs, c, R, D) X := by
  obtain ⟨i0, i1, i2, i3, i4, i5, i6, i7, i8, i9, i10, i11, i12, it⟩ := unIFd s W 3 i ln xs c R D hI
  have hWl : W.length = D.length + (c.length + R.flatten.length) := by rw [i3, List.length_append, List.length_append]
  have hn0 : ([] : LB).length = 0 := rfl
  have hxl := hexS_len (n := (c.length : Int))
  obtain ⟨hi, hb, hr⟩ := rD i0 i6
  have := bt_lo s (Int.toNat (i)); have := bt_hi s (Int.toNat (i))
  refine stFd_3 s W i ln xs c R D (h := hyFd_p5) (4, (i + 1), ln, xs, c, R, D) ?_ (mkIFd s W 4 (i + 1) ln xs c R D ⟨by omega, i1, i2, i3, i4, i5, hr, fun h => by omega, fun h => by omega, fun h => by omega, fun h => by omega, fun _ => i11 (by omega), fun h => by omega, by omega⟩) (by show s.length - (i + 1).toNat < s.length - i.toNat; omega) (thXv (v := St' s) rfl rfl (thXi (b := ((i + 1))) rfl rfl (by omega) (thXv (v := St' D) rfl rfl (thNil)))) runFd_p5
  unfold hyFd_p5
  exact hc (kRn (denX rfl)) <|
   hc (kBytesB (bs := ([] : LB)) .nil (denX rfl)) <|
   hc (lnV rfl rfl (by omega)) <|
   hc (ltT rfl rfl (by omega)) <|
   hc (ixV rfl rfl rfl (by omega)) <|
   hc (eqcF rfl (by omega)) <|
   hc (eqcT rfl (by omega)) <|
   hc (adC rfl rfl (by omega)) <|
   hnil
def hyFd_p6 : LK := [(.rn, .x 2000000), (.bytes [], .x 3), (.len (.x 0), .x 4), (.bin .lss (.x 1) (.x 4), .b true), (.idx (.x 0) (.x 1), .x 5), (.bin .neq (.x 5) (.i .u8 (.ofNat 10)), .b false), (.bin .eql (.x 5) (.i .u8 (.ofNat 13)), .b false), (.bin .eql (.x 5) (.i .u8 (.ofNat 10)), .b true), (.bin .add (.x 1) (.i .i64 (.ofNat 1)), .x 6)]
theorem runFd_p6 : RNFd_4 hyFd_p6 .normal [(0, .x 0), (1, .x 6), (2, .x 2), (3, .s 0 0)] [] 60 epFd_0 hpFd_0 = true := by kernel_rfl
theorem nxFd_p6 (s W : LB) (i : Int) (ln xs c : LB) (R : List LB) (D : LB) (X : Nat → Value) (hI : InvFd s W (4, i, ln, xs, c, R, D)) : RHFd s W E' x' e' h' (4, i, ln, xs, c, R, D) X := by
  obtain ⟨i0, i1, i2, i3, i4, i5, i6, i7, i8, i9, i10, i11, i12, it⟩ := unIFd s W 4 i ln xs c R D hI
  have hWl : W.length = D.length + (c.length + R.flatten.length) := by rw [i3, List.length_append, List.length_append]
  have hn0 : ([] : LB).length = 0 := rfl
  have hxl := hexS_len (n := (c.length : Int))
  obtain ⟨hi, hb, hr, hW2, hok, h30, h9⟩ := rE i0 i6 (i11 (by omega)) i3 i5
  have := bt_lo s (Int.toNat (i)); have := bt_hi s (Int.toNat (i))
  refine stFd_4 s W i ln xs c R D (h := hyFd_p6) (0, (i + 1), ([] : LB), (hexS ((hdC R).length : Int)), (hdC R), (tlC R), D) ?_ (mkIFd s W 0 (i + 1) ([] : LB) (hexS ((hdC R).length : Int)) (hdC R) (tlC R) D ⟨by omega, i1, i2, hW2, h30, hok, hr, fun _ => rfl, fun h => by omega, fun _ => h9, fun h => by omega, fun h => by omega, fun h => by omega, by omega⟩) (by show s.length - (i + 1).toNat < s.length - i.toNat; omega) (thXv (v := St' s) rfl rfl (thXi (b := ((i + 1))) rfl rfl (by omega) (thXv (v := St' D) rfl rfl (thCons (show Is _ (.s 0 0) (St' ([] : LB)) from isTo (v := St' ([] : LB)) (isSx (l := ([] : LB)) 0 0 rfl) (by first | rfl | (simp; done))) (thNil))))) runFd_p6
  unfold hyFd_p6
  exact hc (kRn (denX rfl)) <|
   hc (kBytesB (bs := ([] : LB)) .nil (denX rfl)) <|
   hc (lnV rfl rfl (by omega)) <|
   hc (ltT rfl rfl (by omega)) <|
   hc (ixV rfl rfl rfl (by omega)) <|
   hc (necF rfl (by omega)) <|
   hc (eqcF rfl (by omega)) <|
   hc (eqcT rfl (by omega)) <|
   hc (adC rfl rfl (by omega)) <|
   hnil
def hyFd_p7 : LK := [(.rn, .x 2000002), (.bytes [], .x 12), (.len (.x 0), .x 13), (.bin .lss (.x 1) (.x 13), .b true), (.idx (.x 0) (.x 1), .x 14), (.bin .neq (.x 14) (.i .u8 (.ofNat 10)), .b false), (.bin .eql (.x 14) (.i .u8 (.ofNat 13)), .b false), (.bin .eql (.x 14) (.i .u8 (.ofNat 10)), .b true), (.el (.x 2000003) (.i .i64 (.ofNat 0)) 1 0, .x 15), (.call 33 [.x 15], .tu [.x 16, .b true]), (.len (.x 2), .x 17), (.bin .add (.x 17) (.x 16), .x 18), (.bin .gtr (.x 18) (.i .i64 (.ofNat 4000)), .b false), (.bin .eql (.x 16) (.i .i64 (.ofNat 0)), .b true), (.bin .add (.x 1) (.i .i64 (.ofNat 1)), .x 19)]
def lh3 : LH := ⟨3, 80, 100, [], [(80, .r 2000003 9 1 false)]⟩
def lf3 : LF := ⟨4, 35, [(0, .x 3), (1, .i .u8 (.ofNat 59)), (5, .nils), (6, .i .i64 (.ofNat 0)), (7, .i .i64 (.ofNat 0))], [], (.exit 0), [(5, .sr 80)], some lh3⟩
noncomputable def tbFd_p7 : Tab := addLps ((tbl hyFd_p7)) 34 fi34 [lf3]
def LFd_p7 : List LF := []
theorem runFd_p7 : okRdH (code tbFd_p7 5000 LFd_p7 bodyFd (envOf (headOf epFd_1 keepFd) 39) ⟨lhSet hpFd_1 .leaf, 60, 0, 0⟩) .normal keepFd 39 120 [(0, .x 0), (1, .x 19), (2, .x 2)] [] 60 60 epFd_5 hpFd_5 = true := by kernel_rfl
theorem nxFd_p7 (s W : LB) (i : Int) (ln xs c : LB) (R : List LB) (D : LB) (X : Nat → Value) (hI : InvFd s W (1, i, ln, xs, c, R, D)) (h5 : (c.length : Int) = 0) : RHFd s W E' x' e' h' (1, i, ln, xs, c, R, D) X := by
  obtain ⟨i0, i1, i2, i3, i4, i5, i6, i7, i8, i9, i10, i11, i12, it⟩ := unIFd s W 1 i ln xs c R D hI
  have hWl : W.length = D.length + (c.length + R.flatten.length) := by rw [i3, List.length_append, List.length_append]
  have hn0 : ([] : LB).length = 0 := rfl
  have hxl := hexS_len (n := (c.length : Int))
  obtain ⟨hi, hb, hr2, hr3⟩ := rB i0 i6 (i9 (by omega))
  have := bt_lo s (Int.toNat (i)); have := bt_hi s (Int.toNat (i))
  have ho : ∀ a' r', (a', r') ∈ hyFd_p7 → HOk (cx (nuX (nuFd_1 s W i ln xs c R D) (rX (roFd_1 s W i ln xs c R D) X)) (nuX_one (nuL_one (l := nuFd_1 s W i ln xs c R D) rfl)) 3 laidE laidE_stab) a' r' := by
    unfold hyFd_p7
    exact hc (kRn (denX rfl)) <|
     hc (kBytesB (bs := ([] : LB)) .nil (denX rfl)) <|
     hc (lnV rfl rfl (by omega)) <|
     hc (ltT rfl rfl (by omega)) <|
     hc (ixV rfl rfl rfl (by omega)) <|
     hc (necF rfl (by omega)) <|
     hc (eqcF rfl (by omega)) <|
     hc (eqcT rfl (by omega)) <|
     hc (kEl (j := 0) (isX rfl) (isZ (m := 0) rfl) (denX rfl) (by omega) Nat.zero_lt_one) <|
     hc (hokRhx (n := (c.length : Int)) (isX rfl) (denT2 (denX rfl) (denB true)) (by omega) (by omega)) <|
     hc (lnV rfl rfl (by omega)) <|
     hc (adX rfl rfl rfl (by omega)) <|
     hc (gtcF rfl (by omega)) <|
     hc (eqcT rfl (by omega)) <|
     hc (adC rfl rfl (by omega)) <|
     hnil
  exact sLFd_1 s W i ln xs c R D (tb := tbFd_p7) (L := LFd_p7) (5, (i + 1), ln, xs, c, R, D) (AllOk.lp1 ((tabkOk _ _).hyps ho) (by omega) fi34_at fi34_body (lfCons (lpKnown rfl ⟨0, keySpl, lfOkSpl_0 (l := lf3) (h := lh3) (c.length : Int) (0, (0 : Int)) (mkISpl (c.length : Int) 0 (0 : Int) ⟨by omega, by omega, by omega, by omega, fun h => by omega, fun h => by omega, by omega⟩) rfl (by kernel_rfl) (th0 := [(0, .x 3), (1, .i .i64 (.ofNat 0))]) (sg0 := []) (fun X => thXe (v := St' ln) (u := St' (hexS (c.length : Int))) rfl rfl (congrArg (fun l => St' l) (i8 rfl)) (thCons (show Is _ (.i .i64 (.ofNat 0)) (.int .i64 ((0 : Int))) from isTo (v := .int .i64 0) (isI _ _) (by first | rfl | (congr 1; omega))) (thNil))) (by kernel_rfl) (thx := [(2000003, .x 2000000)]) (thXv (v := rwS (([] : List LB) ++ [(hexS (c.length : Int))])) rfl rfl (thNil)) (by kernel_rfl)⟩) lfNil)) (lpOk_one lfNil) rfl (mkIFd s W 5 (i + 1) ln xs c R D ⟨by omega, i1, i2, i3, i4, i5, (hr3 (by omega)).1, fun h => by omega, fun h => by omega, fun h => by omega, fun h => by omega, fun _ => (hr3 (by omega)).2.1, fun _ => (hr3 (by omega)).2.2, by omega⟩) (by show s.length - (i + 1).toNat < s.length - i.toNat; omega) (thXv (v := St' s) rfl rfl (thXi (b := ((i + 1))) rfl rfl (by omega) (thXv (v := St' D) rfl rfl (thNil)))) runFd_p7
def hyFd_p8 : LK := [(.rn, .x 2000000), (.bytes [], .x 3), (.len (.x 0), .x 4), (.bin .lss (.x 1) (.x 4), .b true), (.idx (.x 0) (.x 1), .x 5), (.bin .eql (.x 5) (.i .u8 (.ofNat 10)), .b false), (.bin .eql (.x 5) (.i .u8 (.ofNat 13)), .b true), (.bin .add (.x 1) (.i .i64 (.ofNat 1)), .x 6)]
theorem runFd_p8 : RNFd_5 hyFd_p8 .normal [(0, .x 0), (1, .x 6), (2, .x 2)] [] 60 epFd_6 hpFd_6 = true := by kernel_rfl
theorem nxFd_p8 (s W : LB) (i : Int) (ln xs c : LB) (R : List LB) (D : LB) (X : Nat → Value) (hI : InvFd s W (5, i, ln, xs, c, R, D)) : RHFd s W E' x' e' h' (5, i, ln, xs, c, R, D) X := by
  obtain ⟨i0, i1, i2, i3, i4, i5, i6, i7, i8, i9, i10, i11, i12, it⟩ := unIFd s W 5 i ln xs c R D hI
  have hWl : W.length = D.length + (c.length + R.flatten.length) := by rw [i3, List.length_append, List.length_append]
  have hn0 : ([] : LB).length = 0 := rfl
  have hxl := hexS_len (n := (c.length : Int))
  obtain ⟨hi, hb, hr⟩ := rF i0 i6
  have := bt_lo s (Int.toNat (i)); have := bt_hi s (Int.toNat (i))
  refine stFd_5 s W i ln xs c R D (h := hyFd_p8) (6, (i + 1), ln, xs, c, R, D) ?_ (mkIFd s W 6 (i + 1) ln xs c R D ⟨by omega, i1, i2, i3, i4, i5, hr, fun h => by omega, fun h => by omega, fun h => by omega, fun h => by omega, fun _ => i11 (by omega), fun _ => i12 (by omega), by omega⟩) (by show s.length - (i + 1).toNat < s.length - i.toNat; omega) (thXv (v := St' s) rfl rfl (thXi (b := ((i + 1))) rfl rfl (by omega) (thXv (v := St' D) rfl rfl (thNil)))) runFd_p8
  unfold hyFd_p8
  exact hc (kRn (denX rfl)) <|
   hc (kBytesB (bs := ([] : LB)) .nil (denX rfl)) <|
   hc (lnV rfl rfl (by omega)) <|
   hc (ltT rfl rfl (by omega)) <|
   hc (ixV rfl rfl rfl (by omega)) <|
   hc (eqcF rfl (by omega)) <|
   hc (eqcT rfl (by omega)) <|
   hc (adC rfl rfl (by omega)) <|
   hnil
def hyFd_p9 : LK := [(.rn, .x 2000000), (.bytes [], .x 3), (.len (.x 0), .x 4), (.bin .lss (.x 1) (.x 4), .b true), (.idx (.x 0) (.x 1), .x 5), (.bin .neq (.x 5) (.i .u8 (.ofNat 10)), .b false), (.bin .eql (.x 5) (.i .u8 (.ofNat 13)), .b false), (.bin .eql (.x 5) (.i .u8 (.ofNat 10)), .b true), (.bin .add (.x 1) (.i .i64 (.ofNat 1)), .x 6)]
theorem runFd_p9 : RNFd_6 hyFd_p9 .normal [(0, .x 0), (1, .x 6), (2, .x 2)] [] 60 epFd_7 hpFd_7 = true := by kernel_rfl
theorem nxFd_p9 (s W : LB) (i : Int) (ln xs c : LB) (R : List LB) (D : LB) (X : Nat → Value) (hI : InvFd s W (6, i, ln, xs, c, R, D)) : RHFd s W E' x' e' h' (6, i, ln, xs, c, R, D) X := by
  obtain ⟨i0, i1, i2, i3, i4, i5, i6, i7, i8, i9, i10, i11, i12, it⟩ := unIFd s W 6 i ln xs c R D hI
  have hWl : W.length = D.length + (c.length + R.flatten.length) := by rw [i3, List.length_append, List.length_append]
  have hn0 : ([] : LB).length = 0 := rfl
  have hxl := hexS_len (n := (c.length : Int))
  obtain ⟨hi, hb, hr⟩ := rG i0 i6
  have := bt_lo s (Int.toNat (i)); have := bt_hi s (Int.toNat (i))
  refine stFd_6 s W i ln xs c R D (h := hyFd_p9) (7, (i + 1), ln, xs, c, R, D) ?_ (mkIFd s W 7 (i + 1) ln xs c R D ⟨by omega, i1, i2, i3, i4, i5, hr, fun h => by omega, fun h => by omega, fun h => by omega, fun h => by omega, fun _ => i11 (by omega), fun _ => i12 (by omega), by omega⟩) (by show s.length - (i + 1).toNat < s.length - i.toNat; omega) (thXv (v := St' s) rfl rfl (thXi (b := ((i + 1))) rfl rfl (by omega) (thXv (v := St' D) rfl rfl (thNil)))) runFd_p9
  unfold hyFd_p9
  exact hc (kRn (denX rfl)) <|
   hc (kBytesB (bs := ([] : LB)) .nil (denX rfl)) <|
   hc (lnV rfl rfl (by omega)) <|
   hc (ltT rfl rfl (by omega)) <|
   hc (ixV rfl rfl rfl (by omega)) <|
   hc (necF rfl (by omega)) <|
   hc (eqcF rfl (by omega)) <|
   hc (eqcT rfl (by omega)) <|
   hc (adC rfl rfl (by omega)) <|
   hnil
def hyFd_p10 : LK := [(.rn, .x 2000000), (.bytes [], .x 3), (.len (.x 0), .x 4), (.bin .lss (.x 1) (.x 4), .b false)]
theorem runFd_p10 : RNFd_7 hyFd_p10 (.exit 0) [(0, .x 2), (1, .x 0)] [] 120 [(1, .x 1)] [(44, .b ⟨34, .l [.und, .i .i64 (.ofNat 4), .und, .und, .und, .und, .x 0, .und, .und], 0, 0, 0, false, false⟩)] = true := by kernel_rfl
def nuEFd_0 (s W : LB) : List Value := [St' W, St' s]
def roEFd_0 (s W : LB) : List Value := []
noncomputable def EFd_0 (s W : LB) : Cx := cx (nuX (nuEFd_0 s W) (rX (roEFd_0 s W) (fun _ => .bool true))) (nuX_one (nuL_one (l := nuEFd_0 s W) rfl)) 3 laidE laidE_stab
theorem roundsFd_0 (s W : LB) (st : Nat × Int × LB × LB × LB × List LB × LB) (X : Nat → Value) (hI : InvFd s W st) : RHFd s W (EFd_0 s W) (.exit 0) [(1, .x 1)] [(44, .b ⟨34, .l [.und, .i .i64 (.ofNat 4), .und, .und, .und, .und, .x 0, .und, .und], 0, 0, 0, false, false⟩)] st X := by
  obtain ⟨tag, i, ln, xs, c, R, D⟩ := st
  have hI0 := hI
  obtain ⟨i0, i1, i2, i3, i4, i5, i6, i7, i8, i9, i10, i11, i12, it⟩ := unIFd s W tag i ln xs c R D hI
  rcases (show tag = 0 ∨ tag = 1 ∨ tag = 2 ∨ tag = 3 ∨ tag = 4 ∨ tag = 5 ∨ tag = 6 ∨ tag = 7 from by omega) with rfl | rfl | rfl | rfl | rfl | rfl | rfl | rfl
  · skip
    by_cases h0 : xs.length = 0
    · exact nxFd_p1 s W i ln xs c R D X hI0 h0
    · exact nxFd_p0 s W i ln xs c R D X hI0 h0
  · skip
    by_cases h5 : (c.length : Int) = 0
    · exact nxFd_p7 s W i ln xs c R D X hI0 h5
    · exact nxFd_p2 s W i ln xs c R D X hI0 h5
  · skip
    by_cases h1 : (c.length : Int) - 1 = 0
    · exact nxFd_p4 s W i ln xs c R D X hI0 h1
    · exact nxFd_p3 s W i ln xs c R D X hI0 h1
  · skip
    exact nxFd_p5 s W i ln xs c R D X hI0
  · skip
    exact nxFd_p6 s W i ln xs c R D X hI0
  · skip
    exact nxFd_p8 s W i ln xs c R D X hI0
  · skip
    exact nxFd_p9 s W i ln xs c R D X hI0
  · skip
    skip
    have hWl : W.length = D.length + (c.length + R.flatten.length) := by rw [i3, List.length_append, List.length_append]
    have hn0 : ([] : LB).length = 0 := rfl
    have hxl := hexS_len (n := (c.length : Int))
    have hi := rH i0 i6
    have hWD : D = W := by rw [i3, i11 (by omega), i12 (by omega)]; simp
    refine lvFd_7 s W i ln xs c R D (h := hyFd_p10) rfl ?_ (thXe (v := St' D) (u := St' W) rfl rfl (congrArg (fun l => St' l) hWD) (thXv (v := St' s) rfl rfl (thNil))) runFd_p10
    unfold hyFd_p10
    exact hc (kRn (denX rfl)) <|
     hc (kBytesB (bs := ([] : LB)) .nil (denX rfl)) <|
     hc (lnV rfl rfl (by omega)) <|
     hc (ltF rfl rfl (by omega)) <|
     hnil
theorem lfOkFd_0 {l : LF} {h : LH} (s W : LB) (st : Nat × Int × LB × LB × LB × List LB × LB) (hI : InvFd s W st) (hl : l.hp = some h) (hs : lfSame l h 39 keepFd (.exit 0) 3 60 120 = true) {th0 : LA} {sg0 : List (Nat × Nat)} (hth0 : ∀ X, ThOk (cx nu one 3 laidE laidE_stab) (DFd s W st X) th0) (h0 : startOk l h 39 60 60 th0 sg0 (epFd st) (hpFd st) = true) {thx : LA} (hthx : ThOk (EFd_0 s W) (cx nu one 3 laidE laidE_stab) thx) (hx : exitOk l h 39 60 120 thx [(1, .x 1)] [(44, .b ⟨34, .l [.und, .i .i64 (.ofNat 4), .und, .und, .und, .und, .x 0, .und, .und], 0, 0, 0, false, false⟩)] = true) : LfOk (cx nu one 3 laidE laidE_stab) bodyFd l :=
  lfOkX (E := EFd_0 s W) (InvFd s W) (muFd s W) (DFd s W) (fun _ _ => rfl) (fun _ _ => rfl) (fun _ _ => rfl) (fun st X t ht => nuX_keep.trans (rX_keep ((by decide : ∀ t, t ∈ keepFd → t < 1000000) t ht))) rfl rfl rfl hl hs ebFd rfl rfl st hI hth0 h0 hthx hx (roundsFd_0 s W)
noncomputable def fi3 : FI := (tabk.fn.get 3).getD default
theorem fi3_at : tabk.fn.get 3 = some fi3 := by kernel_rfl
theorem fi3_body : fi3.body = some (Tryd.f3.body.getD .skip) := by kernel_rfl
theorem fiB3 : fi3.body.isSome = true := by rw [fi3_body]; rfl
theorem cfA3 : (loopsOf (Tryd.f3.body.getD .skip)).all (fun b => !(keyEq (Go.AX.keyOf b) 8888888)) = true := by kernel_rfl
end Go.Proofs.YtmeiihmfamaphaaDoor.replyChunks
