/- A part of the proof: an interpreter of the model's own code on partly known states, and that what it answers is what the program answers. No condition of its own. -/
import Derived.Test.YtamjghigoipbeaaDoorK1ChunkBackO3
set_option maxRecDepth 100000
set_option linter.unusedVariables false
set_option linter.unusedSimpArgs false
set_option maxHeartbeats 4000000
namespace Go.Proofs.YtamjghigoipbeaaDoor.chunkBack
open Go Go.AX Go.Proofs Go.Proofs.YtamjghigoipbeaaDoor
variable {nu : Nat → Value} {one : ∀ i, i < 1000000 → (nu i).oneCell' = true} {E' : Cx} {x' : Ex} {e' : LA} {h' : LE}
noncomputable def fi8 : FI := (tabk.fn.get 8).getD default
theorem fi8_at : tabk.fn.get 8 = some fi8 := by kernel_rfl
theorem fi8_body : fi8.body = some (Tryd.f8.body.getD .skip) := by kernel_rfl
theorem fiB8 : fi8.body.isSome = true := by rw [fi8_body]; rfl
theorem cfA8 : (loopsOf (Tryd.f8.body.getD .skip)).all (fun b => !(keyEq (Go.AX.keyOf b) 8888888)) = true := by kernel_rfl
noncomputable def fi3 : FI := (tabk.fn.get 3).getD default
theorem fi3_at : tabk.fn.get 3 = some fi3 := by kernel_rfl
theorem fi3_body : fi3.body = some (Tryd.f3.body.getD .skip) := by kernel_rfl
theorem fiB3 : fi3.body.isSome = true := by rw [fi3_body]; rfl
theorem cfA3 : (loopsOf (Tryd.f3.body.getD .skip)).all (fun b => !(keyEq (Go.AX.keyOf b) 8888888)) = true := by kernel_rfl
noncomputable def bodyOe : Code := loopNo (Tryd.f3.body.getD .skip) 1
theorem keyOe : oneKey (loopsOf (Tryd.f3.body.getD .skip)) 18 1 0 = true := by kernel_rfl
def keepOe : List Nat := [8, 10]
def epOe_0 : LA := [(2, .es), (7, .x 0), (11, .p 30 0), (12, .x 1), (13, .x 2)]
def hpOe_0 : LE := [(30, .b ⟨38, .l [.i .i64 (.ofNat 4000), .x 3, .nils, .b false, .x 4, .i .i64 (.ofNat 0), .nils], 0, 0, 0, false, false⟩)]
def nuOe_0 (lz : List LB) (mo : LB) (t i : Int) : List Value := [St' (ckS lz ++ mo), .int .i64 (t), .int .i64 (i), .int .i64 ((wA lz t)), .int .i64 ((fA lz t)), St' ([] : LB), .int .i64 (((ckS lz ++ mo).length : Int)), .int .i64 (t + 1), .int .i64 ((uA lz mo t 1)), St' (xS lz mo t (uA lz mo t 1)), .int .i64 ((eE lz mo t 1)), .int .i64 ((wA lz (t + (eE lz mo t 1)))), .int .i64 ((fA lz (t + (eE lz mo t 1)))), St' (lnA lz (t + (eE lz mo t 1))), .int .i64 ((eE lz mo t 1) + t), .int .i64 ((uA lz mo t 1) - t), .int .i64 (i + 1)]
def roOe_0 (lz : List LB) (mo : LB) (t i : Int) : List Value := [rwS ([] : List LB)]
def epOe_1 : LA := [(2, .es), (7, .x 0), (11, .p 30 0), (12, .x 1), (13, .x 2)]
def hpOe_1 : LE := [(30, .b ⟨38, .l [.i .i64 (.ofNat 4000), .x 3, .sy 40, .b false, .x 4, .i .i64 (.ofNat 0), .nils], 0, 0, 0, false, false⟩), (40, .t 5 5)]
def nuOe_1 (lz : List LB) (mo : LB) (t i : Int) : List Value := [St' (ckS lz ++ mo), .int .i64 (t), .int .i64 (i), .int .i64 ((wA lz t)), .int .i64 ((fA lz t)), St' (lnA lz t), St' ([] : LB), .int .i64 (((ckS lz ++ mo).length : Int)), .int .i64 (t + 1), .int .i64 ((uA lz mo t 1)), St' (xS lz mo t (uA lz mo t 1)), .int .i64 ((eE lz mo t 1)), .int .i64 ((wA lz (t + (eE lz mo t 1)))), .int .i64 ((fA lz (t + (eE lz mo t 1)))), St' (lnA lz (t + (eE lz mo t 1))), .int .i64 ((eE lz mo t 1) + t), .int .i64 ((uA lz mo t 1) - t), .int .i64 (i + 1), St' ([] : LB), .int .i64 (((ckS lz ++ mo).length : Int)), .int .i64 (t + 1), .int .i64 ((uA lz mo t 1)), St' (xS lz mo t (uA lz mo t 1)), .int .i64 ((eE lz mo t 1)), .int .i64 ((wA lz (t + (eE lz mo t 1)))), .int .i64 ((fA lz (t + (eE lz mo t 1)))), St' (lnA lz (t + (eE lz mo t 1))), St' (DA lz (t + (eE lz mo t 1))), .int .i64 ((eE lz mo t 1) + t), .int .i64 ((uA lz mo t 1) - t), .int .i64 (i + 1), St' ([] : LB), .int .i64 (((ckS lz ++ mo).length : Int)), St' ([] : LB), .int .i64 (((ckS lz ++ mo).length : Int)), .int .i64 (t + 1), .int .i64 ((uA lz mo t 1)), St' (xS lz mo t (uA lz mo t 1)), .int .i64 ((eE lz mo t 1)), .int .i64 ((wA lz (t + (eE lz mo t 1)))), .int .i64 ((fA lz (t + (eE lz mo t 1)))), St' (lnA lz (t + (eE lz mo t 1))), .int .i64 ((eE lz mo t 1) + t), .int .i64 ((uA lz mo t 1) - t), St' ([] : LB), .int .i64 (((ckS lz ++ mo).length : Int)), .int .i64 (t + 1), .int .i64 ((uA lz mo t 1)), St' (xS lz mo t (uA lz mo t 1)), .int .i64 ((eE lz mo t 1)), .int .i64 ((wA lz (t + (eE lz mo t 1)))), .int .i64 ((fA lz (t + (eE lz mo t 1)))), St' (lnA lz (t + (eE lz mo t 1))), .int .i64 ((eE lz mo t 1) + t), .int .i64 ((uA lz mo t 1) - t), .int .i64 (i + 1)]
def roOe_1 (lz : List LB) (mo : LB) (t i : Int) : List Value := [rwS ([] : List LB), rwS ([] : List LB), rwS ([] : List LB), rwS ([] : List LB), rwS ([] : List LB)]
def epOe_2 : LA := [(2, .es), (7, .x 0), (11, .p 30 0), (12, .x 1), (13, .x 2)]
def hpOe_2 : LE := [(30, .b ⟨38, .l [.i .i64 (.ofNat 4000), .x 3, .sy 40, .b true, .x 4, .i .i64 (.ofNat 0), .nils], 0, 0, 0, false, false⟩), (40, .t 5 5)]
def nuOe_2 (lz : List LB) (mo : LB) (t i : Int) : List Value := [St' (ckS lz ++ mo), .int .i64 (t), .int .i64 (i), .int .i64 ((wA lz t)), .int .i64 ((fA lz t)), St' (lnA lz t), St' ([] : LB), .int .i64 (((ckS lz ++ mo).length : Int)), .int .i64 (t + 1), .int .i64 ((uA lz mo t 1)), St' (xS lz mo t (uA lz mo t 1)), .int .i64 ((eE lz mo t 1)), .int .i64 ((wA lz (t + (eE lz mo t 1)))), .int .i64 ((fA lz (t + (eE lz mo t 1)))), St' (lnA lz (t + (eE lz mo t 1))), .int .i64 ((eE lz mo t 1) + t), .int .i64 ((uA lz mo t 1) - t), .int .i64 (i + 1)]
def roOe_2 (lz : List LB) (mo : LB) (t i : Int) : List Value := [rwS ([] : List LB)]
def epOe_3 : LA := [(2, .es), (7, .x 0), (11, .p 30 0), (12, .x 1), (13, .x 2)]
def hpOe_3 : LE := [(30, .b ⟨38, .l [.i .i64 (.ofNat 4000), .x 3, .sy 40, .b false, .x 4, .i .i64 (.ofNat 0), .sy 41], 0, 0, 0, false, false⟩), (40, .t 5 5), (41, .t 6 5)]
def nuOe_3 (lz : List LB) (mo : LB) (t i : Int) : List Value := [St' (ckS lz ++ mo), .int .i64 (t), .int .i64 (i), .int .i64 ((wA lz t)), .int .i64 ((fA lz t)), St' (lnA lz t), St' (DA lz t), St' ([] : LB), .int .i64 (((ckS lz ++ mo).length : Int)), .int .i64 (t + 1), .int .i64 ((uA lz mo t 1)), St' (xS lz mo t (uA lz mo t 1)), .int .i64 ((eE lz mo t 1)), .int .i64 ((wA lz (t + (eE lz mo t 1)))), .int .i64 ((fA lz (t + (eE lz mo t 1)))), St' (lnA lz (t + (eE lz mo t 1))), St' (DA lz (t + (eE lz mo t 1))), .int .i64 ((eE lz mo t 1) + t), .int .i64 ((uA lz mo t 1) - t), .int .i64 (i + 1), St' ([] : LB), .int .i64 (((ckS lz ++ mo).length : Int)), .int .i64 (t + 1), .int .i64 ((uA lz mo t 1)), St' (xS lz mo t (uA lz mo t 1)), .int .i64 ((eE lz mo t 1)), .int .i64 ((wA lz (t + (eE lz mo t 1)))), .int .i64 ((fA lz (t + (eE lz mo t 1)))), St' (lnA lz (t + (eE lz mo t 1))), St' (DA lz (t + (eE lz mo t 1))), .int .i64 ((eE lz mo t 1) + t), .int .i64 ((uA lz mo t 1) - t), .int .i64 (i + 1), St' ([] : LB), .int .i64 (((ckS lz ++ mo).length : Int)), St' ([] : LB), .int .i64 (((ckS lz ++ mo).length : Int)), .int .i64 (t + 1), .int .i64 ((uA lz mo t 1)), St' (xS lz mo t (uA lz mo t 1)), .int .i64 ((eE lz mo t 1)), .int .i64 ((wA lz (t + (eE lz mo t 1)))), .int .i64 ((fA lz (t + (eE lz mo t 1)))), St' (lnA lz (t + (eE lz mo t 1))), St' (DA lz (t + (eE lz mo t 1))), .int .i64 ((eE lz mo t 1) + t), .int .i64 ((uA lz mo t 1) - t)]
def roOe_3 (lz : List LB) (mo : LB) (t i : Int) : List Value := [rwS ([] : List LB), rwS ([] : List LB), rwS ([] : List LB), rwS ([] : List LB)]
def epOe_4 : LA := [(2, .es), (7, .x 0), (11, .p 30 0), (12, .x 1), (13, .x 2)]
def hpOe_4 : LE := [(30, .b ⟨38, .l [.i .i64 (.ofNat 4000), .x 3, .sy 40, .b true, .x 4, .i .i64 (.ofNat 0), .sy 41], 0, 0, 0, false, false⟩), (40, .t 5 5), (41, .t 6 5)]
def nuOe_4 (lz : List LB) (mo : LB) (t i : Int) : List Value := [St' (ckS lz ++ mo), .int .i64 (t), .int .i64 (i), .int .i64 ((wA lz t)), .int .i64 ((fA lz t)), St' (lnA lz t), St' (DA lz t), St' ([] : LB), .int .i64 (((ckS lz ++ mo).length : Int)), .int .i64 (t + 1), .int .i64 ((uA lz mo t 1)), St' (xS lz mo t (uA lz mo t 1)), .int .i64 ((eE lz mo t 1)), .int .i64 ((wA lz (t + (eE lz mo t 1)))), .int .i64 ((fA lz (t + (eE lz mo t 1)))), St' (lnA lz (t + (eE lz mo t 1))), St' (DA lz (t + (eE lz mo t 1))), .int .i64 ((eE lz mo t 1) + t), .int .i64 ((uA lz mo t 1) - t), .int .i64 (i + 1)]
def roOe_4 (lz : List LB) (mo : LB) (t i : Int) : List Value := [rwS ([] : List LB)]
def epOe (st : Nat × Int × Int) : LA := if st.1 = 0 then epOe_0 else if st.1 = 1 then epOe_1 else if st.1 = 2 then epOe_2 else if st.1 = 3 then epOe_3 else epOe_4
def hpOe (st : Nat × Int × Int) : LE := if st.1 = 0 then hpOe_0 else if st.1 = 1 then hpOe_1 else if st.1 = 2 then hpOe_2 else if st.1 = 3 then hpOe_3 else hpOe_4
def nuOe (lz : List LB) (mo : LB) (st : Nat × Int × Int) : List Value := if st.1 = 0 then nuOe_0 lz mo (st.2.1) (st.2.2) else if st.1 = 1 then nuOe_1 lz mo (st.2.1) (st.2.2) else if st.1 = 2 then nuOe_2 lz mo (st.2.1) (st.2.2) else if st.1 = 3 then nuOe_3 lz mo (st.2.1) (st.2.2) else nuOe_4 lz mo (st.2.1) (st.2.2)
def roOe (lz : List LB) (mo : LB) (st : Nat × Int × Int) : List Value := if st.1 = 0 then roOe_0 lz mo (st.2.1) (st.2.2) else if st.1 = 1 then roOe_1 lz mo (st.2.1) (st.2.2) else if st.1 = 2 then roOe_2 lz mo (st.2.1) (st.2.2) else if st.1 = 3 then roOe_3 lz mo (st.2.1) (st.2.2) else roOe_4 lz mo (st.2.1) (st.2.2)
theorem onOe (lz : List LB) (mo : LB) (st : Nat × Int × Int) : ∀ j, (nuL (nuOe lz mo st) j).oneCell' = true := by
  intro j
  unfold nuOe
  by_cases g0 : st.1 = 0
  · rw [if_pos g0]; exact nuL_one (l := nuOe_0 lz mo (st.2.1) (st.2.2)) rfl j
  rw [if_neg g0]
  by_cases g1 : st.1 = 1
  · rw [if_pos g1]; exact nuL_one (l := nuOe_1 lz mo (st.2.1) (st.2.2)) rfl j
  rw [if_neg g1]
  by_cases g2 : st.1 = 2
  · rw [if_pos g2]; exact nuL_one (l := nuOe_2 lz mo (st.2.1) (st.2.2)) rfl j
  rw [if_neg g2]
  by_cases g3 : st.1 = 3
  · rw [if_pos g3]; exact nuL_one (l := nuOe_3 lz mo (st.2.1) (st.2.2)) rfl j
  rw [if_neg g3]
  exact nuL_one (l := nuOe_4 lz mo (st.2.1) (st.2.2)) rfl j
theorem ebOe (st : Nat × Int × Int) : (lfB (epOe st) && lfC keepOe) = true := by
  unfold epOe
  by_cases g0 : st.1 = 0
  · rw [if_pos g0]; rfl
  rw [if_neg g0]
  by_cases g1 : st.1 = 1
  · rw [if_pos g1]; rfl
  rw [if_neg g1]
  by_cases g2 : st.1 = 2
  · rw [if_pos g2]; rfl
  rw [if_neg g2]
  by_cases g3 : st.1 = 3
  · rw [if_pos g3]; rfl
  rw [if_neg g3]
  rfl
noncomputable def DOe (lz : List LB) (mo : LB) (st : Nat × Int × Int) (X : Nat → Value) : Cx := cx (nuX (nuOe lz mo st) (rX (roOe lz mo st) X)) (nuX_one (onOe lz mo st)) 3 laidE laidE_stab
def InvOe (lz : List LB) (mo : LB) (st : Nat × Int × Int) : Prop := (0 ≤ (st.2.1)) ∧ ((st.2.1) ≤ nA lz) ∧ (0 ≤ (st.2.2)) ∧ ((st.2.2) ≤ (st.2.1)) ∧ (mo.length ≤ 100) ∧ (ok3 lz) ∧ (lz.flatten.length ≤ 3000) ∧ (nA lz ≤ 4000) ∧ ((st.1) = 0 → (st.2.1) = 0) ∧ (1 ≤ (st.1) → 1 ≤ (st.2.1)) ∧ ((st.1) = 0 ∨ (st.1) = 1 ∨ (st.1) = 3 → ¬ cA lz (st.2.1) = true) ∧ ((st.1) = 2 ∨ (st.1) = 4 → cA lz (st.2.1) = true) ∧ ((st.1) ≤ 2 → (DA lz (st.2.1)).length = 0) ∧ (3 ≤ (st.1) → ¬ (DA lz (st.2.1)).length = 0) ∧ ((st.1) < 5)
abbrev CjOe (lz : List LB) (mo : LB) (tag : Nat) (t i : Int) : Prop := (0 ≤ t) ∧ (t ≤ nA lz) ∧ (0 ≤ i) ∧ (i ≤ t) ∧ (mo.length ≤ 100) ∧ (ok3 lz) ∧ (lz.flatten.length ≤ 3000) ∧ (nA lz ≤ 4000) ∧ (tag = 0 → t = 0) ∧ (1 ≤ tag → 1 ≤ t) ∧ (tag = 0 ∨ tag = 1 ∨ tag = 3 → ¬ cA lz t = true) ∧ (tag = 2 ∨ tag = 4 → cA lz t = true) ∧ (tag ≤ 2 → (DA lz t).length = 0) ∧ (3 ≤ tag → ¬ (DA lz t).length = 0) ∧ (tag < 5)
theorem mkIOe (lz : List LB) (mo : LB) (tag : Nat) (t i : Int) (h : CjOe lz mo tag t i) : InvOe lz mo (tag, t, i) := h
theorem unIOe (lz : List LB) (mo : LB) (tag : Nat) (t i : Int) (h : InvOe lz mo (tag, t, i)) : (0 ≤ t) ∧ (t ≤ nA lz) ∧ (0 ≤ i) ∧ (i ≤ t) ∧ (mo.length ≤ 100) ∧ (ok3 lz) ∧ (lz.flatten.length ≤ 3000) ∧ (nA lz ≤ 4000) ∧ (tag = 0 → t = 0) ∧ (1 ≤ tag → 1 ≤ t) ∧ (tag = 0 ∨ tag = 1 ∨ tag = 3 → ¬ cA lz t = true) ∧ (tag = 2 ∨ tag = 4 → cA lz t = true) ∧ (tag ≤ 2 → (DA lz t).length = 0) ∧ (3 ≤ tag → ¬ (DA lz t).length = 0) ∧ (tag < 5) := h
def muOe (lz : List LB) (mo : LB) (st : Nat × Int × Int) : Nat := (nA lz - (st.2.1)).toNat
abbrev RHOe (lz : List LB) (mo : LB) (E' : Cx) (ex' : Ex) (epx' : LA) (hpx' : LE) (st : Nat × Int × Int) (X : Nat → Value) : Prop := RoundH E' bodyOe keepOe 117 ex' 4 40 42 140 epOe hpOe epx' hpx' (InvOe lz mo) (muOe lz mo) (DOe lz mo) st X
noncomputable abbrev CXOe_0 (lz : List LB) (mo : LB) (t i : Int) (X : Nat → Value) : Cx := cx (nuX (nuOe_0 lz mo t i) (rX (roOe_0 lz mo t i) X)) (nuX_one (nuL_one (l := nuOe_0 lz mo t i) rfl)) 3 laidE laidE_stab
theorem sLOe_0 (lz : List LB) (mo : LB) (t i : Int) {X : Nat → Value} {tb : Tab} {L : List LF} (y : Nat × Int × Int) {th : LA} {sg : List (Nat × Nat)} (hall : AllOk (CXOe_0 lz mo t i X) tb) (hlp : LpOk (CXOe_0 lz mo t i X) L bodyOe) (hng : tb.ng = 4) (hy : InvOe lz mo y) (lt : muOe lz mo y < muOe lz mo (0, t, i)) (ht : ThOk (CXOe_0 lz mo t i X) (DOe lz mo y X) th) (run : okRdH (code tb 5000 L bodyOe (envOf (headOf epOe_0 keepOe) 117) ⟨lhSet hpOe_0 .leaf, 42, 0, 0⟩) .normal keepOe 117 140 th sg 40 42 (epOe y) (hpOe y) = true) : RHOe lz mo E' x' e' h' (0, t, i) X :=
  RoundH.next (tb := tb) (L := L) (f := 5000) y hall hlp hng hy lt ht run
theorem lLOe_0 (lz : List LB) (mo : LB) (t i : Int) {X : Nat → Value} {tb : Tab} {L : List LF} {th : LA} {sg : List (Nat × Nat)} (hne : exB x' .normal = false) (hall : AllOk (CXOe_0 lz mo t i X) tb) (hlp : LpOk (CXOe_0 lz mo t i X) L bodyOe) (hng : tb.ng = 4) (ht : ThOk (CXOe_0 lz mo t i X) E' th) (run : okRdH (code tb 5000 L bodyOe (envOf (headOf epOe_0 keepOe) 117) ⟨lhSet hpOe_0 .leaf, 42, 0, 0⟩) x' keepOe 117 140 th sg 40 140 e' h' = true) : RHOe lz mo E' x' e' h' (0, t, i) X :=
  RoundH.leave (tb := tb) (L := L) (f := 5000) hall hlp hng hne ht run
noncomputable abbrev RNOe_0 (h : LK) (x : Ex) (th : LA) (sg : List (Nat × Nat)) (m : Nat) (ep : LA) (hp : LE) : Bool := okRdH (code (tbl h) 5000 [] bodyOe (envOf (headOf epOe_0 keepOe) 117) ⟨lhSet hpOe_0 .leaf, 42, 0, 0⟩) x keepOe 117 140 th sg 40 m ep hp
theorem stOe_0 (lz : List LB) (mo : LB) (t i : Int) {X : Nat → Value} {h : LK} (y : Nat × Int × Int) {th : LA} {sg : List (Nat × Nat)} (ho : ∀ a' r', (a', r') ∈ h → HOk (CXOe_0 lz mo t i X) a' r') (hy : InvOe lz mo y) (lt : muOe lz mo y < muOe lz mo (0, t, i)) (ht : ThOk (CXOe_0 lz mo t i X) (DOe lz mo y X) th) (run : RNOe_0 h .normal th sg 42 (epOe y) (hpOe y) = true) : RHOe lz mo E' x' e' h' (0, t, i) X :=
  RoundH.next (tb := tbl h) (L := []) (f := 5000) y ((tabkOk _ _).hyps ho) (LpOk.nil _) rfl hy lt ht run
theorem lvOe_0 (lz : List LB) (mo : LB) (t i : Int) {X : Nat → Value} {h : LK} {th : LA} {sg : List (Nat × Nat)} (hne : exB x' .normal = false) (ho : ∀ a' r', (a', r') ∈ h → HOk (CXOe_0 lz mo t i X) a' r') (ht : ThOk (CXOe_0 lz mo t i X) E' th) (run : RNOe_0 h x' th sg 140 e' h' = true) : RHOe lz mo E' x' e' h' (0, t, i) X :=
  RoundH.leave (tb := tbl h) (L := []) (f := 5000) ((tabkOk _ _).hyps ho) (LpOk.nil _) rfl hne ht run
noncomputable abbrev CXOe_1 (lz : List LB) (mo : LB) (t i : Int) (X : Nat → Value) : Cx := cx (nuX (nuOe_1 lz mo t i) (rX (roOe_1 lz mo t i) X)) (nuX_one (nuL_one (l := nuOe_1 lz mo t i) rfl)) 3 laidE laidE_stab
theorem sLOe_1 (lz : List LB) (mo : LB) (t i : Int) {X : Nat → Value} {tb : Tab} {L : List LF} (y : Nat × Int × Int) {th : LA} {sg : List (Nat × Nat)} (hall : AllOk (CXOe_1 lz mo t i X) tb) (hlp : LpOk (CXOe_1 lz mo t i X) L bodyOe) (hng : tb.ng = 4) (hy : InvOe lz mo y) (lt : muOe lz mo y < muOe lz mo (1, t, i)) (ht : ThOk (CXOe_1 lz mo t i X) (DOe lz mo y X) th) (run : okRdH (code tb 5000 L bodyOe (envOf (headOf epOe_1 keepOe) 117) ⟨lhSet hpOe_1 .leaf, 42, 0, 0⟩) .normal keepOe 117 140 th sg 40 42 (epOe y) (hpOe y) = true) : RHOe lz mo E' x' e' h' (1, t, i) X :=
  RoundH.next (tb := tb) (L := L) (f := 5000) y hall hlp hng hy lt ht run
theorem lLOe_1 (lz : List LB) (mo : LB) (t i : Int) {X : Nat → Value} {tb : Tab} {L : List LF} {th : LA} {sg : List (Nat × Nat)} (hne : exB x' .normal = false) (hall : AllOk (CXOe_1 lz mo t i X) tb) (hlp : LpOk (CXOe_1 lz mo t i X) L bodyOe) (hng : tb.ng = 4) (ht : ThOk (CXOe_1 lz mo t i X) E' th) (run : okRdH (code tb 5000 L bodyOe (envOf (headOf epOe_1 keepOe) 117) ⟨lhSet hpOe_1 .leaf, 42, 0, 0⟩) x' keepOe 117 140 th sg 40 140 e' h' = true) : RHOe lz mo E' x' e' h' (1, t, i) X :=
  RoundH.leave (tb := tb) (L := L) (f := 5000) hall hlp hng hne ht run
noncomputable abbrev RNOe_1 (h : LK) (x : Ex) (th : LA) (sg : List (Nat × Nat)) (m : Nat) (ep : LA) (hp : LE) : Bool := okRdH (code (tbl h) 5000 [] bodyOe (envOf (headOf epOe_1 keepOe) 117) ⟨lhSet hpOe_1 .leaf, 42, 0, 0⟩) x keepOe 117 140 th sg 40 m ep hp
theorem stOe_1 (lz : List LB) (mo : LB) (t i : Int) {X : Nat → Value} {h : LK} (y : Nat × Int × Int) {th : LA} {sg : List (Nat × Nat)} (ho : ∀ a' r', (a', r') ∈ h → HOk (CXOe_1 lz mo t i X) a' r') (hy : InvOe lz mo y) (lt : muOe lz mo y < muOe lz mo (1, t, i)) (ht : ThOk (CXOe_1 lz mo t i X) (DOe lz mo y X) th) (run : RNOe_1 h .normal th sg 42 (epOe y) (hpOe y) = true) : RHOe lz mo E' x' e' h' (1, t, i) X :=
  RoundH.next (tb := tbl h) (L := []) (f := 5000) y ((tabkOk _ _).hyps ho) (LpOk.nil _) rfl hy lt ht run
theorem lvOe_1 (lz : List LB) (mo : LB) (t i : Int) {X : Nat → Value} {h : LK} {th : LA} {sg : List (Nat × Nat)} (hne : exB x' .normal = false) (ho : ∀ a' r', (a', r') ∈ h → HOk (CXOe_1 lz mo t i X) a' r') (ht : ThOk (CXOe_1 lz mo t i X) E' th) (run : RNOe_1 h x' th sg 140 e' h' = true) : RHOe lz mo E' x' e' h' (1, t, i) X :=
  RoundH.leave (tb := tbl h) (L := []) (f := 5000) ((tabkOk _ _).hyps ho) (LpOk.nil _) rfl hne ht run
noncomputable abbrev CXOe_2 (lz : List LB) (mo : LB) (t i : Int) (X : Nat → Value) : Cx := cx (nuX (nuOe_2 lz mo t i) (rX (roOe_2 lz mo t i) X)) (nuX_one (nuL_one (l := nuOe_2 lz mo t i) rfl)) 3 laidE laidE_stab
theorem sLOe_2 (lz : List LB) (mo : LB) (t i : Int) {X : Nat → Value} {tb : Tab} {L : List LF} (y : Nat × Int × Int) {th : LA} {sg : List (Nat × Nat)} (hall : AllOk (CXOe_2 lz mo t i X) tb) (hlp : LpOk (CXOe_2 lz mo t i X) L bodyOe) (hng : tb.ng = 4) (hy : InvOe lz mo y) (lt : muOe lz mo y < muOe lz mo (2, t, i)) (ht : ThOk (CXOe_2 lz mo t i X) (DOe lz mo y X) th) (run : okRdH (code tb 5000 L bodyOe (envOf (headOf epOe_2 keepOe) 117) ⟨lhSet hpOe_2 .leaf, 42, 0, 0⟩) .normal keepOe 117 140 th sg 40 42 (epOe y) (hpOe y) = true) : RHOe lz mo E' x' e' h' (2, t, i) X :=
  RoundH.next (tb := tb) (L := L) (f := 5000) y hall hlp hng hy lt ht run
theorem lLOe_2 (lz : List LB) (mo : LB) (t i : Int) {X : Nat → Value} {tb : Tab} {L : List LF} {th : LA} {sg : List (Nat × Nat)} (hne : exB x' .normal = false) (hall : AllOk (CXOe_2 lz mo t i X) tb) (hlp : LpOk (CXOe_2 lz mo t i X) L bodyOe) (hng : tb.ng = 4) (ht : ThOk (CXOe_2 lz mo t i X) E' th) (run : okRdH (code tb 5000 L bodyOe (envOf (headOf epOe_2 keepOe) 117) ⟨lhSet hpOe_2 .leaf, 42, 0, 0⟩) x' keepOe 117 140 th sg 40 140 e' h' = true) : RHOe lz mo E' x' e' h' (2, t, i) X :=
  RoundH.leave (tb := tb) (L := L) (f := 5000) hall hlp hng hne ht run
noncomputable abbrev RNOe_2 (h : LK) (x : Ex) (th : LA) (sg : List (Nat × Nat)) (m : Nat) (ep : LA) (hp : LE) : Bool := okRdH (code (tbl h) 5000 [] bodyOe (envOf (headOf epOe_2 keepOe) 117) ⟨lhSet hpOe_2 .leaf, 42, 0, 0⟩) x keepOe 117 140 th sg 40 m ep hp
theorem stOe_2 (lz : List LB) (mo : LB) (t i : Int) {X : Nat → Value} {h : LK} (y : Nat × Int × Int) {th : LA} {sg : List (Nat × Nat)} (ho : ∀ a' r', (a', r') ∈ h → HOk (CXOe_2 lz mo t i X) a' r') (hy : InvOe lz mo y) (lt : muOe lz mo y < muOe lz mo (2, t, i)) (ht : ThOk (CXOe_2 lz mo t i X) (DOe lz mo y X) th) (run : RNOe_2 h .normal th sg 42 (epOe y) (hpOe y) = true) : RHOe lz mo E' x' e' h' (2, t, i) X :=
  RoundH.next (tb := tbl h) (L := []) (f := 5000) y ((tabkOk _ _).hyps ho) (LpOk.nil _) rfl hy lt ht run
theorem lvOe_2 (lz : List LB) (mo : LB) (t i : Int) {X : Nat → Value} {h : LK} {th : LA} {sg : List (Nat × Nat)} (hne : exB x' .normal = false) (ho : ∀ a' r', (a', r') ∈ h → HOk (CXOe_2 lz mo t i X) a' r') (ht : ThOk (CXOe_2 lz mo t i X) E' th) (run : RNOe_2 h x' th sg 140 e' h' = true) : RHOe lz mo E' x' e' h' (2, t, i) X :=
  RoundH.leave (tb := tbl h) (L := []) (f := 5000) ((tabkOk _ _).hyps ho) (LpOk.nil _) rfl hne ht run
noncomputable abbrev CXOe_3 (lz : List LB) (mo : LB) (t i : Int) (X : Nat → Value) : Cx := cx (nuX (nuOe_3 lz mo t i) (rX (roOe_3 lz mo t i) X)) (nuX_one (nuL_one (l := nuOe_3 lz mo t i) rfl)) 3 laidE laidE_stab
theorem sLOe_3 (lz : List LB) (mo : LB) (t i : Int) {X : Nat → Value} {tb : Tab} {L : List LF} (y : Nat × Int × Int) {th : LA} {sg : List (Nat × Nat)} (hall : AllOk (CXOe_3 lz mo t i X) tb) (hlp : LpOk (CXOe_3 lz mo t i X) L bodyOe) (hng : tb.ng = 4) (hy : InvOe lz mo y) (lt : muOe lz mo y < muOe lz mo (3, t, i)) (ht : ThOk (CXOe_3 lz mo t i X) (DOe lz mo y X) th) (run : okRdH (code tb 5000 L bodyOe (envOf (headOf epOe_3 keepOe) 117) ⟨lhSet hpOe_3 .leaf, 42, 0, 0⟩) .normal keepOe 117 140 th sg 40 42 (epOe y) (hpOe y) = true) : RHOe lz mo E' x' e' h' (3, t, i) X :=
  RoundH.next (tb := tb) (L := L) (f := 5000) y hall hlp hng hy lt ht run
theorem lLOe_3 (lz : List LB) (mo : LB) (t i : Int) {X : Nat → Value} {tb : Tab} {L : List LF} {th : LA} {sg : List (Nat × Nat)} (hne : exB x' .normal = false) (hall : AllOk (CXOe_3 lz mo t i X) tb) (hlp : LpOk (CXOe_3 lz mo t i X) L bodyOe) (hng : tb.ng = 4) (ht : ThOk (CXOe_3 lz mo t i X) E' th) (run : okRdH (code tb 5000 L bodyOe (envOf (headOf epOe_3 keepOe) 117) ⟨lhSet hpOe_3 .leaf, 42, 0, 0⟩) x' keepOe 117 140 th sg 40 140 e' h' = true) : RHOe lz mo E' x' e' h' (3, t, i) X :=
  RoundH.leave (tb := tb) (L := L) (f := 5000) hall hlp hng hne ht run
noncomputable abbrev RNOe_3 (h : LK) (x : Ex) (th : LA) (sg : List (Nat × Nat)) (m : Nat) (ep : LA) (hp : LE) : Bool := okRdH (code (tbl h) 5000 [] bodyOe (envOf (headOf epOe_3 keepOe) 117) ⟨lhSet hpOe_3 .leaf, 42, 0, 0⟩) x keepOe 117 140 th sg 40 m ep hp
theorem stOe_3 (lz : List LB) (mo : LB) (t i : Int) {X : Nat → Value} {h : LK} (y : Nat × Int × Int) {th : LA} {sg : List (Nat × Nat)} (ho : ∀ a' r', (a', r') ∈ h → HOk (CXOe_3 lz mo t i X) a' r') (hy : InvOe lz mo y) (lt : muOe lz mo y < muOe lz mo (3, t, i)) (ht : ThOk (CXOe_3 lz mo t i X) (DOe lz mo y X) th) (run : RNOe_3 h .normal th sg 42 (epOe y) (hpOe y) = true) : RHOe lz mo E' x' e' h' (3, t, i) X :=
  RoundH.next (tb := tbl h) (L := []) (f := 5000) y ((tabkOk _ _).hyps ho) (LpOk.nil _) rfl hy lt ht run
theorem lvOe_3 (lz : List LB) (mo : LB) (t i : Int) {X : Nat → Value} {h : LK} {th : LA} {sg : List (Nat × Nat)} (hne : exB x' .normal = false) (ho : ∀ a' r', (a', r') ∈ h → HOk (CXOe_3 lz mo t i X) a' r') (ht : ThOk (CXOe_3 lz mo t i X) E' th) (run : RNOe_3 h x' th sg 140 e' h' = true) : RHOe lz mo E' x' e' h' (3, t, i) X :=
  RoundH.leave (tb := tbl h) (L := []) (f := 5000) ((tabkOk _ _).hyps ho) (LpOk.nil _) rfl hne ht run
noncomputable abbrev CXOe_4 (lz : List LB) (mo : LB) (t i : Int) (X : Nat → Value) : Cx := cx (nuX (nuOe_4 lz mo t i) (rX (roOe_4 lz mo t i) X)) (nuX_one (nuL_one (l := nuOe_4 lz mo t i) rfl)) 3 laidE laidE_stab
theorem sLOe_4 (lz : List LB) (mo : LB) (t i : Int) {X : Nat → Value} {tb : Tab} {L : List LF} (y : Nat × Int × Int) {th : LA} {sg : List (Nat × Nat)} (hall : AllOk (CXOe_4 lz mo t i X) tb) (hlp : LpOk (CXOe_4 lz mo t i X) L bodyOe) (hng : tb.ng = 4) (hy : InvOe lz mo y) (lt : muOe lz mo y < muOe lz mo (4, t, i)) (ht : ThOk (CXOe_4 lz mo t i X) (DOe lz mo y X) th) (run : okRdH (code tb 5000 L bodyOe (envOf (headOf epOe_4 keepOe) 117) ⟨lhSet hpOe_4 .leaf, 42, 0, 0⟩) .normal keepOe 117 140 th sg 40 42 (epOe y) (hpOe y) = true) : RHOe lz mo E' x' e' h' (4, t, i) X :=
  RoundH.next (tb := tb) (L := L) (f := 5000) y hall hlp hng hy lt ht run
theorem lLOe_4 (lz : List LB) (mo : LB) (t i : Int) {X : Nat → Value} {tb : Tab} {L : List LF} {th : LA} {sg : List (Nat × Nat)} (hne : exB x' .normal = false) (hall : AllOk (CXOe_4 lz mo t i X) tb) (hlp : LpOk (CXOe_4 lz mo t i X) L bodyOe) (hng : tb.ng = 4) (ht : ThOk (CXOe_4 lz mo t i X) E' th) (run : okRdH (code tb 5000 L bodyOe (envOf (headOf epOe_4 keepOe) 117) ⟨lhSet hpOe_4 .leaf, 42, 0, 0⟩) x' keepOe 117 140 th sg 40 140 e' h' = true) : RHOe lz mo E' x' e' h' (4, t, i) X :=
  RoundH.leave (tb := tb) (L := L) (f := 5000) hall hlp hng hne ht run
noncomputable abbrev RNOe_4 (h : LK) (x : Ex) (th : LA) (sg : List (Nat × Nat)) (m : Nat) (ep : LA) (hp : LE) : Bool := okRdH (code (tbl h) 5000 [] bodyOe (envOf (headOf epOe_4 keepOe) 117) ⟨lhSet hpOe_4 .leaf, 42, 0, 0⟩) x keepOe 117 140 th sg 40 m ep hp
theorem stOe_4 (lz : List LB) (mo : LB) (t i : Int) {X : Nat → Value} {h : LK} (y : Nat × Int × Int) {th : LA} {sg : List (Nat × Nat)} (ho : ∀ a' r', (a', r') ∈ h → HOk (CXOe_4 lz mo t i X) a' r') (hy : InvOe lz mo y) (lt : muOe lz mo y < muOe lz mo (4, t, i)) (ht : ThOk (CXOe_4 lz mo t i X) (DOe lz mo y X) th) (run : RNOe_4 h .normal th sg 42 (epOe y) (hpOe y) = true) : RHOe lz mo E' x' e' h' (4, t, i) X :=
  RoundH.next (tb := tbl h) (L := []) (f := 5000) y ((tabkOk _ _).hyps ho) (LpOk.nil _) rfl hy lt ht run
theorem lvOe_4 (lz : List LB) (mo : LB) (t i : Int) {X : Nat → Value} {h : LK} {th : LA} {sg : List (Nat × Nat)} (hne : exB x' .normal = false) (ho : ∀ a' r', (a', r') ∈ h → HOk (CXOe_4 lz mo t i X) a' r') (ht : ThOk (CXOe_4 lz mo t i X) E' th) (run : RNOe_4 h x' th sg 140 e' h' = true) : RHOe lz mo E' x' e' h' (4, t, i) X :=
  RoundH.leave (tb := tbl h) (L := []) (f := 5000) ((tabkOk _ _).hyps ho) (LpOk.nil _) rfl hne ht run
def hyOe_p0 : LK := [(.rn, .x 2000000), (.bytes [], .x 5), (.len (.x 0), .x 6), (.bin .lss (.x 1) (.x 6), .b true), (.bin .add (.x 1) (.i .i64 (.ofNat 1)), .x 7), (.mm false (.x 6) (.x 7), .x 8), (.sub (.x 0) (some (.x 1)) (some (.x 8)), .x 9), (.bin .eql (.x 3) (.i .i64 (.ofNat 5)), .b false), (.bin .add (.x 1) (.x 10), .x 14), (.len (.x 9), .x 15), (.bin .lss (.x 10) (.x 15), .b false), (.bin .add (.x 2) (.i .i64 (.ofNat 1)), .x 16)]
def lh2 : LH := ⟨4, 60, 120, [(30, .b ⟨38, .l [.i .i64 (.ofNat 4000), .x 3, .nils, .b false, .x 4, .i .i64 (.ofNat 0), .nils], 0, 0, 0, false, false⟩)], [(30, .b ⟨38, .l [.i .i64 (.ofNat 4000), .x 11, .sy 60, .b false, .x 12, .i .i64 (.ofNat 0), .nils], 0, 0, 0, false, false⟩), (60, .t 13 5)]⟩
def lf2 : LF := ⟨4, 58, [(0, .p 30 0), (1, .x 9), (6, .i .i64 (.ofNat 0))], [], (.exit 0), [(6, .x 10)], some lh2⟩
noncomputable def tbOe_p0 : Tab := addLps ((tbl hyOe_p0)) 8 fi8 [lf2]
def LOe_p0 : List LF := []
theorem runOe_p0 : okRdH (code tbOe_p0 5000 LOe_p0 bodyOe (envOf (headOf epOe_0 keepOe) 117) ⟨lhSet hpOe_0 .leaf, 42, 0, 0⟩) .normal keepOe 117 140 [(0, .x 0), (1, .x 14), (2, .x 16), (3, .x 11), (4, .x 12), (5, .x 13)] [(40, 60)] 40 42 epOe_1 hpOe_1 = true := by kernel_rfl
theorem nxOe_p0 (lz : List LB) (mo : LB) (t i : Int) (X : Nat → Value) (hI : InvOe lz mo (0, t, i)) : RHOe lz mo E' x' e' h' (0, t, i) X := by
  obtain ⟨i0, i1, i2, i3, i4, i5, i6, i7, i8, i9, i10, i11, i12, i13, it⟩ := unIOe lz mo 0 t i hI
  obtain ⟨y1, y2, y3, y4, y5, y6, y7, y8⟩ := any_ (l := lz) (i := t) i5 (by omega) (by omega)
  have hNl := nA_lo (l := lz)
  have hn0 : ([] : LB).length = 0 := rfl
  have hsl := ckn (l := lz) (mo := mo)
  obtain ⟨huA, hxl, heA, hpE, z1, z2, z5, z6, hmo, hzt⟩ := rndC (l := lz) (mo := mo) (t := t) (k := 1) i5 i0 i1 (by omega) (by omega)
  have hk := k0 (l := lz) i5 (i := t) (by omega)
  rw [show t + 1 = (t + (eE lz mo t 1)) by omega] at hk; obtain ⟨hk1, hk2⟩ := hk
  have ho : ∀ a' r', (a', r') ∈ hyOe_p0 → HOk (CXOe_0 lz mo t i X) a' r' := by
    unfold hyOe_p0
    exact hc (kRn (denX rfl)) <|
     hc (kBytesB (bs := ([] : LB)) .nil (denX rfl)) <|
     hc (lnV rfl rfl (by omega)) <|
     hc (ltT rfl rfl (by omega)) <|
     hc (adC rfl rfl (by omega)) <|
     hc (kMin (isX rfl) (isX rfl) (denX rfl) (by rw [huA, hsl]; try omega)) <|
     hc (mdV rfl rfl rfl rfl (by omega)) <|
     hc (eqcF rfl (by omega)) <|
     hc (adX rfl rfl rfl (by omega)) <|
     hc (lnV rfl rfl (by omega)) <|
     hc (ltF rfl rfl (by omega)) <|
     hc (adC rfl rfl (by omega)) <|
     hnil
  exact sLOe_0 lz mo t i (tb := tbOe_p0) (L := LOe_p0) (1, (t + (eE lz mo t 1)), (i + 1)) (AllOk.lp1 ((tabkOk _ _).hyps ho) (by omega) fi8_at fi8_body (lfCons (lpKnown rfl ⟨0, keyFd, lfOkFd_0 (l := lf2) (h := lh2) lz (xS lz mo t (uA lz mo t 1)) mo t (eE lz mo t 1) i0 (⟨by omega, by omega⟩) (by omega) i5 i6 xS_P (by omega) (by omega) (by first | assumption | omega) (by first | assumption | (show (DA lz (t + (eE lz mo t 1))).length = 0; omega)) (0, (0 : Int)) (fdI (by omega) (by omega) i8 i9 i10 i11 i12 i13 (by decide)) rfl (by kernel_rfl) (th0 := [(0, .x 9), (1, .i .i64 (.ofNat 0)), (2, .x 3), (3, .x 4)]) (sg0 := []) (fun X => thXv (v := St' (xS lz mo t (uA lz mo t 1))) rfl rfl (thCons (show Is _ (.i .i64 (.ofNat 0)) (.int .i64 ((0 : Int))) from isTo (v := .int .i64 0) (isI _ _) (by first | rfl | (congr 1; omega))) (thXe (v := .int .i64 ((wA lz t))) (u := .int .i64 ((wA lz (t + (0 : Int))))) rfl rfl (by rw [hzt]) (thXe (v := .int .i64 ((fA lz t))) (u := .int .i64 ((fA lz (t + (0 : Int))))) rfl rfl (by rw [hzt]) (thNil))))) (by kernel_rfl) (thx := [(10, .x 0), (11, .x 1), (12, .x 2), (13, .x 3)]) (thXv (v := .int .i64 ((eE lz mo t 1))) rfl rfl (thXv (v := .int .i64 ((wA lz (t + (eE lz mo t 1))))) rfl rfl (thXv (v := .int .i64 ((fA lz (t + (eE lz mo t 1))))) rfl rfl (thXv (v := St' (lnA lz (t + (eE lz mo t 1)))) rfl rfl (thNil))))) (by kernel_rfl)⟩) lfNil)) (lpOk_one lfNil) rfl (mkIOe lz mo 1 (t + (eE lz mo t 1)) (i + 1) ⟨by omega, by omega, by omega, by omega, i4, i5, i6, i7, fun h => by omega, fun _ => by omega, fun _ => by first | assumption | omega, fun h => by omega, fun _ => by first | assumption | omega, fun h => by omega, by omega⟩) (by show (nA lz - (t + (eE lz mo t 1))).toNat < (nA lz - t).toNat; omega) (thXv (v := St' (ckS lz ++ mo)) rfl rfl (thXi (b := ((t + (eE lz mo t 1)))) rfl rfl (by omega) (thXi (b := ((i + 1))) rfl rfl (by omega) (thXv (v := .int .i64 ((wA lz (t + (eE lz mo t 1))))) rfl rfl (thXv (v := .int .i64 ((fA lz (t + (eE lz mo t 1))))) rfl rfl (thXv (v := St' (lnA lz (t + (eE lz mo t 1)))) rfl rfl (thNil))))))) runOe_p0
def hyOe_p1 : LK := [(.rn, .x 2000000), (.bytes [], .x 6), (.len (.x 0), .x 7), (.bin .lss (.x 1) (.x 7), .b true), (.bin .add (.x 1) (.i .i64 (.ofNat 1)), .x 8), (.mm false (.x 7) (.x 8), .x 9), (.sub (.x 0) (some (.x 1)) (some (.x 9)), .x 10), (.bin .eql (.x 3) (.i .i64 (.ofNat 5)), .b false), (.bin .add (.x 1) (.x 11), .x 15), (.len (.x 10), .x 16), (.bin .lss (.x 11) (.x 16), .b false), (.bin .add (.x 2) (.i .i64 (.ofNat 1)), .x 17)]
def lh5 : LH := ⟨4, 60, 120, [(30, .b ⟨38, .l [.i .i64 (.ofNat 4000), .x 3, .sy 40, .b false, .x 4, .i .i64 (.ofNat 0), .nils], 0, 0, 0, false, false⟩), (40, .t 5 5)], [(30, .b ⟨38, .l [.i .i64 (.ofNat 4000), .x 12, .sy 60, .b true, .x 13, .i .i64 (.ofNat 0), .nils], 0, 0, 0, false, false⟩), (60, .t 14 5)]⟩
def lf5 : LF := ⟨4, 58, [(0, .p 30 0), (1, .x 10), (6, .i .i64 (.ofNat 0))], [], (.exit 0), [(6, .x 11)], some lh5⟩
noncomputable def tbOe_p1 : Tab := addLps ((tbl hyOe_p1)) 8 fi8 [lf5]
def LOe_p1 : List LF := []
theorem runOe_p1 : okRdH (code tbOe_p1 5000 LOe_p1 bodyOe (envOf (headOf epOe_1 keepOe) 117) ⟨lhSet hpOe_1 .leaf, 42, 0, 0⟩) .normal keepOe 117 140 [(0, .x 0), (1, .x 15), (2, .x 17), (3, .x 12), (4, .x 13), (5, .x 14)] [(40, 60)] 40 42 epOe_2 hpOe_2 = true := by kernel_rfl
theorem nxOe_p1 (lz : List LB) (mo : LB) (t i : Int) (X : Nat → Value) (hI : InvOe lz mo (1, t, i)) (h0 : t < ((ckS lz ++ mo).length : Int)) (h2 : cA lz (t + (eE lz mo t 1)) = true) : RHOe lz mo E' x' e' h' (1, t, i) X := by
  obtain ⟨i0, i1, i2, i3, i4, i5, i6, i7, i8, i9, i10, i11, i12, i13, it⟩ := unIOe lz mo 1 t i hI
  obtain ⟨y1, y2, y3, y4, y5, y6, y7, y8⟩ := any_ (l := lz) (i := t) i5 (by omega) (by omega)
  have hNl := nA_lo (l := lz)
  have hn0 : ([] : LB).length = 0 := rfl
  have hsl := ckn (l := lz) (mo := mo)
  obtain ⟨huA, hxl, heA, hpE, z1, z2, z5, z6, hmo, hzt⟩ := rndC (l := lz) (mo := mo) (t := t) (k := 1) i5 i0 i1 (by omega) (by omega)
  have hkz : (t + (eE lz mo t 1)) = t → (DA lz (t + (eE lz mo t 1))).length = (DA lz t).length := fun h => by rw [h]
  have hk3 := i12 (by omega)
  have hk2 := kT (l := lz) (mo := mo) (t := t) i5 i0 i1 (by omega) (i10 (by omega)) (by assumption)
  have hz4 : ¬ wA lz (t + (eE lz mo t 1)) = 4 := fun q => by have := (z2 q).2; rw [(by assumption : cA lz (t + (eE lz mo t 1)) = true)] at this; cases this
  have ho : ∀ a' r', (a', r') ∈ hyOe_p1 → HOk (CXOe_1 lz mo t i X) a' r' := by
    unfold hyOe_p1
    exact hc (kRn (denX rfl)) <|
     hc (kBytesB (bs := ([] : LB)) .nil (denX rfl)) <|
     hc (lnV rfl rfl (by omega)) <|
     hc (ltT rfl rfl (by omega)) <|
     hc (adC rfl rfl (by omega)) <|
     hc (kMin (isX rfl) (isX rfl) (denX rfl) (by rw [huA, hsl]; try omega)) <|
     hc (mdV rfl rfl rfl rfl (by omega)) <|
     hc (eqcF rfl (by omega)) <|
     hc (adX rfl rfl rfl (by omega)) <|
     hc (lnV rfl rfl (by omega)) <|
     hc (ltF rfl rfl (by omega)) <|
     hc (adC rfl rfl (by omega)) <|
     hnil
  exact sLOe_1 lz mo t i (tb := tbOe_p1) (L := LOe_p1) (2, (t + (eE lz mo t 1)), (i + 1)) (AllOk.lp1 ((tabkOk _ _).hyps ho) (by omega) fi8_at fi8_body (lfCons (lpKnown rfl ⟨0, keyFd, lfOkFd_1 (l := lf5) (h := lh5) lz (xS lz mo t (uA lz mo t 1)) mo t (eE lz mo t 1) i0 (⟨by omega, by omega⟩) (by omega) i5 i6 xS_P (by omega) (by omega) (by first | assumption | omega) (by first | assumption | (show (DA lz (t + (eE lz mo t 1))).length = 0; omega)) (1, (0 : Int)) (fdI (by omega) (by omega) i8 i9 i10 i11 i12 i13 (by decide)) rfl (by kernel_rfl) (th0 := [(0, .x 10), (1, .i .i64 (.ofNat 0)), (2, .x 3), (3, .x 4), (4, .x 5)]) (sg0 := [(60, 40)]) (fun X => thXv (v := St' (xS lz mo t (uA lz mo t 1))) rfl rfl (thCons (show Is _ (.i .i64 (.ofNat 0)) (.int .i64 ((0 : Int))) from isTo (v := .int .i64 0) (isI _ _) (by first | rfl | (congr 1; omega))) (thXe (v := .int .i64 ((wA lz t))) (u := .int .i64 ((wA lz (t + (0 : Int))))) rfl rfl (by rw [hzt]) (thXe (v := .int .i64 ((fA lz t))) (u := .int .i64 ((fA lz (t + (0 : Int))))) rfl rfl (by rw [hzt]) (thXe (v := St' (lnA lz t)) (u := St' (lnA lz (t + (0 : Int)))) rfl rfl (by rw [hzt]) (thNil)))))) (by kernel_rfl) (thx := [(11, .x 0), (12, .x 1), (13, .x 2), (14, .x 3)]) (thXv (v := .int .i64 ((eE lz mo t 1))) rfl rfl (thXv (v := .int .i64 ((wA lz (t + (eE lz mo t 1))))) rfl rfl (thXv (v := .int .i64 ((fA lz (t + (eE lz mo t 1))))) rfl rfl (thXv (v := St' (lnA lz (t + (eE lz mo t 1)))) rfl rfl (thNil))))) (by kernel_rfl)⟩) lfNil)) (lpOk_one lfNil) rfl (mkIOe lz mo 2 (t + (eE lz mo t 1)) (i + 1) ⟨by omega, by omega, by omega, by omega, i4, i5, i6, i7, fun h => by omega, fun _ => by omega, fun h => by omega, fun _ => by first | assumption | omega, fun _ => by first | assumption | omega, fun h => by omega, by omega⟩) (by show (nA lz - (t + (eE lz mo t 1))).toNat < (nA lz - t).toNat; omega) (thXv (v := St' (ckS lz ++ mo)) rfl rfl (thXi (b := ((t + (eE lz mo t 1)))) rfl rfl (by omega) (thXi (b := ((i + 1))) rfl rfl (by omega) (thXv (v := .int .i64 ((wA lz (t + (eE lz mo t 1))))) rfl rfl (thXv (v := .int .i64 ((fA lz (t + (eE lz mo t 1))))) rfl rfl (thXv (v := St' (lnA lz (t + (eE lz mo t 1)))) rfl rfl (thNil))))))) runOe_p1
def hyOe_p2 : LK := [(.rn, .x 2000000), (.bytes [], .x 6), (.len (.x 0), .x 7), (.bin .lss (.x 1) (.x 7), .b true), (.bin .add (.x 1) (.i .i64 (.ofNat 1)), .x 8), (.mm false (.x 7) (.x 8), .x 9), (.sub (.x 0) (some (.x 1)) (some (.x 9)), .x 10), (.bin .eql (.x 3) (.i .i64 (.ofNat 5)), .b false), (.bin .add (.x 1) (.x 11), .x 15), (.len (.x 10), .x 16), (.bin .lss (.x 11) (.x 16), .b false), (.bin .add (.x 2) (.i .i64 (.ofNat 1)), .x 17)]
def lh8 : LH := ⟨4, 60, 120, [(30, .b ⟨38, .l [.i .i64 (.ofNat 4000), .x 3, .sy 40, .b true, .x 4, .i .i64 (.ofNat 0), .nils], 0, 0, 0, false, false⟩), (40, .t 5 5)], [(30, .b ⟨38, .l [.i .i64 (.ofNat 4000), .x 12, .sy 60, .b false, .x 13, .i .i64 (.ofNat 0), .nils], 0, 0, 0, false, false⟩), (60, .t 14 5)]⟩
def lf8 : LF := ⟨4, 58, [(0, .p 30 0), (1, .x 10), (6, .i .i64 (.ofNat 0))], [], (.exit 0), [(6, .x 11)], some lh8⟩
noncomputable def tbOe_p2 : Tab := addLps ((tbl hyOe_p2)) 8 fi8 [lf8]
def LOe_p2 : List LF := []
theorem runOe_p2 : okRdH (code tbOe_p2 5000 LOe_p2 bodyOe (envOf (headOf epOe_2 keepOe) 117) ⟨lhSet hpOe_2 .leaf, 42, 0, 0⟩) .normal keepOe 117 140 [(0, .x 0), (1, .x 15), (2, .x 17), (3, .x 12), (4, .x 13), (5, .x 14)] [(40, 60)] 40 42 epOe_1 hpOe_1 = true := by kernel_rfl
theorem nxOe_p2 (lz : List LB) (mo : LB) (t i : Int) (X : Nat → Value) (hI : InvOe lz mo (2, t, i)) : RHOe lz mo E' x' e' h' (2, t, i) X := by
  obtain ⟨i0, i1, i2, i3, i4, i5, i6, i7, i8, i9, i10, i11, i12, i13, it⟩ := unIOe lz mo 2 t i hI
  obtain ⟨y1, y2, y3, y4, y5, y6, y7, y8⟩ := any_ (l := lz) (i := t) i5 (by omega) (by omega)
  have hNl := nA_lo (l := lz)
  have hn0 : ([] : LB).length = 0 := rfl
  have hx4 : ¬ wA lz t = 4 := fun q => by have := (y2 q).2; rw [i11 (by omega)] at this; cases this
  have hsl := ckn (l := lz) (mo := mo)
  obtain ⟨huA, hxl, heA, hpE, z1, z2, z5, z6, hmo, hzt⟩ := rndC (l := lz) (mo := mo) (t := t) (k := 1) i5 i0 i1 (by omega) (by omega)
  have hk := k1 (l := lz) (i := t) i5 i0 (by omega) (i11 (by omega))
  rw [show t + 1 = (t + (eE lz mo t 1)) by omega] at hk; obtain ⟨hk1, hk2⟩ := hk
  have hk3 := i12 (by omega)
  have ho : ∀ a' r', (a', r') ∈ hyOe_p2 → HOk (CXOe_2 lz mo t i X) a' r' := by
    unfold hyOe_p2
    exact hc (kRn (denX rfl)) <|
     hc (kBytesB (bs := ([] : LB)) .nil (denX rfl)) <|
     hc (lnV rfl rfl (by omega)) <|
     hc (ltT rfl rfl (by omega)) <|
     hc (adC rfl rfl (by omega)) <|
     hc (kMin (isX rfl) (isX rfl) (denX rfl) (by rw [huA, hsl]; try omega)) <|
     hc (mdV rfl rfl rfl rfl (by omega)) <|
     hc (eqcF rfl (by omega)) <|
     hc (adX rfl rfl rfl (by omega)) <|
     hc (lnV rfl rfl (by omega)) <|
     hc (ltF rfl rfl (by omega)) <|
     hc (adC rfl rfl (by omega)) <|
     hnil
  exact sLOe_2 lz mo t i (tb := tbOe_p2) (L := LOe_p2) (1, (t + (eE lz mo t 1)), (i + 1)) (AllOk.lp1 ((tabkOk _ _).hyps ho) (by omega) fi8_at fi8_body (lfCons (lpKnown rfl ⟨0, keyFd, lfOkFd_0 (l := lf8) (h := lh8) lz (xS lz mo t (uA lz mo t 1)) mo t (eE lz mo t 1) i0 (⟨by omega, by omega⟩) (by omega) i5 i6 xS_P (by omega) (by omega) (by first | assumption | omega) (by first | assumption | (show (DA lz (t + (eE lz mo t 1))).length = 0; omega)) (2, (0 : Int)) (fdI (by omega) (by omega) i8 i9 i10 i11 i12 i13 (by decide)) rfl (by kernel_rfl) (th0 := [(0, .x 10), (1, .i .i64 (.ofNat 0)), (2, .x 3), (3, .x 4), (4, .x 5)]) (sg0 := [(60, 40)]) (fun X => thXv (v := St' (xS lz mo t (uA lz mo t 1))) rfl rfl (thCons (show Is _ (.i .i64 (.ofNat 0)) (.int .i64 ((0 : Int))) from isTo (v := .int .i64 0) (isI _ _) (by first | rfl | (congr 1; omega))) (thXe (v := .int .i64 ((wA lz t))) (u := .int .i64 ((wA lz (t + (0 : Int))))) rfl rfl (by rw [hzt]) (thXe (v := .int .i64 ((fA lz t))) (u := .int .i64 ((fA lz (t + (0 : Int))))) rfl rfl (by rw [hzt]) (thXe (v := St' (lnA lz t)) (u := St' (lnA lz (t + (0 : Int)))) rfl rfl (by rw [hzt]) (thNil)))))) (by kernel_rfl) (thx := [(11, .x 0), (12, .x 1), (13, .x 2), (14, .x 3)]) (thXv (v := .int .i64 ((eE lz mo t 1))) rfl rfl (thXv (v := .int .i64 ((wA lz (t + (eE lz mo t 1))))) rfl rfl (thXv (v := .int .i64 ((fA lz (t + (eE lz mo t 1))))) rfl rfl (thXv (v := St' (lnA lz (t + (eE lz mo t 1)))) rfl rfl (thNil))))) (by kernel_rfl)⟩) lfNil)) (lpOk_one lfNil) rfl (mkIOe lz mo 1 (t + (eE lz mo t 1)) (i + 1) ⟨by omega, by omega, by omega, by omega, i4, i5, i6, i7, fun h => by omega, fun _ => by omega, fun _ => by first | assumption | omega, fun h => by omega, fun _ => by first | assumption | omega, fun h => by omega, by omega⟩) (by show (nA lz - (t + (eE lz mo t 1))).toNat < (nA lz - t).toNat; omega) (thXv (v := St' (ckS lz ++ mo)) rfl rfl (thXi (b := ((t + (eE lz mo t 1)))) rfl rfl (by omega) (thXi (b := ((i + 1))) rfl rfl (by omega) (thXv (v := .int .i64 ((wA lz (t + (eE lz mo t 1))))) rfl rfl (thXv (v := .int .i64 ((fA lz (t + (eE lz mo t 1))))) rfl rfl (thXv (v := St' (lnA lz (t + (eE lz mo t 1)))) rfl rfl (thNil))))))) runOe_p2
def hyOe_p3 : LK := [(.rn, .x 2000001), (.bytes [], .x 18), (.len (.x 0), .x 19), (.bin .lss (.x 1) (.x 19), .b true), (.bin .add (.x 1) (.i .i64 (.ofNat 1)), .x 20), (.mm false (.x 19) (.x 20), .x 21), (.sub (.x 0) (some (.x 1)) (some (.x 21)), .x 22), (.bin .eql (.x 3) (.i .i64 (.ofNat 5)), .b false), (.bin .add (.x 1) (.x 23), .x 28), (.len (.x 22), .x 29), (.bin .lss (.x 23) (.x 29), .b false), (.bin .add (.x 2) (.i .i64 (.ofNat 1)), .x 30)]
def lh11 : LH := ⟨4, 60, 120, [(30, .b ⟨38, .l [.i .i64 (.ofNat 4000), .x 3, .sy 40, .b false, .x 4, .i .i64 (.ofNat 0), .nils], 0, 0, 0, false, false⟩), (40, .t 5 5)], [(30, .b ⟨38, .l [.i .i64 (.ofNat 4000), .x 24, .sy 60, .b false, .x 25, .i .i64 (.ofNat 0), .sy 61], 0, 0, 0, false, false⟩), (60, .t 26 5), (61, .t 27 5)]⟩
def lf11 : LF := ⟨4, 58, [(0, .p 30 0), (1, .x 22), (6, .i .i64 (.ofNat 0))], [], (.exit 0), [(6, .x 23)], some lh11⟩
noncomputable def tbOe_p3 : Tab := addLps ((tbl hyOe_p3)) 8 fi8 [lf11]
def LOe_p3 : List LF := []
theorem runOe_p3 : okRdH (code tbOe_p3 5000 LOe_p3 bodyOe (envOf (headOf epOe_1 keepOe) 117) ⟨lhSet hpOe_1 .leaf, 42, 0, 0⟩) .normal keepOe 117 140 [(0, .x 0), (1, .x 28), (2, .x 30), (3, .x 24), (4, .x 25), (5, .x 26), (6, .x 27)] [(40, 60), (41, 61)] 40 42 epOe_3 hpOe_3 = true := by kernel_rfl
theorem nxOe_p3 (lz : List LB) (mo : LB) (t i : Int) (X : Nat → Value) (hI : InvOe lz mo (1, t, i)) (h0 : t < ((ckS lz ++ mo).length : Int)) (h2 : ¬ (cA lz (t + (eE lz mo t 1)) = true)) (h3 : ¬ ((DA lz (t + (eE lz mo t 1))).length = 0)) : RHOe lz mo E' x' e' h' (1, t, i) X := by
  obtain ⟨i0, i1, i2, i3, i4, i5, i6, i7, i8, i9, i10, i11, i12, i13, it⟩ := unIOe lz mo 1 t i hI
  obtain ⟨y1, y2, y3, y4, y5, y6, y7, y8⟩ := any_ (l := lz) (i := t) i5 (by omega) (by omega)
  have hNl := nA_lo (l := lz)
  have hn0 : ([] : LB).length = 0 := rfl
  have hsl := ckn (l := lz) (mo := mo)
  obtain ⟨huA, hxl, heA, hpE, z1, z2, z5, z6, hmo, hzt⟩ := rndC (l := lz) (mo := mo) (t := t) (k := 1) i5 i0 i1 (by omega) (by omega)
  have hkz : (t + (eE lz mo t 1)) = t → (DA lz (t + (eE lz mo t 1))).length = (DA lz t).length := fun h => by rw [h]
  have hk3 := i12 (by omega)
  have ho : ∀ a' r', (a', r') ∈ hyOe_p3 → HOk (CXOe_1 lz mo t i X) a' r' := by
    unfold hyOe_p3
    exact hc (kRn (denX rfl)) <|
     hc (kBytesB (bs := ([] : LB)) .nil (denX rfl)) <|
     hc (lnV rfl rfl (by omega)) <|
     hc (ltT rfl rfl (by omega)) <|
     hc (adC rfl rfl (by omega)) <|
     hc (kMin (isX rfl) (isX rfl) (denX rfl) (by rw [huA, hsl]; try omega)) <|
     hc (mdV rfl rfl rfl rfl (by omega)) <|
     hc (eqcF rfl (by omega)) <|
     hc (adX rfl rfl rfl (by omega)) <|
     hc (lnV rfl rfl (by omega)) <|
     hc (ltF rfl rfl (by omega)) <|
     hc (adC rfl rfl (by omega)) <|
     hnil
  exact sLOe_1 lz mo t i (tb := tbOe_p3) (L := LOe_p3) (3, (t + (eE lz mo t 1)), (i + 1)) (AllOk.lp1 ((tabkOk _ _).hyps ho) (by omega) fi8_at fi8_body (lfCons (lpKnown rfl ⟨0, keyFd, lfOkFd_2 (l := lf11) (h := lh11) lz (xS lz mo t (uA lz mo t 1)) mo t (eE lz mo t 1) i0 (⟨by omega, by omega⟩) (by omega) i5 i6 xS_P (by omega) (by omega) (by first | assumption | omega) (by first | assumption | (show ¬ (DA lz (t + (eE lz mo t 1))).length = 0; omega)) (1, (0 : Int)) (fdI (by omega) (by omega) i8 i9 i10 i11 i12 i13 (by decide)) rfl (by kernel_rfl) (th0 := [(0, .x 22), (1, .i .i64 (.ofNat 0)), (2, .x 3), (3, .x 4), (4, .x 5)]) (sg0 := [(60, 40)]) (fun X => thXv (v := St' (xS lz mo t (uA lz mo t 1))) rfl rfl (thCons (show Is _ (.i .i64 (.ofNat 0)) (.int .i64 ((0 : Int))) from isTo (v := .int .i64 0) (isI _ _) (by first | rfl | (congr 1; omega))) (thXe (v := .int .i64 ((wA lz t))) (u := .int .i64 ((wA lz (t + (0 : Int))))) rfl rfl (by rw [hzt]) (thXe (v := .int .i64 ((fA lz t))) (u := .int .i64 ((fA lz (t + (0 : Int))))) rfl rfl (by rw [hzt]) (thXe (v := St' (lnA lz t)) (u := St' (lnA lz (t + (0 : Int)))) rfl rfl (by rw [hzt]) (thNil)))))) (by kernel_rfl) (thx := [(23, .x 0), (24, .x 1), (25, .x 2), (26, .x 3), (27, .x 4)]) (thXv (v := .int .i64 ((eE lz mo t 1))) rfl rfl (thXv (v := .int .i64 ((wA lz (t + (eE lz mo t 1))))) rfl rfl (thXv (v := .int .i64 ((fA lz (t + (eE lz mo t 1))))) rfl rfl (thXv (v := St' (lnA lz (t + (eE lz mo t 1)))) rfl rfl (thXv (v := St' (DA lz (t + (eE lz mo t 1)))) rfl rfl (thNil)))))) (by kernel_rfl)⟩) lfNil)) (lpOk_one lfNil) rfl (mkIOe lz mo 3 (t + (eE lz mo t 1)) (i + 1) ⟨by omega, by omega, by omega, by omega, i4, i5, i6, i7, fun h => by omega, fun _ => by omega, fun _ => by first | assumption | omega, fun h => by omega, fun h => by omega, fun _ => by first | assumption | omega, by omega⟩) (by show (nA lz - (t + (eE lz mo t 1))).toNat < (nA lz - t).toNat; omega) (thXv (v := St' (ckS lz ++ mo)) rfl rfl (thXi (b := ((t + (eE lz mo t 1)))) rfl rfl (by omega) (thXi (b := ((i + 1))) rfl rfl (by omega) (thXv (v := .int .i64 ((wA lz (t + (eE lz mo t 1))))) rfl rfl (thXv (v := .int .i64 ((fA lz (t + (eE lz mo t 1))))) rfl rfl (thXv (v := St' (lnA lz (t + (eE lz mo t 1)))) rfl rfl (thXv (v := St' (DA lz (t + (eE lz mo t 1)))) rfl rfl (thNil)))))))) runOe_p3
def hyOe_p4 : LK := [(.rn, .x 2000000), (.bytes [], .x 7), (.len (.x 0), .x 8), (.bin .lss (.x 1) (.x 8), .b true), (.bin .add (.x 1) (.i .i64 (.ofNat 1)), .x 9), (.mm false (.x 8) (.x 9), .x 10), (.sub (.x 0) (some (.x 1)) (some (.x 10)), .x 11), (.bin .eql (.x 3) (.i .i64 (.ofNat 5)), .b false), (.bin .add (.x 1) (.x 12), .x 17), (.len (.x 11), .x 18), (.bin .lss (.x 12) (.x 18), .b false), (.bin .add (.x 2) (.i .i64 (.ofNat 1)), .x 19)]
def lh14 : LH := ⟨4, 60, 120, [(30, .b ⟨38, .l [.i .i64 (.ofNat 4000), .x 3, .sy 40, .b false, .x 4, .i .i64 (.ofNat 0), .sy 41], 0, 0, 0, false, false⟩), (40, .t 5 5), (41, .t 6 5)], [(30, .b ⟨38, .l [.i .i64 (.ofNat 4000), .x 13, .sy 60, .b false, .x 14, .i .i64 (.ofNat 0), .sy 61], 0, 0, 0, false, false⟩), (60, .t 15 5), (61, .t 16 5)]⟩
def lf14 : LF := ⟨4, 58, [(0, .p 30 0), (1, .x 11), (6, .i .i64 (.ofNat 0))], [], (.exit 0), [(6, .x 12)], some lh14⟩
noncomputable def tbOe_p4 : Tab := addLps ((tbl hyOe_p4)) 8 fi8 [lf14]
def LOe_p4 : List LF := []
theorem runOe_p4 : okRdH (code tbOe_p4 5000 LOe_p4 bodyOe (envOf (headOf epOe_3 keepOe) 117) ⟨lhSet hpOe_3 .leaf, 42, 0, 0⟩) .normal keepOe 117 140 [(0, .x 0), (1, .x 17), (2, .x 19), (3, .x 13), (4, .x 14), (5, .x 15), (6, .x 16)] [(40, 60), (41, 61)] 40 42 epOe_3 hpOe_3 = true := by kernel_rfl
theorem nxOe_p4 (lz : List LB) (mo : LB) (t i : Int) (X : Nat → Value) (hI : InvOe lz mo (3, t, i)) (h0 : t < ((ckS lz ++ mo).length : Int)) (h2 : ¬ (cA lz (t + (eE lz mo t 1)) = true)) (h4 : ¬ ((eE lz mo t 1) < (uA lz mo t 1) - t)) : RHOe lz mo E' x' e' h' (3, t, i) X := by
  obtain ⟨i0, i1, i2, i3, i4, i5, i6, i7, i8, i9, i10, i11, i12, i13, it⟩ := unIOe lz mo 3 t i hI
  obtain ⟨y1, y2, y3, y4, y5, y6, y7, y8⟩ := any_ (l := lz) (i := t) i5 (by omega) (by omega)
  have hNl := nA_lo (l := lz)
  have hn0 : ([] : LB).length = 0 := rfl
  have h13 := i13 (by omega)
  have hsl := ckn (l := lz) (mo := mo)
  obtain ⟨huA, hxl, heA, hpE, z1, z2, z5, z6, hmo, hzt⟩ := rndC (l := lz) (mo := mo) (t := t) (k := 1) i5 i0 i1 (by omega) (by omega)
  have hkz : (t + (eE lz mo t 1)) = t → (DA lz (t + (eE lz mo t 1))).length = (DA lz t).length := fun h => by rw [h]
  have hk3 := i13 (by omega)
  have ho : ∀ a' r', (a', r') ∈ hyOe_p4 → HOk (CXOe_3 lz mo t i X) a' r' := by
    unfold hyOe_p4
    exact hc (kRn (denX rfl)) <|
     hc (kBytesB (bs := ([] : LB)) .nil (denX rfl)) <|
     hc (lnV rfl rfl (by omega)) <|
     hc (ltT rfl rfl (by omega)) <|
     hc (adC rfl rfl (by omega)) <|
     hc (kMin (isX rfl) (isX rfl) (denX rfl) (by rw [huA, hsl]; try omega)) <|
     hc (mdV rfl rfl rfl rfl (by omega)) <|
     hc (eqcF rfl (by omega)) <|
     hc (adX rfl rfl rfl (by omega)) <|
     hc (lnV rfl rfl (by omega)) <|
     hc (ltF rfl rfl (by omega)) <|
     hc (adC rfl rfl (by omega)) <|
     hnil
  exact sLOe_3 lz mo t i (tb := tbOe_p4) (L := LOe_p4) (3, (t + (eE lz mo t 1)), (i + 1)) (AllOk.lp1 ((tabkOk _ _).hyps ho) (by omega) fi8_at fi8_body (lfCons (lpKnown rfl ⟨0, keyFd, lfOkFd_2 (l := lf14) (h := lh14) lz (xS lz mo t (uA lz mo t 1)) mo t (eE lz mo t 1) i0 (⟨by omega, by omega⟩) (by omega) i5 i6 xS_P (by omega) (by omega) (by first | assumption | omega) (by first | assumption | (show ¬ (DA lz (t + (eE lz mo t 1))).length = 0; omega)) (3, (0 : Int)) (fdI (by omega) (by omega) i8 i9 i10 i11 i12 i13 (by decide)) rfl (by kernel_rfl) (th0 := [(0, .x 11), (1, .i .i64 (.ofNat 0)), (2, .x 3), (3, .x 4), (4, .x 5), (5, .x 6)]) (sg0 := [(60, 40), (61, 41)]) (fun X => thXv (v := St' (xS lz mo t (uA lz mo t 1))) rfl rfl (thCons (show Is _ (.i .i64 (.ofNat 0)) (.int .i64 ((0 : Int))) from isTo (v := .int .i64 0) (isI _ _) (by first | rfl | (congr 1; omega))) (thXe (v := .int .i64 ((wA lz t))) (u := .int .i64 ((wA lz (t + (0 : Int))))) rfl rfl (by rw [hzt]) (thXe (v := .int .i64 ((fA lz t))) (u := .int .i64 ((fA lz (t + (0 : Int))))) rfl rfl (by rw [hzt]) (thXe (v := St' (lnA lz t)) (u := St' (lnA lz (t + (0 : Int)))) rfl rfl (by rw [hzt]) (thXe (v := St' (DA lz t)) (u := St' (DA lz (t + (0 : Int)))) rfl rfl (by rw [hzt]) (thNil))))))) (by kernel_rfl) (thx := [(12, .x 0), (13, .x 1), (14, .x 2), (15, .x 3), (16, .x 4)]) (thXv (v := .int .i64 ((eE lz mo t 1))) rfl rfl (thXv (v := .int .i64 ((wA lz (t + (eE lz mo t 1))))) rfl rfl (thXv (v := .int .i64 ((fA lz (t + (eE lz mo t 1))))) rfl rfl (thXv (v := St' (lnA lz (t + (eE lz mo t 1)))) rfl rfl (thXv (v := St' (DA lz (t + (eE lz mo t 1)))) rfl rfl (thNil)))))) (by kernel_rfl)⟩) lfNil)) (lpOk_one lfNil) rfl (mkIOe lz mo 3 (t + (eE lz mo t 1)) (i + 1) ⟨by omega, by omega, by omega, by omega, i4, i5, i6, i7, fun h => by omega, fun _ => by omega, fun _ => by first | assumption | omega, fun h => by omega, fun h => by omega, fun _ => by first | assumption | omega, by omega⟩) (by show (nA lz - (t + (eE lz mo t 1))).toNat < (nA lz - t).toNat; omega) (thXv (v := St' (ckS lz ++ mo)) rfl rfl (thXi (b := ((t + (eE lz mo t 1)))) rfl rfl (by omega) (thXi (b := ((i + 1))) rfl rfl (by omega) (thXv (v := .int .i64 ((wA lz (t + (eE lz mo t 1))))) rfl rfl (thXv (v := .int .i64 ((fA lz (t + (eE lz mo t 1))))) rfl rfl (thXv (v := St' (lnA lz (t + (eE lz mo t 1)))) rfl rfl (thXv (v := St' (DA lz (t + (eE lz mo t 1)))) rfl rfl (thNil)))))))) runOe_p4
def hyOe_p5 : LK := [(.rn, .x 2000001), (.bytes [], .x 20), (.len (.x 0), .x 21), (.bin .lss (.x 1) (.x 21), .b true), (.bin .add (.x 1) (.i .i64 (.ofNat 1)), .x 22), (.mm false (.x 21) (.x 22), .x 23), (.sub (.x 0) (some (.x 1)) (some (.x 23)), .x 24), (.bin .eql (.x 3) (.i .i64 (.ofNat 5)), .b false), (.bin .add (.x 1) (.x 25), .x 30), (.len (.x 24), .x 31), (.bin .lss (.x 25) (.x 31), .b false), (.bin .add (.x 2) (.i .i64 (.ofNat 1)), .x 32)]
def lh20 : LH := ⟨4, 60, 120, [(30, .b ⟨38, .l [.i .i64 (.ofNat 4000), .x 3, .sy 40, .b false, .x 4, .i .i64 (.ofNat 0), .sy 41], 0, 0, 0, false, false⟩), (40, .t 5 5), (41, .t 6 5)], [(30, .b ⟨38, .l [.i .i64 (.ofNat 4000), .x 26, .sy 60, .b true, .x 27, .i .i64 (.ofNat 0), .sy 61], 0, 0, 0, false, false⟩), (60, .t 28 5), (61, .t 29 5)]⟩
def lf20 : LF := ⟨4, 58, [(0, .p 30 0), (1, .x 24), (6, .i .i64 (.ofNat 0))], [], (.exit 0), [(6, .x 25)], some lh20⟩
noncomputable def tbOe_p5 : Tab := addLps ((tbl hyOe_p5)) 8 fi8 [lf20]
def LOe_p5 : List LF := []
theorem runOe_p5 : okRdH (code tbOe_p5 5000 LOe_p5 bodyOe (envOf (headOf epOe_3 keepOe) 117) ⟨lhSet hpOe_3 .leaf, 42, 0, 0⟩) .normal keepOe 117 140 [(0, .x 0), (1, .x 30), (2, .x 32), (3, .x 26), (4, .x 27), (5, .x 28), (6, .x 29)] [(40, 60), (41, 61)] 40 42 epOe_4 hpOe_4 = true := by kernel_rfl
theorem nxOe_p5 (lz : List LB) (mo : LB) (t i : Int) (X : Nat → Value) (hI : InvOe lz mo (3, t, i)) (h0 : t < ((ckS lz ++ mo).length : Int)) (h2 : cA lz (t + (eE lz mo t 1)) = true) : RHOe lz mo E' x' e' h' (3, t, i) X := by
  obtain ⟨i0, i1, i2, i3, i4, i5, i6, i7, i8, i9, i10, i11, i12, i13, it⟩ := unIOe lz mo 3 t i hI
  obtain ⟨y1, y2, y3, y4, y5, y6, y7, y8⟩ := any_ (l := lz) (i := t) i5 (by omega) (by omega)
  have hNl := nA_lo (l := lz)
  have hn0 : ([] : LB).length = 0 := rfl
  have h13 := i13 (by omega)
  have hsl := ckn (l := lz) (mo := mo)
  obtain ⟨huA, hxl, heA, hpE, z1, z2, z5, z6, hmo, hzt⟩ := rndC (l := lz) (mo := mo) (t := t) (k := 1) i5 i0 i1 (by omega) (by omega)
  have hkz : (t + (eE lz mo t 1)) = t → (DA lz (t + (eE lz mo t 1))).length = (DA lz t).length := fun h => by rw [h]
  have hk3 := i13 (by omega)
  have hk2 := kT (l := lz) (mo := mo) (t := t) i5 i0 i1 (by omega) (i10 (by omega)) (by assumption)
  have hz4 : ¬ wA lz (t + (eE lz mo t 1)) = 4 := fun q => by have := (z2 q).2; rw [(by assumption : cA lz (t + (eE lz mo t 1)) = true)] at this; cases this
  have ho : ∀ a' r', (a', r') ∈ hyOe_p5 → HOk (CXOe_3 lz mo t i X) a' r' := by
    unfold hyOe_p5
    exact hc (kRn (denX rfl)) <|
     hc (kBytesB (bs := ([] : LB)) .nil (denX rfl)) <|
     hc (lnV rfl rfl (by omega)) <|
     hc (ltT rfl rfl (by omega)) <|
     hc (adC rfl rfl (by omega)) <|
     hc (kMin (isX rfl) (isX rfl) (denX rfl) (by rw [huA, hsl]; try omega)) <|
     hc (mdV rfl rfl rfl rfl (by omega)) <|
     hc (eqcF rfl (by omega)) <|
     hc (adX rfl rfl rfl (by omega)) <|
     hc (lnV rfl rfl (by omega)) <|
     hc (ltF rfl rfl (by omega)) <|
     hc (adC rfl rfl (by omega)) <|
     hnil
  exact sLOe_3 lz mo t i (tb := tbOe_p5) (L := LOe_p5) (4, (t + (eE lz mo t 1)), (i + 1)) (AllOk.lp1 ((tabkOk _ _).hyps ho) (by omega) fi8_at fi8_body (lfCons (lpKnown rfl ⟨0, keyFd, lfOkFd_3 (l := lf20) (h := lh20) lz (xS lz mo t (uA lz mo t 1)) mo t (eE lz mo t 1) i0 (⟨by omega, by omega⟩) (by omega) i5 i6 xS_P (by omega) (by omega) (by first | assumption | omega) (by first | assumption | (show ¬ (DA lz (t + (eE lz mo t 1))).length = 0; omega)) (3, (0 : Int)) (fdI (by omega) (by omega) i8 i9 i10 i11 i12 i13 (by decide)) rfl (by kernel_rfl) (th0 := [(0, .x 24), (1, .i .i64 (.ofNat 0)), (2, .x 3), (3, .x 4), (4, .x 5), (5, .x 6)]) (sg0 := [(60, 40), (61, 41)]) (fun X => thXv (v := St' (xS lz mo t (uA lz mo t 1))) rfl rfl (thCons (show Is _ (.i .i64 (.ofNat 0)) (.int .i64 ((0 : Int))) from isTo (v := .int .i64 0) (isI _ _) (by first | rfl | (congr 1; omega))) (thXe (v := .int .i64 ((wA lz t))) (u := .int .i64 ((wA lz (t + (0 : Int))))) rfl rfl (by rw [hzt]) (thXe (v := .int .i64 ((fA lz t))) (u := .int .i64 ((fA lz (t + (0 : Int))))) rfl rfl (by rw [hzt]) (thXe (v := St' (lnA lz t)) (u := St' (lnA lz (t + (0 : Int)))) rfl rfl (by rw [hzt]) (thXe (v := St' (DA lz t)) (u := St' (DA lz (t + (0 : Int)))) rfl rfl (by rw [hzt]) (thNil))))))) (by kernel_rfl) (thx := [(25, .x 0), (26, .x 1), (27, .x 2), (28, .x 3), (29, .x 4)]) (thXv (v := .int .i64 ((eE lz mo t 1))) rfl rfl (thXv (v := .int .i64 ((wA lz (t + (eE lz mo t 1))))) rfl rfl (thXv (v := .int .i64 ((fA lz (t + (eE lz mo t 1))))) rfl rfl (thXv (v := St' (lnA lz (t + (eE lz mo t 1)))) rfl rfl (thXv (v := St' (DA lz (t + (eE lz mo t 1)))) rfl rfl (thNil)))))) (by kernel_rfl)⟩) lfNil)) (lpOk_one lfNil) rfl (mkIOe lz mo 4 (t + (eE lz mo t 1)) (i + 1) ⟨by omega, by omega, by omega, by omega, i4, i5, i6, i7, fun h => by omega, fun _ => by omega, fun h => by omega, fun _ => by first | assumption | omega, fun h => by omega, fun _ => by first | assumption | omega, by omega⟩) (by show (nA lz - (t + (eE lz mo t 1))).toNat < (nA lz - t).toNat; omega) (thXv (v := St' (ckS lz ++ mo)) rfl rfl (thXi (b := ((t + (eE lz mo t 1)))) rfl rfl (by omega) (thXi (b := ((i + 1))) rfl rfl (by omega) (thXv (v := .int .i64 ((wA lz (t + (eE lz mo t 1))))) rfl rfl (thXv (v := .int .i64 ((fA lz (t + (eE lz mo t 1))))) rfl rfl (thXv (v := St' (lnA lz (t + (eE lz mo t 1)))) rfl rfl (thXv (v := St' (DA lz (t + (eE lz mo t 1)))) rfl rfl (thNil)))))))) runOe_p5
def hyOe_p6 : LK := [(.rn, .x 2000000), (.bytes [], .x 7), (.len (.x 0), .x 8), (.bin .lss (.x 1) (.x 8), .b true), (.bin .add (.x 1) (.i .i64 (.ofNat 1)), .x 9), (.mm false (.x 8) (.x 9), .x 10), (.sub (.x 0) (some (.x 1)) (some (.x 10)), .x 11), (.bin .eql (.x 3) (.i .i64 (.ofNat 5)), .b false), (.bin .add (.x 1) (.x 12), .x 17), (.len (.x 11), .x 18), (.bin .lss (.x 12) (.x 18), .b false), (.bin .add (.x 2) (.i .i64 (.ofNat 1)), .x 19)]
def lh23 : LH := ⟨4, 60, 120, [(30, .b ⟨38, .l [.i .i64 (.ofNat 4000), .x 3, .sy 40, .b true, .x 4, .i .i64 (.ofNat 0), .sy 41], 0, 0, 0, false, false⟩), (40, .t 5 5), (41, .t 6 5)], [(30, .b ⟨38, .l [.i .i64 (.ofNat 4000), .x 13, .sy 60, .b false, .x 14, .i .i64 (.ofNat 0), .sy 61], 0, 0, 0, false, false⟩), (60, .t 15 5), (61, .t 16 5)]⟩
def lf23 : LF := ⟨4, 58, [(0, .p 30 0), (1, .x 11), (6, .i .i64 (.ofNat 0))], [], (.exit 0), [(6, .x 12)], some lh23⟩
noncomputable def tbOe_p6 : Tab := addLps ((tbl hyOe_p6)) 8 fi8 [lf23]
def LOe_p6 : List LF := []
theorem runOe_p6 : okRdH (code tbOe_p6 5000 LOe_p6 bodyOe (envOf (headOf epOe_4 keepOe) 117) ⟨lhSet hpOe_4 .leaf, 42, 0, 0⟩) .normal keepOe 117 140 [(0, .x 0), (1, .x 17), (2, .x 19), (3, .x 13), (4, .x 14), (5, .x 15), (6, .x 16)] [(40, 60), (41, 61)] 40 42 epOe_3 hpOe_3 = true := by kernel_rfl
theorem nxOe_p6 (lz : List LB) (mo : LB) (t i : Int) (X : Nat → Value) (hI : InvOe lz mo (4, t, i)) : RHOe lz mo E' x' e' h' (4, t, i) X := by
  obtain ⟨i0, i1, i2, i3, i4, i5, i6, i7, i8, i9, i10, i11, i12, i13, it⟩ := unIOe lz mo 4 t i hI
  obtain ⟨y1, y2, y3, y4, y5, y6, y7, y8⟩ := any_ (l := lz) (i := t) i5 (by omega) (by omega)
  have hNl := nA_lo (l := lz)
  have hn0 : ([] : LB).length = 0 := rfl
  have h13 := i13 (by omega)
  have hx4 : ¬ wA lz t = 4 := fun q => by have := (y2 q).2; rw [i11 (by omega)] at this; cases this
  have hsl := ckn (l := lz) (mo := mo)
  obtain ⟨huA, hxl, heA, hpE, z1, z2, z5, z6, hmo, hzt⟩ := rndC (l := lz) (mo := mo) (t := t) (k := 1) i5 i0 i1 (by omega) (by omega)
  have hk := k1 (l := lz) (i := t) i5 i0 (by omega) (i11 (by omega))
  rw [show t + 1 = (t + (eE lz mo t 1)) by omega] at hk; obtain ⟨hk1, hk2⟩ := hk
  have hk3 := i13 (by omega)
  have ho : ∀ a' r', (a', r') ∈ hyOe_p6 → HOk (CXOe_4 lz mo t i X) a' r' := by
    unfold hyOe_p6
    exact hc (kRn (denX rfl)) <|
     hc (kBytesB (bs := ([] : LB)) .nil (denX rfl)) <|
     hc (lnV rfl rfl (by omega)) <|
     hc (ltT rfl rfl (by omega)) <|
     hc (adC rfl rfl (by omega)) <|
     hc (kMin (isX rfl) (isX rfl) (denX rfl) (by rw [huA, hsl]; try omega)) <|
     hc (mdV rfl rfl rfl rfl (by omega)) <|
     hc (eqcF rfl (by omega)) <|
     hc (adX rfl rfl rfl (by omega)) <|
     hc (lnV rfl rfl (by omega)) <|
     hc (ltF rfl rfl (by omega)) <|
     hc (adC rfl rfl (by omega)) <|
     hnil
  exact sLOe_4 lz mo t i (tb := tbOe_p6) (L := LOe_p6) (3, (t + (eE lz mo t 1)), (i + 1)) (AllOk.lp1 ((tabkOk _ _).hyps ho) (by omega) fi8_at fi8_body (lfCons (lpKnown rfl ⟨0, keyFd, lfOkFd_2 (l := lf23) (h := lh23) lz (xS lz mo t (uA lz mo t 1)) mo t (eE lz mo t 1) i0 (⟨by omega, by omega⟩) (by omega) i5 i6 xS_P (by omega) (by omega) (by first | assumption | omega) (by first | assumption | (show ¬ (DA lz (t + (eE lz mo t 1))).length = 0; omega)) (4, (0 : Int)) (fdI (by omega) (by omega) i8 i9 i10 i11 i12 i13 (by decide)) rfl (by kernel_rfl) (th0 := [(0, .x 11), (1, .i .i64 (.ofNat 0)), (2, .x 3), (3, .x 4), (4, .x 5), (5, .x 6)]) (sg0 := [(60, 40), (61, 41)]) (fun X => thXv (v := St' (xS lz mo t (uA lz mo t 1))) rfl rfl (thCons (show Is _ (.i .i64 (.ofNat 0)) (.int .i64 ((0 : Int))) from isTo (v := .int .i64 0) (isI _ _) (by first | rfl | (congr 1; omega))) (thXe (v := .int .i64 ((wA lz t))) (u := .int .i64 ((wA lz (t + (0 : Int))))) rfl rfl (by rw [hzt]) (thXe (v := .int .i64 ((fA lz t))) (u := .int .i64 ((fA lz (t + (0 : Int))))) rfl rfl (by rw [hzt]) (thXe (v := St' (lnA lz t)) (u := St' (lnA lz (t + (0 : Int)))) rfl rfl (by rw [hzt]) (thXe (v := St' (DA lz t)) (u := St' (DA lz (t + (0 : Int)))) rfl rfl (by rw [hzt]) (thNil))))))) (by kernel_rfl) (thx := [(12, .x 0), (13, .x 1), (14, .x 2), (15, .x 3), (16, .x 4)]) (thXv (v := .int .i64 ((eE lz mo t 1))) rfl rfl (thXv (v := .int .i64 ((wA lz (t + (eE lz mo t 1))))) rfl rfl (thXv (v := .int .i64 ((fA lz (t + (eE lz mo t 1))))) rfl rfl (thXv (v := St' (lnA lz (t + (eE lz mo t 1)))) rfl rfl (thXv (v := St' (DA lz (t + (eE lz mo t 1)))) rfl rfl (thNil)))))) (by kernel_rfl)⟩) lfNil)) (lpOk_one lfNil) rfl (mkIOe lz mo 3 (t + (eE lz mo t 1)) (i + 1) ⟨by omega, by omega, by omega, by omega, i4, i5, i6, i7, fun h => by omega, fun _ => by omega, fun _ => by first | assumption | omega, fun h => by omega, fun h => by omega, fun _ => by first | assumption | omega, by omega⟩) (by show (nA lz - (t + (eE lz mo t 1))).toNat < (nA lz - t).toNat; omega) (thXv (v := St' (ckS lz ++ mo)) rfl rfl (thXi (b := ((t + (eE lz mo t 1)))) rfl rfl (by omega) (thXi (b := ((i + 1))) rfl rfl (by omega) (thXv (v := .int .i64 ((wA lz (t + (eE lz mo t 1))))) rfl rfl (thXv (v := .int .i64 ((fA lz (t + (eE lz mo t 1))))) rfl rfl (thXv (v := St' (lnA lz (t + (eE lz mo t 1)))) rfl rfl (thXv (v := St' (DA lz (t + (eE lz mo t 1)))) rfl rfl (thNil)))))))) runOe_p6
def hyOe_p7 : LK := [(.rn, .x 2000002), (.bytes [], .x 33), (.len (.x 0), .x 34), (.bin .lss (.x 1) (.x 34), .b false)]
theorem runOe_p7 : RNOe_3 hyOe_p7 (.exit 2) [(0, .x 1), (1, .x 3), (2, .x 6)] [(40, 41)] 140 [(11, .p 30 0), (12, .x 0)] [(30, .b ⟨38, .l [.und, .x 1, .und, .und, .und, .und, .sy 40], 0, 0, 0, false, false⟩), (40, .t 2 5)] = true := by kernel_rfl
def hyOe_p8 : LK := [(.rn, .x 2000003), (.bytes [], .x 35), (.len (.x 0), .x 36), (.bin .lss (.x 1) (.x 36), .b true), (.bin .add (.x 1) (.i .i64 (.ofNat 1)), .x 37), (.mm false (.x 36) (.x 37), .x 38), (.sub (.x 0) (some (.x 1)) (some (.x 38)), .x 39), (.bin .eql (.x 3) (.i .i64 (.ofNat 5)), .b false), (.bin .add (.x 1) (.x 40), .x 45), (.len (.x 39), .x 46), (.bin .lss (.x 40) (.x 46), .b true)]
def lh236 : LH := ⟨4, 60, 120, [(30, .b ⟨38, .l [.i .i64 (.ofNat 4000), .x 3, .sy 40, .b false, .x 4, .i .i64 (.ofNat 0), .sy 41], 0, 0, 0, false, false⟩), (40, .t 5 5), (41, .t 6 5)], [(30, .b ⟨38, .l [.i .i64 (.ofNat 4000), .x 41, .sy 60, .b false, .x 42, .i .i64 (.ofNat 0), .sy 61], 0, 0, 0, false, false⟩), (60, .t 43 5), (61, .t 44 5)]⟩
def lf236 : LF := ⟨4, 58, [(0, .p 30 0), (1, .x 39), (6, .i .i64 (.ofNat 0))], [], (.exit 0), [(6, .x 40)], some lh236⟩
noncomputable def tbOe_p8 : Tab := addLps ((tbl hyOe_p8)) 8 fi8 [lf236]
def LOe_p8 : List LF := []
theorem runOe_p8 : okRdH (code tbOe_p8 5000 LOe_p8 bodyOe (envOf (headOf epOe_3 keepOe) 117) ⟨lhSet hpOe_3 .leaf, 42, 0, 0⟩) (.exit 2) keepOe 117 140 [(0, .x 45), (1, .x 41), (2, .x 44)] [(40, 61)] 40 140 [(11, .p 30 0), (12, .x 0)] [(30, .b ⟨38, .l [.und, .x 1, .und, .und, .und, .und, .sy 40], 0, 0, 0, false, false⟩), (40, .t 2 5)] = true := by kernel_rfl
def hyOe_p9 : LK := [(.rn, .x 2000002), (.bytes [], .x 31), (.len (.x 0), .x 32), (.bin .lss (.x 1) (.x 32), .b false)]
theorem runOe_p9 : RNOe_1 hyOe_p9 (.exit 2) [(0, .x 1), (1, .x 3)] [] 140 [(11, .p 30 0), (12, .x 0)] [(30, .b ⟨38, .l [.und, .x 1, .und, .und, .und, .und, .nils], 0, 0, 0, false, false⟩)] = true := by kernel_rfl
def hyOe_p10 : LK := [(.rn, .x 2000003), (.bytes [], .x 33), (.len (.x 0), .x 34), (.bin .lss (.x 1) (.x 34), .b true), (.bin .add (.x 1) (.i .i64 (.ofNat 1)), .x 35), (.mm false (.x 34) (.x 35), .x 36), (.sub (.x 0) (some (.x 1)) (some (.x 36)), .x 37), (.bin .eql (.x 3) (.i .i64 (.ofNat 5)), .b false), (.bin .add (.x 1) (.x 38), .x 42), (.len (.x 37), .x 43), (.bin .lss (.x 38) (.x 43), .b true)]
def lh269 : LH := ⟨4, 60, 120, [(30, .b ⟨38, .l [.i .i64 (.ofNat 4000), .x 3, .sy 40, .b false, .x 4, .i .i64 (.ofNat 0), .nils], 0, 0, 0, false, false⟩), (40, .t 5 5)], [(30, .b ⟨38, .l [.i .i64 (.ofNat 4000), .x 39, .sy 60, .b false, .x 40, .i .i64 (.ofNat 0), .nils], 0, 0, 0, false, false⟩), (60, .t 41 5)]⟩
def lf269 : LF := ⟨4, 58, [(0, .p 30 0), (1, .x 37), (6, .i .i64 (.ofNat 0))], [], (.exit 0), [(6, .x 38)], some lh269⟩
noncomputable def tbOe_p10 : Tab := addLps ((tbl hyOe_p10)) 8 fi8 [lf269]
def LOe_p10 : List LF := []
theorem runOe_p10 : okRdH (code tbOe_p10 5000 LOe_p10 bodyOe (envOf (headOf epOe_1 keepOe) 117) ⟨lhSet hpOe_1 .leaf, 42, 0, 0⟩) (.exit 2) keepOe 117 140 [(0, .x 42), (1, .x 39)] [] 40 140 [(11, .p 30 0), (12, .x 0)] [(30, .b ⟨38, .l [.und, .x 1, .und, .und, .und, .und, .nils], 0, 0, 0, false, false⟩)] = true := by kernel_rfl
def hyOe_p11 : LK := [(.rn, .x 2000004), (.bytes [], .x 44), (.len (.x 0), .x 45), (.bin .lss (.x 1) (.x 45), .b true), (.bin .add (.x 1) (.i .i64 (.ofNat 1)), .x 46), (.mm false (.x 45) (.x 46), .x 47), (.sub (.x 0) (some (.x 1)) (some (.x 47)), .x 48), (.bin .eql (.x 3) (.i .i64 (.ofNat 5)), .b false), (.bin .add (.x 1) (.x 49), .x 53), (.len (.x 48), .x 54), (.bin .lss (.x 49) (.x 54), .b false), (.bin .add (.x 2) (.i .i64 (.ofNat 1)), .x 55)]
def lh275 : LH := ⟨4, 60, 120, [(30, .b ⟨38, .l [.i .i64 (.ofNat 4000), .x 3, .sy 40, .b false, .x 4, .i .i64 (.ofNat 0), .nils], 0, 0, 0, false, false⟩), (40, .t 5 5)], [(30, .b ⟨38, .l [.i .i64 (.ofNat 4000), .x 50, .sy 60, .b false, .x 51, .i .i64 (.ofNat 0), .nils], 0, 0, 0, false, false⟩), (60, .t 52 5)]⟩
def lf275 : LF := ⟨4, 58, [(0, .p 30 0), (1, .x 48), (6, .i .i64 (.ofNat 0))], [], (.exit 0), [(6, .x 49)], some lh275⟩
noncomputable def tbOe_p11 : Tab := addLps ((tbl hyOe_p11)) 8 fi8 [lf275]
def LOe_p11 : List LF := []
theorem runOe_p11 : okRdH (code tbOe_p11 5000 LOe_p11 bodyOe (envOf (headOf epOe_1 keepOe) 117) ⟨lhSet hpOe_1 .leaf, 42, 0, 0⟩) .normal keepOe 117 140 [(0, .x 0), (1, .x 53), (2, .x 55), (3, .x 50), (4, .x 51), (5, .x 52)] [(40, 60)] 40 42 epOe_1 hpOe_1 = true := by kernel_rfl
theorem nxOe_p11 (lz : List LB) (mo : LB) (t i : Int) (X : Nat → Value) (hI : InvOe lz mo (1, t, i)) (h0 : t < ((ckS lz ++ mo).length : Int)) (h2 : ¬ (cA lz (t + (eE lz mo t 1)) = true)) (h3 : (DA lz (t + (eE lz mo t 1))).length = 0) (h4 : ¬ ((eE lz mo t 1) < (uA lz mo t 1) - t)) : RHOe lz mo E' x' e' h' (1, t, i) X := by
  obtain ⟨i0, i1, i2, i3, i4, i5, i6, i7, i8, i9, i10, i11, i12, i13, it⟩ := unIOe lz mo 1 t i hI
  obtain ⟨y1, y2, y3, y4, y5, y6, y7, y8⟩ := any_ (l := lz) (i := t) i5 (by omega) (by omega)
  have hNl := nA_lo (l := lz)
  have hn0 : ([] : LB).length = 0 := rfl
  have hsl := ckn (l := lz) (mo := mo)
  obtain ⟨huA, hxl, heA, hpE, z1, z2, z5, z6, hmo, hzt⟩ := rndC (l := lz) (mo := mo) (t := t) (k := 1) i5 i0 i1 (by omega) (by omega)
  have hkz : (t + (eE lz mo t 1)) = t → (DA lz (t + (eE lz mo t 1))).length = (DA lz t).length := fun h => by rw [h]
  have hk3 := i12 (by omega)
  have ho : ∀ a' r', (a', r') ∈ hyOe_p11 → HOk (CXOe_1 lz mo t i X) a' r' := by
    unfold hyOe_p11
    exact hc (kRn (denX rfl)) <|
     hc (kBytesB (bs := ([] : LB)) .nil (denX rfl)) <|
     hc (lnV rfl rfl (by omega)) <|
     hc (ltT rfl rfl (by omega)) <|
     hc (adC rfl rfl (by omega)) <|
     hc (kMin (isX rfl) (isX rfl) (denX rfl) (by rw [huA, hsl]; try omega)) <|
     hc (mdV rfl rfl rfl rfl (by omega)) <|
     hc (eqcF rfl (by omega)) <|
     hc (adX rfl rfl rfl (by omega)) <|
     hc (lnV rfl rfl (by omega)) <|
     hc (ltF rfl rfl (by omega)) <|
     hc (adC rfl rfl (by omega)) <|
     hnil
  exact sLOe_1 lz mo t i (tb := tbOe_p11) (L := LOe_p11) (1, (t + (eE lz mo t 1)), (i + 1)) (AllOk.lp1 ((tabkOk _ _).hyps ho) (by omega) fi8_at fi8_body (lfCons (lpKnown rfl ⟨0, keyFd, lfOkFd_0 (l := lf275) (h := lh275) lz (xS lz mo t (uA lz mo t 1)) mo t (eE lz mo t 1) i0 (⟨by omega, by omega⟩) (by omega) i5 i6 xS_P (by omega) (by omega) (by first | assumption | omega) (by first | assumption | (show (DA lz (t + (eE lz mo t 1))).length = 0; omega)) (1, (0 : Int)) (fdI (by omega) (by omega) i8 i9 i10 i11 i12 i13 (by decide)) rfl (by kernel_rfl) (th0 := [(0, .x 48), (1, .i .i64 (.ofNat 0)), (2, .x 3), (3, .x 4), (4, .x 5)]) (sg0 := [(60, 40)]) (fun X => thXv (v := St' (xS lz mo t (uA lz mo t 1))) rfl rfl (thCons (show Is _ (.i .i64 (.ofNat 0)) (.int .i64 ((0 : Int))) from isTo (v := .int .i64 0) (isI _ _) (by first | rfl | (congr 1; omega))) (thXe (v := .int .i64 ((wA lz t))) (u := .int .i64 ((wA lz (t + (0 : Int))))) rfl rfl (by rw [hzt]) (thXe (v := .int .i64 ((fA lz t))) (u := .int .i64 ((fA lz (t + (0 : Int))))) rfl rfl (by rw [hzt]) (thXe (v := St' (lnA lz t)) (u := St' (lnA lz (t + (0 : Int)))) rfl rfl (by rw [hzt]) (thNil)))))) (by kernel_rfl) (thx := [(49, .x 0), (50, .x 1), (51, .x 2), (52, .x 3)]) (thXv (v := .int .i64 ((eE lz mo t 1))) rfl rfl (thXv (v := .int .i64 ((wA lz (t + (eE lz mo t 1))))) rfl rfl (thXv (v := .int .i64 ((fA lz (t + (eE lz mo t 1))))) rfl rfl (thXv (v := St' (lnA lz (t + (eE lz mo t 1)))) rfl rfl (thNil))))) (by kernel_rfl)⟩) lfNil)) (lpOk_one lfNil) rfl (mkIOe lz mo 1 (t + (eE lz mo t 1)) (i + 1) ⟨by omega, by omega, by omega, by omega, i4, i5, i6, i7, fun h => by omega, fun _ => by omega, fun _ => by first | assumption | omega, fun h => by omega, fun _ => by first | assumption | omega, fun h => by omega, by omega⟩) (by show (nA lz - (t + (eE lz mo t 1))).toNat < (nA lz - t).toNat; omega) (thXv (v := St' (ckS lz ++ mo)) rfl rfl (thXi (b := ((t + (eE lz mo t 1)))) rfl rfl (by omega) (thXi (b := ((i + 1))) rfl rfl (by omega) (thXv (v := .int .i64 ((wA lz (t + (eE lz mo t 1))))) rfl rfl (thXv (v := .int .i64 ((fA lz (t + (eE lz mo t 1))))) rfl rfl (thXv (v := St' (lnA lz (t + (eE lz mo t 1)))) rfl rfl (thNil))))))) runOe_p11
def nuEOe_0 (lz : List LB) (mo : LB) : List Value := [.int .i64 ((nA lz)), .int .i64 (4)]
def roEOe_0 (lz : List LB) (mo : LB) : List Value := []
noncomputable def EOe_0 (lz : List LB) (mo : LB) : Cx := cx (nuX (nuEOe_0 lz mo) (rX (roEOe_0 lz mo) (fun _ => .bool true))) (nuX_one (nuL_one (l := nuEOe_0 lz mo) rfl)) 3 laidE laidE_stab
theorem roundsOe_0 (lz : List LB) (mo : LB) (x0 : lz.flatten.length = 0) (st : Nat × Int × Int) (X : Nat → Value) (hI : InvOe lz mo st) : RHOe lz mo (EOe_0 lz mo) (.exit 2) [(11, .p 30 0), (12, .x 0)] [(30, .b ⟨38, .l [.und, .x 1, .und, .und, .und, .und, .nils], 0, 0, 0, false, false⟩)] st X := by
  obtain ⟨tag, t, i⟩ := st
  have hI0 := hI
  obtain ⟨i0, i1, i2, i3, i4, i5, i6, i7, i8, i9, i10, i11, i12, i13, it⟩ := unIOe lz mo tag t i hI
  rcases (show tag = 0 ∨ tag = 1 ∨ tag = 2 ∨ tag = 3 ∨ tag = 4 from by omega) with rfl | rfl | rfl | rfl | rfl
  · skip
    obtain ⟨y1, y2, y3, y4, y5, y6, y7, y8⟩ := any_ (l := lz) (i := t) i5 (by omega) (by omega)
    have hNl := nA_lo (l := lz)
    have hn0 : ([] : LB).length = 0 := rfl
    exact nxOe_p0 lz mo t i X hI0
  · skip
    obtain ⟨y1, y2, y3, y4, y5, y6, y7, y8⟩ := any_ (l := lz) (i := t) i5 (by omega) (by omega)
    have hNl := nA_lo (l := lz)
    have hn0 : ([] : LB).length = 0 := rfl
    by_cases h0 : t < ((ckS lz ++ mo).length : Int)
    · by_cases h2 : cA lz (t + (eE lz mo t 1)) = true
      · exact nxOe_p1 lz mo t i X hI0 h0 h2
      · by_cases h3 : (DA lz (t + (eE lz mo t 1))).length = 0
        · by_cases h4 : (eE lz mo t 1) < (uA lz mo t 1) - t
          · skip
            obtain ⟨y1, y2, y3, y4, y5, y6, y7, y8⟩ := any_ (l := lz) (i := t) i5 (by omega) (by omega)
            have hNl := nA_lo (l := lz)
            have hn0 : ([] : LB).length = 0 := rfl
            have hsl := ckn (l := lz) (mo := mo)
            obtain ⟨huA, hxl, heA, hpE, z1, z2, z5, z6, hmo, hzt⟩ := rndC (l := lz) (mo := mo) (t := t) (k := 1) i5 i0 i1 (by omega) (by omega)
            have hkz : (t + (eE lz mo t 1)) = t → (DA lz (t + (eE lz mo t 1))).length = (DA lz t).length := fun h => by rw [h]
            have hk3 := i12 (by omega)
            obtain ⟨hw4, hWD, hpN⟩ := brk (l := lz) (mo := mo) (t := t) (k := 1) i5 i0 i1 (by omega) (by omega) (by assumption)
            have ho : ∀ a' r', (a', r') ∈ hyOe_p10 → HOk (CXOe_1 lz mo t i X) a' r' := by
              unfold hyOe_p10
              exact hc (kRn (denX rfl)) <|
               hc (kBytesB (bs := ([] : LB)) .nil (denX rfl)) <|
               hc (lnV rfl rfl (by omega)) <|
               hc (ltT rfl rfl (by omega)) <|
               hc (adC rfl rfl (by omega)) <|
               hc (kMin (isX rfl) (isX rfl) (denX rfl) (by rw [huA, hsl]; try omega)) <|
               hc (mdV rfl rfl rfl rfl (by omega)) <|
               hc (eqcF rfl (by omega)) <|
               hc (adX rfl rfl rfl (by omega)) <|
               hc (lnV rfl rfl (by omega)) <|
               hc (ltT rfl rfl (by omega)) <|
               hnil
            exact lLOe_1 lz mo t i (tb := tbOe_p10) (L := LOe_p10) rfl (AllOk.lp1 ((tabkOk _ _).hyps ho) (by omega) fi8_at fi8_body (lfCons (lpKnown rfl ⟨0, keyFd, lfOkFd_0 (l := lf269) (h := lh269) lz (xS lz mo t (uA lz mo t 1)) mo t (eE lz mo t 1) i0 (⟨by omega, by omega⟩) (by omega) i5 i6 xS_P (by omega) (by omega) (by first | assumption | omega) (by first | assumption | (show (DA lz (t + (eE lz mo t 1))).length = 0; omega)) (1, (0 : Int)) (fdI (by omega) (by omega) i8 i9 i10 i11 i12 i13 (by decide)) rfl (by kernel_rfl) (th0 := [(0, .x 37), (1, .i .i64 (.ofNat 0)), (2, .x 3), (3, .x 4), (4, .x 5)]) (sg0 := [(60, 40)]) (fun X => thXv (v := St' (xS lz mo t (uA lz mo t 1))) rfl rfl (thCons (show Is _ (.i .i64 (.ofNat 0)) (.int .i64 ((0 : Int))) from isTo (v := .int .i64 0) (isI _ _) (by first | rfl | (congr 1; omega))) (thXe (v := .int .i64 ((wA lz t))) (u := .int .i64 ((wA lz (t + (0 : Int))))) rfl rfl (by rw [hzt]) (thXe (v := .int .i64 ((fA lz t))) (u := .int .i64 ((fA lz (t + (0 : Int))))) rfl rfl (by rw [hzt]) (thXe (v := St' (lnA lz t)) (u := St' (lnA lz (t + (0 : Int)))) rfl rfl (by rw [hzt]) (thNil)))))) (by kernel_rfl) (thx := [(38, .x 0), (39, .x 1), (40, .x 2), (41, .x 3)]) (thXv (v := .int .i64 ((eE lz mo t 1))) rfl rfl (thXv (v := .int .i64 ((wA lz (t + (eE lz mo t 1))))) rfl rfl (thXv (v := .int .i64 ((fA lz (t + (eE lz mo t 1))))) rfl rfl (thXv (v := St' (lnA lz (t + (eE lz mo t 1)))) rfl rfl (thNil))))) (by kernel_rfl)⟩) lfNil)) (lpOk_one lfNil) rfl (thXi (b := ((nA lz))) rfl rfl (by omega) (thXe (v := .int .i64 ((wA lz (t + (eE lz mo t 1))))) (u := .int .i64 (4)) rfl rfl (congrArg (Value.int .i64) hw4) (thNil))) runOe_p10
          · exact nxOe_p11 lz mo t i X hI0 h0 h2 h3 h4
        · exact nxOe_p3 lz mo t i X hI0 h0 h2 h3
    · skip
      have hsl := ckn (l := lz) (mo := mo)
      have hw4 : wA lz t = 4 := y1.2 (by omega)
      have hWD : DA lz t = lz.flatten := (y2 hw4).1
      refine lvOe_1 lz mo t i (h := hyOe_p9) rfl ?_ (thXi (b := ((nA lz))) rfl rfl (by omega) (thXe (v := .int .i64 ((wA lz t))) (u := .int .i64 (4)) rfl rfl (congrArg (Value.int .i64) hw4) (thNil))) runOe_p9
      unfold hyOe_p9
      exact hc (kRn (denX rfl)) <|
       hc (kBytesB (bs := ([] : LB)) .nil (denX rfl)) <|
       hc (lnV rfl rfl (by omega)) <|
       hc (ltF rfl rfl (by omega)) <|
       hnil
  · skip
    obtain ⟨y1, y2, y3, y4, y5, y6, y7, y8⟩ := any_ (l := lz) (i := t) i5 (by omega) (by omega)
    have hNl := nA_lo (l := lz)
    have hn0 : ([] : LB).length = 0 := rfl
    exact nxOe_p2 lz mo t i X hI0
  · skip
    obtain ⟨y1, y2, y3, y4, y5, y6, y7, y8⟩ := any_ (l := lz) (i := t) i5 (by omega) (by omega)
    have hNl := nA_lo (l := lz)
    have hn0 : ([] : LB).length = 0 := rfl
    by_cases h0 : t < ((ckS lz ++ mo).length : Int)
    · by_cases h2 : cA lz (t + (eE lz mo t 1)) = true
      · exact nxOe_p5 lz mo t i X hI0 h0 h2
      · by_cases h4 : (eE lz mo t 1) < (uA lz mo t 1) - t
        · exfalso; have hsl := ckn (l := lz) (mo := mo); obtain ⟨hw4, hWD, hpN⟩ := brk (l := lz) (mo := mo) (t := t) (k := 1) i5 i0 i1 (by omega) (by omega) (by assumption); have hDl := congrArg List.length hWD; have hDz := (by first | assumption | (have := i13 (by omega); omega) : ¬ (DA lz (t + (eE lz mo t 1))).length = 0); omega
        · exact nxOe_p4 lz mo t i X hI0 h0 h2 h4
    · exfalso; have hsl := ckn (l := lz) (mo := mo); have hw4 : wA lz t = 4 := y1.2 (by omega); have hWD : DA lz t = lz.flatten := (y2 hw4).1; have hDl := congrArg List.length hWD; have hDz := (i13 (by omega)); omega
  · skip
    obtain ⟨y1, y2, y3, y4, y5, y6, y7, y8⟩ := any_ (l := lz) (i := t) i5 (by omega) (by omega)
    have hNl := nA_lo (l := lz)
    have hn0 : ([] : LB).length = 0 := rfl
    exact nxOe_p6 lz mo t i X hI0
theorem lfOkOe_0 {l : LF} {h : LH} (lz : List LB) (mo : LB) (x0 : lz.flatten.length = 0) (st : Nat × Int × Int) (hI : InvOe lz mo st) (hl : l.hp = some h) (hs : lfSame l h 117 keepOe (.exit 2) 4 40 140 = true) {th0 : LA} {sg0 : List (Nat × Nat)} (hth0 : ∀ X, ThOk (cx nu one 3 laidE laidE_stab) (DOe lz mo st X) th0) (h0 : startOk l h 117 40 42 th0 sg0 (epOe st) (hpOe st) = true) {thx : LA} (hthx : ThOk (EOe_0 lz mo) (cx nu one 3 laidE laidE_stab) thx) (hx : exitOk l h 117 40 140 thx [(11, .p 30 0), (12, .x 0)] [(30, .b ⟨38, .l [.und, .x 1, .und, .und, .und, .und, .nils], 0, 0, 0, false, false⟩)] = true) : LfOk (cx nu one 3 laidE laidE_stab) bodyOe l :=
  lfOkX (E := EOe_0 lz mo) (InvOe lz mo) (muOe lz mo) (DOe lz mo) (fun _ _ => rfl) (fun _ _ => rfl) (fun _ _ => rfl) (fun st X t ht => nuX_keep.trans (rX_keep ((by decide : ∀ t, t ∈ keepOe → t < 1000000) t ht))) rfl rfl rfl hl hs ebOe rfl rfl st hI hth0 h0 hthx hx (roundsOe_0 lz mo x0)
def nuEOe_1 (lz : List LB) (mo : LB) : List Value := [.int .i64 ((nA lz)), .int .i64 (4), St' (List.flatten lz)]
def roEOe_1 (lz : List LB) (mo : LB) : List Value := []
noncomputable def EOe_1 (lz : List LB) (mo : LB) : Cx := cx (nuX (nuEOe_1 lz mo) (rX (roEOe_1 lz mo) (fun _ => .bool true))) (nuX_one (nuL_one (l := nuEOe_1 lz mo) rfl)) 3 laidE laidE_stab
theorem roundsOe_1 (lz : List LB) (mo : LB) (x0 : ¬ lz.flatten.length = 0) (st : Nat × Int × Int) (X : Nat → Value) (hI : InvOe lz mo st) : RHOe lz mo (EOe_1 lz mo) (.exit 2) [(11, .p 30 0), (12, .x 0)] [(30, .b ⟨38, .l [.und, .x 1, .und, .und, .und, .und, .sy 40], 0, 0, 0, false, false⟩), (40, .t 2 5)] st X := by
  obtain ⟨tag, t, i⟩ := st
  have hI0 := hI
  obtain ⟨i0, i1, i2, i3, i4, i5, i6, i7, i8, i9, i10, i11, i12, i13, it⟩ := unIOe lz mo tag t i hI
  rcases (show tag = 0 ∨ tag = 1 ∨ tag = 2 ∨ tag = 3 ∨ tag = 4 from by omega) with rfl | rfl | rfl | rfl | rfl
  · skip
    obtain ⟨y1, y2, y3, y4, y5, y6, y7, y8⟩ := any_ (l := lz) (i := t) i5 (by omega) (by omega)
    have hNl := nA_lo (l := lz)
    have hn0 : ([] : LB).length = 0 := rfl
    exact nxOe_p0 lz mo t i X hI0
  · skip
    obtain ⟨y1, y2, y3, y4, y5, y6, y7, y8⟩ := any_ (l := lz) (i := t) i5 (by omega) (by omega)
    have hNl := nA_lo (l := lz)
    have hn0 : ([] : LB).length = 0 := rfl
    by_cases h0 : t < ((ckS lz ++ mo).length : Int)
    · by_cases h2 : cA lz (t + (eE lz mo t 1)) = true
      · exact nxOe_p1 lz mo t i X hI0 h0 h2
      · by_cases h3 : (DA lz (t + (eE lz mo t 1))).length = 0
        · by_cases h4 : (eE lz mo t 1) < (uA lz mo t 1) - t
          · exfalso; have hsl := ckn (l := lz) (mo := mo); obtain ⟨hw4, hWD, hpN⟩ := brk (l := lz) (mo := mo) (t := t) (k := 1) i5 i0 i1 (by omega) (by omega) (by assumption); have hDl := congrArg List.length hWD; have hDz := (by first | assumption | (have := i12 (by omega); omega) : (DA lz (t + (eE lz mo t 1))).length = 0); omega
          · exact nxOe_p11 lz mo t i X hI0 h0 h2 h3 h4
        · exact nxOe_p3 lz mo t i X hI0 h0 h2 h3
    · exfalso; have hsl := ckn (l := lz) (mo := mo); have hw4 : wA lz t = 4 := y1.2 (by omega); have hWD : DA lz t = lz.flatten := (y2 hw4).1; have hDl := congrArg List.length hWD; have hDz := (i12 (by omega)); omega
  · skip
    obtain ⟨y1, y2, y3, y4, y5, y6, y7, y8⟩ := any_ (l := lz) (i := t) i5 (by omega) (by omega)
    have hNl := nA_lo (l := lz)
    have hn0 : ([] : LB).length = 0 := rfl
    exact nxOe_p2 lz mo t i X hI0
  · skip
    obtain ⟨y1, y2, y3, y4, y5, y6, y7, y8⟩ := any_ (l := lz) (i := t) i5 (by omega) (by omega)
    have hNl := nA_lo (l := lz)
    have hn0 : ([] : LB).length = 0 := rfl
    by_cases h0 : t < ((ckS lz ++ mo).length : Int)
    · by_cases h2 : cA lz (t + (eE lz mo t 1)) = true
      · exact nxOe_p5 lz mo t i X hI0 h0 h2
      · by_cases h4 : (eE lz mo t 1) < (uA lz mo t 1) - t
        · skip
          obtain ⟨y1, y2, y3, y4, y5, y6, y7, y8⟩ := any_ (l := lz) (i := t) i5 (by omega) (by omega)
          have hNl := nA_lo (l := lz)
          have hn0 : ([] : LB).length = 0 := rfl
          have h13 := i13 (by omega)
          have hsl := ckn (l := lz) (mo := mo)
          obtain ⟨huA, hxl, heA, hpE, z1, z2, z5, z6, hmo, hzt⟩ := rndC (l := lz) (mo := mo) (t := t) (k := 1) i5 i0 i1 (by omega) (by omega)
          have hkz : (t + (eE lz mo t 1)) = t → (DA lz (t + (eE lz mo t 1))).length = (DA lz t).length := fun h => by rw [h]
          have hk3 := i13 (by omega)
          obtain ⟨hw4, hWD, hpN⟩ := brk (l := lz) (mo := mo) (t := t) (k := 1) i5 i0 i1 (by omega) (by omega) (by assumption)
          have ho : ∀ a' r', (a', r') ∈ hyOe_p8 → HOk (CXOe_3 lz mo t i X) a' r' := by
            unfold hyOe_p8
            exact hc (kRn (denX rfl)) <|
             hc (kBytesB (bs := ([] : LB)) .nil (denX rfl)) <|
             hc (lnV rfl rfl (by omega)) <|
             hc (ltT rfl rfl (by omega)) <|
             hc (adC rfl rfl (by omega)) <|
             hc (kMin (isX rfl) (isX rfl) (denX rfl) (by rw [huA, hsl]; try omega)) <|
             hc (mdV rfl rfl rfl rfl (by omega)) <|
             hc (eqcF rfl (by omega)) <|
             hc (adX rfl rfl rfl (by omega)) <|
             hc (lnV rfl rfl (by omega)) <|
             hc (ltT rfl rfl (by omega)) <|
             hnil
          exact lLOe_3 lz mo t i (tb := tbOe_p8) (L := LOe_p8) rfl (AllOk.lp1 ((tabkOk _ _).hyps ho) (by omega) fi8_at fi8_body (lfCons (lpKnown rfl ⟨0, keyFd, lfOkFd_2 (l := lf236) (h := lh236) lz (xS lz mo t (uA lz mo t 1)) mo t (eE lz mo t 1) i0 (⟨by omega, by omega⟩) (by omega) i5 i6 xS_P (by omega) (by omega) (by first | assumption | omega) (by first | assumption | (show ¬ (DA lz (t + (eE lz mo t 1))).length = 0; omega)) (3, (0 : Int)) (fdI (by omega) (by omega) i8 i9 i10 i11 i12 i13 (by decide)) rfl (by kernel_rfl) (th0 := [(0, .x 39), (1, .i .i64 (.ofNat 0)), (2, .x 3), (3, .x 4), (4, .x 5), (5, .x 6)]) (sg0 := [(60, 40), (61, 41)]) (fun X => thXv (v := St' (xS lz mo t (uA lz mo t 1))) rfl rfl (thCons (show Is _ (.i .i64 (.ofNat 0)) (.int .i64 ((0 : Int))) from isTo (v := .int .i64 0) (isI _ _) (by first | rfl | (congr 1; omega))) (thXe (v := .int .i64 ((wA lz t))) (u := .int .i64 ((wA lz (t + (0 : Int))))) rfl rfl (by rw [hzt]) (thXe (v := .int .i64 ((fA lz t))) (u := .int .i64 ((fA lz (t + (0 : Int))))) rfl rfl (by rw [hzt]) (thXe (v := St' (lnA lz t)) (u := St' (lnA lz (t + (0 : Int)))) rfl rfl (by rw [hzt]) (thXe (v := St' (DA lz t)) (u := St' (DA lz (t + (0 : Int)))) rfl rfl (by rw [hzt]) (thNil))))))) (by kernel_rfl) (thx := [(40, .x 0), (41, .x 1), (42, .x 2), (43, .x 3), (44, .x 4)]) (thXv (v := .int .i64 ((eE lz mo t 1))) rfl rfl (thXv (v := .int .i64 ((wA lz (t + (eE lz mo t 1))))) rfl rfl (thXv (v := .int .i64 ((fA lz (t + (eE lz mo t 1))))) rfl rfl (thXv (v := St' (lnA lz (t + (eE lz mo t 1)))) rfl rfl (thXv (v := St' (DA lz (t + (eE lz mo t 1)))) rfl rfl (thNil)))))) (by kernel_rfl)⟩) lfNil)) (lpOk_one lfNil) rfl (thXi (b := ((nA lz))) rfl rfl (by omega) (thXe (v := .int .i64 ((wA lz (t + (eE lz mo t 1))))) (u := .int .i64 (4)) rfl rfl (congrArg (Value.int .i64) hw4) (thXe (v := St' (DA lz (t + (eE lz mo t 1)))) (u := St' (List.flatten lz)) rfl rfl (congrArg (fun l => St' l) hWD) (thNil)))) runOe_p8
        · exact nxOe_p4 lz mo t i X hI0 h0 h2 h4
    · skip
      have hsl := ckn (l := lz) (mo := mo)
      have hw4 : wA lz t = 4 := y1.2 (by omega)
      have hWD : DA lz t = lz.flatten := (y2 hw4).1
      refine lvOe_3 lz mo t i (h := hyOe_p7) rfl ?_ (thXi (b := ((nA lz))) rfl rfl (by omega) (thXe (v := .int .i64 ((wA lz t))) (u := .int .i64 (4)) rfl rfl (congrArg (Value.int .i64) hw4) (thXe (v := St' (DA lz t)) (u := St' (List.flatten lz)) rfl rfl (congrArg (fun l => St' l) hWD) (thNil)))) runOe_p7
      unfold hyOe_p7
      exact hc (kRn (denX rfl)) <|
       hc (kBytesB (bs := ([] : LB)) .nil (denX rfl)) <|
       hc (lnV rfl rfl (by omega)) <|
       hc (ltF rfl rfl (by omega)) <|
       hnil
  · skip
    obtain ⟨y1, y2, y3, y4, y5, y6, y7, y8⟩ := any_ (l := lz) (i := t) i5 (by omega) (by omega)
    have hNl := nA_lo (l := lz)
    have hn0 : ([] : LB).length = 0 := rfl
    exact nxOe_p6 lz mo t i X hI0
theorem lfOkOe_1 {l : LF} {h : LH} (lz : List LB) (mo : LB) (x0 : ¬ lz.flatten.length = 0) (st : Nat × Int × Int) (hI : InvOe lz mo st) (hl : l.hp = some h) (hs : lfSame l h 117 keepOe (.exit 2) 4 40 140 = true) {th0 : LA} {sg0 : List (Nat × Nat)} (hth0 : ∀ X, ThOk (cx nu one 3 laidE laidE_stab) (DOe lz mo st X) th0) (h0 : startOk l h 117 40 42 th0 sg0 (epOe st) (hpOe st) = true) {thx : LA} (hthx : ThOk (EOe_1 lz mo) (cx nu one 3 laidE laidE_stab) thx) (hx : exitOk l h 117 40 140 thx [(11, .p 30 0), (12, .x 0)] [(30, .b ⟨38, .l [.und, .x 1, .und, .und, .und, .und, .sy 40], 0, 0, 0, false, false⟩), (40, .t 2 5)] = true) : LfOk (cx nu one 3 laidE laidE_stab) bodyOe l :=
  lfOkX (E := EOe_1 lz mo) (InvOe lz mo) (muOe lz mo) (DOe lz mo) (fun _ _ => rfl) (fun _ _ => rfl) (fun _ _ => rfl) (fun st X t ht => nuX_keep.trans (rX_keep ((by decide : ∀ t, t ∈ keepOe → t < 1000000) t ht))) rfl rfl rfl hl hs ebOe rfl rfl st hI hth0 h0 hthx hx (roundsOe_1 lz mo x0)
end Go.Proofs.YtamjghigoipbeaaDoor.chunkBack
