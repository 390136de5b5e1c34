/- A part of the proof: an interpreter of the model's own code on partly known states, and that what it answers is what the program answers. No condition of its own. -/
import Derived.Test.YtamjghigoipbeaaDoorK1ChunkBackO2
set_option maxRecDepth 100000
set_option linter.unusedVariables false
set_option linter.unusedSimpArgs false
set_option maxHeartbeats 4000000
namespace Go.Proofs.YtamjghigoipbeaaDoor.chunkBack
open Go Go.AX Go.Proofs Go.Proofs.YtamjghigoipbeaaDoor
variable {nu : Nat → Value} {one : ∀ i, i < 1000000 → (nu i).oneCell' = true} {E' : Cx} {x' : Ex} {e' : LA} {h' : LE}
noncomputable def bodyFd : Code := loopNo (Tryd.f8.body.getD .skip) 0
theorem keyFd : oneKey (loopsOf (Tryd.f8.body.getD .skip)) 4 0 0 = true := by kernel_rfl
def keepFd : List Nat := []
def epFd_0 : LA := [(0, .p 30 0), (1, .x 0), (6, .x 1)]
def hpFd_0 : LE := [(30, .b ⟨38, .l [.i .i64 (.ofNat 4000), .x 2, .nils, .b false, .x 3, .i .i64 (.ofNat 0), .nils], 0, 0, 0, false, false⟩)]
def nuFd_0 (lz : List LB) (x mo : LB) (t E n : Int) : List Value := [St' x, .int .i64 (n), .int .i64 ((wA lz (t + n))), .int .i64 ((fA lz (t + n))), St' ([] : LB), .int .i64 ((x.length : Int)), .int .u8 (bt x (Int.toNat (n))), St' ([u8 (bt x (Int.toNat (n)))]), .int .u8 (bt x (Int.toNat (n))), .int .i64 (n + 1)]
def roFd_0 (lz : List LB) (x mo : LB) (t E n : Int) : List Value := [rwS ([] : List LB)]
def epFd_1 : LA := [(0, .p 30 0), (1, .x 0), (6, .x 1)]
def hpFd_1 : LE := [(30, .b ⟨38, .l [.i .i64 (.ofNat 4000), .x 2, .sy 60, .b false, .x 3, .i .i64 (.ofNat 0), .nils], 0, 0, 0, false, false⟩), (60, .t 4 5)]
def nuFd_1 (lz : List LB) (x mo : LB) (t E n : Int) : List Value := [St' x, .int .i64 (n), .int .i64 ((wA lz (t + n))), .int .i64 ((fA lz (t + n))), St' (lnA lz (t + n)), St' ([] : LB), .int .i64 ((x.length : Int)), .int .u8 (bt x (Int.toNat (n))), .int .i64 (n + 1), St' ([] : LB), .int .i64 ((x.length : Int)), St' ([] : LB), .int .i64 ((x.length : Int)), St' (List.drop (Int.toNat (n)) x), .int .i64 ((x.length : Int) - n), .int .i64 ((mA lz x t n)), St' (dtA lz x t n), .int .u8 (bt (dtA lz x t n) 0), .int .i64 ((fA lz (t + n)) - (mA lz x t n)), .int .i64 ((mA lz x t n) + n), St' ([] : LB), .int .i64 ((x.length : Int)), St' (List.drop (Int.toNat (n)) x), .int .i64 ((x.length : Int) - n), .int .i64 ((mA lz x t n)), St' (dtA lz x t n), .int .u8 (bt (dtA lz x t n) 0), .int .i64 ((fA lz (t + n)) - (mA lz x t n)), .int .i64 ((mA lz x t n) + n), St' ([] : LB), .int .i64 ((x.length : Int)), St' ([] : LB), .int .i64 ((x.length : Int)), .int .u8 (bt x (Int.toNat (n))), St' ((lnA lz (t + n)) ++ [u8 (bt x (Int.toNat (n)))]), .int .i64 (((lnA lz (t + n)).length : Int) + 1), .int .i64 (n + 1)]
def roFd_1 (lz : List LB) (x mo : LB) (t E n : Int) : List Value := [rwS ([] : List LB), rwS ([] : List LB), rwS ([] : List LB), rwS ([] : List LB), rwS ([] : List LB), rwS ([] : List LB)]
def epFd_2 : LA := [(0, .p 30 0), (1, .x 0), (6, .x 1)]
def hpFd_2 : LE := [(30, .b ⟨38, .l [.i .i64 (.ofNat 4000), .x 2, .sy 60, .b true, .x 3, .i .i64 (.ofNat 0), .nils], 0, 0, 0, false, false⟩), (60, .t 4 5)]
def nuFd_2 (lz : List LB) (x mo : LB) (t E n : Int) : List Value := [St' x, .int .i64 (n), .int .i64 ((wA lz (t + n))), .int .i64 ((fA lz (t + n))), St' (lnA lz (t + n)), St' ([] : LB), .int .i64 ((x.length : Int)), .int .u8 (bt x (Int.toNat (n))), .int .i64 ((hexN (lnA lz (t + n)))), .int .i64 ((hexN (lnA lz (t + n)))), .int .i64 (n + 1), St' ([] : LB), .int .i64 ((x.length : Int)), St' ([] : LB), .int .i64 ((x.length : Int)), .int .u8 (bt x (Int.toNat (n))), .int .i64 ((hexN (lnA lz (t + n)))), .int .i64 ((hexN (lnA lz (t + n)))), .int .i64 (n + 1), St' ([] : LB), .int .i64 ((x.length : Int)), .int .u8 (bt x (Int.toNat (n))), .int .i64 (n + 1)]
def roFd_2 (lz : List LB) (x mo : LB) (t E n : Int) : List Value := [rwS ([] : List LB), rwS ([] : List LB), rwS ([] : List LB), rwS ([] : List LB)]
def epFd_3 : LA := [(0, .p 30 0), (1, .x 0), (6, .x 1)]
def hpFd_3 : LE := [(30, .b ⟨38, .l [.i .i64 (.ofNat 4000), .x 2, .sy 60, .b false, .x 3, .i .i64 (.ofNat 0), .sy 61], 0, 0, 0, false, false⟩), (60, .t 4 5), (61, .t 5 5)]
def nuFd_3 (lz : List LB) (x mo : LB) (t E n : Int) : List Value := [St' x, .int .i64 (n), .int .i64 ((wA lz (t + n))), .int .i64 ((fA lz (t + n))), St' (lnA lz (t + n)), St' (DA lz (t + n)), St' ([] : LB), .int .i64 ((x.length : Int)), St' (List.drop (Int.toNat (n)) x), .int .i64 ((x.length : Int) - n), .int .i64 ((mA lz x t n)), St' (dtA lz x t n), St' ((DA lz (t + n)) ++ (dtA lz x t n)), .int .i64 ((fA lz (t + n)) - (mA lz x t n)), .int .i64 ((mA lz x t n) + n), St' ([] : LB), .int .i64 ((x.length : Int)), St' (List.drop (Int.toNat (n)) x), .int .i64 ((x.length : Int) - n), .int .i64 ((mA lz x t n)), St' (dtA lz x t n), St' ((DA lz (t + n)) ++ (dtA lz x t n)), .int .i64 ((fA lz (t + n)) - (mA lz x t n)), .int .i64 ((mA lz x t n) + n), St' ([] : LB), .int .i64 ((x.length : Int)), St' ([] : LB), .int .i64 ((x.length : Int)), .int .u8 (bt x (Int.toNat (n))), .int .i64 (n + 1), St' ([] : LB), .int .i64 ((x.length : Int)), .int .u8 (bt x (Int.toNat (n))), St' ((lnA lz (t + n)) ++ [u8 (bt x (Int.toNat (n)))]), .int .i64 (((lnA lz (t + n)).length : Int) + 1), .int .i64 (n + 1), St' ([] : LB), .int .i64 ((x.length : Int))]
def roFd_3 (lz : List LB) (x mo : LB) (t E n : Int) : List Value := [rwS ([] : List LB), rwS ([] : List LB), rwS ([] : List LB), rwS ([] : List LB), rwS ([] : List LB), rwS ([] : List LB)]
def epFd_4 : LA := [(0, .p 30 0), (1, .x 0), (6, .x 1)]
def hpFd_4 : LE := [(30, .b ⟨38, .l [.i .i64 (.ofNat 4000), .x 2, .sy 60, .b true, .x 3, .i .i64 (.ofNat 0), .sy 61], 0, 0, 0, false, false⟩), (60, .t 4 5), (61, .t 5 5)]
def nuFd_4 (lz : List LB) (x mo : LB) (t E n : Int) : List Value := [St' x, .int .i64 (n), .int .i64 ((wA lz (t + n))), .int .i64 ((fA lz (t + n))), St' (lnA lz (t + n)), St' (DA lz (t + n)), St' ([] : LB), .int .i64 ((x.length : Int)), .int .u8 (bt x (Int.toNat (n))), .int .i64 (n + 1), St' ([] : LB), .int .i64 ((x.length : Int)), St' ([] : LB), .int .i64 ((x.length : Int)), .int .u8 (bt x (Int.toNat (n))), .int .i64 ((hexN (lnA lz (t + n)))), .int .i64 (((DA lz (t + n)).length : Int)), .int .i64 (((DA lz (t + n)).length : Int) + (hexN (lnA lz (t + n)))), .int .i64 (n + 1), St' ([] : LB), .int .i64 ((x.length : Int)), .int .u8 (bt x (Int.toNat (n))), .int .i64 ((hexN (lnA lz (t + n)))), .int .i64 (((DA lz (t + n)).length : Int)), .int .i64 (((DA lz (t + n)).length : Int) + (hexN (lnA lz (t + n)))), .int .i64 (n + 1), St' ([] : LB), .int .i64 ((x.length : Int)), .int .u8 (bt x (Int.toNat (n))), .int .i64 (n + 1)]
def roFd_4 (lz : List LB) (x mo : LB) (t E n : Int) : List Value := [rwS ([] : List LB), rwS ([] : List LB), rwS ([] : List LB), rwS ([] : List LB), rwS ([] : List LB)]
def epFd (st : Nat × Int) : LA := if st.1 = 0 then epFd_0 else if st.1 = 1 then epFd_1 else if st.1 = 2 then epFd_2 else if st.1 = 3 then epFd_3 else epFd_4
def hpFd (st : Nat × Int) : LE := if st.1 = 0 then hpFd_0 else if st.1 = 1 then hpFd_1 else if st.1 = 2 then hpFd_2 else if st.1 = 3 then hpFd_3 else hpFd_4
def nuFd (lz : List LB) (x mo : LB) (t E : Int) (st : Nat × Int) : List Value := if st.1 = 0 then nuFd_0 lz x mo t E (st.2) else if st.1 = 1 then nuFd_1 lz x mo t E (st.2) else if st.1 = 2 then nuFd_2 lz x mo t E (st.2) else if st.1 = 3 then nuFd_3 lz x mo t E (st.2) else nuFd_4 lz x mo t E (st.2)
def roFd (lz : List LB) (x mo : LB) (t E : Int) (st : Nat × Int) : List Value := if st.1 = 0 then roFd_0 lz x mo t E (st.2) else if st.1 = 1 then roFd_1 lz x mo t E (st.2) else if st.1 = 2 then roFd_2 lz x mo t E (st.2) else if st.1 = 3 then roFd_3 lz x mo t E (st.2) else roFd_4 lz x mo t E (st.2)
theorem onFd (lz : List LB) (x mo : LB) (t E : Int) (st : Nat × Int) : ∀ j, (nuL (nuFd lz x mo t E st) j).oneCell' = true := by
  intro j
  unfold nuFd
  by_cases g0 : st.1 = 0
  · rw [if_pos g0]; exact nuL_one (l := nuFd_0 lz x mo t E (st.2)) rfl j
  rw [if_neg g0]
  by_cases g1 : st.1 = 1
  · rw [if_pos g1]; exact nuL_one (l := nuFd_1 lz x mo t E (st.2)) rfl j
  rw [if_neg g1]
  by_cases g2 : st.1 = 2
  · rw [if_pos g2]; exact nuL_one (l := nuFd_2 lz x mo t E (st.2)) rfl j
  rw [if_neg g2]
  by_cases g3 : st.1 = 3
  · rw [if_pos g3]; exact nuL_one (l := nuFd_3 lz x mo t E (st.2)) rfl j
  rw [if_neg g3]
  exact nuL_one (l := nuFd_4 lz x mo t E (st.2)) rfl j
theorem ebFd (st : Nat × Int) : (lfB (epFd st) && lfC keepFd) = true := by
  unfold epFd
  by_cases g0 : st.1 = 0
  · rw [if_pos g0]; rfl
  rw [if_neg g0]
  by_cases g1 : st.1 = 1
  · rw [if_pos g1]; rfl
  rw [if_neg g1]
  by_cases g2 : st.1 = 2
  · rw [if_pos g2]; rfl
  rw [if_neg g2]
  by_cases g3 : st.1 = 3
  · rw [if_pos g3]; rfl
  rw [if_neg g3]
  rfl
noncomputable def DFd (lz : List LB) (x mo : LB) (t E : Int) (st : Nat × Int) (X : Nat → Value) : Cx := cx (nuX (nuFd lz x mo t E st) (rX (roFd lz x mo t E st) X)) (nuX_one (onFd lz x mo t E st)) 3 laidE laidE_stab
def InvFd (lz : List LB) (x mo : LB) (t E : Int) (st : Nat × Int) : Prop := (0 ≤ (st.2)) ∧ ((st.2) ≤ E) ∧ (x.length ≤ 1000) ∧ ((st.1) = 0 → t + (st.2) = 0) ∧ (1 ≤ (st.1) → 1 ≤ t + (st.2)) ∧ ((st.1) = 0 ∨ (st.1) = 1 ∨ (st.1) = 3 → ¬ cA lz (t + (st.2)) = true) ∧ ((st.1) = 2 ∨ (st.1) = 4 → cA lz (t + (st.2)) = true) ∧ ((st.1) ≤ 2 → (DA lz (t + (st.2))).length = 0) ∧ (3 ≤ (st.1) → ¬ (DA lz (t + (st.2))).length = 0) ∧ ((st.1) < 5)
abbrev CjFd (lz : List LB) (x mo : LB) (t E : Int) (tag : Nat) (n : Int) : Prop := (0 ≤ n) ∧ (n ≤ E) ∧ (x.length ≤ 1000) ∧ (tag = 0 → t + n = 0) ∧ (1 ≤ tag → 1 ≤ t + n) ∧ (tag = 0 ∨ tag = 1 ∨ tag = 3 → ¬ cA lz (t + n) = true) ∧ (tag = 2 ∨ tag = 4 → cA lz (t + n) = true) ∧ (tag ≤ 2 → (DA lz (t + n)).length = 0) ∧ (3 ≤ tag → ¬ (DA lz (t + n)).length = 0) ∧ (tag < 5)
theorem mkIFd (lz : List LB) (x mo : LB) (t E : Int) (tag : Nat) (n : Int) (h : CjFd lz x mo t E tag n) : InvFd lz x mo t E (tag, n) := h
theorem unIFd (lz : List LB) (x mo : LB) (t E : Int) (tag : Nat) (n : Int) (h : InvFd lz x mo t E (tag, n)) : (0 ≤ n) ∧ (n ≤ E) ∧ (x.length ≤ 1000) ∧ (tag = 0 → t + n = 0) ∧ (1 ≤ tag → 1 ≤ t + n) ∧ (tag = 0 ∨ tag = 1 ∨ tag = 3 → ¬ cA lz (t + n) = true) ∧ (tag = 2 ∨ tag = 4 → cA lz (t + n) = true) ∧ (tag ≤ 2 → (DA lz (t + n)).length = 0) ∧ (3 ≤ tag → ¬ (DA lz (t + n)).length = 0) ∧ (tag < 5) := h
def muFd (lz : List LB) (x mo : LB) (t E : Int) (st : Nat × Int) : Nat := (x.length - (st.2).toNat)
abbrev RHFd (lz : List LB) (x mo : LB) (t E : Int) (E' : Cx) (ex' : Ex) (epx' : LA) (hpx' : LE) (st : Nat × Int) (X : Nat → Value) : Prop := RoundH E' bodyFd keepFd 58 ex' 4 60 62 120 epFd hpFd epx' hpx' (InvFd lz x mo t E) (muFd lz x mo t E) (DFd lz x mo t E) st X
noncomputable abbrev CXFd_0 (lz : List LB) (x mo : LB) (t E n : Int) (X : Nat → Value) : Cx := cx (nuX (nuFd_0 lz x mo t E n) (rX (roFd_0 lz x mo t E n) X)) (nuX_one (nuL_one (l := nuFd_0 lz x mo t E n) rfl)) 3 laidE laidE_stab
noncomputable abbrev RNFd_0 (h : LK) (x : Ex) (th : LA) (sg : List (Nat × Nat)) (m : Nat) (ep : LA) (hp : LE) : Bool := okRdH (code (tbl h) 5000 [] bodyFd (envOf (headOf epFd_0 keepFd) 58) ⟨lhSet hpFd_0 .leaf, 62, 0, 0⟩) x keepFd 58 120 th sg 60 m ep hp
theorem stFd_0 (lz : List LB) (x mo : LB) (t E n : Int) {X : Nat → Value} {h : LK} (y : Nat × Int) {th : LA} {sg : List (Nat × Nat)} (ho : ∀ a' r', (a', r') ∈ h → HOk (CXFd_0 lz x mo t E n X) a' r') (hy : InvFd lz x mo t E y) (lt : muFd lz x mo t E y < muFd lz x mo t E (0, n)) (ht : ThOk (CXFd_0 lz x mo t E n X) (DFd lz x mo t E y X) th) (run : RNFd_0 h .normal th sg 62 (epFd y) (hpFd y) = true) : RHFd lz x mo t E E' x' e' h' (0, n) X :=
  RoundH.next (tb := tbl h) (L := []) (f := 5000) y ((tabkOk _ _).hyps ho) (LpOk.nil _) rfl hy lt ht run
theorem lvFd_0 (lz : List LB) (x mo : LB) (t E n : Int) {X : Nat → Value} {h : LK} {th : LA} {sg : List (Nat × Nat)} (hne : exB x' .normal = false) (ho : ∀ a' r', (a', r') ∈ h → HOk (CXFd_0 lz x mo t E n X) a' r') (ht : ThOk (CXFd_0 lz x mo t E n X) E' th) (run : RNFd_0 h x' th sg 120 e' h' = true) : RHFd lz x mo t E E' x' e' h' (0, n) X :=
  RoundH.leave (tb := tbl h) (L := []) (f := 5000) ((tabkOk _ _).hyps ho) (LpOk.nil _) rfl hne ht run
noncomputable abbrev CXFd_1 (lz : List LB) (x mo : LB) (t E n : Int) (X : Nat → Value) : Cx := cx (nuX (nuFd_1 lz x mo t E n) (rX (roFd_1 lz x mo t E n) X)) (nuX_one (nuL_one (l := nuFd_1 lz x mo t E n) rfl)) 3 laidE laidE_stab
noncomputable abbrev RNFd_1 (h : LK) (x : Ex) (th : LA) (sg : List (Nat × Nat)) (m : Nat) (ep : LA) (hp : LE) : Bool := okRdH (code (tbl h) 5000 [] bodyFd (envOf (headOf epFd_1 keepFd) 58) ⟨lhSet hpFd_1 .leaf, 62, 0, 0⟩) x keepFd 58 120 th sg 60 m ep hp
theorem stFd_1 (lz : List LB) (x mo : LB) (t E n : Int) {X : Nat → Value} {h : LK} (y : Nat × Int) {th : LA} {sg : List (Nat × Nat)} (ho : ∀ a' r', (a', r') ∈ h → HOk (CXFd_1 lz x mo t E n X) a' r') (hy : InvFd lz x mo t E y) (lt : muFd lz x mo t E y < muFd lz x mo t E (1, n)) (ht : ThOk (CXFd_1 lz x mo t E n X) (DFd lz x mo t E y X) th) (run : RNFd_1 h .normal th sg 62 (epFd y) (hpFd y) = true) : RHFd lz x mo t E E' x' e' h' (1, n) X :=
  RoundH.next (tb := tbl h) (L := []) (f := 5000) y ((tabkOk _ _).hyps ho) (LpOk.nil _) rfl hy lt ht run
theorem lvFd_1 (lz : List LB) (x mo : LB) (t E n : Int) {X : Nat → Value} {h : LK} {th : LA} {sg : List (Nat × Nat)} (hne : exB x' .normal = false) (ho : ∀ a' r', (a', r') ∈ h → HOk (CXFd_1 lz x mo t E n X) a' r') (ht : ThOk (CXFd_1 lz x mo t E n X) E' th) (run : RNFd_1 h x' th sg 120 e' h' = true) : RHFd lz x mo t E E' x' e' h' (1, n) X :=
  RoundH.leave (tb := tbl h) (L := []) (f := 5000) ((tabkOk _ _).hyps ho) (LpOk.nil _) rfl hne ht run
noncomputable abbrev CXFd_2 (lz : List LB) (x mo : LB) (t E n : Int) (X : Nat → Value) : Cx := cx (nuX (nuFd_2 lz x mo t E n) (rX (roFd_2 lz x mo t E n) X)) (nuX_one (nuL_one (l := nuFd_2 lz x mo t E n) rfl)) 3 laidE laidE_stab
noncomputable abbrev RNFd_2 (h : LK) (x : Ex) (th : LA) (sg : List (Nat × Nat)) (m : Nat) (ep : LA) (hp : LE) : Bool := okRdH (code (tbl h) 5000 [] bodyFd (envOf (headOf epFd_2 keepFd) 58) ⟨lhSet hpFd_2 .leaf, 62, 0, 0⟩) x keepFd 58 120 th sg 60 m ep hp
theorem stFd_2 (lz : List LB) (x mo : LB) (t E n : Int) {X : Nat → Value} {h : LK} (y : Nat × Int) {th : LA} {sg : List (Nat × Nat)} (ho : ∀ a' r', (a', r') ∈ h → HOk (CXFd_2 lz x mo t E n X) a' r') (hy : InvFd lz x mo t E y) (lt : muFd lz x mo t E y < muFd lz x mo t E (2, n)) (ht : ThOk (CXFd_2 lz x mo t E n X) (DFd lz x mo t E y X) th) (run : RNFd_2 h .normal th sg 62 (epFd y) (hpFd y) = true) : RHFd lz x mo t E E' x' e' h' (2, n) X :=
  RoundH.next (tb := tbl h) (L := []) (f := 5000) y ((tabkOk _ _).hyps ho) (LpOk.nil _) rfl hy lt ht run
theorem lvFd_2 (lz : List LB) (x mo : LB) (t E n : Int) {X : Nat → Value} {h : LK} {th : LA} {sg : List (Nat × Nat)} (hne : exB x' .normal = false) (ho : ∀ a' r', (a', r') ∈ h → HOk (CXFd_2 lz x mo t E n X) a' r') (ht : ThOk (CXFd_2 lz x mo t E n X) E' th) (run : RNFd_2 h x' th sg 120 e' h' = true) : RHFd lz x mo t E E' x' e' h' (2, n) X :=
  RoundH.leave (tb := tbl h) (L := []) (f := 5000) ((tabkOk _ _).hyps ho) (LpOk.nil _) rfl hne ht run
noncomputable abbrev CXFd_3 (lz : List LB) (x mo : LB) (t E n : Int) (X : Nat → Value) : Cx := cx (nuX (nuFd_3 lz x mo t E n) (rX (roFd_3 lz x mo t E n) X)) (nuX_one (nuL_one (l := nuFd_3 lz x mo t E n) rfl)) 3 laidE laidE_stab
noncomputable abbrev RNFd_3 (h : LK) (x : Ex) (th : LA) (sg : List (Nat × Nat)) (m : Nat) (ep : LA) (hp : LE) : Bool := okRdH (code (tbl h) 5000 [] bodyFd (envOf (headOf epFd_3 keepFd) 58) ⟨lhSet hpFd_3 .leaf, 62, 0, 0⟩) x keepFd 58 120 th sg 60 m ep hp
theorem stFd_3 (lz : List LB) (x mo : LB) (t E n : Int) {X : Nat → Value} {h : LK} (y : Nat × Int) {th : LA} {sg : List (Nat × Nat)} (ho : ∀ a' r', (a', r') ∈ h → HOk (CXFd_3 lz x mo t E n X) a' r') (hy : InvFd lz x mo t E y) (lt : muFd lz x mo t E y < muFd lz x mo t E (3, n)) (ht : ThOk (CXFd_3 lz x mo t E n X) (DFd lz x mo t E y X) th) (run : RNFd_3 h .normal th sg 62 (epFd y) (hpFd y) = true) : RHFd lz x mo t E E' x' e' h' (3, n) X :=
  RoundH.next (tb := tbl h) (L := []) (f := 5000) y ((tabkOk _ _).hyps ho) (LpOk.nil _) rfl hy lt ht run
theorem lvFd_3 (lz : List LB) (x mo : LB) (t E n : Int) {X : Nat → Value} {h : LK} {th : LA} {sg : List (Nat × Nat)} (hne : exB x' .normal = false) (ho : ∀ a' r', (a', r') ∈ h → HOk (CXFd_3 lz x mo t E n X) a' r') (ht : ThOk (CXFd_3 lz x mo t E n X) E' th) (run : RNFd_3 h x' th sg 120 e' h' = true) : RHFd lz x mo t E E' x' e' h' (3, n) X :=
  RoundH.leave (tb := tbl h) (L := []) (f := 5000) ((tabkOk _ _).hyps ho) (LpOk.nil _) rfl hne ht run
noncomputable abbrev CXFd_4 (lz : List LB) (x mo : LB) (t E n : Int) (X : Nat → Value) : Cx := cx (nuX (nuFd_4 lz x mo t E n) (rX (roFd_4 lz x mo t E n) X)) (nuX_one (nuL_one (l := nuFd_4 lz x mo t E n) rfl)) 3 laidE laidE_stab
noncomputable abbrev RNFd_4 (h : LK) (x : Ex) (th : LA) (sg : List (Nat × Nat)) (m : Nat) (ep : LA) (hp : LE) : Bool := okRdH (code (tbl h) 5000 [] bodyFd (envOf (headOf epFd_4 keepFd) 58) ⟨lhSet hpFd_4 .leaf, 62, 0, 0⟩) x keepFd 58 120 th sg 60 m ep hp
theorem stFd_4 (lz : List LB) (x mo : LB) (t E n : Int) {X : Nat → Value} {h : LK} (y : Nat × Int) {th : LA} {sg : List (Nat × Nat)} (ho : ∀ a' r', (a', r') ∈ h → HOk (CXFd_4 lz x mo t E n X) a' r') (hy : InvFd lz x mo t E y) (lt : muFd lz x mo t E y < muFd lz x mo t E (4, n)) (ht : ThOk (CXFd_4 lz x mo t E n X) (DFd lz x mo t E y X) th) (run : RNFd_4 h .normal th sg 62 (epFd y) (hpFd y) = true) : RHFd lz x mo t E E' x' e' h' (4, n) X :=
  RoundH.next (tb := tbl h) (L := []) (f := 5000) y ((tabkOk _ _).hyps ho) (LpOk.nil _) rfl hy lt ht run
theorem lvFd_4 (lz : List LB) (x mo : LB) (t E n : Int) {X : Nat → Value} {h : LK} {th : LA} {sg : List (Nat × Nat)} (hne : exB x' .normal = false) (ho : ∀ a' r', (a', r') ∈ h → HOk (CXFd_4 lz x mo t E n X) a' r') (ht : ThOk (CXFd_4 lz x mo t E n X) E' th) (run : RNFd_4 h x' th sg 120 e' h' = true) : RHFd lz x mo t E E' x' e' h' (4, n) X :=
  RoundH.leave (tb := tbl h) (L := []) (f := 5000) ((tabkOk _ _).hyps ho) (LpOk.nil _) rfl hne ht run
def hyFd_p0 : LK := [(.rn, .x 2000000), (.bytes [], .x 4), (.len (.x 0), .x 5), (.bin .lss (.x 1) (.x 5), .b true), (.bin .neq (.x 2) (.i .i64 (.ofNat 4)), .b true), (.bin .eql (.x 2) (.i .i64 (.ofNat 1)), .b false), (.idx (.x 0) (.x 1), .x 6), (.bin .eql (.x 6) (.i .u8 (.ofNat 10)), .b false), (.bin .eql (.x 6) (.i .u8 (.ofNat 13)), .b false), (.bin .eql (.x 2) (.i .i64 (.ofNat 2)), .b false), (.app (.x 4) [.x 6], .x 7), (.byt (.x 7) (.i .i64 (.ofNat 0)), .x 8), (.fit (.x 7), .b true), (.bin .eql (.x 2) (.i .i64 (.ofNat 3)), .b false), (.len (.x 7), .i .i64 (.ofNat 1)), (.bin .add (.x 1) (.i .i64 (.ofNat 1)), .x 9)]
theorem runFd_p0 : RNFd_0 hyFd_p0 .normal [(0, .x 0), (1, .x 9), (2, .x 2), (3, .x 3), (4, .x 7)] [(60, 63)] 62 epFd_1 hpFd_1 = true := by kernel_rfl
theorem nxFd_p0 (lz : List LB) (x mo : LB) (t E : Int) (c0 : 0 ≤ t) (c1 : E ≤ (x.length : Int) ∧ E ≤ nA lz - t) (c2 : (x.length : Int) ≤ E ∨ nA lz - t ≤ E) (c3 : ok3 lz) (c4 : lz.flatten.length ≤ 3000) (c5 : xP x lz mo t) (c6 : 1 ≤ x.length) (n : Int) (X : Nat → Value) (hI : InvFd lz x mo t E (0, n)) : RHFd lz x mo t E E' x' e' h' (0, n) X := by
  obtain ⟨i0, i1, i2, i3, i4, i5, i6, i7, i8, it⟩ := unIFd lz x mo t E 0 n hI
  have hln0 : lnA lz (t + n) = [] := by rw [show t + n = 0 by omega]; rfl
  have hw00 : wA lz (t + n) = 0 := by rw [show t + n = 0 by omega]; rfl
  have j0 := c0; have j1 := c1; have j2 := c2; have j3 := c3; have j4 := c4; have j5 := c5; have j6 := c6
  obtain ⟨y1, y2, y3, y4, y5, y6, y7, y8⟩ := any_ (l := lz) (i := t + n) j3 (by omega) (by omega)
  have hNl := nA_lo (l := lz)
  have hn0 : ([] : LB).length = 0 := rfl
  have hpc := pc (x := x) (l := lz) (t := t) (n := n) j5 j0 i0 (by omega)
  have hb13 := bt0 (l := lz) j3 (i := t + n) (by omega)
  obtain ⟨hi, hrf⟩ := rf (l := lz) (i := t + n) (j := t + (n + 1)) j3 (by omega) (by omega) (by omega) (by omega) (by omega) (i5 (by omega))
  have hbx := hpc (by omega)
  obtain ⟨hw0, hb, q, hl2⟩ := hrf.resolve_left (fun z => absurd z.1 (by assumption))
  have := bt_lo x (Int.toNat (n)); have := bt_hi x (Int.toNat (n))
  have hqD := q.D; have hqw := q.w
  have hqL := q.L; have hqf := q.f; have hqc := q.c
  refine stFd_0 lz x mo t E n (h := hyFd_p0) (1, (n + 1)) ?_ (mkIFd lz x mo t E 1 (n + 1) ⟨by omega, by omega, i2, fun h => by omega, fun _ => by omega, fun _ => by rw [hqc]; decide, fun h => by omega, fun _ => by rw [hqD]; exact i7 (by omega), fun h => by omega, by omega⟩) (by show x.length - ((n + 1)).toNat < x.length - n.toNat; omega) (thXv (v := St' x) rfl rfl (thXi (b := ((n + 1))) rfl rfl (by omega) (thXi (b := ((wA lz (t + (n + 1))))) rfl rfl (by omega) (thXi (b := ((fA lz (t + (n + 1))))) rfl rfl (by omega) (thXe (v := St' ([u8 (bt x (Int.toNat (n)))])) (u := St' (lnA lz (t + (n + 1)))) rfl rfl (congrArg (fun l => St' l) (by rw [hqL, hbx]; try rw [hln0]; try rfl)) (thNil)))))) runFd_p0
  unfold hyFd_p0
  exact hc (kRn (denX rfl)) <|
   hc (kBytesB (bs := ([] : LB)) .nil (denX rfl)) <|
   hc (lnV rfl rfl (by omega)) <|
   hc (ltT rfl rfl (by omega)) <|
   hc (necT rfl (by omega)) <|
   hc (eqcF rfl (by omega)) <|
   hc (ixV rfl rfl rfl (by omega)) <|
   hc (eqcF rfl (by omega)) <|
   hc (eqcF rfl (by omega)) <|
   hc (eqcF rfl (by omega)) <|
   hc (kApp (bs := [u8 (bt x (Int.toNat (n)))]) (isX rfl) (.cons (isB8 (isX rfl) (by omega) (by omega)) .nil) (denX rfl) (by first | rfl | (simp; done))) <|
   hc (kByt (i := 0) (isX rfl) (isZ (m := 0) rfl) (denX rfl) rfl (by simp) (bt_at rfl (by omega) (by omega))) <|
   hc (kFit (isX rfl) (by first | omega | (simp <;> omega))) <|
   hc (eqcF rfl (by omega)) <|
   hc (kLenE (isX rfl) (denZ (m := 1) rfl) rfl) <|
   hc (adC rfl rfl (by omega)) <|
   hnil
def hyFd_p1 : LK := [(.rn, .x 2000000), (.bytes [], .x 5), (.len (.x 0), .x 6), (.bin .lss (.x 1) (.x 6), .b true), (.bin .neq (.x 2) (.i .i64 (.ofNat 4)), .b true), (.bin .eql (.x 2) (.i .i64 (.ofNat 1)), .b false), (.idx (.x 0) (.x 1), .x 7), (.bin .eql (.x 7) (.i .u8 (.ofNat 10)), .b false), (.bin .eql (.x 7) (.i .u8 (.ofNat 13)), .b true), (.bin .add (.x 1) (.i .i64 (.ofNat 1)), .x 8)]
theorem runFd_p1 : RNFd_1 hyFd_p1 .normal [(0, .x 0), (1, .x 8), (2, .x 2), (3, .x 3), (4, .x 4)] [(60, 60)] 62 epFd_2 hpFd_2 = true := by kernel_rfl
theorem nxFd_p1 (lz : List LB) (x mo : LB) (t E : Int) (c0 : 0 ≤ t) (c1 : E ≤ (x.length : Int) ∧ E ≤ nA lz - t) (c2 : (x.length : Int) ≤ E ∨ nA lz - t ≤ E) (c3 : ok3 lz) (c4 : lz.flatten.length ≤ 3000) (c5 : xP x lz mo t) (c6 : 1 ≤ x.length) (n : Int) (X : Nat → Value) (hI : InvFd lz x mo t E (1, n)) (h0 : n < (x.length : Int)) (h1 : ¬ ((wA lz (t + n)) = 4)) (h2 : ¬ ((wA lz (t + n)) = 1)) (h3 : bt (ckS lz) (Int.toNat (t + n)) = 13) : RHFd lz x mo t E E' x' e' h' (1, n) X := by
  obtain ⟨i0, i1, i2, i3, i4, i5, i6, i7, i8, it⟩ := unIFd lz x mo t E 1 n hI
  have j0 := c0; have j1 := c1; have j2 := c2; have j3 := c3; have j4 := c4; have j5 := c5; have j6 := c6
  obtain ⟨y1, y2, y3, y4, y5, y6, y7, y8⟩ := any_ (l := lz) (i := t + n) j3 (by omega) (by omega)
  have hNl := nA_lo (l := lz)
  have hn0 : ([] : LB).length = 0 := rfl
  have hpc := pc (x := x) (l := lz) (t := t) (n := n) j5 j0 i0 (by omega)
  obtain ⟨hi, hrf⟩ := rf (l := lz) (i := t + n) (j := t + (n + 1)) j3 (by omega) (by omega) (by omega) (by omega) (by omega) (i5 (by omega))
  have hbx := hpc (by omega)
  obtain ⟨hb, q⟩ := hrf.resolve_right (fun z => by omega)
  have := bt_lo x (Int.toNat (n)); have := bt_hi x (Int.toNat (n))
  have hqD := q.D; have hqw := q.w
  have hqL := q.L; have hqf := q.f; have hqc := q.c
  refine stFd_1 lz x mo t E n (h := hyFd_p1) (2, (n + 1)) ?_ (mkIFd lz x mo t E 2 (n + 1) ⟨by omega, by omega, i2, fun h => by omega, fun _ => by omega, fun h => by omega, fun _ => hqc, fun _ => by rw [hqD]; exact i7 (by omega), fun h => by omega, by omega⟩) (by show x.length - ((n + 1)).toNat < x.length - n.toNat; omega) (thXv (v := St' x) rfl rfl (thXi (b := ((n + 1))) rfl rfl (by omega) (thXi (b := ((wA lz (t + (n + 1))))) rfl rfl (by omega) (thXi (b := ((fA lz (t + (n + 1))))) rfl rfl (by omega) (thXe (v := St' (lnA lz (t + n))) (u := St' (lnA lz (t + (n + 1)))) rfl rfl (congrArg (fun l => St' l) hqL.symm) (thNil)))))) runFd_p1
  unfold hyFd_p1
  exact hc (kRn (denX rfl)) <|
   hc (kBytesB (bs := ([] : LB)) .nil (denX rfl)) <|
   hc (lnV rfl rfl (by omega)) <|
   hc (ltT rfl rfl (by omega)) <|
   hc (necT rfl (by omega)) <|
   hc (eqcF rfl (by omega)) <|
   hc (ixV rfl rfl rfl (by omega)) <|
   hc (eqcF rfl (by omega)) <|
   hc (eqcT rfl (by omega)) <|
   hc (adC rfl rfl (by omega)) <|
   hnil
def hyFd_p2 : LK := [(.rn, .x 2000001), (.bytes [], .x 9), (.len (.x 0), .x 10), (.bin .lss (.x 1) (.x 10), .b false)]
theorem runFd_p2 : RNFd_1 hyFd_p2 (.exit 0) [(0, .x 1), (1, .x 2), (2, .x 3), (3, .x 4)] [(60, 60)] 120 [(6, .x 0)] [(30, .b ⟨38, .l [.i .i64 (.ofNat 4000), .x 1, .sy 60, .b false, .x 2, .i .i64 (.ofNat 0), .nils], 0, 0, 0, false, false⟩), (60, .t 3 5)] = true := by kernel_rfl
def hyFd_p3 : LK := [(.rn, .x 2000000), (.bytes [], .x 5), (.len (.x 0), .x 6), (.bin .lss (.x 1) (.x 6), .b true), (.bin .neq (.x 2) (.i .i64 (.ofNat 4)), .b true), (.bin .eql (.x 2) (.i .i64 (.ofNat 1)), .b false), (.idx (.x 0) (.x 1), .x 7), (.bin .eql (.x 7) (.i .u8 (.ofNat 10)), .b true), (.bin .eql (.x 2) (.i .i64 (.ofNat 0)), .b true), (.bin .eql (.s 1 59) (.x 4), .b false), (.ext 42 [.x 4, .i .u8 (.ofNat 59)], .i .i64 (.negSucc 0)), (.call 31 [.x 4], .tu [.x 8, .b true]), (.bin .add (.i .i64 (.ofNat 0)) (.x 8), .x 9), (.bin .gtr (.x 9) (.i .i64 (.ofNat 4000)), .b false), (.bin .eql (.x 8) (.i .i64 (.ofNat 0)), .b false), (.bin .add (.x 1) (.i .i64 (.ofNat 1)), .x 10)]
theorem runFd_p3 : RNFd_2 hyFd_p3 .normal [(0, .x 0), (1, .x 10), (2, .i .i64 (.ofNat 1)), (3, .x 8), (4, .x 5)] [(60, 62)] 62 epFd_1 hpFd_1 = true := by kernel_rfl
theorem nxFd_p3 (lz : List LB) (x mo : LB) (t E : Int) (c0 : 0 ≤ t) (c1 : E ≤ (x.length : Int) ∧ E ≤ nA lz - t) (c2 : (x.length : Int) ≤ E ∨ nA lz - t ≤ E) (c3 : ok3 lz) (c4 : lz.flatten.length ≤ 3000) (c5 : xP x lz mo t) (c6 : 1 ≤ x.length) (n : Int) (X : Nat → Value) (hI : InvFd lz x mo t E (2, n)) (h0 : n < (x.length : Int)) (h4 : (wA lz (t + n)) = 0) (h8 : ¬ ((hexN (lnA lz (t + n))) = 0)) : RHFd lz x mo t E E' x' e' h' (2, n) X := by
  obtain ⟨i0, i1, i2, i3, i4, i5, i6, i7, i8, it⟩ := unIFd lz x mo t E 2 n hI
  have j0 := c0; have j1 := c1; have j2 := c2; have j3 := c3; have j4 := c4; have j5 := c5; have j6 := c6
  obtain ⟨y1, y2, y3, y4, y5, y6, y7, y8⟩ := any_ (l := lz) (i := t + n) j3 (by omega) (by omega)
  have hNl := nA_lo (l := lz)
  have hn0 : ([] : LB).length = 0 := rfl
  have hpc := pc (x := x) (l := lz) (t := t) (n := n) j5 j0 i0 (by omega)
  obtain ⟨hi, hb, hw1, hw4, ht0, ht2, ht3⟩ := rt (l := lz) (i := t + n) (j := t + (n + 1)) j3 (by omega) (by omega) (by omega) (i6 (by omega))
  have hbx := hpc (by omega)
  have := bt_lo x (Int.toNat (n)); have := bt_hi x (Int.toNat (n))
  obtain ⟨hz1, hz2, hz3, hz4, hz5, hz6⟩ := ht0 (by omega)
  have hne59 := ix_ne hz3 hz1 hz2
  have q := hz6 (by omega)
  have hqD := q.D; have hqw := q.w
  have hqL := q.L; have hqf := q.f; have hqc := q.c
  refine stFd_2 lz x mo t E n (h := hyFd_p3) (1, (n + 1)) ?_ (mkIFd lz x mo t E 1 (n + 1) ⟨by omega, by omega, i2, fun h => by omega, fun _ => by omega, fun _ => by rw [hqc]; decide, fun h => by omega, fun _ => by rw [hqD]; exact i7 (by omega), fun h => by omega, by omega⟩) (by show x.length - ((n + 1)).toNat < x.length - n.toNat; omega) (thXv (v := St' x) rfl rfl (thXi (b := ((n + 1))) rfl rfl (by omega) (thCons (show Is _ (.i .i64 (.ofNat 1)) (.int .i64 ((wA lz (t + (n + 1))))) from isTo (v := .int .i64 1) (isI _ _) (by first | rfl | (congr 1; omega))) (thXi (b := ((fA lz (t + (n + 1))))) rfl rfl (by omega) (thXe (v := St' ([] : LB)) (u := St' (lnA lz (t + (n + 1)))) rfl rfl (congrArg (fun l => St' l) hqL.symm) (thNil)))))) runFd_p3
  unfold hyFd_p3
  exact hc (kRn (denX rfl)) <|
   hc (kBytesB (bs := ([] : LB)) .nil (denX rfl)) <|
   hc (lnV rfl rfl (by omega)) <|
   hc (ltT rfl rfl (by omega)) <|
   hc (necT rfl (by omega)) <|
   hc (eqcF rfl (by omega)) <|
   hc (ixV rfl rfl rfl (by omega)) <|
   hc (eqcT rfl (by omega)) <|
   hc (eqcT rfl (by omega)) <|
   hc (kEqS (isSx (l := [u8 59]) 1 59 rfl) (isX rfl) (by first | exact decide_eq_true rfl | exact decide_eq_true ‹_› | exact decide_eq_false ‹_›)) <|
   hc (kExtI (n := -1) exF42 exA42 exB42 (isX rfl) (isZ (m := 59) rfl) (denZ (m := -1) rfl) (ix_hex hz3 hz1 hz2)) <|
   hc (hokOhx (n := hexN (lnA lz (t + n))) (isX (congrArg (fun l => St' l) hz3)) (denT2 (denX rfl) (denB true)) (by omega) (by omega)) <|
   hc (kAdd (isZ (m := 0) rfl) (isX rfl) (denX rfl) (by omega) (fI64 (by omega) (by omega))) <|
   hc (gtcF rfl (by omega)) <|
   hc (eqcF rfl (by omega)) <|
   hc (adC rfl rfl (by omega)) <|
   hnil
def hyFd_p4 : LK := [(.rn, .x 2000001), (.bytes [], .x 11), (.len (.x 0), .x 12), (.bin .lss (.x 1) (.x 12), .b false)]
theorem runFd_p4 : RNFd_2 hyFd_p4 (.exit 0) [(0, .x 1), (1, .x 2), (2, .x 3), (3, .x 4)] [(60, 60)] 120 [(6, .x 0)] [(30, .b ⟨38, .l [.i .i64 (.ofNat 4000), .x 1, .sy 60, .b true, .x 2, .i .i64 (.ofNat 0), .nils], 0, 0, 0, false, false⟩), (60, .t 3 5)] = true := by kernel_rfl
def hyFd_p5 : LK := [(.rn, .x 2000002), (.bytes [], .x 11), (.len (.x 0), .x 12), (.bin .lss (.x 1) (.x 12), .b true), (.bin .neq (.x 2) (.i .i64 (.ofNat 4)), .b true), (.bin .eql (.x 2) (.i .i64 (.ofNat 1)), .b true), (.sub (.x 0) (some (.x 1)) none, .x 13), (.len (.x 13), .x 14), (.mm false (.x 14) (.x 3), .x 15), (.sub (.x 13) none (some (.x 15)), .x 16), (.byt (.x 16) (.i .i64 (.ofNat 0)), .x 17), (.fit (.x 16), .b true), (.bin .sub (.x 3) (.x 15), .x 18), (.bin .eql (.x 18) (.i .i64 (.ofNat 0)), .b false), (.bin .add (.x 1) (.x 15), .x 19)]
theorem runFd_p5 : RNFd_1 hyFd_p5 .normal [(0, .x 0), (1, .x 19), (2, .x 2), (3, .x 18), (4, .x 4), (5, .x 16)] [(60, 60), (61, 62)] 62 epFd_3 hpFd_3 = true := by kernel_rfl
theorem nxFd_p5 (lz : List LB) (x mo : LB) (t E : Int) (c0 : 0 ≤ t) (c1 : E ≤ (x.length : Int) ∧ E ≤ nA lz - t) (c2 : (x.length : Int) ≤ E ∨ nA lz - t ≤ E) (c3 : ok3 lz) (c4 : lz.flatten.length ≤ 3000) (c5 : xP x lz mo t) (c6 : 1 ≤ x.length) (n : Int) (X : Nat → Value) (hI : InvFd lz x mo t E (1, n)) (h0 : n < (x.length : Int)) (h1 : ¬ ((wA lz (t + n)) = 4)) (h2 : (wA lz (t + n)) = 1) (h3 : ¬ ((fA lz (t + n)) - (mA lz x t n) = 0)) : RHFd lz x mo t E E' x' e' h' (1, n) X := by
  obtain ⟨i0, i1, i2, i3, i4, i5, i6, i7, i8, it⟩ := unIFd lz x mo t E 1 n hI
  have j0 := c0; have j1 := c1; have j2 := c2; have j3 := c3; have j4 := c4; have j5 := c5; have j6 := c6
  obtain ⟨y1, y2, y3, y4, y5, y6, y7, y8⟩ := any_ (l := lz) (i := t + n) j3 (by omega) (by omega)
  have hNl := nA_lo (l := lz)
  have hn0 : ([] : LB).length = 0 := rfl
  have := lenDrop (l := x) (P := n) (by omega) (by omega)
  obtain ⟨u1, u2, u3, u4, u5⟩ := r1 (l := lz) (i := t + n) j3 (by omega) (by omega) (by omega)
  have hmA : mA lz x t n = min ((x.length : Int) - n) (fA lz (t + n)) := rfl
  have hdl : ((x.drop (Int.toNat (n))).length : Int) = x.length - n := by rw [List.length_drop]; omega
  have := bt_lo (dtA lz x t n) 0; have := bt_hi (dtA lz x t n) 0
  have q := r1m (l := lz) (i := t + n) j3 (by omega) (by omega) (by omega) (Int.toNat (mA lz x t n)) (by omega) (by omega)
  rw [show ((Int.toNat (mA lz x t n) : Nat) : Int) = mA lz x t n by omega, show t + n + mA lz x t n = t + (n + mA lz x t n) by omega] at q
  have hpd := pd (x := x) (l := lz) (t := t) (n := n) (m := mA lz x t n) j5 j0 i0 (by omega) (by omega) (by omega)
  have hdt := dtA_eq hpd
  have hqD := q.D; rw [← hdt] at hqD
  have hdn := dtA_len (l := lz) (x := x) (t := t) (n := n) i0 (by omega) (by omega)
  have hqw := q.w; rw [if_neg (by omega)] at hqw
  have hqL := q.L; have hqf := q.f; have hqc := q.c
  refine stFd_1 lz x mo t E n (h := hyFd_p5) (3, (n + (mA lz x t n))) ?_ (mkIFd lz x mo t E 3 (n + (mA lz x t n)) ⟨by omega, by omega, i2, fun h => by omega, fun _ => by omega, fun _ => by rw [hqc]; decide, fun h => by omega, fun h => by omega, fun _ => by rw [hqD, List.length_append]; omega, by omega⟩) (by show x.length - ((n + (mA lz x t n))).toNat < x.length - n.toNat; omega) (thXv (v := St' x) rfl rfl (thXi (b := ((n + (mA lz x t n)))) rfl rfl (by omega) (thXi (b := ((wA lz (t + (n + (mA lz x t n)))))) rfl rfl (by omega) (thXi (b := ((fA lz (t + (n + (mA lz x t n)))))) rfl rfl (by omega) (thXe (v := St' (lnA lz (t + n))) (u := St' (lnA lz (t + (n + (mA lz x t n))))) rfl rfl (congrArg (fun l => St' l) ((u1).trans hqL.symm)) (thXe (v := St' (dtA lz x t n)) (u := St' (DA lz (t + (n + (mA lz x t n))))) rfl rfl (congrArg (fun l => St' l) (by rw [hqD, List.eq_nil_of_length_eq_zero (i7 (by omega)), List.nil_append])) (thNil))))))) runFd_p5
  unfold hyFd_p5
  exact hc (kRn (denX rfl)) <|
   hc (kBytesB (bs := ([] : LB)) .nil (denX rfl)) <|
   hc (lnV rfl rfl (by omega)) <|
   hc (ltT rfl rfl (by omega)) <|
   hc (necT rfl (by omega)) <|
   hc (eqcT rfl (by omega)) <|
   hc (drV rfl rfl rfl (by omega)) <|
   hc (lnV rfl rfl (by omega)) <|
   hc (kMin (isX rfl) (isX rfl) (denX rfl) (by rw [hmA]; try omega)) <|
   hc (kMid (P := 0) (Q := (mA lz x t n)) (isX rfl) (.inl ⟨rfl, rfl⟩) (.inr ⟨_, _, rfl, (isX rfl)⟩) (by omega) (by omega) (by omega) (denX (congrArg (fun l => St' l) dtA_mid))) <|
   hc (kByt (i := 0) (isX rfl) (isZ (m := 0) rfl) (denX rfl) rfl (by first | omega | (simp <;> omega)) rfl) <|
   hc (kFit (isX rfl) (by first | omega | (simp <;> omega))) <|
   hc (sbX rfl rfl rfl (by omega)) <|
   hc (eqcF rfl (by omega)) <|
   hc (adX rfl rfl rfl (by omega)) <|
   hnil
def hyFd_p6 : LK := [(.rn, .x 2000003), (.bytes [], .x 20), (.len (.x 0), .x 21), (.bin .lss (.x 1) (.x 21), .b true), (.bin .neq (.x 2) (.i .i64 (.ofNat 4)), .b true), (.bin .eql (.x 2) (.i .i64 (.ofNat 1)), .b true), (.sub (.x 0) (some (.x 1)) none, .x 22), (.len (.x 22), .x 23), (.mm false (.x 23) (.x 3), .x 24), (.sub (.x 22) none (some (.x 24)), .x 25), (.byt (.x 25) (.i .i64 (.ofNat 0)), .x 26), (.fit (.x 25), .b true), (.bin .sub (.x 3) (.x 24), .x 27), (.bin .eql (.x 27) (.i .i64 (.ofNat 0)), .b true), (.bin .add (.x 1) (.x 24), .x 28)]
theorem runFd_p6 : RNFd_1 hyFd_p6 .normal [(0, .x 0), (1, .x 28), (2, .i .i64 (.ofNat 2)), (3, .x 27), (4, .x 4), (5, .x 25)] [(60, 60), (61, 62)] 62 epFd_3 hpFd_3 = true := by kernel_rfl
theorem nxFd_p6 (lz : List LB) (x mo : LB) (t E : Int) (c0 : 0 ≤ t) (c1 : E ≤ (x.length : Int) ∧ E ≤ nA lz - t) (c2 : (x.length : Int) ≤ E ∨ nA lz - t ≤ E) (c3 : ok3 lz) (c4 : lz.flatten.length ≤ 3000) (c5 : xP x lz mo t) (c6 : 1 ≤ x.length) (n : Int) (X : Nat → Value) (hI : InvFd lz x mo t E (1, n)) (h0 : n < (x.length : Int)) (h1 : ¬ ((wA lz (t + n)) = 4)) (h2 : (wA lz (t + n)) = 1) (h3 : (fA lz (t + n)) - (mA lz x t n) = 0) : RHFd lz x mo t E E' x' e' h' (1, n) X := by
  obtain ⟨i0, i1, i2, i3, i4, i5, i6, i7, i8, it⟩ := unIFd lz x mo t E 1 n hI
  have j0 := c0; have j1 := c1; have j2 := c2; have j3 := c3; have j4 := c4; have j5 := c5; have j6 := c6
  obtain ⟨y1, y2, y3, y4, y5, y6, y7, y8⟩ := any_ (l := lz) (i := t + n) j3 (by omega) (by omega)
  have hNl := nA_lo (l := lz)
  have hn0 : ([] : LB).length = 0 := rfl
  have := lenDrop (l := x) (P := n) (by omega) (by omega)
  obtain ⟨u1, u2, u3, u4, u5⟩ := r1 (l := lz) (i := t + n) j3 (by omega) (by omega) (by omega)
  have hmA : mA lz x t n = min ((x.length : Int) - n) (fA lz (t + n)) := rfl
  have hdl : ((x.drop (Int.toNat (n))).length : Int) = x.length - n := by rw [List.length_drop]; omega
  have := bt_lo (dtA lz x t n) 0; have := bt_hi (dtA lz x t n) 0
  have q := r1m (l := lz) (i := t + n) j3 (by omega) (by omega) (by omega) (Int.toNat (mA lz x t n)) (by omega) (by omega)
  rw [show ((Int.toNat (mA lz x t n) : Nat) : Int) = mA lz x t n by omega, show t + n + mA lz x t n = t + (n + mA lz x t n) by omega] at q
  have hpd := pd (x := x) (l := lz) (t := t) (n := n) (m := mA lz x t n) j5 j0 i0 (by omega) (by omega) (by omega)
  have hdt := dtA_eq hpd
  have hqD := q.D; rw [← hdt] at hqD
  have hdn := dtA_len (l := lz) (x := x) (t := t) (n := n) i0 (by omega) (by omega)
  have hqw := q.w; rw [if_pos (by omega)] at hqw
  have hqL := q.L; have hqf := q.f; have hqc := q.c
  refine stFd_1 lz x mo t E n (h := hyFd_p6) (3, (n + (mA lz x t n))) ?_ (mkIFd lz x mo t E 3 (n + (mA lz x t n)) ⟨by omega, by omega, i2, fun h => by omega, fun _ => by omega, fun _ => by rw [hqc]; decide, fun h => by omega, fun h => by omega, fun _ => by rw [hqD, List.length_append]; omega, by omega⟩) (by show x.length - ((n + (mA lz x t n))).toNat < x.length - n.toNat; omega) (thXv (v := St' x) rfl rfl (thXi (b := ((n + (mA lz x t n)))) rfl rfl (by omega) (thCons (show Is _ (.i .i64 (.ofNat 2)) (.int .i64 ((wA lz (t + (n + (mA lz x t n)))))) from isTo (v := .int .i64 2) (isI _ _) (by first | rfl | (congr 1; omega))) (thXi (b := ((fA lz (t + (n + (mA lz x t n)))))) rfl rfl (by omega) (thXe (v := St' (lnA lz (t + n))) (u := St' (lnA lz (t + (n + (mA lz x t n))))) rfl rfl (congrArg (fun l => St' l) ((u1).trans hqL.symm)) (thXe (v := St' (dtA lz x t n)) (u := St' (DA lz (t + (n + (mA lz x t n))))) rfl rfl (congrArg (fun l => St' l) (by rw [hqD, List.eq_nil_of_length_eq_zero (i7 (by omega)), List.nil_append])) (thNil))))))) runFd_p6
  unfold hyFd_p6
  exact hc (kRn (denX rfl)) <|
   hc (kBytesB (bs := ([] : LB)) .nil (denX rfl)) <|
   hc (lnV rfl rfl (by omega)) <|
   hc (ltT rfl rfl (by omega)) <|
   hc (necT rfl (by omega)) <|
   hc (eqcT rfl (by omega)) <|
   hc (drV rfl rfl rfl (by omega)) <|
   hc (lnV rfl rfl (by omega)) <|
   hc (kMin (isX rfl) (isX rfl) (denX rfl) (by rw [hmA]; try omega)) <|
   hc (kMid (P := 0) (Q := (mA lz x t n)) (isX rfl) (.inl ⟨rfl, rfl⟩) (.inr ⟨_, _, rfl, (isX rfl)⟩) (by omega) (by omega) (by omega) (denX (congrArg (fun l => St' l) dtA_mid))) <|
   hc (kByt (i := 0) (isX rfl) (isZ (m := 0) rfl) (denX rfl) rfl (by first | omega | (simp <;> omega)) rfl) <|
   hc (kFit (isX rfl) (by first | omega | (simp <;> omega))) <|
   hc (sbX rfl rfl rfl (by omega)) <|
   hc (eqcT rfl (by omega)) <|
   hc (adX rfl rfl rfl (by omega)) <|
   hnil
def hyFd_p7 : LK := [(.rn, .x 2000000), (.bytes [], .x 6), (.len (.x 0), .x 7), (.bin .lss (.x 1) (.x 7), .b true), (.bin .neq (.x 2) (.i .i64 (.ofNat 4)), .b true), (.bin .eql (.x 2) (.i .i64 (.ofNat 1)), .b true), (.sub (.x 0) (some (.x 1)) none, .x 8), (.len (.x 8), .x 9), (.mm false (.x 9) (.x 3), .x 10), (.sub (.x 8) none (some (.x 10)), .x 11), (.bin .add (.x 5) (.x 11), .x 12), (.fit (.x 12), .b true), (.bin .sub (.x 3) (.x 10), .x 13), (.bin .eql (.x 13) (.i .i64 (.ofNat 0)), .b false), (.bin .add (.x 1) (.x 10), .x 14)]
theorem runFd_p7 : RNFd_3 hyFd_p7 .normal [(0, .x 0), (1, .x 14), (2, .x 2), (3, .x 13), (4, .x 4), (5, .x 12)] [(60, 60), (61, 62)] 62 epFd_3 hpFd_3 = true := by kernel_rfl
theorem nxFd_p7 (lz : List LB) (x mo : LB) (t E : Int) (c0 : 0 ≤ t) (c1 : E ≤ (x.length : Int) ∧ E ≤ nA lz - t) (c2 : (x.length : Int) ≤ E ∨ nA lz - t ≤ E) (c3 : ok3 lz) (c4 : lz.flatten.length ≤ 3000) (c5 : xP x lz mo t) (c6 : 1 ≤ x.length) (n : Int) (X : Nat → Value) (hI : InvFd lz x mo t E (3, n)) (h0 : n < (x.length : Int)) (h1 : ¬ ((wA lz (t + n)) = 4)) (h2 : (wA lz (t + n)) = 1) (h3 : ¬ ((fA lz (t + n)) - (mA lz x t n) = 0)) : RHFd lz x mo t E E' x' e' h' (3, n) X := by
  obtain ⟨i0, i1, i2, i3, i4, i5, i6, i7, i8, it⟩ := unIFd lz x mo t E 3 n hI
  have j0 := c0; have j1 := c1; have j2 := c2; have j3 := c3; have j4 := c4; have j5 := c5; have j6 := c6
  obtain ⟨y1, y2, y3, y4, y5, y6, y7, y8⟩ := any_ (l := lz) (i := t + n) j3 (by omega) (by omega)
  have hNl := nA_lo (l := lz)
  have hn0 : ([] : LB).length = 0 := rfl
  have := lenDrop (l := x) (P := n) (by omega) (by omega)
  obtain ⟨u1, u2, u3, u4, u5⟩ := r1 (l := lz) (i := t + n) j3 (by omega) (by omega) (by omega)
  have hmA : mA lz x t n = min ((x.length : Int) - n) (fA lz (t + n)) := rfl
  have hdl : ((x.drop (Int.toNat (n))).length : Int) = x.length - n := by rw [List.length_drop]; omega
  have q := r1m (l := lz) (i := t + n) j3 (by omega) (by omega) (by omega) (Int.toNat (mA lz x t n)) (by omega) (by omega)
  rw [show ((Int.toNat (mA lz x t n) : Nat) : Int) = mA lz x t n by omega, show t + n + mA lz x t n = t + (n + mA lz x t n) by omega] at q
  have hpd := pd (x := x) (l := lz) (t := t) (n := n) (m := mA lz x t n) j5 j0 i0 (by omega) (by omega) (by omega)
  have hdt := dtA_eq hpd
  have hqD := q.D; rw [← hdt] at hqD
  have hdn := dtA_len (l := lz) (x := x) (t := t) (n := n) i0 (by omega) (by omega)
  have hqw := q.w; rw [if_neg (by omega)] at hqw
  have hqL := q.L; have hqf := q.f; have hqc := q.c
  refine stFd_3 lz x mo t E n (h := hyFd_p7) (3, (n + (mA lz x t n))) ?_ (mkIFd lz x mo t E 3 (n + (mA lz x t n)) ⟨by omega, by omega, i2, fun h => by omega, fun _ => by omega, fun _ => by rw [hqc]; decide, fun h => by omega, fun h => by omega, fun _ => by rw [hqD, List.length_append]; omega, by omega⟩) (by show x.length - ((n + (mA lz x t n))).toNat < x.length - n.toNat; omega) (thXv (v := St' x) rfl rfl (thXi (b := ((n + (mA lz x t n)))) rfl rfl (by omega) (thXi (b := ((wA lz (t + (n + (mA lz x t n)))))) rfl rfl (by omega) (thXi (b := ((fA lz (t + (n + (mA lz x t n)))))) rfl rfl (by omega) (thXe (v := St' (lnA lz (t + n))) (u := St' (lnA lz (t + (n + (mA lz x t n))))) rfl rfl (congrArg (fun l => St' l) ((u1).trans hqL.symm)) (thXe (v := St' ((DA lz (t + n)) ++ (dtA lz x t n))) (u := St' (DA lz (t + (n + (mA lz x t n))))) rfl rfl (congrArg (fun l => St' l) (by rw [hqD])) (thNil))))))) runFd_p7
  unfold hyFd_p7
  exact hc (kRn (denX rfl)) <|
   hc (kBytesB (bs := ([] : LB)) .nil (denX rfl)) <|
   hc (lnV rfl rfl (by omega)) <|
   hc (ltT rfl rfl (by omega)) <|
   hc (necT rfl (by omega)) <|
   hc (eqcT rfl (by omega)) <|
   hc (drV rfl rfl rfl (by omega)) <|
   hc (lnV rfl rfl (by omega)) <|
   hc (kMin (isX rfl) (isX rfl) (denX rfl) (by rw [hmA]; try omega)) <|
   hc (kMid (P := 0) (Q := (mA lz x t n)) (isX rfl) (.inl ⟨rfl, rfl⟩) (.inr ⟨_, _, rfl, (isX rfl)⟩) (by omega) (by omega) (by omega) (denX (congrArg (fun l => St' l) dtA_mid))) <|
   hc (kCat (isX rfl) (isX rfl) (denX rfl) (by first | rfl | (simp; done)) (by omega)) <|
   hc (kFit (isX rfl) (by first | omega | (simp <;> omega))) <|
   hc (sbX rfl rfl rfl (by omega)) <|
   hc (eqcF rfl (by omega)) <|
   hc (adX rfl rfl rfl (by omega)) <|
   hnil
def hyFd_p8 : LK := [(.rn, .x 2000001), (.bytes [], .x 15), (.len (.x 0), .x 16), (.bin .lss (.x 1) (.x 16), .b true), (.bin .neq (.x 2) (.i .i64 (.ofNat 4)), .b true), (.bin .eql (.x 2) (.i .i64 (.ofNat 1)), .b true), (.sub (.x 0) (some (.x 1)) none, .x 17), (.len (.x 17), .x 18), (.mm false (.x 18) (.x 3), .x 19), (.sub (.x 17) none (some (.x 19)), .x 20), (.bin .add (.x 5) (.x 20), .x 21), (.fit (.x 21), .b true), (.bin .sub (.x 3) (.x 19), .x 22), (.bin .eql (.x 22) (.i .i64 (.ofNat 0)), .b true), (.bin .add (.x 1) (.x 19), .x 23)]
theorem runFd_p8 : RNFd_3 hyFd_p8 .normal [(0, .x 0), (1, .x 23), (2, .i .i64 (.ofNat 2)), (3, .x 22), (4, .x 4), (5, .x 21)] [(60, 60), (61, 62)] 62 epFd_3 hpFd_3 = true := by kernel_rfl
theorem nxFd_p8 (lz : List LB) (x mo : LB) (t E : Int) (c0 : 0 ≤ t) (c1 : E ≤ (x.length : Int) ∧ E ≤ nA lz - t) (c2 : (x.length : Int) ≤ E ∨ nA lz - t ≤ E) (c3 : ok3 lz) (c4 : lz.flatten.length ≤ 3000) (c5 : xP x lz mo t) (c6 : 1 ≤ x.length) (n : Int) (X : Nat → Value) (hI : InvFd lz x mo t E (3, n)) (h0 : n < (x.length : Int)) (h1 : ¬ ((wA lz (t + n)) = 4)) (h2 : (wA lz (t + n)) = 1) (h3 : (fA lz (t + n)) - (mA lz x t n) = 0) : RHFd lz x mo t E E' x' e' h' (3, n) X := by
  obtain ⟨i0, i1, i2, i3, i4, i5, i6, i7, i8, it⟩ := unIFd lz x mo t E 3 n hI
  have j0 := c0; have j1 := c1; have j2 := c2; have j3 := c3; have j4 := c4; have j5 := c5; have j6 := c6
  obtain ⟨y1, y2, y3, y4, y5, y6, y7, y8⟩ := any_ (l := lz) (i := t + n) j3 (by omega) (by omega)
  have hNl := nA_lo (l := lz)
  have hn0 : ([] : LB).length = 0 := rfl
  have := lenDrop (l := x) (P := n) (by omega) (by omega)
  obtain ⟨u1, u2, u3, u4, u5⟩ := r1 (l := lz) (i := t + n) j3 (by omega) (by omega) (by omega)
  have hmA : mA lz x t n = min ((x.length : Int) - n) (fA lz (t + n)) := rfl
  have hdl : ((x.drop (Int.toNat (n))).length : Int) = x.length - n := by rw [List.length_drop]; omega
  have q := r1m (l := lz) (i := t + n) j3 (by omega) (by omega) (by omega) (Int.toNat (mA lz x t n)) (by omega) (by omega)
  rw [show ((Int.toNat (mA lz x t n) : Nat) : Int) = mA lz x t n by omega, show t + n + mA lz x t n = t + (n + mA lz x t n) by omega] at q
  have hpd := pd (x := x) (l := lz) (t := t) (n := n) (m := mA lz x t n) j5 j0 i0 (by omega) (by omega) (by omega)
  have hdt := dtA_eq hpd
  have hqD := q.D; rw [← hdt] at hqD
  have hdn := dtA_len (l := lz) (x := x) (t := t) (n := n) i0 (by omega) (by omega)
  have hqw := q.w; rw [if_pos (by omega)] at hqw
  have hqL := q.L; have hqf := q.f; have hqc := q.c
  refine stFd_3 lz x mo t E n (h := hyFd_p8) (3, (n + (mA lz x t n))) ?_ (mkIFd lz x mo t E 3 (n + (mA lz x t n)) ⟨by omega, by omega, i2, fun h => by omega, fun _ => by omega, fun _ => by rw [hqc]; decide, fun h => by omega, fun h => by omega, fun _ => by rw [hqD, List.length_append]; omega, by omega⟩) (by show x.length - ((n + (mA lz x t n))).toNat < x.length - n.toNat; omega) (thXv (v := St' x) rfl rfl (thXi (b := ((n + (mA lz x t n)))) rfl rfl (by omega) (thCons (show Is _ (.i .i64 (.ofNat 2)) (.int .i64 ((wA lz (t + (n + (mA lz x t n)))))) from isTo (v := .int .i64 2) (isI _ _) (by first | rfl | (congr 1; omega))) (thXi (b := ((fA lz (t + (n + (mA lz x t n)))))) rfl rfl (by omega) (thXe (v := St' (lnA lz (t + n))) (u := St' (lnA lz (t + (n + (mA lz x t n))))) rfl rfl (congrArg (fun l => St' l) ((u1).trans hqL.symm)) (thXe (v := St' ((DA lz (t + n)) ++ (dtA lz x t n))) (u := St' (DA lz (t + (n + (mA lz x t n))))) rfl rfl (congrArg (fun l => St' l) (by rw [hqD])) (thNil))))))) runFd_p8
  unfold hyFd_p8
  exact hc (kRn (denX rfl)) <|
   hc (kBytesB (bs := ([] : LB)) .nil (denX rfl)) <|
   hc (lnV rfl rfl (by omega)) <|
   hc (ltT rfl rfl (by omega)) <|
   hc (necT rfl (by omega)) <|
   hc (eqcT rfl (by omega)) <|
   hc (drV rfl rfl rfl (by omega)) <|
   hc (lnV rfl rfl (by omega)) <|
   hc (kMin (isX rfl) (isX rfl) (denX rfl) (by rw [hmA]; try omega)) <|
   hc (kMid (P := 0) (Q := (mA lz x t n)) (isX rfl) (.inl ⟨rfl, rfl⟩) (.inr ⟨_, _, rfl, (isX rfl)⟩) (by omega) (by omega) (by omega) (denX (congrArg (fun l => St' l) dtA_mid))) <|
   hc (kCat (isX rfl) (isX rfl) (denX rfl) (by first | rfl | (simp; done)) (by omega)) <|
   hc (kFit (isX rfl) (by first | omega | (simp <;> omega))) <|
   hc (sbX rfl rfl rfl (by omega)) <|
   hc (eqcT rfl (by omega)) <|
   hc (adX rfl rfl rfl (by omega)) <|
   hnil
def hyFd_p9 : LK := [(.rn, .x 2000002), (.bytes [], .x 24), (.len (.x 0), .x 25), (.bin .lss (.x 1) (.x 25), .b false)]
theorem runFd_p9 : RNFd_3 hyFd_p9 (.exit 0) [(0, .x 1), (1, .x 2), (2, .x 3), (3, .x 4), (4, .x 5)] [(60, 60), (61, 61)] 120 [(6, .x 0)] [(30, .b ⟨38, .l [.i .i64 (.ofNat 4000), .x 1, .sy 60, .b false, .x 2, .i .i64 (.ofNat 0), .sy 61], 0, 0, 0, false, false⟩), (60, .t 3 5), (61, .t 4 5)] = true := by kernel_rfl
def hyFd_p10 : LK := [(.rn, .x 2000003), (.bytes [], .x 26), (.len (.x 0), .x 27), (.bin .lss (.x 1) (.x 27), .b true), (.bin .neq (.x 2) (.i .i64 (.ofNat 4)), .b true), (.bin .eql (.x 2) (.i .i64 (.ofNat 1)), .b false), (.idx (.x 0) (.x 1), .x 28), (.bin .eql (.x 28) (.i .u8 (.ofNat 10)), .b false), (.bin .eql (.x 28) (.i .u8 (.ofNat 13)), .b true), (.bin .add (.x 1) (.i .i64 (.ofNat 1)), .x 29)]
theorem runFd_p10 : RNFd_3 hyFd_p10 .normal [(0, .x 0), (1, .x 29), (2, .x 2), (3, .x 3), (4, .x 4), (5, .x 5)] [(60, 60), (61, 61)] 62 epFd_4 hpFd_4 = true := by kernel_rfl
theorem nxFd_p10 (lz : List LB) (x mo : LB) (t E : Int) (c0 : 0 ≤ t) (c1 : E ≤ (x.length : Int) ∧ E ≤ nA lz - t) (c2 : (x.length : Int) ≤ E ∨ nA lz - t ≤ E) (c3 : ok3 lz) (c4 : lz.flatten.length ≤ 3000) (c5 : xP x lz mo t) (c6 : 1 ≤ x.length) (n : Int) (X : Nat → Value) (hI : InvFd lz x mo t E (3, n)) (h0 : n < (x.length : Int)) (h1 : ¬ ((wA lz (t + n)) = 4)) (h2 : ¬ ((wA lz (t + n)) = 1)) (h3 : bt (ckS lz) (Int.toNat (t + n)) = 13) : RHFd lz x mo t E E' x' e' h' (3, n) X := by
  obtain ⟨i0, i1, i2, i3, i4, i5, i6, i7, i8, it⟩ := unIFd lz x mo t E 3 n hI
  have j0 := c0; have j1 := c1; have j2 := c2; have j3 := c3; have j4 := c4; have j5 := c5; have j6 := c6
  obtain ⟨y1, y2, y3, y4, y5, y6, y7, y8⟩ := any_ (l := lz) (i := t + n) j3 (by omega) (by omega)
  have hNl := nA_lo (l := lz)
  have hn0 : ([] : LB).length = 0 := rfl
  have hpc := pc (x := x) (l := lz) (t := t) (n := n) j5 j0 i0 (by omega)
  obtain ⟨hi, hrf⟩ := rf (l := lz) (i := t + n) (j := t + (n + 1)) j3 (by omega) (by omega) (by omega) (by omega) (by omega) (i5 (by omega))
  have hbx := hpc (by omega)
  obtain ⟨hb, q⟩ := hrf.resolve_right (fun z => by omega)
  have := bt_lo x (Int.toNat (n)); have := bt_hi x (Int.toNat (n))
  have hqD := q.D; have hqw := q.w
  have hqL := q.L; have hqf := q.f; have hqc := q.c
  refine stFd_3 lz x mo t E n (h := hyFd_p10) (4, (n + 1)) ?_ (mkIFd lz x mo t E 4 (n + 1) ⟨by omega, by omega, i2, fun h => by omega, fun _ => by omega, fun h => by omega, fun _ => hqc, fun h => by omega, fun _ => by rw [hqD]; exact i8 (by omega), by omega⟩) (by show x.length - ((n + 1)).toNat < x.length - n.toNat; omega) (thXv (v := St' x) rfl rfl (thXi (b := ((n + 1))) rfl rfl (by omega) (thXi (b := ((wA lz (t + (n + 1))))) rfl rfl (by omega) (thXi (b := ((fA lz (t + (n + 1))))) rfl rfl (by omega) (thXe (v := St' (lnA lz (t + n))) (u := St' (lnA lz (t + (n + 1)))) rfl rfl (congrArg (fun l => St' l) hqL.symm) (thXe (v := St' (DA lz (t + n))) (u := St' (DA lz (t + (n + 1)))) rfl rfl (congrArg (fun l => St' l) hqD.symm) (thNil))))))) runFd_p10
  unfold hyFd_p10
  exact hc (kRn (denX rfl)) <|
   hc (kBytesB (bs := ([] : LB)) .nil (denX rfl)) <|
   hc (lnV rfl rfl (by omega)) <|
   hc (ltT rfl rfl (by omega)) <|
   hc (necT rfl (by omega)) <|
   hc (eqcF rfl (by omega)) <|
   hc (ixV rfl rfl rfl (by omega)) <|
   hc (eqcF rfl (by omega)) <|
   hc (eqcT rfl (by omega)) <|
   hc (adC rfl rfl (by omega)) <|
   hnil
def hyFd_p11 : LK := [(.rn, .x 2000000), (.bytes [], .x 6), (.len (.x 0), .x 7), (.bin .lss (.x 1) (.x 7), .b true), (.bin .neq (.x 2) (.i .i64 (.ofNat 4)), .b true), (.bin .eql (.x 2) (.i .i64 (.ofNat 1)), .b false), (.idx (.x 0) (.x 1), .x 8), (.bin .eql (.x 8) (.i .u8 (.ofNat 10)), .b true), (.bin .eql (.x 2) (.i .i64 (.ofNat 0)), .b false), (.bin .eql (.x 2) (.i .i64 (.ofNat 2)), .b true), (.bin .add (.x 1) (.i .i64 (.ofNat 1)), .x 9)]
theorem runFd_p11 : RNFd_4 hyFd_p11 .normal [(0, .x 0), (1, .x 9), (2, .i .i64 (.ofNat 0)), (3, .x 3), (4, .x 6), (5, .x 5)] [(60, 62), (61, 61)] 62 epFd_3 hpFd_3 = true := by kernel_rfl
theorem nxFd_p11 (lz : List LB) (x mo : LB) (t E : Int) (c0 : 0 ≤ t) (c1 : E ≤ (x.length : Int) ∧ E ≤ nA lz - t) (c2 : (x.length : Int) ≤ E ∨ nA lz - t ≤ E) (c3 : ok3 lz) (c4 : lz.flatten.length ≤ 3000) (c5 : xP x lz mo t) (c6 : 1 ≤ x.length) (n : Int) (X : Nat → Value) (hI : InvFd lz x mo t E (4, n)) (h0 : n < (x.length : Int)) (h4 : ¬ ((wA lz (t + n)) = 0)) (h5 : (wA lz (t + n)) = 2) : RHFd lz x mo t E E' x' e' h' (4, n) X := by
  obtain ⟨i0, i1, i2, i3, i4, i5, i6, i7, i8, it⟩ := unIFd lz x mo t E 4 n hI
  have j0 := c0; have j1 := c1; have j2 := c2; have j3 := c3; have j4 := c4; have j5 := c5; have j6 := c6
  obtain ⟨y1, y2, y3, y4, y5, y6, y7, y8⟩ := any_ (l := lz) (i := t + n) j3 (by omega) (by omega)
  have hNl := nA_lo (l := lz)
  have hn0 : ([] : LB).length = 0 := rfl
  have hpc := pc (x := x) (l := lz) (t := t) (n := n) j5 j0 i0 (by omega)
  obtain ⟨hi, hb, hw1, hw4, ht0, ht2, ht3⟩ := rt (l := lz) (i := t + n) (j := t + (n + 1)) j3 (by omega) (by omega) (by omega) (i6 (by omega))
  have hbx := hpc (by omega)
  have := bt_lo x (Int.toNat (n)); have := bt_hi x (Int.toNat (n))
  have q := ht2 (by omega)
  have hqD := q.D; have hqw := q.w
  have hqL := q.L; have hqf := q.f; have hqc := q.c
  refine stFd_4 lz x mo t E n (h := hyFd_p11) (3, (n + 1)) ?_ (mkIFd lz x mo t E 3 (n + 1) ⟨by omega, by omega, i2, fun h => by omega, fun _ => by omega, fun _ => by rw [hqc]; decide, fun h => by omega, fun h => by omega, fun _ => by rw [hqD]; exact i8 (by omega), by omega⟩) (by show x.length - ((n + 1)).toNat < x.length - n.toNat; omega) (thXv (v := St' x) rfl rfl (thXi (b := ((n + 1))) rfl rfl (by omega) (thCons (show Is _ (.i .i64 (.ofNat 0)) (.int .i64 ((wA lz (t + (n + 1))))) from isTo (v := .int .i64 0) (isI _ _) (by first | rfl | (congr 1; omega))) (thXi (b := ((fA lz (t + (n + 1))))) rfl rfl (by omega) (thXe (v := St' ([] : LB)) (u := St' (lnA lz (t + (n + 1)))) rfl rfl (congrArg (fun l => St' l) hqL.symm) (thXe (v := St' (DA lz (t + n))) (u := St' (DA lz (t + (n + 1)))) rfl rfl (congrArg (fun l => St' l) hqD.symm) (thNil))))))) runFd_p11
  unfold hyFd_p11
  exact hc (kRn (denX rfl)) <|
   hc (kBytesB (bs := ([] : LB)) .nil (denX rfl)) <|
   hc (lnV rfl rfl (by omega)) <|
   hc (ltT rfl rfl (by omega)) <|
   hc (necT rfl (by omega)) <|
   hc (eqcF rfl (by omega)) <|
   hc (ixV rfl rfl rfl (by omega)) <|
   hc (eqcT rfl (by omega)) <|
   hc (eqcF rfl (by omega)) <|
   hc (eqcT rfl (by omega)) <|
   hc (adC rfl rfl (by omega)) <|
   hnil
def hyFd_p12 : LK := [(.rn, .x 2000001), (.bytes [], .x 10), (.len (.x 0), .x 11), (.bin .lss (.x 1) (.x 11), .b false)]
theorem runFd_p12 : RNFd_4 hyFd_p12 (.exit 0) [(0, .x 1), (1, .x 2), (2, .x 3), (3, .x 4), (4, .x 5)] [(60, 60), (61, 61)] 120 [(6, .x 0)] [(30, .b ⟨38, .l [.i .i64 (.ofNat 4000), .x 1, .sy 60, .b true, .x 2, .i .i64 (.ofNat 0), .sy 61], 0, 0, 0, false, false⟩), (60, .t 3 5), (61, .t 4 5)] = true := by kernel_rfl
def hyFd_p13 : LK := [(.rn, .x 2000004), (.bytes [], .x 30), (.len (.x 0), .x 31), (.bin .lss (.x 1) (.x 31), .b true), (.bin .neq (.x 2) (.i .i64 (.ofNat 4)), .b true), (.bin .eql (.x 2) (.i .i64 (.ofNat 1)), .b false), (.idx (.x 0) (.x 1), .x 32), (.bin .eql (.x 32) (.i .u8 (.ofNat 10)), .b false), (.bin .eql (.x 32) (.i .u8 (.ofNat 13)), .b false), (.bin .eql (.x 2) (.i .i64 (.ofNat 2)), .b false), (.app (.x 4) [.x 32], .x 33), (.fit (.x 33), .b true), (.bin .eql (.x 2) (.i .i64 (.ofNat 3)), .b false), (.len (.x 33), .x 34), (.bin .gtr (.x 34) (.i .i64 (.ofNat 1024)), .b false), (.bin .add (.x 1) (.i .i64 (.ofNat 1)), .x 35)]
theorem runFd_p13 : RNFd_3 hyFd_p13 .normal [(0, .x 0), (1, .x 35), (2, .x 2), (3, .x 3), (4, .x 33), (5, .x 5)] [(60, 63), (61, 61)] 62 epFd_3 hpFd_3 = true := by kernel_rfl
theorem nxFd_p13 (lz : List LB) (x mo : LB) (t E : Int) (c0 : 0 ≤ t) (c1 : E ≤ (x.length : Int) ∧ E ≤ nA lz - t) (c2 : (x.length : Int) ≤ E ∨ nA lz - t ≤ E) (c3 : ok3 lz) (c4 : lz.flatten.length ≤ 3000) (c5 : xP x lz mo t) (c6 : 1 ≤ x.length) (n : Int) (X : Nat → Value) (hI : InvFd lz x mo t E (3, n)) (h0 : n < (x.length : Int)) (h1 : ¬ ((wA lz (t + n)) = 4)) (h2 : ¬ ((wA lz (t + n)) = 1)) (h3 : ¬ (bt (ckS lz) (Int.toNat (t + n)) = 13)) : RHFd lz x mo t E E' x' e' h' (3, n) X := by
  obtain ⟨i0, i1, i2, i3, i4, i5, i6, i7, i8, it⟩ := unIFd lz x mo t E 3 n hI
  have j0 := c0; have j1 := c1; have j2 := c2; have j3 := c3; have j4 := c4; have j5 := c5; have j6 := c6
  obtain ⟨y1, y2, y3, y4, y5, y6, y7, y8⟩ := any_ (l := lz) (i := t + n) j3 (by omega) (by omega)
  have hNl := nA_lo (l := lz)
  have hn0 : ([] : LB).length = 0 := rfl
  have hpc := pc (x := x) (l := lz) (t := t) (n := n) j5 j0 i0 (by omega)
  obtain ⟨hi, hrf⟩ := rf (l := lz) (i := t + n) (j := t + (n + 1)) j3 (by omega) (by omega) (by omega) (by omega) (by omega) (i5 (by omega))
  have hbx := hpc (by omega)
  obtain ⟨hw0, hb, q, hl2⟩ := hrf.resolve_left (fun z => absurd z.1 (by assumption))
  have := bt_lo x (Int.toNat (n)); have := bt_hi x (Int.toNat (n))
  have hqD := q.D; have hqw := q.w
  have hqL := q.L; have hqf := q.f; have hqc := q.c
  refine stFd_3 lz x mo t E n (h := hyFd_p13) (3, (n + 1)) ?_ (mkIFd lz x mo t E 3 (n + 1) ⟨by omega, by omega, i2, fun h => by omega, fun _ => by omega, fun _ => by rw [hqc]; decide, fun h => by omega, fun h => by omega, fun _ => by rw [hqD]; exact i8 (by omega), by omega⟩) (by show x.length - ((n + 1)).toNat < x.length - n.toNat; omega) (thXv (v := St' x) rfl rfl (thXi (b := ((n + 1))) rfl rfl (by omega) (thXi (b := ((wA lz (t + (n + 1))))) rfl rfl (by omega) (thXi (b := ((fA lz (t + (n + 1))))) rfl rfl (by omega) (thXe (v := St' ((lnA lz (t + n)) ++ [u8 (bt x (Int.toNat (n)))])) (u := St' (lnA lz (t + (n + 1)))) rfl rfl (congrArg (fun l => St' l) (by rw [hqL, hbx]; try rw [hln0]; try rfl)) (thXe (v := St' (DA lz (t + n))) (u := St' (DA lz (t + (n + 1)))) rfl rfl (congrArg (fun l => St' l) hqD.symm) (thNil))))))) runFd_p13
  unfold hyFd_p13
  exact hc (kRn (denX rfl)) <|
   hc (kBytesB (bs := ([] : LB)) .nil (denX rfl)) <|
   hc (lnV rfl rfl (by omega)) <|
   hc (ltT rfl rfl (by omega)) <|
   hc (necT rfl (by omega)) <|
   hc (eqcF rfl (by omega)) <|
   hc (ixV rfl rfl rfl (by omega)) <|
   hc (eqcF rfl (by omega)) <|
   hc (eqcF rfl (by omega)) <|
   hc (eqcF rfl (by omega)) <|
   hc (kApp (bs := [u8 (bt x (Int.toNat (n)))]) (isX rfl) (.cons (isB8 (isX rfl) (by omega) (by omega)) .nil) (denX rfl) (by first | rfl | (simp; done))) <|
   hc (kFit (isX rfl) (by first | omega | (simp <;> omega))) <|
   hc (eqcF rfl (by omega)) <|
   hc (lnV rfl rfl (by first | omega | (simp <;> omega))) <|
   hc (gtcF rfl (by omega)) <|
   hc (adC rfl rfl (by omega)) <|
   hnil
def hyFd_p14 : LK := [(.rn, .x 2000002), (.bytes [], .x 12), (.len (.x 0), .x 13), (.bin .lss (.x 1) (.x 13), .b true), (.bin .neq (.x 2) (.i .i64 (.ofNat 4)), .b true), (.bin .eql (.x 2) (.i .i64 (.ofNat 1)), .b false), (.idx (.x 0) (.x 1), .x 14), (.bin .eql (.x 14) (.i .u8 (.ofNat 10)), .b true), (.bin .eql (.x 2) (.i .i64 (.ofNat 0)), .b true), (.bin .eql (.s 1 59) (.x 4), .b false), (.ext 42 [.x 4, .i .u8 (.ofNat 59)], .i .i64 (.negSucc 0)), (.call 31 [.x 4], .tu [.x 15, .b true]), (.len (.x 5), .x 16), (.bin .add (.x 16) (.x 15), .x 17), (.bin .gtr (.x 17) (.i .i64 (.ofNat 4000)), .b false), (.bin .eql (.x 15) (.i .i64 (.ofNat 0)), .b false), (.bin .add (.x 1) (.i .i64 (.ofNat 1)), .x 18)]
theorem runFd_p14 : RNFd_4 hyFd_p14 .normal [(0, .x 0), (1, .x 18), (2, .i .i64 (.ofNat 1)), (3, .x 15), (4, .x 12), (5, .x 5)] [(60, 62), (61, 61)] 62 epFd_3 hpFd_3 = true := by kernel_rfl
theorem nxFd_p14 (lz : List LB) (x mo : LB) (t E : Int) (c0 : 0 ≤ t) (c1 : E ≤ (x.length : Int) ∧ E ≤ nA lz - t) (c2 : (x.length : Int) ≤ E ∨ nA lz - t ≤ E) (c3 : ok3 lz) (c4 : lz.flatten.length ≤ 3000) (c5 : xP x lz mo t) (c6 : 1 ≤ x.length) (n : Int) (X : Nat → Value) (hI : InvFd lz x mo t E (4, n)) (h0 : n < (x.length : Int)) (h4 : (wA lz (t + n)) = 0) (h8 : ¬ ((hexN (lnA lz (t + n))) = 0)) : RHFd lz x mo t E E' x' e' h' (4, n) X := by
  obtain ⟨i0, i1, i2, i3, i4, i5, i6, i7, i8, it⟩ := unIFd lz x mo t E 4 n hI
  have j0 := c0; have j1 := c1; have j2 := c2; have j3 := c3; have j4 := c4; have j5 := c5; have j6 := c6
  obtain ⟨y1, y2, y3, y4, y5, y6, y7, y8⟩ := any_ (l := lz) (i := t + n) j3 (by omega) (by omega)
  have hNl := nA_lo (l := lz)
  have hn0 : ([] : LB).length = 0 := rfl
  have hpc := pc (x := x) (l := lz) (t := t) (n := n) j5 j0 i0 (by omega)
  obtain ⟨hi, hb, hw1, hw4, ht0, ht2, ht3⟩ := rt (l := lz) (i := t + n) (j := t + (n + 1)) j3 (by omega) (by omega) (by omega) (i6 (by omega))
  have hbx := hpc (by omega)
  have := bt_lo x (Int.toNat (n)); have := bt_hi x (Int.toNat (n))
  obtain ⟨hz1, hz2, hz3, hz4, hz5, hz6⟩ := ht0 (by omega)
  have hne59 := ix_ne hz3 hz1 hz2
  have q := hz6 (by omega)
  have hqD := q.D; have hqw := q.w
  have hqL := q.L; have hqf := q.f; have hqc := q.c
  refine stFd_4 lz x mo t E n (h := hyFd_p14) (3, (n + 1)) ?_ (mkIFd lz x mo t E 3 (n + 1) ⟨by omega, by omega, i2, fun h => by omega, fun _ => by omega, fun _ => by rw [hqc]; decide, fun h => by omega, fun h => by omega, fun _ => by rw [hqD]; exact i8 (by omega), by omega⟩) (by show x.length - ((n + 1)).toNat < x.length - n.toNat; omega) (thXv (v := St' x) rfl rfl (thXi (b := ((n + 1))) rfl rfl (by omega) (thCons (show Is _ (.i .i64 (.ofNat 1)) (.int .i64 ((wA lz (t + (n + 1))))) from isTo (v := .int .i64 1) (isI _ _) (by first | rfl | (congr 1; omega))) (thXi (b := ((fA lz (t + (n + 1))))) rfl rfl (by omega) (thXe (v := St' ([] : LB)) (u := St' (lnA lz (t + (n + 1)))) rfl rfl (congrArg (fun l => St' l) hqL.symm) (thXe (v := St' (DA lz (t + n))) (u := St' (DA lz (t + (n + 1)))) rfl rfl (congrArg (fun l => St' l) hqD.symm) (thNil))))))) runFd_p14
  unfold hyFd_p14
  exact hc (kRn (denX rfl)) <|
   hc (kBytesB (bs := ([] : LB)) .nil (denX rfl)) <|
   hc (lnV rfl rfl (by omega)) <|
   hc (ltT rfl rfl (by omega)) <|
   hc (necT rfl (by omega)) <|
   hc (eqcF rfl (by omega)) <|
   hc (ixV rfl rfl rfl (by omega)) <|
   hc (eqcT rfl (by omega)) <|
   hc (eqcT rfl (by omega)) <|
   hc (kEqS (isSx (l := [u8 59]) 1 59 rfl) (isX rfl) (by first | exact decide_eq_true rfl | exact decide_eq_true ‹_› | exact decide_eq_false ‹_›)) <|
   hc (kExtI (n := -1) exF42 exA42 exB42 (isX rfl) (isZ (m := 59) rfl) (denZ (m := -1) rfl) (ix_hex hz3 hz1 hz2)) <|
   hc (hokOhx (n := hexN (lnA lz (t + n))) (isX (congrArg (fun l => St' l) hz3)) (denT2 (denX rfl) (denB true)) (by omega) (by omega)) <|
   hc (lnV rfl rfl (by omega)) <|
   hc (adX rfl rfl rfl (by omega)) <|
   hc (gtcF rfl (by omega)) <|
   hc (eqcF rfl (by omega)) <|
   hc (adC rfl rfl (by omega)) <|
   hnil
def hyFd_p15 : LK := [(.rn, .x 2000003), (.bytes [], .x 19), (.len (.x 0), .x 20), (.bin .lss (.x 1) (.x 20), .b true), (.bin .neq (.x 2) (.i .i64 (.ofNat 4)), .b true), (.bin .eql (.x 2) (.i .i64 (.ofNat 1)), .b false), (.idx (.x 0) (.x 1), .x 21), (.bin .eql (.x 21) (.i .u8 (.ofNat 10)), .b true), (.bin .eql (.x 2) (.i .i64 (.ofNat 0)), .b true), (.bin .eql (.s 1 59) (.x 4), .b false), (.ext 42 [.x 4, .i .u8 (.ofNat 59)], .i .i64 (.negSucc 0)), (.call 31 [.x 4], .tu [.x 22, .b true]), (.len (.x 5), .x 23), (.bin .add (.x 23) (.x 22), .x 24), (.bin .gtr (.x 24) (.i .i64 (.ofNat 4000)), .b false), (.bin .eql (.x 22) (.i .i64 (.ofNat 0)), .b true), (.bin .add (.x 1) (.i .i64 (.ofNat 1)), .x 25)]
theorem runFd_p15 : RNFd_4 hyFd_p15 .normal [(0, .x 0), (1, .x 25), (2, .i .i64 (.ofNat 3)), (3, .x 3), (4, .x 19), (5, .x 5)] [(60, 62), (61, 61)] 62 epFd_3 hpFd_3 = true := by kernel_rfl
theorem nxFd_p15 (lz : List LB) (x mo : LB) (t E : Int) (c0 : 0 ≤ t) (c1 : E ≤ (x.length : Int) ∧ E ≤ nA lz - t) (c2 : (x.length : Int) ≤ E ∨ nA lz - t ≤ E) (c3 : ok3 lz) (c4 : lz.flatten.length ≤ 3000) (c5 : xP x lz mo t) (c6 : 1 ≤ x.length) (n : Int) (X : Nat → Value) (hI : InvFd lz x mo t E (4, n)) (h0 : n < (x.length : Int)) (h4 : (wA lz (t + n)) = 0) (h8 : (hexN (lnA lz (t + n))) = 0) : RHFd lz x mo t E E' x' e' h' (4, n) X := by
  obtain ⟨i0, i1, i2, i3, i4, i5, i6, i7, i8, it⟩ := unIFd lz x mo t E 4 n hI
  have j0 := c0; have j1 := c1; have j2 := c2; have j3 := c3; have j4 := c4; have j5 := c5; have j6 := c6
  obtain ⟨y1, y2, y3, y4, y5, y6, y7, y8⟩ := any_ (l := lz) (i := t + n) j3 (by omega) (by omega)
  have hNl := nA_lo (l := lz)
  have hn0 : ([] : LB).length = 0 := rfl
  have hpc := pc (x := x) (l := lz) (t := t) (n := n) j5 j0 i0 (by omega)
  obtain ⟨hi, hb, hw1, hw4, ht0, ht2, ht3⟩ := rt (l := lz) (i := t + n) (j := t + (n + 1)) j3 (by omega) (by omega) (by omega) (i6 (by omega))
  have hbx := hpc (by omega)
  have := bt_lo x (Int.toNat (n)); have := bt_hi x (Int.toNat (n))
  obtain ⟨hz1, hz2, hz3, hz4, hz5, hz6⟩ := ht0 (by omega)
  have hne59 := ix_ne hz3 hz1 hz2
  have q := hz5 (by omega)
  have hqD := q.D; have hqw := q.w
  have hqL := q.L; have hqf := q.f; have hqc := q.c
  refine stFd_4 lz x mo t E n (h := hyFd_p15) (3, (n + 1)) ?_ (mkIFd lz x mo t E 3 (n + 1) ⟨by omega, by omega, i2, fun h => by omega, fun _ => by omega, fun _ => by rw [hqc]; decide, fun h => by omega, fun h => by omega, fun _ => by rw [hqD]; exact i8 (by omega), by omega⟩) (by show x.length - ((n + 1)).toNat < x.length - n.toNat; omega) (thXv (v := St' x) rfl rfl (thXi (b := ((n + 1))) rfl rfl (by omega) (thCons (show Is _ (.i .i64 (.ofNat 3)) (.int .i64 ((wA lz (t + (n + 1))))) from isTo (v := .int .i64 3) (isI _ _) (by first | rfl | (congr 1; omega))) (thXi (b := ((fA lz (t + (n + 1))))) rfl rfl (by omega) (thXe (v := St' ([] : LB)) (u := St' (lnA lz (t + (n + 1)))) rfl rfl (congrArg (fun l => St' l) hqL.symm) (thXe (v := St' (DA lz (t + n))) (u := St' (DA lz (t + (n + 1)))) rfl rfl (congrArg (fun l => St' l) hqD.symm) (thNil))))))) runFd_p15
  unfold hyFd_p15
  exact hc (kRn (denX rfl)) <|
   hc (kBytesB (bs := ([] : LB)) .nil (denX rfl)) <|
   hc (lnV rfl rfl (by omega)) <|
   hc (ltT rfl rfl (by omega)) <|
   hc (necT rfl (by omega)) <|
   hc (eqcF rfl (by omega)) <|
   hc (ixV rfl rfl rfl (by omega)) <|
   hc (eqcT rfl (by omega)) <|
   hc (eqcT rfl (by omega)) <|
   hc (kEqS (isSx (l := [u8 59]) 1 59 rfl) (isX rfl) (by first | exact decide_eq_true rfl | exact decide_eq_true ‹_› | exact decide_eq_false ‹_›)) <|
   hc (kExtI (n := -1) exF42 exA42 exB42 (isX rfl) (isZ (m := 59) rfl) (denZ (m := -1) rfl) (ix_hex hz3 hz1 hz2)) <|
   hc (hokOhx (n := hexN (lnA lz (t + n))) (isX (congrArg (fun l => St' l) hz3)) (denT2 (denX rfl) (denB true)) (by omega) (by omega)) <|
   hc (lnV rfl rfl (by omega)) <|
   hc (adX rfl rfl rfl (by omega)) <|
   hc (gtcF rfl (by omega)) <|
   hc (eqcT rfl (by omega)) <|
   hc (adC rfl rfl (by omega)) <|
   hnil
def hyFd_p16 : LK := [(.rn, .x 2000004), (.bytes [], .x 26), (.len (.x 0), .x 27), (.bin .lss (.x 1) (.x 27), .b true), (.bin .neq (.x 2) (.i .i64 (.ofNat 4)), .b true), (.bin .eql (.x 2) (.i .i64 (.ofNat 1)), .b false), (.idx (.x 0) (.x 1), .x 28), (.bin .eql (.x 28) (.i .u8 (.ofNat 10)), .b true), (.bin .eql (.x 2) (.i .i64 (.ofNat 0)), .b false), (.bin .eql (.x 2) (.i .i64 (.ofNat 2)), .b false), (.bin .eql (.x 2) (.i .i64 (.ofNat 3)), .b true), (.bin .eql (.x 4) (.s 0 0), .b true), (.bin .add (.x 1) (.i .i64 (.ofNat 1)), .x 29)]
theorem runFd_p16 : RNFd_4 hyFd_p16 .normal [(0, .x 0), (1, .x 29), (2, .i .i64 (.ofNat 4)), (3, .x 3), (4, .x 26), (5, .x 5)] [(60, 62), (61, 61)] 62 epFd_3 hpFd_3 = true := by kernel_rfl
theorem nxFd_p16 (lz : List LB) (x mo : LB) (t E : Int) (c0 : 0 ≤ t) (c1 : E ≤ (x.length : Int) ∧ E ≤ nA lz - t) (c2 : (x.length : Int) ≤ E ∨ nA lz - t ≤ E) (c3 : ok3 lz) (c4 : lz.flatten.length ≤ 3000) (c5 : xP x lz mo t) (c6 : 1 ≤ x.length) (n : Int) (X : Nat → Value) (hI : InvFd lz x mo t E (4, n)) (h0 : n < (x.length : Int)) (h4 : ¬ ((wA lz (t + n)) = 0)) (h5 : ¬ ((wA lz (t + n)) = 2)) : RHFd lz x mo t E E' x' e' h' (4, n) X := by
  obtain ⟨i0, i1, i2, i3, i4, i5, i6, i7, i8, it⟩ := unIFd lz x mo t E 4 n hI
  have j0 := c0; have j1 := c1; have j2 := c2; have j3 := c3; have j4 := c4; have j5 := c5; have j6 := c6
  obtain ⟨y1, y2, y3, y4, y5, y6, y7, y8⟩ := any_ (l := lz) (i := t + n) j3 (by omega) (by omega)
  have hNl := nA_lo (l := lz)
  have hn0 : ([] : LB).length = 0 := rfl
  have hpc := pc (x := x) (l := lz) (t := t) (n := n) j5 j0 i0 (by omega)
  obtain ⟨hi, hb, hw1, hw4, ht0, ht2, ht3⟩ := rt (l := lz) (i := t + n) (j := t + (n + 1)) j3 (by omega) (by omega) (by omega) (i6 (by omega))
  have hbx := hpc (by omega)
  have := bt_lo x (Int.toNat (n)); have := bt_hi x (Int.toNat (n))
  have q := (ht3 (by omega)).2
  have hqD := q.D; have hqw := q.w
  have hqL := q.L; have hqf := q.f; have hqc := q.c
  refine stFd_4 lz x mo t E n (h := hyFd_p16) (3, (n + 1)) ?_ (mkIFd lz x mo t E 3 (n + 1) ⟨by omega, by omega, i2, fun h => by omega, fun _ => by omega, fun _ => by rw [hqc]; decide, fun h => by omega, fun h => by omega, fun _ => by rw [hqD]; exact i8 (by omega), by omega⟩) (by show x.length - ((n + 1)).toNat < x.length - n.toNat; omega) (thXv (v := St' x) rfl rfl (thXi (b := ((n + 1))) rfl rfl (by omega) (thCons (show Is _ (.i .i64 (.ofNat 4)) (.int .i64 ((wA lz (t + (n + 1))))) from isTo (v := .int .i64 4) (isI _ _) (by first | rfl | (congr 1; omega))) (thXi (b := ((fA lz (t + (n + 1))))) rfl rfl (by omega) (thXe (v := St' ([] : LB)) (u := St' (lnA lz (t + (n + 1)))) rfl rfl (congrArg (fun l => St' l) hqL.symm) (thXe (v := St' (DA lz (t + n))) (u := St' (DA lz (t + (n + 1)))) rfl rfl (congrArg (fun l => St' l) hqD.symm) (thNil))))))) runFd_p16
  unfold hyFd_p16
  exact hc (kRn (denX rfl)) <|
   hc (kBytesB (bs := ([] : LB)) .nil (denX rfl)) <|
   hc (lnV rfl rfl (by omega)) <|
   hc (ltT rfl rfl (by omega)) <|
   hc (necT rfl (by omega)) <|
   hc (eqcF rfl (by omega)) <|
   hc (ixV rfl rfl rfl (by omega)) <|
   hc (eqcT rfl (by omega)) <|
   hc (eqcF rfl (by omega)) <|
   hc (eqcF rfl (by omega)) <|
   hc (eqcT rfl (by omega)) <|
   hc (kEqS (isX rfl) (isSx (l := ([] : LB)) 0 0 rfl) (nilT (by omega))) <|
   hc (adC rfl rfl (by omega)) <|
   hnil
def hyFd_p17 : LK := [(.rn, .x 2000005), (.bytes [], .x 36), (.len (.x 0), .x 37), (.bin .lss (.x 1) (.x 37), .b true), (.bin .neq (.x 2) (.i .i64 (.ofNat 4)), .b false)]
theorem runFd_p17 : RNFd_3 hyFd_p17 (.exit 0) [(0, .x 1), (1, .x 2), (2, .x 3), (3, .x 4), (4, .x 5)] [(60, 60), (61, 61)] 120 [(6, .x 0)] [(30, .b ⟨38, .l [.i .i64 (.ofNat 4000), .x 1, .sy 60, .b false, .x 2, .i .i64 (.ofNat 0), .sy 61], 0, 0, 0, false, false⟩), (60, .t 3 5), (61, .t 4 5)] = true := by kernel_rfl
def hyFd_p18 : LK := [(.rn, .x 2000002), (.bytes [], .x 13), (.len (.x 0), .x 14), (.bin .lss (.x 1) (.x 14), .b true), (.bin .neq (.x 2) (.i .i64 (.ofNat 4)), .b true), (.bin .eql (.x 2) (.i .i64 (.ofNat 1)), .b false), (.idx (.x 0) (.x 1), .x 15), (.bin .eql (.x 15) (.i .u8 (.ofNat 10)), .b true), (.bin .eql (.x 2) (.i .i64 (.ofNat 0)), .b true), (.bin .eql (.s 1 59) (.x 4), .b false), (.ext 42 [.x 4, .i .u8 (.ofNat 59)], .i .i64 (.negSucc 0)), (.call 31 [.x 4], .tu [.x 16, .b true]), (.bin .add (.i .i64 (.ofNat 0)) (.x 16), .x 17), (.bin .gtr (.x 17) (.i .i64 (.ofNat 4000)), .b false), (.bin .eql (.x 16) (.i .i64 (.ofNat 0)), .b true), (.bin .add (.x 1) (.i .i64 (.ofNat 1)), .x 18)]
theorem runFd_p18 : RNFd_2 hyFd_p18 .normal [(0, .x 0), (1, .x 18), (2, .i .i64 (.ofNat 3)), (3, .x 3), (4, .x 13)] [(60, 62)] 62 epFd_1 hpFd_1 = true := by kernel_rfl
theorem nxFd_p18 (lz : List LB) (x mo : LB) (t E : Int) (c0 : 0 ≤ t) (c1 : E ≤ (x.length : Int) ∧ E ≤ nA lz - t) (c2 : (x.length : Int) ≤ E ∨ nA lz - t ≤ E) (c3 : ok3 lz) (c4 : lz.flatten.length ≤ 3000) (c5 : xP x lz mo t) (c6 : 1 ≤ x.length) (n : Int) (X : Nat → Value) (hI : InvFd lz x mo t E (2, n)) (h0 : n < (x.length : Int)) (h4 : (wA lz (t + n)) = 0) (h8 : (hexN (lnA lz (t + n))) = 0) : RHFd lz x mo t E E' x' e' h' (2, n) X := by
  obtain ⟨i0, i1, i2, i3, i4, i5, i6, i7, i8, it⟩ := unIFd lz x mo t E 2 n hI
  have j0 := c0; have j1 := c1; have j2 := c2; have j3 := c3; have j4 := c4; have j5 := c5; have j6 := c6
  obtain ⟨y1, y2, y3, y4, y5, y6, y7, y8⟩ := any_ (l := lz) (i := t + n) j3 (by omega) (by omega)
  have hNl := nA_lo (l := lz)
  have hn0 : ([] : LB).length = 0 := rfl
  have hpc := pc (x := x) (l := lz) (t := t) (n := n) j5 j0 i0 (by omega)
  obtain ⟨hi, hb, hw1, hw4, ht0, ht2, ht3⟩ := rt (l := lz) (i := t + n) (j := t + (n + 1)) j3 (by omega) (by omega) (by omega) (i6 (by omega))
  have hbx := hpc (by omega)
  have := bt_lo x (Int.toNat (n)); have := bt_hi x (Int.toNat (n))
  obtain ⟨hz1, hz2, hz3, hz4, hz5, hz6⟩ := ht0 (by omega)
  have hne59 := ix_ne hz3 hz1 hz2
  have q := hz5 (by omega)
  have hqD := q.D; have hqw := q.w
  have hqL := q.L; have hqf := q.f; have hqc := q.c
  refine stFd_2 lz x mo t E n (h := hyFd_p18) (1, (n + 1)) ?_ (mkIFd lz x mo t E 1 (n + 1) ⟨by omega, by omega, i2, fun h => by omega, fun _ => by omega, fun _ => by rw [hqc]; decide, fun h => by omega, fun _ => by rw [hqD]; exact i7 (by omega), fun h => by omega, by omega⟩) (by show x.length - ((n + 1)).toNat < x.length - n.toNat; omega) (thXv (v := St' x) rfl rfl (thXi (b := ((n + 1))) rfl rfl (by omega) (thCons (show Is _ (.i .i64 (.ofNat 3)) (.int .i64 ((wA lz (t + (n + 1))))) from isTo (v := .int .i64 3) (isI _ _) (by first | rfl | (congr 1; omega))) (thXi (b := ((fA lz (t + (n + 1))))) rfl rfl (by omega) (thXe (v := St' ([] : LB)) (u := St' (lnA lz (t + (n + 1)))) rfl rfl (congrArg (fun l => St' l) hqL.symm) (thNil)))))) runFd_p18
  unfold hyFd_p18
  exact hc (kRn (denX rfl)) <|
   hc (kBytesB (bs := ([] : LB)) .nil (denX rfl)) <|
   hc (lnV rfl rfl (by omega)) <|
   hc (ltT rfl rfl (by omega)) <|
   hc (necT rfl (by omega)) <|
   hc (eqcF rfl (by omega)) <|
   hc (ixV rfl rfl rfl (by omega)) <|
   hc (eqcT rfl (by omega)) <|
   hc (eqcT rfl (by omega)) <|
   hc (kEqS (isSx (l := [u8 59]) 1 59 rfl) (isX rfl) (by first | exact decide_eq_true rfl | exact decide_eq_true ‹_› | exact decide_eq_false ‹_›)) <|
   hc (kExtI (n := -1) exF42 exA42 exB42 (isX rfl) (isZ (m := 59) rfl) (denZ (m := -1) rfl) (ix_hex hz3 hz1 hz2)) <|
   hc (hokOhx (n := hexN (lnA lz (t + n))) (isX (congrArg (fun l => St' l) hz3)) (denT2 (denX rfl) (denB true)) (by omega) (by omega)) <|
   hc (kAdd (isZ (m := 0) rfl) (isX rfl) (denX rfl) (by omega) (fI64 (by omega) (by omega))) <|
   hc (gtcF rfl (by omega)) <|
   hc (eqcT rfl (by omega)) <|
   hc (adC rfl rfl (by omega)) <|
   hnil
def hyFd_p19 : LK := [(.rn, .x 2000003), (.bytes [], .x 19), (.len (.x 0), .x 20), (.bin .lss (.x 1) (.x 20), .b true), (.bin .neq (.x 2) (.i .i64 (.ofNat 4)), .b true), (.bin .eql (.x 2) (.i .i64 (.ofNat 1)), .b false), (.idx (.x 0) (.x 1), .x 21), (.bin .eql (.x 21) (.i .u8 (.ofNat 10)), .b true), (.bin .eql (.x 2) (.i .i64 (.ofNat 0)), .b false), (.bin .eql (.x 2) (.i .i64 (.ofNat 2)), .b false), (.bin .eql (.x 2) (.i .i64 (.ofNat 3)), .b true), (.bin .eql (.x 4) (.s 0 0), .b true), (.bin .add (.x 1) (.i .i64 (.ofNat 1)), .x 22)]
theorem runFd_p19 : RNFd_2 hyFd_p19 .normal [(0, .x 0), (1, .x 22), (2, .i .i64 (.ofNat 4)), (3, .x 3), (4, .x 19)] [(60, 62)] 62 epFd_1 hpFd_1 = true := by kernel_rfl
theorem nxFd_p19 (lz : List LB) (x mo : LB) (t E : Int) (c0 : 0 ≤ t) (c1 : E ≤ (x.length : Int) ∧ E ≤ nA lz - t) (c2 : (x.length : Int) ≤ E ∨ nA lz - t ≤ E) (c3 : ok3 lz) (c4 : lz.flatten.length ≤ 3000) (c5 : xP x lz mo t) (c6 : 1 ≤ x.length) (n : Int) (X : Nat → Value) (hI : InvFd lz x mo t E (2, n)) (h0 : n < (x.length : Int)) (h4 : ¬ ((wA lz (t + n)) = 0)) : RHFd lz x mo t E E' x' e' h' (2, n) X := by
  obtain ⟨i0, i1, i2, i3, i4, i5, i6, i7, i8, it⟩ := unIFd lz x mo t E 2 n hI
  have j0 := c0; have j1 := c1; have j2 := c2; have j3 := c3; have j4 := c4; have j5 := c5; have j6 := c6
  obtain ⟨y1, y2, y3, y4, y5, y6, y7, y8⟩ := any_ (l := lz) (i := t + n) j3 (by omega) (by omega)
  have hNl := nA_lo (l := lz)
  have hn0 : ([] : LB).length = 0 := rfl
  have hpc := pc (x := x) (l := lz) (t := t) (n := n) j5 j0 i0 (by omega)
  obtain ⟨hi, hb, hw1, hw4, ht0, ht2, ht3⟩ := rt (l := lz) (i := t + n) (j := t + (n + 1)) j3 (by omega) (by omega) (by omega) (i6 (by omega))
  have hbx := hpc (by omega)
  have := bt_lo x (Int.toNat (n)); have := bt_hi x (Int.toNat (n))
  have q := (ht3 (by omega)).2
  have hqD := q.D; have hqw := q.w
  have hqL := q.L; have hqf := q.f; have hqc := q.c
  refine stFd_2 lz x mo t E n (h := hyFd_p19) (1, (n + 1)) ?_ (mkIFd lz x mo t E 1 (n + 1) ⟨by omega, by omega, i2, fun h => by omega, fun _ => by omega, fun _ => by rw [hqc]; decide, fun h => by omega, fun _ => by rw [hqD]; exact i7 (by omega), fun h => by omega, by omega⟩) (by show x.length - ((n + 1)).toNat < x.length - n.toNat; omega) (thXv (v := St' x) rfl rfl (thXi (b := ((n + 1))) rfl rfl (by omega) (thCons (show Is _ (.i .i64 (.ofNat 4)) (.int .i64 ((wA lz (t + (n + 1))))) from isTo (v := .int .i64 4) (isI _ _) (by first | rfl | (congr 1; omega))) (thXi (b := ((fA lz (t + (n + 1))))) rfl rfl (by omega) (thXe (v := St' ([] : LB)) (u := St' (lnA lz (t + (n + 1)))) rfl rfl (congrArg (fun l => St' l) hqL.symm) (thNil)))))) runFd_p19
  unfold hyFd_p19
  exact hc (kRn (denX rfl)) <|
   hc (kBytesB (bs := ([] : LB)) .nil (denX rfl)) <|
   hc (lnV rfl rfl (by omega)) <|
   hc (ltT rfl rfl (by omega)) <|
   hc (necT rfl (by omega)) <|
   hc (eqcF rfl (by omega)) <|
   hc (ixV rfl rfl rfl (by omega)) <|
   hc (eqcT rfl (by omega)) <|
   hc (eqcF rfl (by omega)) <|
   hc (eqcF rfl (by omega)) <|
   hc (eqcT rfl (by omega)) <|
   hc (kEqS (isX rfl) (isSx (l := ([] : LB)) 0 0 rfl) (nilT (by omega))) <|
   hc (adC rfl rfl (by omega)) <|
   hnil
def hyFd_p20 : LK := [(.rn, .x 2000004), (.bytes [], .x 29), (.len (.x 0), .x 30), (.bin .lss (.x 1) (.x 30), .b true), (.bin .neq (.x 2) (.i .i64 (.ofNat 4)), .b false)]
theorem runFd_p20 : RNFd_1 hyFd_p20 (.exit 0) [(0, .x 1), (1, .x 2), (2, .x 3), (3, .x 4)] [(60, 60)] 120 [(6, .x 0)] [(30, .b ⟨38, .l [.i .i64 (.ofNat 4000), .x 1, .sy 60, .b false, .x 2, .i .i64 (.ofNat 0), .nils], 0, 0, 0, false, false⟩), (60, .t 3 5)] = true := by kernel_rfl
def hyFd_p21 : LK := [(.rn, .x 2000005), (.bytes [], .x 31), (.len (.x 0), .x 32), (.bin .lss (.x 1) (.x 32), .b true), (.bin .neq (.x 2) (.i .i64 (.ofNat 4)), .b true), (.bin .eql (.x 2) (.i .i64 (.ofNat 1)), .b false), (.idx (.x 0) (.x 1), .x 33), (.bin .eql (.x 33) (.i .u8 (.ofNat 10)), .b false), (.bin .eql (.x 33) (.i .u8 (.ofNat 13)), .b false), (.bin .eql (.x 2) (.i .i64 (.ofNat 2)), .b false), (.app (.x 4) [.x 33], .x 34), (.fit (.x 34), .b true), (.bin .eql (.x 2) (.i .i64 (.ofNat 3)), .b false), (.len (.x 34), .x 35), (.bin .gtr (.x 35) (.i .i64 (.ofNat 1024)), .b false), (.bin .add (.x 1) (.i .i64 (.ofNat 1)), .x 36)]
theorem runFd_p21 : RNFd_1 hyFd_p21 .normal [(0, .x 0), (1, .x 36), (2, .x 2), (3, .x 3), (4, .x 34)] [(60, 63)] 62 epFd_1 hpFd_1 = true := by kernel_rfl
theorem nxFd_p21 (lz : List LB) (x mo : LB) (t E : Int) (c0 : 0 ≤ t) (c1 : E ≤ (x.length : Int) ∧ E ≤ nA lz - t) (c2 : (x.length : Int) ≤ E ∨ nA lz - t ≤ E) (c3 : ok3 lz) (c4 : lz.flatten.length ≤ 3000) (c5 : xP x lz mo t) (c6 : 1 ≤ x.length) (n : Int) (X : Nat → Value) (hI : InvFd lz x mo t E (1, n)) (h0 : n < (x.length : Int)) (h1 : ¬ ((wA lz (t + n)) = 4)) (h2 : ¬ ((wA lz (t + n)) = 1)) (h3 : ¬ (bt (ckS lz) (Int.toNat (t + n)) = 13)) : RHFd lz x mo t E E' x' e' h' (1, n) X := by
  obtain ⟨i0, i1, i2, i3, i4, i5, i6, i7, i8, it⟩ := unIFd lz x mo t E 1 n hI
  have j0 := c0; have j1 := c1; have j2 := c2; have j3 := c3; have j4 := c4; have j5 := c5; have j6 := c6
  obtain ⟨y1, y2, y3, y4, y5, y6, y7, y8⟩ := any_ (l := lz) (i := t + n) j3 (by omega) (by omega)
  have hNl := nA_lo (l := lz)
  have hn0 : ([] : LB).length = 0 := rfl
  have hpc := pc (x := x) (l := lz) (t := t) (n := n) j5 j0 i0 (by omega)
  obtain ⟨hi, hrf⟩ := rf (l := lz) (i := t + n) (j := t + (n + 1)) j3 (by omega) (by omega) (by omega) (by omega) (by omega) (i5 (by omega))
  have hbx := hpc (by omega)
  obtain ⟨hw0, hb, q, hl2⟩ := hrf.resolve_left (fun z => absurd z.1 (by assumption))
  have := bt_lo x (Int.toNat (n)); have := bt_hi x (Int.toNat (n))
  have hqD := q.D; have hqw := q.w
  have hqL := q.L; have hqf := q.f; have hqc := q.c
  refine stFd_1 lz x mo t E n (h := hyFd_p21) (1, (n + 1)) ?_ (mkIFd lz x mo t E 1 (n + 1) ⟨by omega, by omega, i2, fun h => by omega, fun _ => by omega, fun _ => by rw [hqc]; decide, fun h => by omega, fun _ => by rw [hqD]; exact i7 (by omega), fun h => by omega, by omega⟩) (by show x.length - ((n + 1)).toNat < x.length - n.toNat; omega) (thXv (v := St' x) rfl rfl (thXi (b := ((n + 1))) rfl rfl (by omega) (thXi (b := ((wA lz (t + (n + 1))))) rfl rfl (by omega) (thXi (b := ((fA lz (t + (n + 1))))) rfl rfl (by omega) (thXe (v := St' ((lnA lz (t + n)) ++ [u8 (bt x (Int.toNat (n)))])) (u := St' (lnA lz (t + (n + 1)))) rfl rfl (congrArg (fun l => St' l) (by rw [hqL, hbx]; try rw [hln0]; try rfl)) (thNil)))))) runFd_p21
  unfold hyFd_p21
  exact hc (kRn (denX rfl)) <|
   hc (kBytesB (bs := ([] : LB)) .nil (denX rfl)) <|
   hc (lnV rfl rfl (by omega)) <|
   hc (ltT rfl rfl (by omega)) <|
   hc (necT rfl (by omega)) <|
   hc (eqcF rfl (by omega)) <|
   hc (ixV rfl rfl rfl (by omega)) <|
   hc (eqcF rfl (by omega)) <|
   hc (eqcF rfl (by omega)) <|
   hc (eqcF rfl (by omega)) <|
   hc (kApp (bs := [u8 (bt x (Int.toNat (n)))]) (isX rfl) (.cons (isB8 (isX rfl) (by omega) (by omega)) .nil) (denX rfl) (by first | rfl | (simp; done))) <|
   hc (kFit (isX rfl) (by first | omega | (simp <;> omega))) <|
   hc (eqcF rfl (by omega)) <|
   hc (lnV rfl rfl (by first | omega | (simp <;> omega))) <|
   hc (gtcF rfl (by omega)) <|
   hc (adC rfl rfl (by omega)) <|
   hnil
def nuEFd_0 (lz : List LB) (x mo : LB) (t E : Int) : List Value := [.int .i64 (E), .int .i64 ((wA lz (t + E))), .int .i64 ((fA lz (t + E))), St' (lnA lz (t + E))]
def roEFd_0 (lz : List LB) (x mo : LB) (t E : Int) : List Value := []
noncomputable def EFd_0 (lz : List LB) (x mo : LB) (t E : Int) : Cx := cx (nuX (nuEFd_0 lz x mo t E) (rX (roEFd_0 lz x mo t E) (fun _ => .bool true))) (nuX_one (nuL_one (l := nuEFd_0 lz x mo t E) rfl)) 3 laidE laidE_stab
theorem roundsFd_0 (lz : List LB) (x mo : LB) (t E : Int) (c0 : 0 ≤ t) (c1 : E ≤ (x.length : Int) ∧ E ≤ nA lz - t) (c2 : (x.length : Int) ≤ E ∨ nA lz - t ≤ E) (c3 : ok3 lz) (c4 : lz.flatten.length ≤ 3000) (c5 : xP x lz mo t) (c6 : 1 ≤ x.length) (x0 : 1 ≤ t + E) (x1 : ¬ cA lz (t + E) = true) (x2 : (DA lz (t + E)).length = 0) (st : Nat × Int) (X : Nat → Value) (hI : InvFd lz x mo t E st) : RHFd lz x mo t E (EFd_0 lz x mo t E) (.exit 0) [(6, .x 0)] [(30, .b ⟨38, .l [.i .i64 (.ofNat 4000), .x 1, .sy 60, .b false, .x 2, .i .i64 (.ofNat 0), .nils], 0, 0, 0, false, false⟩), (60, .t 3 5)] st X := by
  obtain ⟨tag, n⟩ := st
  have hI0 := hI
  obtain ⟨i0, i1, i2, i3, i4, i5, i6, i7, i8, it⟩ := unIFd lz x mo t E tag n hI
  rcases (show tag = 0 ∨ tag = 1 ∨ tag = 2 ∨ tag = 3 ∨ tag = 4 from by omega) with rfl | rfl | rfl | rfl | rfl
  · skip
    have j0 := c0; have j1 := c1; have j2 := c2; have j3 := c3; have j4 := c4; have j5 := c5; have j6 := c6
    obtain ⟨y1, y2, y3, y4, y5, y6, y7, y8⟩ := any_ (l := lz) (i := t + n) j3 (by omega) (by omega)
    have hNl := nA_lo (l := lz)
    have hn0 : ([] : LB).length = 0 := rfl
    exact nxFd_p0 lz x mo t E c0 c1 c2 c3 c4 c5 c6 n X hI0
  · skip
    have j0 := c0; have j1 := c1; have j2 := c2; have j3 := c3; have j4 := c4; have j5 := c5; have j6 := c6
    obtain ⟨y1, y2, y3, y4, y5, y6, y7, y8⟩ := any_ (l := lz) (i := t + n) j3 (by omega) (by omega)
    have hNl := nA_lo (l := lz)
    have hn0 : ([] : LB).length = 0 := rfl
    by_cases h0 : n < (x.length : Int)
    · by_cases h1 : (wA lz (t + n)) = 4
      · skip
        have j0 := c0; have j1 := c1; have j2 := c2; have j3 := c3; have j4 := c4; have j5 := c5; have j6 := c6
        obtain ⟨y1, y2, y3, y4, y5, y6, y7, y8⟩ := any_ (l := lz) (i := t + n) j3 (by omega) (by omega)
        have hNl := nA_lo (l := lz)
        have hn0 : ([] : LB).length = 0 := rfl
        have hE : n = E := (by omega)
        refine lvFd_1 lz x mo t E n (h := hyFd_p20) rfl ?_ (thXe (v := .int .i64 (n)) (u := .int .i64 (E)) rfl rfl (by rw [hE]) (thXe (v := .int .i64 ((wA lz (t + n)))) (u := .int .i64 ((wA lz (t + E)))) rfl rfl (by rw [hE]) (thXe (v := .int .i64 ((fA lz (t + n)))) (u := .int .i64 ((fA lz (t + E)))) rfl rfl (by rw [hE]) (thXe (v := St' (lnA lz (t + n))) (u := St' (lnA lz (t + E))) rfl rfl (by rw [hE]) (thNil))))) runFd_p20
        unfold hyFd_p20
        exact hc (kRn (denX rfl)) <|
         hc (kBytesB (bs := ([] : LB)) .nil (denX rfl)) <|
         hc (lnV rfl rfl (by omega)) <|
         hc (ltT rfl rfl (by omega)) <|
         hc (necF rfl (by omega)) <|
         hnil
      · by_cases h2 : (wA lz (t + n)) = 1
        · by_cases h3 : (fA lz (t + n)) - (mA lz x t n) = 0
          · exact nxFd_p6 lz x mo t E c0 c1 c2 c3 c4 c5 c6 n X hI0 h0 h1 h2 h3
          · exact nxFd_p5 lz x mo t E c0 c1 c2 c3 c4 c5 c6 n X hI0 h0 h1 h2 h3
        · by_cases h3 : bt (ckS lz) (Int.toNat (t + n)) = 13
          · exact nxFd_p1 lz x mo t E c0 c1 c2 c3 c4 c5 c6 n X hI0 h0 h1 h2 h3
          · exact nxFd_p21 lz x mo t E c0 c1 c2 c3 c4 c5 c6 n X hI0 h0 h1 h2 h3
    · skip
      have j0 := c0; have j1 := c1; have j2 := c2; have j3 := c3; have j4 := c4; have j5 := c5; have j6 := c6
      obtain ⟨y1, y2, y3, y4, y5, y6, y7, y8⟩ := any_ (l := lz) (i := t + n) j3 (by omega) (by omega)
      have hNl := nA_lo (l := lz)
      have hn0 : ([] : LB).length = 0 := rfl
      have hE : n = E := (by omega)
      refine lvFd_1 lz x mo t E n (h := hyFd_p2) rfl ?_ (thXe (v := .int .i64 (n)) (u := .int .i64 (E)) rfl rfl (by rw [hE]) (thXe (v := .int .i64 ((wA lz (t + n)))) (u := .int .i64 ((wA lz (t + E)))) rfl rfl (by rw [hE]) (thXe (v := .int .i64 ((fA lz (t + n)))) (u := .int .i64 ((fA lz (t + E)))) rfl rfl (by rw [hE]) (thXe (v := St' (lnA lz (t + n))) (u := St' (lnA lz (t + E))) rfl rfl (by rw [hE]) (thNil))))) runFd_p2
      unfold hyFd_p2
      exact hc (kRn (denX rfl)) <|
       hc (kBytesB (bs := ([] : LB)) .nil (denX rfl)) <|
       hc (lnV rfl rfl (by omega)) <|
       hc (ltF rfl rfl (by omega)) <|
       hnil
  · skip
    have j0 := c0; have j1 := c1; have j2 := c2; have j3 := c3; have j4 := c4; have j5 := c5; have j6 := c6
    obtain ⟨y1, y2, y3, y4, y5, y6, y7, y8⟩ := any_ (l := lz) (i := t + n) j3 (by omega) (by omega)
    have hNl := nA_lo (l := lz)
    have hn0 : ([] : LB).length = 0 := rfl
    by_cases h0 : n < (x.length : Int)
    · by_cases h4 : (wA lz (t + n)) = 0
      · by_cases h8 : (hexN (lnA lz (t + n))) = 0
        · exact nxFd_p18 lz x mo t E c0 c1 c2 c3 c4 c5 c6 n X hI0 h0 h4 h8
        · exact nxFd_p3 lz x mo t E c0 c1 c2 c3 c4 c5 c6 n X hI0 h0 h4 h8
      · exact nxFd_p19 lz x mo t E c0 c1 c2 c3 c4 c5 c6 n X hI0 h0 h4
    · exfalso; have hE : n = E := (by omega); have h6 := i6 (by omega); rw [hE] at h6; exact x1 h6
  · skip
    have j0 := c0; have j1 := c1; have j2 := c2; have j3 := c3; have j4 := c4; have j5 := c5; have j6 := c6
    obtain ⟨y1, y2, y3, y4, y5, y6, y7, y8⟩ := any_ (l := lz) (i := t + n) j3 (by omega) (by omega)
    have hNl := nA_lo (l := lz)
    have hn0 : ([] : LB).length = 0 := rfl
    by_cases h0 : n < (x.length : Int)
    · by_cases h1 : (wA lz (t + n)) = 4
      · exfalso; have hE : n = E := (by omega); have h8 := i8 (by omega); rw [hE] at h8; exact h8 x2
      · by_cases h2 : (wA lz (t + n)) = 1
        · by_cases h3 : (fA lz (t + n)) - (mA lz x t n) = 0
          · exact nxFd_p8 lz x mo t E c0 c1 c2 c3 c4 c5 c6 n X hI0 h0 h1 h2 h3
          · exact nxFd_p7 lz x mo t E c0 c1 c2 c3 c4 c5 c6 n X hI0 h0 h1 h2 h3
        · by_cases h3 : bt (ckS lz) (Int.toNat (t + n)) = 13
          · exact nxFd_p10 lz x mo t E c0 c1 c2 c3 c4 c5 c6 n X hI0 h0 h1 h2 h3
          · exact nxFd_p13 lz x mo t E c0 c1 c2 c3 c4 c5 c6 n X hI0 h0 h1 h2 h3
    · exfalso; have hE : n = E := (by omega); have h8 := i8 (by omega); rw [hE] at h8; exact h8 x2
  · skip
    have j0 := c0; have j1 := c1; have j2 := c2; have j3 := c3; have j4 := c4; have j5 := c5; have j6 := c6
    obtain ⟨y1, y2, y3, y4, y5, y6, y7, y8⟩ := any_ (l := lz) (i := t + n) j3 (by omega) (by omega)
    have hNl := nA_lo (l := lz)
    have hn0 : ([] : LB).length = 0 := rfl
    by_cases h0 : n < (x.length : Int)
    · by_cases h4 : (wA lz (t + n)) = 0
      · by_cases h8 : (hexN (lnA lz (t + n))) = 0
        · exact nxFd_p15 lz x mo t E c0 c1 c2 c3 c4 c5 c6 n X hI0 h0 h4 h8
        · exact nxFd_p14 lz x mo t E c0 c1 c2 c3 c4 c5 c6 n X hI0 h0 h4 h8
      · by_cases h5 : (wA lz (t + n)) = 2
        · exact nxFd_p11 lz x mo t E c0 c1 c2 c3 c4 c5 c6 n X hI0 h0 h4 h5
        · exact nxFd_p16 lz x mo t E c0 c1 c2 c3 c4 c5 c6 n X hI0 h0 h4 h5
    · exfalso; have hE : n = E := (by omega); have h6 := i6 (by omega); rw [hE] at h6; exact x1 h6
theorem lfOkFd_0 {l : LF} {h : LH} (lz : List LB) (x mo : LB) (t E : Int) (c0 : 0 ≤ t) (c1 : E ≤ (x.length : Int) ∧ E ≤ nA lz - t) (c2 : (x.length : Int) ≤ E ∨ nA lz - t ≤ E) (c3 : ok3 lz) (c4 : lz.flatten.length ≤ 3000) (c5 : xP x lz mo t) (c6 : 1 ≤ x.length) (x0 : 1 ≤ t + E) (x1 : ¬ cA lz (t + E) = true) (x2 : (DA lz (t + E)).length = 0) (st : Nat × Int) (hI : InvFd lz x mo t E st) (hl : l.hp = some h) (hs : lfSame l h 58 keepFd (.exit 0) 4 60 120 = true) {th0 : LA} {sg0 : List (Nat × Nat)} (hth0 : ∀ X, ThOk (cx nu one 3 laidE laidE_stab) (DFd lz x mo t E st X) th0) (h0 : startOk l h 58 60 62 th0 sg0 (epFd st) (hpFd st) = true) {thx : LA} (hthx : ThOk (EFd_0 lz x mo t E) (cx nu one 3 laidE laidE_stab) thx) (hx : exitOk l h 58 60 120 thx [(6, .x 0)] [(30, .b ⟨38, .l [.i .i64 (.ofNat 4000), .x 1, .sy 60, .b false, .x 2, .i .i64 (.ofNat 0), .nils], 0, 0, 0, false, false⟩), (60, .t 3 5)] = true) : LfOk (cx nu one 3 laidE laidE_stab) bodyFd l :=
  lfOkX (E := EFd_0 lz x mo t E) (InvFd lz x mo t E) (muFd lz x mo t E) (DFd lz x mo t E) (fun _ _ => rfl) (fun _ _ => rfl) (fun _ _ => rfl) (fun st X t ht => nuX_keep.trans (rX_keep ((by decide : ∀ t, t ∈ keepFd → t < 1000000) t ht))) rfl rfl rfl hl hs ebFd rfl rfl st hI hth0 h0 hthx hx (roundsFd_0 lz x mo t E c0 c1 c2 c3 c4 c5 c6 x0 x1 x2)
def nuEFd_1 (lz : List LB) (x mo : LB) (t E : Int) : List Value := [.int .i64 (E), .int .i64 ((wA lz (t + E))), .int .i64 ((fA lz (t + E))), St' (lnA lz (t + E))]
def roEFd_1 (lz : List LB) (x mo : LB) (t E : Int) : List Value := []
noncomputable def EFd_1 (lz : List LB) (x mo : LB) (t E : Int) : Cx := cx (nuX (nuEFd_1 lz x mo t E) (rX (roEFd_1 lz x mo t E) (fun _ => .bool true))) (nuX_one (nuL_one (l := nuEFd_1 lz x mo t E) rfl)) 3 laidE laidE_stab
theorem roundsFd_1 (lz : List LB) (x mo : LB) (t E : Int) (c0 : 0 ≤ t) (c1 : E ≤ (x.length : Int) ∧ E ≤ nA lz - t) (c2 : (x.length : Int) ≤ E ∨ nA lz - t ≤ E) (c3 : ok3 lz) (c4 : lz.flatten.length ≤ 3000) (c5 : xP x lz mo t) (c6 : 1 ≤ x.length) (x0 : 1 ≤ t + E) (x1 : cA lz (t + E) = true) (x2 : (DA lz (t + E)).length = 0) (st : Nat × Int) (X : Nat → Value) (hI : InvFd lz x mo t E st) : RHFd lz x mo t E (EFd_1 lz x mo t E) (.exit 0) [(6, .x 0)] [(30, .b ⟨38, .l [.i .i64 (.ofNat 4000), .x 1, .sy 60, .b true, .x 2, .i .i64 (.ofNat 0), .nils], 0, 0, 0, false, false⟩), (60, .t 3 5)] st X := by
  obtain ⟨tag, n⟩ := st
  have hI0 := hI
  obtain ⟨i0, i1, i2, i3, i4, i5, i6, i7, i8, it⟩ := unIFd lz x mo t E tag n hI
  rcases (show tag = 0 ∨ tag = 1 ∨ tag = 2 ∨ tag = 3 ∨ tag = 4 from by omega) with rfl | rfl | rfl | rfl | rfl
  · skip
    have j0 := c0; have j1 := c1; have j2 := c2; have j3 := c3; have j4 := c4; have j5 := c5; have j6 := c6
    obtain ⟨y1, y2, y3, y4, y5, y6, y7, y8⟩ := any_ (l := lz) (i := t + n) j3 (by omega) (by omega)
    have hNl := nA_lo (l := lz)
    have hn0 : ([] : LB).length = 0 := rfl
    exact nxFd_p0 lz x mo t E c0 c1 c2 c3 c4 c5 c6 n X hI0
  · skip
    have j0 := c0; have j1 := c1; have j2 := c2; have j3 := c3; have j4 := c4; have j5 := c5; have j6 := c6
    obtain ⟨y1, y2, y3, y4, y5, y6, y7, y8⟩ := any_ (l := lz) (i := t + n) j3 (by omega) (by omega)
    have hNl := nA_lo (l := lz)
    have hn0 : ([] : LB).length = 0 := rfl
    by_cases h0 : n < (x.length : Int)
    · by_cases h1 : (wA lz (t + n)) = 4
      · exfalso; have hE : n = E := (by omega); have h5 := i5 (by omega); rw [hE] at h5; exact h5 x1
      · by_cases h2 : (wA lz (t + n)) = 1
        · by_cases h3 : (fA lz (t + n)) - (mA lz x t n) = 0
          · exact nxFd_p6 lz x mo t E c0 c1 c2 c3 c4 c5 c6 n X hI0 h0 h1 h2 h3
          · exact nxFd_p5 lz x mo t E c0 c1 c2 c3 c4 c5 c6 n X hI0 h0 h1 h2 h3
        · by_cases h3 : bt (ckS lz) (Int.toNat (t + n)) = 13
          · exact nxFd_p1 lz x mo t E c0 c1 c2 c3 c4 c5 c6 n X hI0 h0 h1 h2 h3
          · exact nxFd_p21 lz x mo t E c0 c1 c2 c3 c4 c5 c6 n X hI0 h0 h1 h2 h3
    · exfalso; have hE : n = E := (by omega); have h5 := i5 (by omega); rw [hE] at h5; exact h5 x1
  · skip
    have j0 := c0; have j1 := c1; have j2 := c2; have j3 := c3; have j4 := c4; have j5 := c5; have j6 := c6
    obtain ⟨y1, y2, y3, y4, y5, y6, y7, y8⟩ := any_ (l := lz) (i := t + n) j3 (by omega) (by omega)
    have hNl := nA_lo (l := lz)
    have hn0 : ([] : LB).length = 0 := rfl
    by_cases h0 : n < (x.length : Int)
    · by_cases h4 : (wA lz (t + n)) = 0
      · by_cases h8 : (hexN (lnA lz (t + n))) = 0
        · exact nxFd_p18 lz x mo t E c0 c1 c2 c3 c4 c5 c6 n X hI0 h0 h4 h8
        · exact nxFd_p3 lz x mo t E c0 c1 c2 c3 c4 c5 c6 n X hI0 h0 h4 h8
      · exact nxFd_p19 lz x mo t E c0 c1 c2 c3 c4 c5 c6 n X hI0 h0 h4
    · skip
      have j0 := c0; have j1 := c1; have j2 := c2; have j3 := c3; have j4 := c4; have j5 := c5; have j6 := c6
      obtain ⟨y1, y2, y3, y4, y5, y6, y7, y8⟩ := any_ (l := lz) (i := t + n) j3 (by omega) (by omega)
      have hNl := nA_lo (l := lz)
      have hn0 : ([] : LB).length = 0 := rfl
      have hE : n = E := (by omega)
      refine lvFd_2 lz x mo t E n (h := hyFd_p4) rfl ?_ (thXe (v := .int .i64 (n)) (u := .int .i64 (E)) rfl rfl (by rw [hE]) (thXe (v := .int .i64 ((wA lz (t + n)))) (u := .int .i64 ((wA lz (t + E)))) rfl rfl (by rw [hE]) (thXe (v := .int .i64 ((fA lz (t + n)))) (u := .int .i64 ((fA lz (t + E)))) rfl rfl (by rw [hE]) (thXe (v := St' (lnA lz (t + n))) (u := St' (lnA lz (t + E))) rfl rfl (by rw [hE]) (thNil))))) runFd_p4
      unfold hyFd_p4
      exact hc (kRn (denX rfl)) <|
       hc (kBytesB (bs := ([] : LB)) .nil (denX rfl)) <|
       hc (lnV rfl rfl (by omega)) <|
       hc (ltF rfl rfl (by omega)) <|
       hnil
  · skip
    have j0 := c0; have j1 := c1; have j2 := c2; have j3 := c3; have j4 := c4; have j5 := c5; have j6 := c6
    obtain ⟨y1, y2, y3, y4, y5, y6, y7, y8⟩ := any_ (l := lz) (i := t + n) j3 (by omega) (by omega)
    have hNl := nA_lo (l := lz)
    have hn0 : ([] : LB).length = 0 := rfl
    by_cases h0 : n < (x.length : Int)
    · by_cases h1 : (wA lz (t + n)) = 4
      · exfalso; have hE : n = E := (by omega); have h5 := i5 (by omega); rw [hE] at h5; exact h5 x1
      · by_cases h2 : (wA lz (t + n)) = 1
        · by_cases h3 : (fA lz (t + n)) - (mA lz x t n) = 0
          · exact nxFd_p8 lz x mo t E c0 c1 c2 c3 c4 c5 c6 n X hI0 h0 h1 h2 h3
          · exact nxFd_p7 lz x mo t E c0 c1 c2 c3 c4 c5 c6 n X hI0 h0 h1 h2 h3
        · by_cases h3 : bt (ckS lz) (Int.toNat (t + n)) = 13
          · exact nxFd_p10 lz x mo t E c0 c1 c2 c3 c4 c5 c6 n X hI0 h0 h1 h2 h3
          · exact nxFd_p13 lz x mo t E c0 c1 c2 c3 c4 c5 c6 n X hI0 h0 h1 h2 h3
    · exfalso; have hE : n = E := (by omega); have h5 := i5 (by omega); rw [hE] at h5; exact h5 x1
  · skip
    have j0 := c0; have j1 := c1; have j2 := c2; have j3 := c3; have j4 := c4; have j5 := c5; have j6 := c6
    obtain ⟨y1, y2, y3, y4, y5, y6, y7, y8⟩ := any_ (l := lz) (i := t + n) j3 (by omega) (by omega)
    have hNl := nA_lo (l := lz)
    have hn0 : ([] : LB).length = 0 := rfl
    by_cases h0 : n < (x.length : Int)
    · by_cases h4 : (wA lz (t + n)) = 0
      · by_cases h8 : (hexN (lnA lz (t + n))) = 0
        · exact nxFd_p15 lz x mo t E c0 c1 c2 c3 c4 c5 c6 n X hI0 h0 h4 h8
        · exact nxFd_p14 lz x mo t E c0 c1 c2 c3 c4 c5 c6 n X hI0 h0 h4 h8
      · by_cases h5 : (wA lz (t + n)) = 2
        · exact nxFd_p11 lz x mo t E c0 c1 c2 c3 c4 c5 c6 n X hI0 h0 h4 h5
        · exact nxFd_p16 lz x mo t E c0 c1 c2 c3 c4 c5 c6 n X hI0 h0 h4 h5
    · exfalso; have hE : n = E := (by omega); have h8 := i8 (by omega); rw [hE] at h8; exact h8 x2
theorem lfOkFd_1 {l : LF} {h : LH} (lz : List LB) (x mo : LB) (t E : Int) (c0 : 0 ≤ t) (c1 : E ≤ (x.length : Int) ∧ E ≤ nA lz - t) (c2 : (x.length : Int) ≤ E ∨ nA lz - t ≤ E) (c3 : ok3 lz) (c4 : lz.flatten.length ≤ 3000) (c5 : xP x lz mo t) (c6 : 1 ≤ x.length) (x0 : 1 ≤ t + E) (x1 : cA lz (t + E) = true) (x2 : (DA lz (t + E)).length = 0) (st : Nat × Int) (hI : InvFd lz x mo t E st) (hl : l.hp = some h) (hs : lfSame l h 58 keepFd (.exit 0) 4 60 120 = true) {th0 : LA} {sg0 : List (Nat × Nat)} (hth0 : ∀ X, ThOk (cx nu one 3 laidE laidE_stab) (DFd lz x mo t E st X) th0) (h0 : startOk l h 58 60 62 th0 sg0 (epFd st) (hpFd st) = true) {thx : LA} (hthx : ThOk (EFd_1 lz x mo t E) (cx nu one 3 laidE laidE_stab) thx) (hx : exitOk l h 58 60 120 thx [(6, .x 0)] [(30, .b ⟨38, .l [.i .i64 (.ofNat 4000), .x 1, .sy 60, .b true, .x 2, .i .i64 (.ofNat 0), .nils], 0, 0, 0, false, false⟩), (60, .t 3 5)] = true) : LfOk (cx nu one 3 laidE laidE_stab) bodyFd l :=
  lfOkX (E := EFd_1 lz x mo t E) (InvFd lz x mo t E) (muFd lz x mo t E) (DFd lz x mo t E) (fun _ _ => rfl) (fun _ _ => rfl) (fun _ _ => rfl) (fun st X t ht => nuX_keep.trans (rX_keep ((by decide : ∀ t, t ∈ keepFd → t < 1000000) t ht))) rfl rfl rfl hl hs ebFd rfl rfl st hI hth0 h0 hthx hx (roundsFd_1 lz x mo t E c0 c1 c2 c3 c4 c5 c6 x0 x1 x2)
def nuEFd_2 (lz : List LB) (x mo : LB) (t E : Int) : List Value := [.int .i64 (E), .int .i64 ((wA lz (t + E))), .int .i64 ((fA lz (t + E))), St' (lnA lz (t + E)), St' (DA lz (t + E))]
def roEFd_2 (lz : List LB) (x mo : LB) (t E : Int) : List Value := []
noncomputable def EFd_2 (lz : List LB) (x mo : LB) (t E : Int) : Cx := cx (nuX (nuEFd_2 lz x mo t E) (rX (roEFd_2 lz x mo t E) (fun _ => .bool true))) (nuX_one (nuL_one (l := nuEFd_2 lz x mo t E) rfl)) 3 laidE laidE_stab
theorem roundsFd_2 (lz : List LB) (x mo : LB) (t E : Int) (c0 : 0 ≤ t) (c1 : E ≤ (x.length : Int) ∧ E ≤ nA lz - t) (c2 : (x.length : Int) ≤ E ∨ nA lz - t ≤ E) (c3 : ok3 lz) (c4 : lz.flatten.length ≤ 3000) (c5 : xP x lz mo t) (c6 : 1 ≤ x.length) (x0 : 1 ≤ t + E) (x1 : ¬ cA lz (t + E) = true) (x2 : ¬ (DA lz (t + E)).length = 0) (st : Nat × Int) (X : Nat → Value) (hI : InvFd lz x mo t E st) : RHFd lz x mo t E (EFd_2 lz x mo t E) (.exit 0) [(6, .x 0)] [(30, .b ⟨38, .l [.i .i64 (.ofNat 4000), .x 1, .sy 60, .b false, .x 2, .i .i64 (.ofNat 0), .sy 61], 0, 0, 0, false, false⟩), (60, .t 3 5), (61, .t 4 5)] st X := by
  obtain ⟨tag, n⟩ := st
  have hI0 := hI
  obtain ⟨i0, i1, i2, i3, i4, i5, i6, i7, i8, it⟩ := unIFd lz x mo t E tag n hI
  rcases (show tag = 0 ∨ tag = 1 ∨ tag = 2 ∨ tag = 3 ∨ tag = 4 from by omega) with rfl | rfl | rfl | rfl | rfl
  · skip
    have j0 := c0; have j1 := c1; have j2 := c2; have j3 := c3; have j4 := c4; have j5 := c5; have j6 := c6
    obtain ⟨y1, y2, y3, y4, y5, y6, y7, y8⟩ := any_ (l := lz) (i := t + n) j3 (by omega) (by omega)
    have hNl := nA_lo (l := lz)
    have hn0 : ([] : LB).length = 0 := rfl
    exact nxFd_p0 lz x mo t E c0 c1 c2 c3 c4 c5 c6 n X hI0
  · skip
    have j0 := c0; have j1 := c1; have j2 := c2; have j3 := c3; have j4 := c4; have j5 := c5; have j6 := c6
    obtain ⟨y1, y2, y3, y4, y5, y6, y7, y8⟩ := any_ (l := lz) (i := t + n) j3 (by omega) (by omega)
    have hNl := nA_lo (l := lz)
    have hn0 : ([] : LB).length = 0 := rfl
    by_cases h0 : n < (x.length : Int)
    · by_cases h1 : (wA lz (t + n)) = 4
      · exfalso; have hE : n = E := (by omega); have h7 := i7 (by omega); rw [hE] at h7; exact x2 h7
      · by_cases h2 : (wA lz (t + n)) = 1
        · by_cases h3 : (fA lz (t + n)) - (mA lz x t n) = 0
          · exact nxFd_p6 lz x mo t E c0 c1 c2 c3 c4 c5 c6 n X hI0 h0 h1 h2 h3
          · exact nxFd_p5 lz x mo t E c0 c1 c2 c3 c4 c5 c6 n X hI0 h0 h1 h2 h3
        · by_cases h3 : bt (ckS lz) (Int.toNat (t + n)) = 13
          · exact nxFd_p1 lz x mo t E c0 c1 c2 c3 c4 c5 c6 n X hI0 h0 h1 h2 h3
          · exact nxFd_p21 lz x mo t E c0 c1 c2 c3 c4 c5 c6 n X hI0 h0 h1 h2 h3
    · exfalso; have hE : n = E := (by omega); have h7 := i7 (by omega); rw [hE] at h7; exact x2 h7
  · skip
    have j0 := c0; have j1 := c1; have j2 := c2; have j3 := c3; have j4 := c4; have j5 := c5; have j6 := c6
    obtain ⟨y1, y2, y3, y4, y5, y6, y7, y8⟩ := any_ (l := lz) (i := t + n) j3 (by omega) (by omega)
    have hNl := nA_lo (l := lz)
    have hn0 : ([] : LB).length = 0 := rfl
    by_cases h0 : n < (x.length : Int)
    · by_cases h4 : (wA lz (t + n)) = 0
      · by_cases h8 : (hexN (lnA lz (t + n))) = 0
        · exact nxFd_p18 lz x mo t E c0 c1 c2 c3 c4 c5 c6 n X hI0 h0 h4 h8
        · exact nxFd_p3 lz x mo t E c0 c1 c2 c3 c4 c5 c6 n X hI0 h0 h4 h8
      · exact nxFd_p19 lz x mo t E c0 c1 c2 c3 c4 c5 c6 n X hI0 h0 h4
    · exfalso; have hE : n = E := (by omega); have h6 := i6 (by omega); rw [hE] at h6; exact x1 h6
  · skip
    have j0 := c0; have j1 := c1; have j2 := c2; have j3 := c3; have j4 := c4; have j5 := c5; have j6 := c6
    obtain ⟨y1, y2, y3, y4, y5, y6, y7, y8⟩ := any_ (l := lz) (i := t + n) j3 (by omega) (by omega)
    have hNl := nA_lo (l := lz)
    have hn0 : ([] : LB).length = 0 := rfl
    by_cases h0 : n < (x.length : Int)
    · by_cases h1 : (wA lz (t + n)) = 4
      · skip
        have j0 := c0; have j1 := c1; have j2 := c2; have j3 := c3; have j4 := c4; have j5 := c5; have j6 := c6
        obtain ⟨y1, y2, y3, y4, y5, y6, y7, y8⟩ := any_ (l := lz) (i := t + n) j3 (by omega) (by omega)
        have hNl := nA_lo (l := lz)
        have hn0 : ([] : LB).length = 0 := rfl
        have hE : n = E := (by omega)
        refine lvFd_3 lz x mo t E n (h := hyFd_p17) rfl ?_ (thXe (v := .int .i64 (n)) (u := .int .i64 (E)) rfl rfl (by rw [hE]) (thXe (v := .int .i64 ((wA lz (t + n)))) (u := .int .i64 ((wA lz (t + E)))) rfl rfl (by rw [hE]) (thXe (v := .int .i64 ((fA lz (t + n)))) (u := .int .i64 ((fA lz (t + E)))) rfl rfl (by rw [hE]) (thXe (v := St' (lnA lz (t + n))) (u := St' (lnA lz (t + E))) rfl rfl (by rw [hE]) (thXe (v := St' (DA lz (t + n))) (u := St' (DA lz (t + E))) rfl rfl (by rw [hE]) (thNil)))))) runFd_p17
        unfold hyFd_p17
        exact hc (kRn (denX rfl)) <|
         hc (kBytesB (bs := ([] : LB)) .nil (denX rfl)) <|
         hc (lnV rfl rfl (by omega)) <|
         hc (ltT rfl rfl (by omega)) <|
         hc (necF rfl (by omega)) <|
         hnil
      · by_cases h2 : (wA lz (t + n)) = 1
        · by_cases h3 : (fA lz (t + n)) - (mA lz x t n) = 0
          · exact nxFd_p8 lz x mo t E c0 c1 c2 c3 c4 c5 c6 n X hI0 h0 h1 h2 h3
          · exact nxFd_p7 lz x mo t E c0 c1 c2 c3 c4 c5 c6 n X hI0 h0 h1 h2 h3
        · by_cases h3 : bt (ckS lz) (Int.toNat (t + n)) = 13
          · exact nxFd_p10 lz x mo t E c0 c1 c2 c3 c4 c5 c6 n X hI0 h0 h1 h2 h3
          · exact nxFd_p13 lz x mo t E c0 c1 c2 c3 c4 c5 c6 n X hI0 h0 h1 h2 h3
    · skip
      have j0 := c0; have j1 := c1; have j2 := c2; have j3 := c3; have j4 := c4; have j5 := c5; have j6 := c6
      obtain ⟨y1, y2, y3, y4, y5, y6, y7, y8⟩ := any_ (l := lz) (i := t + n) j3 (by omega) (by omega)
      have hNl := nA_lo (l := lz)
      have hn0 : ([] : LB).length = 0 := rfl
      have hE : n = E := (by omega)
      refine lvFd_3 lz x mo t E n (h := hyFd_p9) rfl ?_ (thXe (v := .int .i64 (n)) (u := .int .i64 (E)) rfl rfl (by rw [hE]) (thXe (v := .int .i64 ((wA lz (t + n)))) (u := .int .i64 ((wA lz (t + E)))) rfl rfl (by rw [hE]) (thXe (v := .int .i64 ((fA lz (t + n)))) (u := .int .i64 ((fA lz (t + E)))) rfl rfl (by rw [hE]) (thXe (v := St' (lnA lz (t + n))) (u := St' (lnA lz (t + E))) rfl rfl (by rw [hE]) (thXe (v := St' (DA lz (t + n))) (u := St' (DA lz (t + E))) rfl rfl (by rw [hE]) (thNil)))))) runFd_p9
      unfold hyFd_p9
      exact hc (kRn (denX rfl)) <|
       hc (kBytesB (bs := ([] : LB)) .nil (denX rfl)) <|
       hc (lnV rfl rfl (by omega)) <|
       hc (ltF rfl rfl (by omega)) <|
       hnil
  · skip
    have j0 := c0; have j1 := c1; have j2 := c2; have j3 := c3; have j4 := c4; have j5 := c5; have j6 := c6
    obtain ⟨y1, y2, y3, y4, y5, y6, y7, y8⟩ := any_ (l := lz) (i := t + n) j3 (by omega) (by omega)
    have hNl := nA_lo (l := lz)
    have hn0 : ([] : LB).length = 0 := rfl
    by_cases h0 : n < (x.length : Int)
    · by_cases h4 : (wA lz (t + n)) = 0
      · by_cases h8 : (hexN (lnA lz (t + n))) = 0
        · exact nxFd_p15 lz x mo t E c0 c1 c2 c3 c4 c5 c6 n X hI0 h0 h4 h8
        · exact nxFd_p14 lz x mo t E c0 c1 c2 c3 c4 c5 c6 n X hI0 h0 h4 h8
      · by_cases h5 : (wA lz (t + n)) = 2
        · exact nxFd_p11 lz x mo t E c0 c1 c2 c3 c4 c5 c6 n X hI0 h0 h4 h5
        · exact nxFd_p16 lz x mo t E c0 c1 c2 c3 c4 c5 c6 n X hI0 h0 h4 h5
    · exfalso; have hE : n = E := (by omega); have h6 := i6 (by omega); rw [hE] at h6; exact x1 h6
theorem lfOkFd_2 {l : LF} {h : LH} (lz : List LB) (x mo : LB) (t E : Int) (c0 : 0 ≤ t) (c1 : E ≤ (x.length : Int) ∧ E ≤ nA lz - t) (c2 : (x.length : Int) ≤ E ∨ nA lz - t ≤ E) (c3 : ok3 lz) (c4 : lz.flatten.length ≤ 3000) (c5 : xP x lz mo t) (c6 : 1 ≤ x.length) (x0 : 1 ≤ t + E) (x1 : ¬ cA lz (t + E) = true) (x2 : ¬ (DA lz (t + E)).length = 0) (st : Nat × Int) (hI : InvFd lz x mo t E st) (hl : l.hp = some h) (hs : lfSame l h 58 keepFd (.exit 0) 4 60 120 = true) {th0 : LA} {sg0 : List (Nat × Nat)} (hth0 : ∀ X, ThOk (cx nu one 3 laidE laidE_stab) (DFd lz x mo t E st X) th0) (h0 : startOk l h 58 60 62 th0 sg0 (epFd st) (hpFd st) = true) {thx : LA} (hthx : ThOk (EFd_2 lz x mo t E) (cx nu one 3 laidE laidE_stab) thx) (hx : exitOk l h 58 60 120 thx [(6, .x 0)] [(30, .b ⟨38, .l [.i .i64 (.ofNat 4000), .x 1, .sy 60, .b false, .x 2, .i .i64 (.ofNat 0), .sy 61], 0, 0, 0, false, false⟩), (60, .t 3 5), (61, .t 4 5)] = true) : LfOk (cx nu one 3 laidE laidE_stab) bodyFd l :=
  lfOkX (E := EFd_2 lz x mo t E) (InvFd lz x mo t E) (muFd lz x mo t E) (DFd lz x mo t E) (fun _ _ => rfl) (fun _ _ => rfl) (fun _ _ => rfl) (fun st X t ht => nuX_keep.trans (rX_keep ((by decide : ∀ t, t ∈ keepFd → t < 1000000) t ht))) rfl rfl rfl hl hs ebFd rfl rfl st hI hth0 h0 hthx hx (roundsFd_2 lz x mo t E c0 c1 c2 c3 c4 c5 c6 x0 x1 x2)
def nuEFd_3 (lz : List LB) (x mo : LB) (t E : Int) : List Value := [.int .i64 (E), .int .i64 ((wA lz (t + E))), .int .i64 ((fA lz (t + E))), St' (lnA lz (t + E)), St' (DA lz (t + E))]
def roEFd_3 (lz : List LB) (x mo : LB) (t E : Int) : List Value := []
noncomputable def EFd_3 (lz : List LB) (x mo : LB) (t E : Int) : Cx := cx (nuX (nuEFd_3 lz x mo t E) (rX (roEFd_3 lz x mo t E) (fun _ => .bool true))) (nuX_one (nuL_one (l := nuEFd_3 lz x mo t E) rfl)) 3 laidE laidE_stab
theorem roundsFd_3 (lz : List LB) (x mo : LB) (t E : Int) (c0 : 0 ≤ t) (c1 : E ≤ (x.length : Int) ∧ E ≤ nA lz - t) (c2 : (x.length : Int) ≤ E ∨ nA lz - t ≤ E) (c3 : ok3 lz) (c4 : lz.flatten.length ≤ 3000) (c5 : xP x lz mo t) (c6 : 1 ≤ x.length) (x0 : 1 ≤ t + E) (x1 : cA lz (t + E) = true) (x2 : ¬ (DA lz (t + E)).length = 0) (st : Nat × Int) (X : Nat → Value) (hI : InvFd lz x mo t E st) : RHFd lz x mo t E (EFd_3 lz x mo t E) (.exit 0) [(6, .x 0)] [(30, .b ⟨38, .l [.i .i64 (.ofNat 4000), .x 1, .sy 60, .b true, .x 2, .i .i64 (.ofNat 0), .sy 61], 0, 0, 0, false, false⟩), (60, .t 3 5), (61, .t 4 5)] st X := by
  obtain ⟨tag, n⟩ := st
  have hI0 := hI
  obtain ⟨i0, i1, i2, i3, i4, i5, i6, i7, i8, it⟩ := unIFd lz x mo t E tag n hI
  rcases (show tag = 0 ∨ tag = 1 ∨ tag = 2 ∨ tag = 3 ∨ tag = 4 from by omega) with rfl | rfl | rfl | rfl | rfl
  · skip
    have j0 := c0; have j1 := c1; have j2 := c2; have j3 := c3; have j4 := c4; have j5 := c5; have j6 := c6
    obtain ⟨y1, y2, y3, y4, y5, y6, y7, y8⟩ := any_ (l := lz) (i := t + n) j3 (by omega) (by omega)
    have hNl := nA_lo (l := lz)
    have hn0 : ([] : LB).length = 0 := rfl
    exact nxFd_p0 lz x mo t E c0 c1 c2 c3 c4 c5 c6 n X hI0
  · skip
    have j0 := c0; have j1 := c1; have j2 := c2; have j3 := c3; have j4 := c4; have j5 := c5; have j6 := c6
    obtain ⟨y1, y2, y3, y4, y5, y6, y7, y8⟩ := any_ (l := lz) (i := t + n) j3 (by omega) (by omega)
    have hNl := nA_lo (l := lz)
    have hn0 : ([] : LB).length = 0 := rfl
    by_cases h0 : n < (x.length : Int)
    · by_cases h1 : (wA lz (t + n)) = 4
      · exfalso; have hE : n = E := (by omega); have h5 := i5 (by omega); rw [hE] at h5; exact h5 x1
      · by_cases h2 : (wA lz (t + n)) = 1
        · by_cases h3 : (fA lz (t + n)) - (mA lz x t n) = 0
          · exact nxFd_p6 lz x mo t E c0 c1 c2 c3 c4 c5 c6 n X hI0 h0 h1 h2 h3
          · exact nxFd_p5 lz x mo t E c0 c1 c2 c3 c4 c5 c6 n X hI0 h0 h1 h2 h3
        · by_cases h3 : bt (ckS lz) (Int.toNat (t + n)) = 13
          · exact nxFd_p1 lz x mo t E c0 c1 c2 c3 c4 c5 c6 n X hI0 h0 h1 h2 h3
          · exact nxFd_p21 lz x mo t E c0 c1 c2 c3 c4 c5 c6 n X hI0 h0 h1 h2 h3
    · exfalso; have hE : n = E := (by omega); have h5 := i5 (by omega); rw [hE] at h5; exact h5 x1
  · skip
    have j0 := c0; have j1 := c1; have j2 := c2; have j3 := c3; have j4 := c4; have j5 := c5; have j6 := c6
    obtain ⟨y1, y2, y3, y4, y5, y6, y7, y8⟩ := any_ (l := lz) (i := t + n) j3 (by omega) (by omega)
    have hNl := nA_lo (l := lz)
    have hn0 : ([] : LB).length = 0 := rfl
    by_cases h0 : n < (x.length : Int)
    · by_cases h4 : (wA lz (t + n)) = 0
      · by_cases h8 : (hexN (lnA lz (t + n))) = 0
        · exact nxFd_p18 lz x mo t E c0 c1 c2 c3 c4 c5 c6 n X hI0 h0 h4 h8
        · exact nxFd_p3 lz x mo t E c0 c1 c2 c3 c4 c5 c6 n X hI0 h0 h4 h8
      · exact nxFd_p19 lz x mo t E c0 c1 c2 c3 c4 c5 c6 n X hI0 h0 h4
    · exfalso; have hE : n = E := (by omega); have h7 := i7 (by omega); rw [hE] at h7; exact x2 h7
  · skip
    have j0 := c0; have j1 := c1; have j2 := c2; have j3 := c3; have j4 := c4; have j5 := c5; have j6 := c6
    obtain ⟨y1, y2, y3, y4, y5, y6, y7, y8⟩ := any_ (l := lz) (i := t + n) j3 (by omega) (by omega)
    have hNl := nA_lo (l := lz)
    have hn0 : ([] : LB).length = 0 := rfl
    by_cases h0 : n < (x.length : Int)
    · by_cases h1 : (wA lz (t + n)) = 4
      · exfalso; have hE : n = E := (by omega); have h5 := i5 (by omega); rw [hE] at h5; exact h5 x1
      · by_cases h2 : (wA lz (t + n)) = 1
        · by_cases h3 : (fA lz (t + n)) - (mA lz x t n) = 0
          · exact nxFd_p8 lz x mo t E c0 c1 c2 c3 c4 c5 c6 n X hI0 h0 h1 h2 h3
          · exact nxFd_p7 lz x mo t E c0 c1 c2 c3 c4 c5 c6 n X hI0 h0 h1 h2 h3
        · by_cases h3 : bt (ckS lz) (Int.toNat (t + n)) = 13
          · exact nxFd_p10 lz x mo t E c0 c1 c2 c3 c4 c5 c6 n X hI0 h0 h1 h2 h3
          · exact nxFd_p13 lz x mo t E c0 c1 c2 c3 c4 c5 c6 n X hI0 h0 h1 h2 h3
    · exfalso; have hE : n = E := (by omega); have h5 := i5 (by omega); rw [hE] at h5; exact h5 x1
  · skip
    have j0 := c0; have j1 := c1; have j2 := c2; have j3 := c3; have j4 := c4; have j5 := c5; have j6 := c6
    obtain ⟨y1, y2, y3, y4, y5, y6, y7, y8⟩ := any_ (l := lz) (i := t + n) j3 (by omega) (by omega)
    have hNl := nA_lo (l := lz)
    have hn0 : ([] : LB).length = 0 := rfl
    by_cases h0 : n < (x.length : Int)
    · by_cases h4 : (wA lz (t + n)) = 0
      · by_cases h8 : (hexN (lnA lz (t + n))) = 0
        · exact nxFd_p15 lz x mo t E c0 c1 c2 c3 c4 c5 c6 n X hI0 h0 h4 h8
        · exact nxFd_p14 lz x mo t E c0 c1 c2 c3 c4 c5 c6 n X hI0 h0 h4 h8
      · by_cases h5 : (wA lz (t + n)) = 2
        · exact nxFd_p11 lz x mo t E c0 c1 c2 c3 c4 c5 c6 n X hI0 h0 h4 h5
        · exact nxFd_p16 lz x mo t E c0 c1 c2 c3 c4 c5 c6 n X hI0 h0 h4 h5
    · skip
      have j0 := c0; have j1 := c1; have j2 := c2; have j3 := c3; have j4 := c4; have j5 := c5; have j6 := c6
      obtain ⟨y1, y2, y3, y4, y5, y6, y7, y8⟩ := any_ (l := lz) (i := t + n) j3 (by omega) (by omega)
      have hNl := nA_lo (l := lz)
      have hn0 : ([] : LB).length = 0 := rfl
      have hE : n = E := (by omega)
      refine lvFd_4 lz x mo t E n (h := hyFd_p12) rfl ?_ (thXe (v := .int .i64 (n)) (u := .int .i64 (E)) rfl rfl (by rw [hE]) (thXe (v := .int .i64 ((wA lz (t + n)))) (u := .int .i64 ((wA lz (t + E)))) rfl rfl (by rw [hE]) (thXe (v := .int .i64 ((fA lz (t + n)))) (u := .int .i64 ((fA lz (t + E)))) rfl rfl (by rw [hE]) (thXe (v := St' (lnA lz (t + n))) (u := St' (lnA lz (t + E))) rfl rfl (by rw [hE]) (thXe (v := St' (DA lz (t + n))) (u := St' (DA lz (t + E))) rfl rfl (by rw [hE]) (thNil)))))) runFd_p12
      unfold hyFd_p12
      exact hc (kRn (denX rfl)) <|
       hc (kBytesB (bs := ([] : LB)) .nil (denX rfl)) <|
       hc (lnV rfl rfl (by omega)) <|
       hc (ltF rfl rfl (by omega)) <|
       hnil
theorem lfOkFd_3 {l : LF} {h : LH} (lz : List LB) (x mo : LB) (t E : Int) (c0 : 0 ≤ t) (c1 : E ≤ (x.length : Int) ∧ E ≤ nA lz - t) (c2 : (x.length : Int) ≤ E ∨ nA lz - t ≤ E) (c3 : ok3 lz) (c4 : lz.flatten.length ≤ 3000) (c5 : xP x lz mo t) (c6 : 1 ≤ x.length) (x0 : 1 ≤ t + E) (x1 : cA lz (t + E) = true) (x2 : ¬ (DA lz (t + E)).length = 0) (st : Nat × Int) (hI : InvFd lz x mo t E st) (hl : l.hp = some h) (hs : lfSame l h 58 keepFd (.exit 0) 4 60 120 = true) {th0 : LA} {sg0 : List (Nat × Nat)} (hth0 : ∀ X, ThOk (cx nu one 3 laidE laidE_stab) (DFd lz x mo t E st X) th0) (h0 : startOk l h 58 60 62 th0 sg0 (epFd st) (hpFd st) = true) {thx : LA} (hthx : ThOk (EFd_3 lz x mo t E) (cx nu one 3 laidE laidE_stab) thx) (hx : exitOk l h 58 60 120 thx [(6, .x 0)] [(30, .b ⟨38, .l [.i .i64 (.ofNat 4000), .x 1, .sy 60, .b true, .x 2, .i .i64 (.ofNat 0), .sy 61], 0, 0, 0, false, false⟩), (60, .t 3 5), (61, .t 4 5)] = true) : LfOk (cx nu one 3 laidE laidE_stab) bodyFd l :=
  lfOkX (E := EFd_3 lz x mo t E) (InvFd lz x mo t E) (muFd lz x mo t E) (DFd lz x mo t E) (fun _ _ => rfl) (fun _ _ => rfl) (fun _ _ => rfl) (fun st X t ht => nuX_keep.trans (rX_keep ((by decide : ∀ t, t ∈ keepFd → t < 1000000) t ht))) rfl rfl rfl hl hs ebFd rfl rfl st hI hth0 h0 hthx hx (roundsFd_3 lz x mo t E c0 c1 c2 c3 c4 c5 c6 x0 x1 x2)
theorem fdI {lz : List BL} {x mo : BL} {t E : Int} {k : Nat} (hx : x.length ≤ 1000) (hE : 0 ≤ E) (a8 : k = 0 → t = 0) (a9 : 1 ≤ k → 1 ≤ t) (a10 : k = 0 ∨ k = 1 ∨ k = 3 → ¬ cA lz t = true) (a11 : k = 2 ∨ k = 4 → cA lz t = true) (a12 : k ≤ 2 → (DA lz t).length = 0) (a13 : 3 ≤ k → ¬ (DA lz t).length = 0) (hk : k < 5) : InvFd lz x mo t E (k, 0) := by
  have hzt : t + (0 : Int) = t := by omega
  exact mkIFd lz x mo t E k 0 ⟨by omega, by omega, by omega, fun h => by have := a8 h; omega, fun h => by have := a9 h; omega, fun h => by rw [hzt]; exact a10 h, fun h => by rw [hzt]; exact a11 h, fun h => by rw [hzt]; exact a12 h, fun h => by rw [hzt]; exact a13 h, by omega⟩
end Go.Proofs.YtamjghigoipbeaaDoor.chunkBack
