/- A part of the proof: an interpreter of the model's own code on partly known states, and that what it answers is what the program answers. No condition of its own. -/
import Derived.Test.YtlfmfmegnenohaaDoorG1CutterCutsO5
set_option maxRecDepth 100000
set_option linter.unusedVariables false
set_option linter.unusedSimpArgs false
set_option maxHeartbeats 4000000
namespace Go.Proofs.YtlfmfmegnenohaaDoor.cutterCuts
open Go Go.AX Go.Proofs Go.Proofs.YtlfmfmegnenohaaDoor
variable {nu : Nat → Value} {one : ∀ i, i < 1000000 → (nu i).oneCell' = true} {E' : Cx} {x' : Ex} {e' : LA} {h' : LE}
noncomputable def fi4 : FI := (tabk.fn.get 4).getD default
theorem fi4_at : tabk.fn.get 4 = some fi4 := by kernel_rfl
theorem fi4_body : fi4.body = some (Tryd.f4.body.getD .skip) := by kernel_rfl
theorem fiB4 : fi4.body.isSome = true := by rw [fi4_body]; rfl
theorem cfA4 : (loopsOf (Tryd.f4.body.getD .skip)).all (fun b => !(keyEq (Go.AX.keyOf b) 8888888)) = true := by kernel_rfl
noncomputable def bodyFd0 : Code := loopNo (Tryd.f4.body.getD .skip) 1
theorem keyFd0 : oneKey (loopsOf (Tryd.f4.body.getD .skip)) 19 1 0 = true := by kernel_rfl
def keepFd0 : List Nat := [0, 1, 9, 11, 12]
def epFd0_0 : LA := [(2, .es), (7, .x 0), (10, .p 302 0), (13, .nils), (14, .x 1)]
def hpFd0_0 : LE := [(302, .b ⟨53, .l [.i .i64 (.ofNat 65535), .nils, .i .i64 (.ofNat 0), .b false], 0, 0, 0, false, false⟩)]
def nuFd0_0 (Sx s u : LB) (i nd : Int) : List Value := [St' s, .int .i64 (i), St' ([] : LB), .int .i64 ((s.length : Int)), St' (List.take (Int.toNat (1)) s), .int .u8 (bt (List.take (Int.toNat (1)) s) 0), St' ((cU (List.take (Int.toNat (1)) s)).2.1), .int .i64 (0), .int .i64 ((ndS ((cU (List.take (Int.toNat (1)) s)).2.1))), St' (List.drop (Int.toNat (1)) s), .int .i64 (i + 1), St' ([] : LB), .int .i64 ((s.length : Int))]
def roFd0_0 (Sx s u : LB) (i nd : Int) : List Value := [rwS ([] : List LB), rwS ([] : List LB)]
def epFd0_1 : LA := [(2, .es), (7, .x 0), (10, .p 302 0), (13, .nils), (14, .x 1)]
def hpFd0_1 : LE := [(302, .b ⟨53, .l [.i .i64 (.ofNat 65535), .sy 300, .x 2, .b false], 0, 0, 0, false, false⟩), (300, .t 3 5)]
def nuFd0_1 (Sx s u : LB) (i nd : Int) : List Value := [St' s, .int .i64 (i), .int .i64 (nd), St' ((cU u).2.1), St' ([] : LB), .int .i64 ((s.length : Int)), St' (List.take (Int.toNat (1)) s), St' ((cU u).2.1 ++ (List.take (Int.toNat (1)) s)), .int .i64 (((cU u).2.1.length : Int) + 1), St' (List.drop (Int.toNat (1)) s), .int .i64 (i + 1), St' ([] : LB), .int .i64 ((s.length : Int)), St' (List.take (Int.toNat (1)) s), St' ((cU u).2.1 ++ (List.take (Int.toNat (1)) s)), .int .i64 (((cU u).2.1.length : Int) + 1), St' ((cU ((cU u).2.1 ++ (List.take (Int.toNat (1)) s))).2.1), .int .i64 (nd), .int .i64 ((ndS ((cU ((cU u).2.1 ++ (List.take (Int.toNat (1)) s))).2.1))), .int .i64 (((cU ((cU u).2.1 ++ (List.take (Int.toNat (1)) s))).1.length : Int)), St' (List.drop (Int.toNat (1)) s), .int .i64 (i + 1), St' ([] : LB), .int .i64 ((s.length : Int)), St' (List.take (Int.toNat (1)) s), St' ((cU u).2.1 ++ (List.take (Int.toNat (1)) s)), .int .i64 (((cU u).2.1.length : Int) + 1), St' ((cU ((cU u).2.1 ++ (List.take (Int.toNat (1)) s))).2.1), .int .i64 (nd), .int .i64 ((ndS ((cU ((cU u).2.1 ++ (List.take (Int.toNat (1)) s))).2.1))), St' (List.drop (Int.toNat (1)) s), .int .i64 (i + 1), St' ([] : LB), .int .i64 ((s.length : Int))]
def roFd0_1 (Sx s u : LB) (i nd : Int) : List Value := [rwS ([] : List LB), rwS ([] : List LB), rwG reC ((cU ((cU u).2.1 ++ (List.take (Int.toNat (1)) s))).1), rwG reC ((cU ((cU u).2.1 ++ (List.take (Int.toNat (1)) s))).1), rwS ([] : List LB), rwS ([] : List LB)]
def epFd0_2 : LA := [(2, .es), (7, .x 0), (10, .p 302 0), (13, .sr 301), (14, .x 1)]
def hpFd0_2 : LE := [(302, .b ⟨53, .l [.i .i64 (.ofNat 65535), .sy 300, .x 2, .b false], 0, 0, 0, false, false⟩), (300, .t 3 5), (301, .r 2000000 26 4 false)]
def nuFd0_2 (Sx s u : LB) (i nd : Int) : List Value := [St' s, .int .i64 (i), .int .i64 (nd), St' ((cU u).2.1), St' ([] : LB), .int .i64 ((s.length : Int)), St' (List.take (Int.toNat (1)) s), St' ((cU u).2.1 ++ (List.take (Int.toNat (1)) s)), .int .i64 (((cU u).2.1.length : Int) + 1), St' ((cU ((cU u).2.1 ++ (List.take (Int.toNat (1)) s))).2.1), .int .i64 (nd), .int .i64 ((ndS ((cU ((cU u).2.1 ++ (List.take (Int.toNat (1)) s))).2.1))), St' (List.drop (Int.toNat (1)) s), .int .i64 (i + 1), St' ([] : LB), .int .i64 ((s.length : Int)), St' (List.take (Int.toNat (1)) s), St' ((cU u).2.1 ++ (List.take (Int.toNat (1)) s)), .int .i64 (((cU u).2.1.length : Int) + 1), St' (List.drop (Int.toNat (1)) s), .int .i64 (i + 1), St' ([] : LB), .int .i64 ((s.length : Int)), St' ([] : LB), .int .i64 ((s.length : Int)), St' (List.take (Int.toNat (1)) s), St' ((cU u).2.1 ++ (List.take (Int.toNat (1)) s)), .int .i64 (((cU u).2.1.length : Int) + 1), St' ((cU ((cU u).2.1 ++ (List.take (Int.toNat (1)) s))).2.1), .int .i64 (nd), .int .i64 ((ndS ((cU ((cU u).2.1 ++ (List.take (Int.toNat (1)) s))).2.1))), St' (List.drop (Int.toNat (1)) s), .int .i64 (i + 1)]
def roFd0_2 (Sx s u : LB) (i nd : Int) : List Value := [rwG reC ((cU u).1), rwS ([] : List LB), rwG reC ((cU u).1), rwS ([] : List LB), rwG reC ((cU u).1), rwS ([] : List LB), rwS ([] : List LB), rwG reC ((cU ((cU u).2.1 ++ (List.take (Int.toNat (1)) s))).1), rwG reC ((cU u).1 ++ (cU ((cU u).2.1 ++ (List.take (Int.toNat (1)) s))).1)]
def epFd0 (st : Nat × LB × LB × Int × Int) : LA := if st.1 = 0 then epFd0_0 else if st.1 = 1 then epFd0_1 else epFd0_2
def hpFd0 (st : Nat × LB × LB × Int × Int) : LE := if st.1 = 0 then hpFd0_0 else if st.1 = 1 then hpFd0_1 else hpFd0_2
def nuFd0 (Sx : LB) (st : Nat × LB × LB × Int × Int) : List Value := if st.1 = 0 then nuFd0_0 Sx (st.2.1) (st.2.2.1) (st.2.2.2.1) (st.2.2.2.2) else if st.1 = 1 then nuFd0_1 Sx (st.2.1) (st.2.2.1) (st.2.2.2.1) (st.2.2.2.2) else nuFd0_2 Sx (st.2.1) (st.2.2.1) (st.2.2.2.1) (st.2.2.2.2)
def roFd0 (Sx : LB) (st : Nat × LB × LB × Int × Int) : List Value := if st.1 = 0 then roFd0_0 Sx (st.2.1) (st.2.2.1) (st.2.2.2.1) (st.2.2.2.2) else if st.1 = 1 then roFd0_1 Sx (st.2.1) (st.2.2.1) (st.2.2.2.1) (st.2.2.2.2) else roFd0_2 Sx (st.2.1) (st.2.2.1) (st.2.2.2.1) (st.2.2.2.2)
theorem onFd0 (Sx : LB) (st : Nat × LB × LB × Int × Int) : ∀ j, (nuL (nuFd0 Sx st) j).oneCell' = true := by
  intro j
  unfold nuFd0
  by_cases g0 : st.1 = 0
  · rw [if_pos g0]; exact nuL_one (l := nuFd0_0 Sx (st.2.1) (st.2.2.1) (st.2.2.2.1) (st.2.2.2.2)) rfl j
  rw [if_neg g0]
  by_cases g1 : st.1 = 1
  · rw [if_pos g1]; exact nuL_one (l := nuFd0_1 Sx (st.2.1) (st.2.2.1) (st.2.2.2.1) (st.2.2.2.2)) rfl j
  rw [if_neg g1]
  exact nuL_one (l := nuFd0_2 Sx (st.2.1) (st.2.2.1) (st.2.2.2.1) (st.2.2.2.2)) rfl j
theorem ebFd0 (st : Nat × LB × LB × Int × Int) : (lfB (epFd0 st) && lfC keepFd0) = true := by
  unfold epFd0
  by_cases g0 : st.1 = 0
  · rw [if_pos g0]; rfl
  rw [if_neg g0]
  by_cases g1 : st.1 = 1
  · rw [if_pos g1]; rfl
  rw [if_neg g1]
  rfl
noncomputable def DFd0 (Sx : LB) (st : Nat × LB × LB × Int × Int) (X : Nat → Value) : Cx := cx (nuX (nuFd0 Sx st) (rX (roFd0 Sx st) X)) (nuX_one (onFd0 Sx st)) 1 laidE laidE_stab
def InvFd0 (Sx : LB) (st : Nat × LB × LB × Int × Int) : Prop := ((st.2.2.1) ++ (st.2.1) = Sx) ∧ (Sx.length ≤ 10000) ∧ (okS Sx) ∧ (0 ≤ (st.2.2.2.1)) ∧ ((st.2.2.2.1) ≤ ((st.2.2.1).length : Int)) ∧ (Nd 65535 (cU (st.2.2.1)).2.1 (st.2.2.2.2)) ∧ ((st.1) = 0 → (st.2.2.1) = []) ∧ ((st.1) = 1 → (cU (st.2.2.1)).1.length = 0) ∧ (¬ (st.1) = 0 → 1 ≤ (st.2.2.1).length) ∧ ((st.1) = 2 → ¬ (cU (st.2.2.1)).1.length = 0) ∧ ((st.1) < 3)
abbrev CjFd0 (Sx : LB) (tag : Nat) (s u : LB) (i nd : Int) : Prop := (u ++ s = Sx) ∧ (Sx.length ≤ 10000) ∧ (okS Sx) ∧ (0 ≤ i) ∧ (i ≤ (u.length : Int)) ∧ (Nd 65535 (cU u).2.1 nd) ∧ (tag = 0 → u = []) ∧ (tag = 1 → (cU u).1.length = 0) ∧ (¬ tag = 0 → 1 ≤ u.length) ∧ (tag = 2 → ¬ (cU u).1.length = 0) ∧ (tag < 3)
theorem mkIFd0 (Sx : LB) (tag : Nat) (s u : LB) (i nd : Int) (h : CjFd0 Sx tag s u i nd) : InvFd0 Sx (tag, s, u, i, nd) := h
theorem unIFd0 (Sx : LB) (tag : Nat) (s u : LB) (i nd : Int) (h : InvFd0 Sx (tag, s, u, i, nd)) : (u ++ s = Sx) ∧ (Sx.length ≤ 10000) ∧ (okS Sx) ∧ (0 ≤ i) ∧ (i ≤ (u.length : Int)) ∧ (Nd 65535 (cU u).2.1 nd) ∧ (tag = 0 → u = []) ∧ (tag = 1 → (cU u).1.length = 0) ∧ (¬ tag = 0 → 1 ≤ u.length) ∧ (tag = 2 → ¬ (cU u).1.length = 0) ∧ (tag < 3) := h
def muFd0 (Sx : LB) (st : Nat × LB × LB × Int × Int) : Nat := (st.2.1).length
abbrev RHFd0 (Sx : LB) (E' : Cx) (ex' : Ex) (epx' : LA) (hpx' : LE) (st : Nat × LB × LB × Int × Int) (X : Nat → Value) : Prop := RoundH E' bodyFd0 keepFd0 137 ex' 1 300 303 420 epFd0 hpFd0 epx' hpx' (InvFd0 Sx) (muFd0 Sx) (DFd0 Sx) st X
theorem sLFd0_0 (Sx s u : LB) (i nd : Int) {X : Nat → Value} {tb : Tab} {L : List LF} (y : Nat × LB × LB × Int × Int) {th : LA} {sg : List (Nat × Nat)} (hall : AllOk (cx (nuX (nuFd0_0 Sx s u i nd) (rX (roFd0_0 Sx s u i nd) X)) (nuX_one (nuL_one (l := nuFd0_0 Sx s u i nd) rfl)) 1 laidE laidE_stab) tb) (hlp : LpOk (cx (nuX (nuFd0_0 Sx s u i nd) (rX (roFd0_0 Sx s u i nd) X)) (nuX_one (nuL_one (l := nuFd0_0 Sx s u i nd) rfl)) 1 laidE laidE_stab) L bodyFd0) (hng : tb.ng = 1) (hy : InvFd0 Sx y) (lt : muFd0 Sx y < muFd0 Sx (0, s, u, i, nd)) (ht : ThOk (cx (nuX (nuFd0_0 Sx s u i nd) (rX (roFd0_0 Sx s u i nd) X)) (nuX_one (nuL_one (l := nuFd0_0 Sx s u i nd) rfl)) 1 laidE laidE_stab) (DFd0 Sx y X) th) (run : okRdH (code tb 5000 L bodyFd0 (envOf (headOf epFd0_0 keepFd0) 137) ⟨lhSet hpFd0_0 .leaf, 303, 0, 0⟩) .normal keepFd0 137 420 th sg 300 303 (epFd0 y) (hpFd0 y) = true) : RHFd0 Sx E' x' e' h' (0, s, u, i, nd) X :=
  RoundH.next (tb := tb) (L := L) (f := 5000) y hall hlp hng hy lt ht run
theorem lLFd0_0 (Sx s u : LB) (i nd : Int) {X : Nat → Value} {tb : Tab} {L : List LF} {th : LA} {sg : List (Nat × Nat)} (hne : exB x' .normal = false) (hall : AllOk (cx (nuX (nuFd0_0 Sx s u i nd) (rX (roFd0_0 Sx s u i nd) X)) (nuX_one (nuL_one (l := nuFd0_0 Sx s u i nd) rfl)) 1 laidE laidE_stab) tb) (hlp : LpOk (cx (nuX (nuFd0_0 Sx s u i nd) (rX (roFd0_0 Sx s u i nd) X)) (nuX_one (nuL_one (l := nuFd0_0 Sx s u i nd) rfl)) 1 laidE laidE_stab) L bodyFd0) (hng : tb.ng = 1) (ht : ThOk (cx (nuX (nuFd0_0 Sx s u i nd) (rX (roFd0_0 Sx s u i nd) X)) (nuX_one (nuL_one (l := nuFd0_0 Sx s u i nd) rfl)) 1 laidE laidE_stab) E' th) (run : okRdH (code tb 5000 L bodyFd0 (envOf (headOf epFd0_0 keepFd0) 137) ⟨lhSet hpFd0_0 .leaf, 303, 0, 0⟩) x' keepFd0 137 420 th sg 300 420 e' h' = true) : RHFd0 Sx E' x' e' h' (0, s, u, i, nd) X :=
  RoundH.leave (tb := tb) (L := L) (f := 5000) hall hlp hng hne ht run
noncomputable abbrev RNFd0_0 (h : LK) (x : Ex) (th : LA) (sg : List (Nat × Nat)) (m : Nat) (ep : LA) (hp : LE) : Bool := okRdH (code (tbl h) 5000 [] bodyFd0 (envOf (headOf epFd0_0 keepFd0) 137) ⟨lhSet hpFd0_0 .leaf, 303, 0, 0⟩) x keepFd0 137 420 th sg 300 m ep hp
theorem stFd0_0 (Sx s u : LB) (i nd : Int) {X : Nat → Value} {h : LK} (y : Nat × LB × LB × Int × Int) {th : LA} {sg : List (Nat × Nat)} (ho : ∀ a' r', (a', r') ∈ h → HOk (cx (nuX (nuFd0_0 Sx s u i nd) (rX (roFd0_0 Sx s u i nd) X)) (nuX_one (nuL_one (l := nuFd0_0 Sx s u i nd) rfl)) 1 laidE laidE_stab) a' r') (hy : InvFd0 Sx y) (lt : muFd0 Sx y < muFd0 Sx (0, s, u, i, nd)) (ht : ThOk (cx (nuX (nuFd0_0 Sx s u i nd) (rX (roFd0_0 Sx s u i nd) X)) (nuX_one (nuL_one (l := nuFd0_0 Sx s u i nd) rfl)) 1 laidE laidE_stab) (DFd0 Sx y X) th) (run : RNFd0_0 h .normal th sg 303 (epFd0 y) (hpFd0 y) = true) : RHFd0 Sx E' x' e' h' (0, s, u, i, nd) X :=
  RoundH.next (tb := tbl h) (L := []) (f := 5000) y ((tabkOk _ _).hyps ho) (LpOk.nil _) rfl hy lt ht run
theorem lvFd0_0 (Sx s u : LB) (i nd : Int) {X : Nat → Value} {h : LK} {th : LA} {sg : List (Nat × Nat)} (hne : exB x' .normal = false) (ho : ∀ a' r', (a', r') ∈ h → HOk (cx (nuX (nuFd0_0 Sx s u i nd) (rX (roFd0_0 Sx s u i nd) X)) (nuX_one (nuL_one (l := nuFd0_0 Sx s u i nd) rfl)) 1 laidE laidE_stab) a' r') (ht : ThOk (cx (nuX (nuFd0_0 Sx s u i nd) (rX (roFd0_0 Sx s u i nd) X)) (nuX_one (nuL_one (l := nuFd0_0 Sx s u i nd) rfl)) 1 laidE laidE_stab) E' th) (run : RNFd0_0 h x' th sg 420 e' h' = true) : RHFd0 Sx E' x' e' h' (0, s, u, i, nd) X :=
  RoundH.leave (tb := tbl h) (L := []) (f := 5000) ((tabkOk _ _).hyps ho) (LpOk.nil _) rfl hne ht run
theorem sLFd0_1 (Sx s u : LB) (i nd : Int) {X : Nat → Value} {tb : Tab} {L : List LF} (y : Nat × LB × LB × Int × Int) {th : LA} {sg : List (Nat × Nat)} (hall : AllOk (cx (nuX (nuFd0_1 Sx s u i nd) (rX (roFd0_1 Sx s u i nd) X)) (nuX_one (nuL_one (l := nuFd0_1 Sx s u i nd) rfl)) 1 laidE laidE_stab) tb) (hlp : LpOk (cx (nuX (nuFd0_1 Sx s u i nd) (rX (roFd0_1 Sx s u i nd) X)) (nuX_one (nuL_one (l := nuFd0_1 Sx s u i nd) rfl)) 1 laidE laidE_stab) L bodyFd0) (hng : tb.ng = 1) (hy : InvFd0 Sx y) (lt : muFd0 Sx y < muFd0 Sx (1, s, u, i, nd)) (ht : ThOk (cx (nuX (nuFd0_1 Sx s u i nd) (rX (roFd0_1 Sx s u i nd) X)) (nuX_one (nuL_one (l := nuFd0_1 Sx s u i nd) rfl)) 1 laidE laidE_stab) (DFd0 Sx y X) th) (run : okRdH (code tb 5000 L bodyFd0 (envOf (headOf epFd0_1 keepFd0) 137) ⟨lhSet hpFd0_1 .leaf, 303, 0, 0⟩) .normal keepFd0 137 420 th sg 300 303 (epFd0 y) (hpFd0 y) = true) : RHFd0 Sx E' x' e' h' (1, s, u, i, nd) X :=
  RoundH.next (tb := tb) (L := L) (f := 5000) y hall hlp hng hy lt ht run
theorem lLFd0_1 (Sx s u : LB) (i nd : Int) {X : Nat → Value} {tb : Tab} {L : List LF} {th : LA} {sg : List (Nat × Nat)} (hne : exB x' .normal = false) (hall : AllOk (cx (nuX (nuFd0_1 Sx s u i nd) (rX (roFd0_1 Sx s u i nd) X)) (nuX_one (nuL_one (l := nuFd0_1 Sx s u i nd) rfl)) 1 laidE laidE_stab) tb) (hlp : LpOk (cx (nuX (nuFd0_1 Sx s u i nd) (rX (roFd0_1 Sx s u i nd) X)) (nuX_one (nuL_one (l := nuFd0_1 Sx s u i nd) rfl)) 1 laidE laidE_stab) L bodyFd0) (hng : tb.ng = 1) (ht : ThOk (cx (nuX (nuFd0_1 Sx s u i nd) (rX (roFd0_1 Sx s u i nd) X)) (nuX_one (nuL_one (l := nuFd0_1 Sx s u i nd) rfl)) 1 laidE laidE_stab) E' th) (run : okRdH (code tb 5000 L bodyFd0 (envOf (headOf epFd0_1 keepFd0) 137) ⟨lhSet hpFd0_1 .leaf, 303, 0, 0⟩) x' keepFd0 137 420 th sg 300 420 e' h' = true) : RHFd0 Sx E' x' e' h' (1, s, u, i, nd) X :=
  RoundH.leave (tb := tb) (L := L) (f := 5000) hall hlp hng hne ht run
noncomputable abbrev RNFd0_1 (h : LK) (x : Ex) (th : LA) (sg : List (Nat × Nat)) (m : Nat) (ep : LA) (hp : LE) : Bool := okRdH (code (tbl h) 5000 [] bodyFd0 (envOf (headOf epFd0_1 keepFd0) 137) ⟨lhSet hpFd0_1 .leaf, 303, 0, 0⟩) x keepFd0 137 420 th sg 300 m ep hp
theorem stFd0_1 (Sx s u : LB) (i nd : Int) {X : Nat → Value} {h : LK} (y : Nat × LB × LB × Int × Int) {th : LA} {sg : List (Nat × Nat)} (ho : ∀ a' r', (a', r') ∈ h → HOk (cx (nuX (nuFd0_1 Sx s u i nd) (rX (roFd0_1 Sx s u i nd) X)) (nuX_one (nuL_one (l := nuFd0_1 Sx s u i nd) rfl)) 1 laidE laidE_stab) a' r') (hy : InvFd0 Sx y) (lt : muFd0 Sx y < muFd0 Sx (1, s, u, i, nd)) (ht : ThOk (cx (nuX (nuFd0_1 Sx s u i nd) (rX (roFd0_1 Sx s u i nd) X)) (nuX_one (nuL_one (l := nuFd0_1 Sx s u i nd) rfl)) 1 laidE laidE_stab) (DFd0 Sx y X) th) (run : RNFd0_1 h .normal th sg 303 (epFd0 y) (hpFd0 y) = true) : RHFd0 Sx E' x' e' h' (1, s, u, i, nd) X :=
  RoundH.next (tb := tbl h) (L := []) (f := 5000) y ((tabkOk _ _).hyps ho) (LpOk.nil _) rfl hy lt ht run
theorem lvFd0_1 (Sx s u : LB) (i nd : Int) {X : Nat → Value} {h : LK} {th : LA} {sg : List (Nat × Nat)} (hne : exB x' .normal = false) (ho : ∀ a' r', (a', r') ∈ h → HOk (cx (nuX (nuFd0_1 Sx s u i nd) (rX (roFd0_1 Sx s u i nd) X)) (nuX_one (nuL_one (l := nuFd0_1 Sx s u i nd) rfl)) 1 laidE laidE_stab) a' r') (ht : ThOk (cx (nuX (nuFd0_1 Sx s u i nd) (rX (roFd0_1 Sx s u i nd) X)) (nuX_one (nuL_one (l := nuFd0_1 Sx s u i nd) rfl)) 1 laidE laidE_stab) E' th) (run : RNFd0_1 h x' th sg 420 e' h' = true) : RHFd0 Sx E' x' e' h' (1, s, u, i, nd) X :=
  RoundH.leave (tb := tbl h) (L := []) (f := 5000) ((tabkOk _ _).hyps ho) (LpOk.nil _) rfl hne ht run
theorem sLFd0_2 (Sx s u : LB) (i nd : Int) {X : Nat → Value} {tb : Tab} {L : List LF} (y : Nat × LB × LB × Int × Int) {th : LA} {sg : List (Nat × Nat)} (hall : AllOk (cx (nuX (nuFd0_2 Sx s u i nd) (rX (roFd0_2 Sx s u i nd) X)) (nuX_one (nuL_one (l := nuFd0_2 Sx s u i nd) rfl)) 1 laidE laidE_stab) tb) (hlp : LpOk (cx (nuX (nuFd0_2 Sx s u i nd) (rX (roFd0_2 Sx s u i nd) X)) (nuX_one (nuL_one (l := nuFd0_2 Sx s u i nd) rfl)) 1 laidE laidE_stab) L bodyFd0) (hng : tb.ng = 1) (hy : InvFd0 Sx y) (lt : muFd0 Sx y < muFd0 Sx (2, s, u, i, nd)) (ht : ThOk (cx (nuX (nuFd0_2 Sx s u i nd) (rX (roFd0_2 Sx s u i nd) X)) (nuX_one (nuL_one (l := nuFd0_2 Sx s u i nd) rfl)) 1 laidE laidE_stab) (DFd0 Sx y X) th) (run : okRdH (code tb 5000 L bodyFd0 (envOf (headOf epFd0_2 keepFd0) 137) ⟨lhSet hpFd0_2 .leaf, 303, 0, 0⟩) .normal keepFd0 137 420 th sg 300 303 (epFd0 y) (hpFd0 y) = true) : RHFd0 Sx E' x' e' h' (2, s, u, i, nd) X :=
  RoundH.next (tb := tb) (L := L) (f := 5000) y hall hlp hng hy lt ht run
theorem lLFd0_2 (Sx s u : LB) (i nd : Int) {X : Nat → Value} {tb : Tab} {L : List LF} {th : LA} {sg : List (Nat × Nat)} (hne : exB x' .normal = false) (hall : AllOk (cx (nuX (nuFd0_2 Sx s u i nd) (rX (roFd0_2 Sx s u i nd) X)) (nuX_one (nuL_one (l := nuFd0_2 Sx s u i nd) rfl)) 1 laidE laidE_stab) tb) (hlp : LpOk (cx (nuX (nuFd0_2 Sx s u i nd) (rX (roFd0_2 Sx s u i nd) X)) (nuX_one (nuL_one (l := nuFd0_2 Sx s u i nd) rfl)) 1 laidE laidE_stab) L bodyFd0) (hng : tb.ng = 1) (ht : ThOk (cx (nuX (nuFd0_2 Sx s u i nd) (rX (roFd0_2 Sx s u i nd) X)) (nuX_one (nuL_one (l := nuFd0_2 Sx s u i nd) rfl)) 1 laidE laidE_stab) E' th) (run : okRdH (code tb 5000 L bodyFd0 (envOf (headOf epFd0_2 keepFd0) 137) ⟨lhSet hpFd0_2 .leaf, 303, 0, 0⟩) x' keepFd0 137 420 th sg 300 420 e' h' = true) : RHFd0 Sx E' x' e' h' (2, s, u, i, nd) X :=
  RoundH.leave (tb := tb) (L := L) (f := 5000) hall hlp hng hne ht run
noncomputable abbrev RNFd0_2 (h : LK) (x : Ex) (th : LA) (sg : List (Nat × Nat)) (m : Nat) (ep : LA) (hp : LE) : Bool := okRdH (code (tbl h) 5000 [] bodyFd0 (envOf (headOf epFd0_2 keepFd0) 137) ⟨lhSet hpFd0_2 .leaf, 303, 0, 0⟩) x keepFd0 137 420 th sg 300 m ep hp
theorem stFd0_2 (Sx s u : LB) (i nd : Int) {X : Nat → Value} {h : LK} (y : Nat × LB × LB × Int × Int) {th : LA} {sg : List (Nat × Nat)} (ho : ∀ a' r', (a', r') ∈ h → HOk (cx (nuX (nuFd0_2 Sx s u i nd) (rX (roFd0_2 Sx s u i nd) X)) (nuX_one (nuL_one (l := nuFd0_2 Sx s u i nd) rfl)) 1 laidE laidE_stab) a' r') (hy : InvFd0 Sx y) (lt : muFd0 Sx y < muFd0 Sx (2, s, u, i, nd)) (ht : ThOk (cx (nuX (nuFd0_2 Sx s u i nd) (rX (roFd0_2 Sx s u i nd) X)) (nuX_one (nuL_one (l := nuFd0_2 Sx s u i nd) rfl)) 1 laidE laidE_stab) (DFd0 Sx y X) th) (run : RNFd0_2 h .normal th sg 303 (epFd0 y) (hpFd0 y) = true) : RHFd0 Sx E' x' e' h' (2, s, u, i, nd) X :=
  RoundH.next (tb := tbl h) (L := []) (f := 5000) y ((tabkOk _ _).hyps ho) (LpOk.nil _) rfl hy lt ht run
theorem lvFd0_2 (Sx s u : LB) (i nd : Int) {X : Nat → Value} {h : LK} {th : LA} {sg : List (Nat × Nat)} (hne : exB x' .normal = false) (ho : ∀ a' r', (a', r') ∈ h → HOk (cx (nuX (nuFd0_2 Sx s u i nd) (rX (roFd0_2 Sx s u i nd) X)) (nuX_one (nuL_one (l := nuFd0_2 Sx s u i nd) rfl)) 1 laidE laidE_stab) a' r') (ht : ThOk (cx (nuX (nuFd0_2 Sx s u i nd) (rX (roFd0_2 Sx s u i nd) X)) (nuX_one (nuL_one (l := nuFd0_2 Sx s u i nd) rfl)) 1 laidE laidE_stab) E' th) (run : RNFd0_2 h x' th sg 420 e' h' = true) : RHFd0 Sx E' x' e' h' (2, s, u, i, nd) X :=
  RoundH.leave (tb := tbl h) (L := []) (f := 5000) ((tabkOk _ _).hyps ho) (LpOk.nil _) rfl hne ht run
def hyFd0_p0 : LK := [(.rn, .x 2000000), (.bytes [], .x 2), (.len (.x 0), .x 3), (.bin .gtr (.x 3) (.i .i64 (.ofNat 0)), .b true), (.sub (.x 0) none (some (.i .i64 (.ofNat 1))), .x 4), (.byt (.x 4) (.i .i64 (.ofNat 0)), .x 5), (.fit (.x 4), .b true), (.len (.x 4), .i .i64 (.ofNat 1)), (.fit (.x 6), .b true), (.call 20 [.x 6], .x 8), (.sub (.x 0) (some (.i .i64 (.ofNat 1))) none, .x 9), (.bin .add (.x 1) (.i .i64 (.ofNat 1)), .x 10)]
def lh9 : LH := ⟨1, 320, 380, [(302, .b ⟨53, .l [.i .i64 (.ofNat 65535), .sy 303, .i .i64 (.ofNat 0), .b false], 0, 0, 0, false, false⟩), (303, .t 4 5)], [(302, .b ⟨53, .l [.i .i64 (.ofNat 65535), .sy 321, .x 7, .b false], 0, 0, 0, false, false⟩)]⟩
def lf9 : LF := ⟨2, 38, [(0, .p 302 0), (1, .x 4), (7, .nils)], [], .ret, [(4, .nils), (5, .x 6), (6, .ni)], some lh9⟩
noncomputable def tbFd0_p0 : Tab := addLps ((tbl hyFd0_p0)) 19 fi19 [lf9]
def LFd0_p0 : List LF := []
theorem runFd0_p0 : okRdH (code tbFd0_p0 5000 LFd0_p0 bodyFd0 (envOf (headOf epFd0_0 keepFd0) 137) ⟨lhSet hpFd0_0 .leaf, 303, 0, 0⟩) .normal keepFd0 137 420 [(0, .x 9), (1, .x 10), (2, .x 8), (3, .x 6)] [(302, 302), (300, 380)] 300 303 epFd0_1 hpFd0_1 = true := by kernel_rfl
theorem nxFd0_p0 (Sx : LB) (s u : LB) (i nd : Int) (X : Nat → Value) (hI : InvFd0 Sx (0, s, u, i, nd)) (h0 : 0 < (s.length : Int)) : RHFd0 Sx E' x' e' h' (0, s, u, i, nd) X := by
  obtain ⟨i0, i1, i2, i3, i4, i5, i6, i7, i8, i9, it⟩ := unIFd0 Sx 0 s u i nd hI
  have := lenTake (l := s) (Q := 1) (by omega) (by omega)
  have := bt_lo (List.take (Int.toNat (1)) s) 0; have := bt_hi (List.take (Int.toNat (1)) s) 0
  obtain ⟨hr1, hcw, hr3, hr4, hr5, hr7, hr10, hr9⟩ := fR0 (k := 1) i0 (i6 rfl) i2
  have := lenDrop (l := s) (P := 1) (by omega) (by omega)
  have ho : ∀ a' r', (a', r') ∈ hyFd0_p0 → HOk (cx (nuX (nuFd0_0 Sx s u i nd) (rX (roFd0_0 Sx s u i nd) X)) (nuX_one (nuL_one (l := nuFd0_0 Sx s u i nd) rfl)) 1 laidE laidE_stab) a' r' := by
    unfold hyFd0_p0
    exact hc (kRn (denX rfl)) <|
     hc (kBytesB (bs := ([] : LB)) .nil (denX rfl)) <|
     hc (lnV rfl rfl (by omega)) <|
     hc (gtcT rfl (by omega)) <|
     hc (tkC rfl rfl (by omega)) <|
     hc (kByt (i := 0) (isX rfl) (isZ (m := 0) rfl) (denX rfl) rfl (by first | omega | (simp <;> omega)) rfl) <|
     hc (kFit (isX rfl) (by first | omega | (simp <;> omega))) <|
     hc (kLenE (isX rfl) (denZ (m := 1) rfl) (by omega)) <|
     hc (kFit (isX rfl) (by first | omega | (simp <;> omega))) <|
     hc (hokNds (isX rfl) (denX rfl) (by omega)) <|
     hc (drC rfl rfl (by omega)) <|
     hc (adC rfl rfl (by omega)) <|
     hnil
  exact sLFd0_0 Sx s u i nd (tb := tbFd0_p0) (L := LFd0_p0) (1, (List.drop (Int.toNat (1)) s), (u ++ List.take (Int.toNat (1)) s), i + 1, (ndS ((cU (List.take (Int.toNat (1)) s)).2.1))) (AllOk.lp1 ((tabkOk _ _).hyps ho) (by omega) fi19_at fi19_body (lfCons (lpKnown rfl ⟨0, keyCuFd0, lfOkCuFd0_0 (l := lf9) (h := lh9) ((cU (List.take (Int.toNat (1)) s)).1) ((cU (List.take (Int.toNat (1)) s)).2.1) ((cU (List.take (Int.toNat (1)) s)).2.2) 0 hcw (by omega) (0, (List.take (Int.toNat (1)) s), []) (mkICuFd0 ((cU (List.take (Int.toNat (1)) s)).1) ((cU (List.take (Int.toNat (1)) s)).2.1) ((cU (List.take (Int.toNat (1)) s)).2.2) 0 0 (List.take (Int.toNat (1)) s) [] ⟨by omega, rfl, rfl, rfl, by simp only [List.length_nil]; omega, fun _ => rfl, fun h => by omega, by omega⟩) rfl (by kernel_rfl) (th0 := [(0, .x 4), (1, .i .i64 (.ofNat 0))]) (sg0 := [(321, 303)]) (fun X => thXv (v := St' (List.take (Int.toNat (1)) s)) rfl rfl (thCons (show Is _ (.i .i64 (.ofNat 0)) (.int .i64 (0)) from isTo (v := .int .i64 0) (isI _ _) (by first | rfl | (congr 1; omega))) (thNil))) (by kernel_rfl) (thx := [(6, .x 0), (7, .x 1)]) (thXv (v := St' ((cU (List.take (Int.toNat (1)) s)).2.1)) rfl rfl (thXv (v := .int .i64 (0)) rfl rfl (thNil))) (by kernel_rfl)⟩) lfNil)) (lpOk_one lfNil) rfl (mkIFd0 Sx 1 (List.drop (Int.toNat (1)) s) (u ++ List.take (Int.toNat (1)) s) (i + 1) (ndS ((cU (List.take (Int.toNat (1)) s)).2.1)) ⟨hr1, i1, i2, by omega, by rw [List.length_append]; omega, hr5, fun h => by omega, fun _ => by rw [hr3]; omega, fun _ => by rw [List.length_append]; omega, fun h => by omega, by omega⟩) (by show (List.drop (Int.toNat (1)) s).length < s.length; omega) (thXv (v := St' (List.drop (Int.toNat (1)) s)) rfl rfl (thXi (b := ((i + 1))) rfl rfl (by omega) (thXv (v := .int .i64 ((ndS ((cU (List.take (Int.toNat (1)) s)).2.1)))) rfl rfl (thXe (v := St' ((cU (List.take (Int.toNat (1)) s)).2.1)) (u := St' ((cU (u ++ List.take (Int.toNat (1)) s)).2.1)) rfl rfl (congrArg (fun l => St' l) hr4.symm) (thNil))))) runFd0_p0
def hyFd0_p1 : LK := [(.rn, .x 2000001), (.bytes [], .x 11), (.len (.x 0), .x 12), (.bin .gtr (.x 12) (.i .i64 (.ofNat 0)), .b false)]
theorem runFd0_p1 : RNFd0_0 hyFd0_p1 (.exit 2) [] [(302, 302)] 420 [(10, .p 302 0), (13, .nils)] [(302, .b ⟨53, .l [.i .i64 (.ofNat 65535), .nils, .und, .b false], 0, 0, 0, false, false⟩)] = true := by kernel_rfl
def hyFd0_p2 : LK := [(.rn, .x 2000000), (.bytes [], .x 4), (.len (.x 0), .x 5), (.bin .gtr (.x 5) (.i .i64 (.ofNat 0)), .b true), (.sub (.x 0) none (some (.i .i64 (.ofNat 1))), .x 6), (.bin .add (.x 3) (.x 6), .x 7), (.fit (.x 7), .b true), (.len (.x 7), .x 8), (.bin .lss (.x 8) (.x 2), .b true), (.sub (.x 0) (some (.i .i64 (.ofNat 1))) none, .x 9), (.bin .add (.x 1) (.i .i64 (.ofNat 1)), .x 10)]
theorem runFd0_p2 : RNFd0_1 hyFd0_p2 .normal [(0, .x 9), (1, .x 10), (2, .x 2), (3, .x 7)] [(302, 302), (300, 303)] 303 epFd0_1 hpFd0_1 = true := by kernel_rfl
theorem nxFd0_p2 (Sx : LB) (s u : LB) (i nd : Int) (X : Nat → Value) (hI : InvFd0 Sx (1, s, u, i, nd)) (h0 : 0 < (s.length : Int)) (h1 : ((cU u).2.1.length : Int) + 1 < nd) : RHFd0 Sx E' x' e' h' (1, s, u, i, nd) X := by
  obtain ⟨i0, i1, i2, i3, i4, i5, i6, i7, i8, i9, it⟩ := unIFd0 Sx 1 s u i nd hI
  have := lenTake (l := s) (Q := 1) (by omega) (by omega)
  have := lenDrop (l := s) (P := 1) (by omega) (by omega)
  obtain ⟨hr1, hcw, hr3, hr4, hr5, hr6, hr7, hr9, hr8⟩ := fR (k := 1) i0 i2 i5 (by omega) (by omega)
  rw [List.length_append] at hr9
  have hwl : (((cU u).2.1 ++ List.take (Int.toNat (1)) s)).length ≤ 10000 := by rw [List.length_append]; omega
  obtain ⟨hx1, hx2, hx3⟩ := hr8 (by rw [List.length_append, Int.natCast_add]; omega)
  refine stFd0_1 Sx s u i nd (h := hyFd0_p2) (1, (List.drop (Int.toNat (1)) s), (u ++ List.take (Int.toNat (1)) s), i + 1, nd) ?_ (mkIFd0 Sx 1 (List.drop (Int.toNat (1)) s) (u ++ List.take (Int.toNat (1)) s) (i + 1) nd ⟨hr1, i1, i2, by omega, by rw [List.length_append]; omega, hx3, fun h => by omega, fun _ => by have h7 := i7 rfl; rw [hx1]; omega, fun _ => by rw [List.length_append]; omega, fun h => by omega, by omega⟩) (by show (List.drop (Int.toNat (1)) s).length < s.length; omega) (thXv (v := St' (List.drop (Int.toNat (1)) s)) rfl rfl (thXi (b := ((i + 1))) rfl rfl (by omega) (thXv (v := .int .i64 (nd)) rfl rfl (thXe (v := St' ((cU u).2.1 ++ (List.take (Int.toNat (1)) s))) (u := St' ((cU (u ++ List.take (Int.toNat (1)) s)).2.1)) rfl rfl (congrArg (fun l => St' l) hx2.symm) (thNil))))) runFd0_p2
  unfold hyFd0_p2
  exact hc (kRn (denX rfl)) <|
   hc (kBytesB (bs := ([] : LB)) .nil (denX rfl)) <|
   hc (lnV rfl rfl (by omega)) <|
   hc (gtcT rfl (by omega)) <|
   hc (tkC rfl rfl (by omega)) <|
   hc (kCat (isX rfl) (isX rfl) (denX rfl) (by first | rfl | (simp; done)) (by omega)) <|
   hc (kFit (isX rfl) (by first | omega | (simp <;> omega))) <|
   hc (lnV rfl rfl (by first | omega | (simp <;> omega))) <|
   hc (ltT rfl rfl (by omega)) <|
   hc (drC rfl rfl (by omega)) <|
   hc (adC rfl rfl (by omega)) <|
   hnil
def hyFd0_p3 : LK := [(.rn, .x 2000001), (.bytes [], .x 11), (.len (.x 0), .x 12), (.bin .gtr (.x 12) (.i .i64 (.ofNat 0)), .b true), (.sub (.x 0) none (some (.i .i64 (.ofNat 1))), .x 13), (.bin .add (.x 3) (.x 13), .x 14), (.fit (.x 14), .b true), (.len (.x 14), .x 15), (.bin .lss (.x 15) (.x 2), .b false), (.fit (.x 16), .b true), (.call 20 [.x 16], .x 18), (.rl (.x 2000002) 4, .x 19), (.bin .gtr (.x 19) (.i .i64 (.ofNat 0)), .b true), (.rr (.x 2000001) (.x 2000002), .x 2000003), (.rf (.x 2000003) 4 40, .b true), (.sub (.x 0) (some (.i .i64 (.ofNat 1))) none, .x 20), (.bin .add (.x 1) (.i .i64 (.ofNat 1)), .x 21)]
def lh12 : LH := ⟨1, 320, 380, [(302, .b ⟨53, .l [.i .i64 (.ofNat 65535), .sy 303, .x 2, .b false], 0, 0, 0, false, false⟩), (303, .t 14 5)], [(302, .b ⟨53, .l [.i .i64 (.ofNat 65535), .sy 321, .x 17, .b false], 0, 0, 0, false, false⟩), (320, .r 2000002 26 4 false)]⟩
def lf12 : LF := ⟨2, 38, [(0, .p 302 0), (1, .x 14), (7, .nils)], [], .ret, [(4, .sr 320), (5, .x 16), (6, .ni)], some lh12⟩
noncomputable def tbFd0_p3 : Tab := addLps ((tbl hyFd0_p3)) 19 fi19 [lf12]
def LFd0_p3 : List LF := []
theorem runFd0_p3 : okRdH (code tbFd0_p3 5000 LFd0_p3 bodyFd0 (envOf (headOf epFd0_1 keepFd0) 137) ⟨lhSet hpFd0_1 .leaf, 303, 0, 0⟩) .normal keepFd0 137 420 [(0, .x 20), (1, .x 21), (2, .x 18), (3, .x 16), (2000000, .x 2000003)] [(302, 302), (301, 381), (300, 380)] 300 303 epFd0_2 hpFd0_2 = true := by kernel_rfl
theorem nxFd0_p3 (Sx : LB) (s u : LB) (i nd : Int) (X : Nat → Value) (hI : InvFd0 Sx (1, s, u, i, nd)) (h0 : 0 < (s.length : Int)) (h1 : ¬ (((cU u).2.1.length : Int) + 1 < nd)) (h2 : ¬ ((cU ((cU u).2.1 ++ (List.take (Int.toNat (1)) s))).1.length = 0)) : RHFd0 Sx E' x' e' h' (1, s, u, i, nd) X := by
  obtain ⟨i0, i1, i2, i3, i4, i5, i6, i7, i8, i9, it⟩ := unIFd0 Sx 1 s u i nd hI
  have := lenTake (l := s) (Q := 1) (by omega) (by omega)
  obtain ⟨hr1, hcw, hr3, hr4, hr5, hr6, hr7, hr9, hr8⟩ := fR (k := 1) i0 i2 i5 (by omega) (by omega)
  rw [List.length_append] at hr9
  have hwl : (((cU u).2.1 ++ List.take (Int.toNat (1)) s)).length ≤ 10000 := by rw [List.length_append]; omega
  have := lenDrop (l := s) (P := 1) (by omega) (by omega)
  have ho : ∀ a' r', (a', r') ∈ hyFd0_p3 → HOk (cx (nuX (nuFd0_1 Sx s u i nd) (rX (roFd0_1 Sx s u i nd) X)) (nuX_one (nuL_one (l := nuFd0_1 Sx s u i nd) rfl)) 1 laidE laidE_stab) a' r' := by
    unfold hyFd0_p3
    exact hc (kRn (denX rfl)) <|
     hc (kBytesB (bs := ([] : LB)) .nil (denX rfl)) <|
     hc (lnV rfl rfl (by omega)) <|
     hc (gtcT rfl (by omega)) <|
     hc (tkC rfl rfl (by omega)) <|
     hc (kCat (isX rfl) (isX rfl) (denX rfl) (by first | rfl | (simp; done)) (by omega)) <|
     hc (kFit (isX rfl) (by first | omega | (simp <;> omega))) <|
     hc (lnV rfl rfl (by first | omega | (simp <;> omega))) <|
     hc (ltF rfl rfl (by omega)) <|
     hc (kFit (isX rfl) (by first | omega | (simp <;> omega))) <|
     hc (hokNds (isX rfl) (denX rfl) (by omega)) <|
     hc (kRlG reC_len (isX rfl) (denX rfl) (by first | omega | (simp <;> omega))) <|
     hc (gtcT rfl (by omega)) <|
     hc (kRr (f := reC) (l := []) (m := (cU ((cU u).2.1 ++ (List.take (Int.toNat (1)) s))).1) (isX rfl) (isX rfl) (denX rfl)) <|
     hc (kRfG reC_len (isX rfl) (by first | (rw [List.length_append]; omega) | (first | omega | (simp <;> omega))) (by first | (rw [List.length_append]; omega) | (first | omega | (simp <;> omega)))) <|
     hc (drC rfl rfl (by omega)) <|
     hc (adC rfl rfl (by omega)) <|
     hnil
  exact sLFd0_1 Sx s u i nd (tb := tbFd0_p3) (L := LFd0_p3) (2, (List.drop (Int.toNat (1)) s), (u ++ List.take (Int.toNat (1)) s), i + 1, (ndS ((cU ((cU u).2.1 ++ (List.take (Int.toNat (1)) s))).2.1))) (AllOk.lp1 ((tabkOk _ _).hyps ho) (by omega) fi19_at fi19_body (lfCons (lpKnown rfl ⟨0, keyCuFd0, lfOkCuFd0_1 (l := lf12) (h := lh12) ((cU ((cU u).2.1 ++ (List.take (Int.toNat (1)) s))).1) ((cU ((cU u).2.1 ++ (List.take (Int.toNat (1)) s))).2.1) ((cU ((cU u).2.1 ++ (List.take (Int.toNat (1)) s))).2.2) nd hcw (by omega) (0, ((cU u).2.1 ++ (List.take (Int.toNat (1)) s)), []) (mkICuFd0 ((cU ((cU u).2.1 ++ (List.take (Int.toNat (1)) s))).1) ((cU ((cU u).2.1 ++ (List.take (Int.toNat (1)) s))).2.1) ((cU ((cU u).2.1 ++ (List.take (Int.toNat (1)) s))).2.2) nd 0 ((cU u).2.1 ++ (List.take (Int.toNat (1)) s)) [] ⟨by omega, rfl, rfl, rfl, by simp only [List.length_nil]; omega, fun _ => rfl, fun h => by omega, by omega⟩) rfl (by kernel_rfl) (th0 := [(0, .x 14), (1, .x 2)]) (sg0 := [(321, 303)]) (fun X => thXv (v := St' ((cU u).2.1 ++ (List.take (Int.toNat (1)) s))) rfl rfl (thXv (v := .int .i64 (nd)) rfl rfl (thNil))) (by kernel_rfl) (thx := [(16, .x 0), (17, .x 1), (2000002, .x 2000000)]) (thXv (v := St' ((cU ((cU u).2.1 ++ (List.take (Int.toNat (1)) s))).2.1)) rfl rfl (thXv (v := .int .i64 (nd)) rfl rfl (thXv (v := rwG reC ((cU ((cU u).2.1 ++ (List.take (Int.toNat (1)) s))).1)) rfl rfl (thNil)))) (by kernel_rfl)⟩) lfNil)) (lpOk_one lfNil) rfl (mkIFd0 Sx 2 (List.drop (Int.toNat (1)) s) (u ++ List.take (Int.toNat (1)) s) (i + 1) (ndS ((cU ((cU u).2.1 ++ (List.take (Int.toNat (1)) s))).2.1)) ⟨hr1, i1, i2, by omega, by rw [List.length_append]; omega, hr5, fun h => by omega, fun h => by omega, fun _ => by rw [List.length_append]; omega, fun _ => by have h7 := i7 rfl; rw [hr3, List.length_append]; omega, by omega⟩) (by show (List.drop (Int.toNat (1)) s).length < s.length; omega) (thXv (v := St' (List.drop (Int.toNat (1)) s)) rfl rfl (thXi (b := ((i + 1))) rfl rfl (by omega) (thXv (v := .int .i64 ((ndS ((cU ((cU u).2.1 ++ (List.take (Int.toNat (1)) s))).2.1)))) rfl rfl (thXe (v := St' ((cU ((cU u).2.1 ++ (List.take (Int.toNat (1)) s))).2.1)) (u := St' ((cU (u ++ List.take (Int.toNat (1)) s)).2.1)) rfl rfl (congrArg (fun l => St' l) hr4.symm) (thXe (v := rwG reC ((cU ((cU u).2.1 ++ (List.take (Int.toNat (1)) s))).1)) (u := rwG reC ((cU (u ++ List.take (Int.toNat (1)) s)).1)) rfl rfl (congrArg (rwG reC) (apR hr3 (i7 rfl))) (thNil)))))) runFd0_p3
def hyFd0_p4 : LK := [(.rn, .x 2000004), (.bytes [], .x 22), (.len (.x 0), .x 23), (.bin .gtr (.x 23) (.i .i64 (.ofNat 0)), .b true), (.sub (.x 0) none (some (.i .i64 (.ofNat 1))), .x 24), (.bin .add (.x 3) (.x 24), .x 25), (.fit (.x 25), .b true), (.len (.x 25), .x 26), (.bin .lss (.x 26) (.x 2), .b false), (.fit (.x 27), .b true), (.call 20 [.x 27], .x 29), (.sub (.x 0) (some (.i .i64 (.ofNat 1))) none, .x 30), (.bin .add (.x 1) (.i .i64 (.ofNat 1)), .x 31)]
def lh14 : LH := ⟨1, 320, 380, [(302, .b ⟨53, .l [.i .i64 (.ofNat 65535), .sy 303, .x 2, .b false], 0, 0, 0, false, false⟩), (303, .t 25 5)], [(302, .b ⟨53, .l [.i .i64 (.ofNat 65535), .sy 321, .x 28, .b false], 0, 0, 0, false, false⟩)]⟩
def lf14 : LF := ⟨2, 38, [(0, .p 302 0), (1, .x 25), (7, .nils)], [], .ret, [(4, .nils), (5, .x 27), (6, .ni)], some lh14⟩
noncomputable def tbFd0_p4 : Tab := addLps ((tbl hyFd0_p4)) 19 fi19 [lf14]
def LFd0_p4 : List LF := []
theorem runFd0_p4 : okRdH (code tbFd0_p4 5000 LFd0_p4 bodyFd0 (envOf (headOf epFd0_1 keepFd0) 137) ⟨lhSet hpFd0_1 .leaf, 303, 0, 0⟩) .normal keepFd0 137 420 [(0, .x 30), (1, .x 31), (2, .x 29), (3, .x 27)] [(302, 302), (300, 380)] 300 303 epFd0_1 hpFd0_1 = true := by kernel_rfl
theorem nxFd0_p4 (Sx : LB) (s u : LB) (i nd : Int) (X : Nat → Value) (hI : InvFd0 Sx (1, s, u, i, nd)) (h0 : 0 < (s.length : Int)) (h1 : ¬ (((cU u).2.1.length : Int) + 1 < nd)) (h2 : (cU ((cU u).2.1 ++ (List.take (Int.toNat (1)) s))).1.length = 0) : RHFd0 Sx E' x' e' h' (1, s, u, i, nd) X := by
  obtain ⟨i0, i1, i2, i3, i4, i5, i6, i7, i8, i9, it⟩ := unIFd0 Sx 1 s u i nd hI
  have := lenTake (l := s) (Q := 1) (by omega) (by omega)
  obtain ⟨hr1, hcw, hr3, hr4, hr5, hr6, hr7, hr9, hr8⟩ := fR (k := 1) i0 i2 i5 (by omega) (by omega)
  rw [List.length_append] at hr9
  have hwl : (((cU u).2.1 ++ List.take (Int.toNat (1)) s)).length ≤ 10000 := by rw [List.length_append]; omega
  have := lenDrop (l := s) (P := 1) (by omega) (by omega)
  have ho : ∀ a' r', (a', r') ∈ hyFd0_p4 → HOk (cx (nuX (nuFd0_1 Sx s u i nd) (rX (roFd0_1 Sx s u i nd) X)) (nuX_one (nuL_one (l := nuFd0_1 Sx s u i nd) rfl)) 1 laidE laidE_stab) a' r' := by
    unfold hyFd0_p4
    exact hc (kRn (denX rfl)) <|
     hc (kBytesB (bs := ([] : LB)) .nil (denX rfl)) <|
     hc (lnV rfl rfl (by omega)) <|
     hc (gtcT rfl (by omega)) <|
     hc (tkC rfl rfl (by omega)) <|
     hc (kCat (isX rfl) (isX rfl) (denX rfl) (by first | rfl | (simp; done)) (by omega)) <|
     hc (kFit (isX rfl) (by first | omega | (simp <;> omega))) <|
     hc (lnV rfl rfl (by first | omega | (simp <;> omega))) <|
     hc (ltF rfl rfl (by omega)) <|
     hc (kFit (isX rfl) (by first | omega | (simp <;> omega))) <|
     hc (hokNds (isX rfl) (denX rfl) (by omega)) <|
     hc (drC rfl rfl (by omega)) <|
     hc (adC rfl rfl (by omega)) <|
     hnil
  exact sLFd0_1 Sx s u i nd (tb := tbFd0_p4) (L := LFd0_p4) (1, (List.drop (Int.toNat (1)) s), (u ++ List.take (Int.toNat (1)) s), i + 1, (ndS ((cU ((cU u).2.1 ++ (List.take (Int.toNat (1)) s))).2.1))) (AllOk.lp1 ((tabkOk _ _).hyps ho) (by omega) fi19_at fi19_body (lfCons (lpKnown rfl ⟨0, keyCuFd0, lfOkCuFd0_0 (l := lf14) (h := lh14) ((cU ((cU u).2.1 ++ (List.take (Int.toNat (1)) s))).1) ((cU ((cU u).2.1 ++ (List.take (Int.toNat (1)) s))).2.1) ((cU ((cU u).2.1 ++ (List.take (Int.toNat (1)) s))).2.2) nd hcw (by omega) (0, ((cU u).2.1 ++ (List.take (Int.toNat (1)) s)), []) (mkICuFd0 ((cU ((cU u).2.1 ++ (List.take (Int.toNat (1)) s))).1) ((cU ((cU u).2.1 ++ (List.take (Int.toNat (1)) s))).2.1) ((cU ((cU u).2.1 ++ (List.take (Int.toNat (1)) s))).2.2) nd 0 ((cU u).2.1 ++ (List.take (Int.toNat (1)) s)) [] ⟨by omega, rfl, rfl, rfl, by simp only [List.length_nil]; omega, fun _ => rfl, fun h => by omega, by omega⟩) rfl (by kernel_rfl) (th0 := [(0, .x 25), (1, .x 2)]) (sg0 := [(321, 303)]) (fun X => thXv (v := St' ((cU u).2.1 ++ (List.take (Int.toNat (1)) s))) rfl rfl (thXv (v := .int .i64 (nd)) rfl rfl (thNil))) (by kernel_rfl) (thx := [(27, .x 0), (28, .x 1)]) (thXv (v := St' ((cU ((cU u).2.1 ++ (List.take (Int.toNat (1)) s))).2.1)) rfl rfl (thXv (v := .int .i64 (nd)) rfl rfl (thNil))) (by kernel_rfl)⟩) lfNil)) (lpOk_one lfNil) rfl (mkIFd0 Sx 1 (List.drop (Int.toNat (1)) s) (u ++ List.take (Int.toNat (1)) s) (i + 1) (ndS ((cU ((cU u).2.1 ++ (List.take (Int.toNat (1)) s))).2.1)) ⟨hr1, i1, i2, by omega, by rw [List.length_append]; omega, hr5, fun h => by omega, fun _ => by have h7 := i7 rfl; rw [hr3, List.length_append]; omega, fun _ => by rw [List.length_append]; omega, fun h => by omega, by omega⟩) (by show (List.drop (Int.toNat (1)) s).length < s.length; omega) (thXv (v := St' (List.drop (Int.toNat (1)) s)) rfl rfl (thXi (b := ((i + 1))) rfl rfl (by omega) (thXv (v := .int .i64 ((ndS ((cU ((cU u).2.1 ++ (List.take (Int.toNat (1)) s))).2.1)))) rfl rfl (thXe (v := St' ((cU ((cU u).2.1 ++ (List.take (Int.toNat (1)) s))).2.1)) (u := St' ((cU (u ++ List.take (Int.toNat (1)) s)).2.1)) rfl rfl (congrArg (fun l => St' l) hr4.symm) (thNil))))) runFd0_p4
def hyFd0_p5 : LK := [(.rn, .x 2000001), (.bytes [], .x 4), (.len (.x 0), .x 5), (.bin .gtr (.x 5) (.i .i64 (.ofNat 0)), .b true), (.sub (.x 0) none (some (.i .i64 (.ofNat 1))), .x 6), (.bin .add (.x 3) (.x 6), .x 7), (.fit (.x 7), .b true), (.len (.x 7), .x 8), (.bin .lss (.x 8) (.x 2), .b false), (.fit (.x 9), .b true), (.call 20 [.x 9], .x 11), (.ra (.x 2000000) [], .x 2000002), (.rf (.x 2000002) 4 40, .b true), (.sub (.x 0) (some (.i .i64 (.ofNat 1))) none, .x 12), (.bin .add (.x 1) (.i .i64 (.ofNat 1)), .x 13)]
def lh15 : LH := ⟨1, 320, 380, [(302, .b ⟨53, .l [.i .i64 (.ofNat 65535), .sy 303, .x 2, .b false], 0, 0, 0, false, false⟩), (303, .t 7 5)], [(302, .b ⟨53, .l [.i .i64 (.ofNat 65535), .sy 321, .x 10, .b false], 0, 0, 0, false, false⟩)]⟩
def lf15 : LF := ⟨2, 38, [(0, .p 302 0), (1, .x 7), (7, .nils)], [], .ret, [(4, .nils), (5, .x 9), (6, .ni)], some lh15⟩
noncomputable def tbFd0_p5 : Tab := addLps ((tbl hyFd0_p5)) 19 fi19 [lf15]
def LFd0_p5 : List LF := []
theorem runFd0_p5 : okRdH (code tbFd0_p5 5000 LFd0_p5 bodyFd0 (envOf (headOf epFd0_2 keepFd0) 137) ⟨lhSet hpFd0_2 .leaf, 303, 0, 0⟩) .normal keepFd0 137 420 [(0, .x 12), (1, .x 13), (2, .x 11), (3, .x 9), (2000000, .x 2000002)] [(302, 302), (301, 381), (300, 380)] 300 303 epFd0_2 hpFd0_2 = true := by kernel_rfl
theorem nxFd0_p5 (Sx : LB) (s u : LB) (i nd : Int) (X : Nat → Value) (hI : InvFd0 Sx (2, s, u, i, nd)) (h0 : 0 < (s.length : Int)) (h1 : ¬ (((cU u).2.1.length : Int) + 1 < nd)) (h2 : (cU ((cU u).2.1 ++ (List.take (Int.toNat (1)) s))).1.length = 0) : RHFd0 Sx E' x' e' h' (2, s, u, i, nd) X := by
  obtain ⟨i0, i1, i2, i3, i4, i5, i6, i7, i8, i9, it⟩ := unIFd0 Sx 2 s u i nd hI
  have := lenTake (l := s) (Q := 1) (by omega) (by omega)
  obtain ⟨hr1, hcw, hr3, hr4, hr5, hr6, hr7, hr9, hr8⟩ := fR (k := 1) i0 i2 i5 (by omega) (by omega)
  rw [List.length_append] at hr9
  have hwl : (((cU u).2.1 ++ List.take (Int.toNat (1)) s)).length ≤ 10000 := by rw [List.length_append]; omega
  have := lenDrop (l := s) (P := 1) (by omega) (by omega)
  have ho : ∀ a' r', (a', r') ∈ hyFd0_p5 → HOk (cx (nuX (nuFd0_2 Sx s u i nd) (rX (roFd0_2 Sx s u i nd) X)) (nuX_one (nuL_one (l := nuFd0_2 Sx s u i nd) rfl)) 1 laidE laidE_stab) a' r' := by
    unfold hyFd0_p5
    exact hc (kRn (denX rfl)) <|
     hc (kBytesB (bs := ([] : LB)) .nil (denX rfl)) <|
     hc (lnV rfl rfl (by omega)) <|
     hc (gtcT rfl (by omega)) <|
     hc (tkC rfl rfl (by omega)) <|
     hc (kCat (isX rfl) (isX rfl) (denX rfl) (by first | rfl | (simp; done)) (by omega)) <|
     hc (kFit (isX rfl) (by first | omega | (simp <;> omega))) <|
     hc (lnV rfl rfl (by first | omega | (simp <;> omega))) <|
     hc (ltF rfl rfl (by omega)) <|
     hc (kFit (isX rfl) (by first | omega | (simp <;> omega))) <|
     hc (hokNds (isX rfl) (denX rfl) (by omega)) <|
     hc (kRa0 (f := reC) (isX rfl) (denX rfl)) <|
     hc (kRfG reC_len (isX rfl) (by first | (rw [List.length_append]; omega) | (first | omega | (simp <;> omega))) (by first | (rw [List.length_append]; omega) | (first | omega | (simp <;> omega)))) <|
     hc (drC rfl rfl (by omega)) <|
     hc (adC rfl rfl (by omega)) <|
     hnil
  exact sLFd0_2 Sx s u i nd (tb := tbFd0_p5) (L := LFd0_p5) (2, (List.drop (Int.toNat (1)) s), (u ++ List.take (Int.toNat (1)) s), i + 1, (ndS ((cU ((cU u).2.1 ++ (List.take (Int.toNat (1)) s))).2.1))) (AllOk.lp1 ((tabkOk _ _).hyps ho) (by omega) fi19_at fi19_body (lfCons (lpKnown rfl ⟨0, keyCuFd0, lfOkCuFd0_0 (l := lf15) (h := lh15) ((cU ((cU u).2.1 ++ (List.take (Int.toNat (1)) s))).1) ((cU ((cU u).2.1 ++ (List.take (Int.toNat (1)) s))).2.1) ((cU ((cU u).2.1 ++ (List.take (Int.toNat (1)) s))).2.2) nd hcw (by omega) (0, ((cU u).2.1 ++ (List.take (Int.toNat (1)) s)), []) (mkICuFd0 ((cU ((cU u).2.1 ++ (List.take (Int.toNat (1)) s))).1) ((cU ((cU u).2.1 ++ (List.take (Int.toNat (1)) s))).2.1) ((cU ((cU u).2.1 ++ (List.take (Int.toNat (1)) s))).2.2) nd 0 ((cU u).2.1 ++ (List.take (Int.toNat (1)) s)) [] ⟨by omega, rfl, rfl, rfl, by simp only [List.length_nil]; omega, fun _ => rfl, fun h => by omega, by omega⟩) rfl (by kernel_rfl) (th0 := [(0, .x 7), (1, .x 2)]) (sg0 := [(321, 303)]) (fun X => thXv (v := St' ((cU u).2.1 ++ (List.take (Int.toNat (1)) s))) rfl rfl (thXv (v := .int .i64 (nd)) rfl rfl (thNil))) (by kernel_rfl) (thx := [(9, .x 0), (10, .x 1)]) (thXv (v := St' ((cU ((cU u).2.1 ++ (List.take (Int.toNat (1)) s))).2.1)) rfl rfl (thXv (v := .int .i64 (nd)) rfl rfl (thNil))) (by kernel_rfl)⟩) lfNil)) (lpOk_one lfNil) rfl (mkIFd0 Sx 2 (List.drop (Int.toNat (1)) s) (u ++ List.take (Int.toNat (1)) s) (i + 1) (ndS ((cU ((cU u).2.1 ++ (List.take (Int.toNat (1)) s))).2.1)) ⟨hr1, i1, i2, by omega, by rw [List.length_append]; omega, hr5, fun h => by omega, fun h => by omega, fun _ => by rw [List.length_append]; omega, fun _ => by have h9 := i9 rfl; rw [hr3, List.length_append]; omega, by omega⟩) (by show (List.drop (Int.toNat (1)) s).length < s.length; omega) (thXv (v := St' (List.drop (Int.toNat (1)) s)) rfl rfl (thXi (b := ((i + 1))) rfl rfl (by omega) (thXv (v := .int .i64 ((ndS ((cU ((cU u).2.1 ++ (List.take (Int.toNat (1)) s))).2.1)))) rfl rfl (thXe (v := St' ((cU ((cU u).2.1 ++ (List.take (Int.toNat (1)) s))).2.1)) (u := St' ((cU (u ++ List.take (Int.toNat (1)) s)).2.1)) rfl rfl (congrArg (fun l => St' l) hr4.symm) (thXe (v := rwG reC ((cU u).1)) (u := rwG reC ((cU (u ++ List.take (Int.toNat (1)) s)).1)) rfl rfl (congrArg (rwG reC) (apL hr3 (by assumption))) (thNil)))))) runFd0_p5
def hyFd0_p6 : LK := [(.rn, .x 2000003), (.bytes [], .x 14), (.len (.x 0), .x 15), (.bin .gtr (.x 15) (.i .i64 (.ofNat 0)), .b true), (.sub (.x 0) none (some (.i .i64 (.ofNat 1))), .x 16), (.bin .add (.x 3) (.x 16), .x 17), (.fit (.x 17), .b true), (.len (.x 17), .x 18), (.bin .lss (.x 18) (.x 2), .b true), (.ra (.x 2000000) [], .x 2000004), (.rf (.x 2000004) 4 40, .b true), (.sub (.x 0) (some (.i .i64 (.ofNat 1))) none, .x 19), (.bin .add (.x 1) (.i .i64 (.ofNat 1)), .x 20)]
theorem runFd0_p6 : RNFd0_2 hyFd0_p6 .normal [(0, .x 19), (1, .x 20), (2, .x 2), (3, .x 17), (2000000, .x 2000004)] [(302, 302), (301, 304), (300, 303)] 303 epFd0_2 hpFd0_2 = true := by kernel_rfl
theorem nxFd0_p6 (Sx : LB) (s u : LB) (i nd : Int) (X : Nat → Value) (hI : InvFd0 Sx (2, s, u, i, nd)) (h0 : 0 < (s.length : Int)) (h1 : ((cU u).2.1.length : Int) + 1 < nd) : RHFd0 Sx E' x' e' h' (2, s, u, i, nd) X := by
  obtain ⟨i0, i1, i2, i3, i4, i5, i6, i7, i8, i9, it⟩ := unIFd0 Sx 2 s u i nd hI
  have := lenTake (l := s) (Q := 1) (by omega) (by omega)
  have := lenDrop (l := s) (P := 1) (by omega) (by omega)
  obtain ⟨hr1, hcw, hr3, hr4, hr5, hr6, hr7, hr9, hr8⟩ := fR (k := 1) i0 i2 i5 (by omega) (by omega)
  rw [List.length_append] at hr9
  have hwl : (((cU u).2.1 ++ List.take (Int.toNat (1)) s)).length ≤ 10000 := by rw [List.length_append]; omega
  obtain ⟨hx1, hx2, hx3⟩ := hr8 (by rw [List.length_append, Int.natCast_add]; omega)
  refine stFd0_2 Sx s u i nd (h := hyFd0_p6) (2, (List.drop (Int.toNat (1)) s), (u ++ List.take (Int.toNat (1)) s), i + 1, nd) ?_ (mkIFd0 Sx 2 (List.drop (Int.toNat (1)) s) (u ++ List.take (Int.toNat (1)) s) (i + 1) nd ⟨hr1, i1, i2, by omega, by rw [List.length_append]; omega, hx3, fun h => by omega, fun h => by omega, fun _ => by rw [List.length_append]; omega, fun _ => by have h9 := i9 rfl; rw [hx1]; omega, by omega⟩) (by show (List.drop (Int.toNat (1)) s).length < s.length; omega) (thXv (v := St' (List.drop (Int.toNat (1)) s)) rfl rfl (thXi (b := ((i + 1))) rfl rfl (by omega) (thXv (v := .int .i64 (nd)) rfl rfl (thXe (v := St' ((cU u).2.1 ++ (List.take (Int.toNat (1)) s))) (u := St' ((cU (u ++ List.take (Int.toNat (1)) s)).2.1)) rfl rfl (congrArg (fun l => St' l) hx2.symm) (thXe (v := rwG reC ((cU u).1)) (u := rwG reC ((cU (u ++ List.take (Int.toNat (1)) s)).1)) rfl rfl (congrArg (rwG reC) hx1.symm) (thNil)))))) runFd0_p6
  unfold hyFd0_p6
  exact hc (kRn (denX rfl)) <|
   hc (kBytesB (bs := ([] : LB)) .nil (denX rfl)) <|
   hc (lnV rfl rfl (by omega)) <|
   hc (gtcT rfl (by omega)) <|
   hc (tkC rfl rfl (by omega)) <|
   hc (kCat (isX rfl) (isX rfl) (denX rfl) (by first | rfl | (simp; done)) (by omega)) <|
   hc (kFit (isX rfl) (by first | omega | (simp <;> omega))) <|
   hc (lnV rfl rfl (by first | omega | (simp <;> omega))) <|
   hc (ltT rfl rfl (by omega)) <|
   hc (kRa0 (f := reC) (isX rfl) (denX rfl)) <|
   hc (kRfG reC_len (isX rfl) (by first | (rw [List.length_append]; omega) | (first | omega | (simp <;> omega))) (by first | (rw [List.length_append]; omega) | (first | omega | (simp <;> omega)))) <|
   hc (drC rfl rfl (by omega)) <|
   hc (adC rfl rfl (by omega)) <|
   hnil
def hyFd0_p7 : LK := [(.rn, .x 2000005), (.bytes [], .x 21), (.len (.x 0), .x 22), (.bin .gtr (.x 22) (.i .i64 (.ofNat 0)), .b false)]
theorem runFd0_p7 : RNFd0_2 hyFd0_p7 (.exit 2) [(0, .x 3), (2000000, .x 2000000)] [(302, 302), (301, 301), (300, 300)] 420 [(10, .p 302 0), (13, .sr 301)] [(302, .b ⟨53, .l [.i .i64 (.ofNat 65535), .sy 300, .und, .b false], 0, 0, 0, false, false⟩), (300, .t 0 5), (301, .r 2000000 26 4 false)] = true := by kernel_rfl
def hyFd0_p8 : LK := [(.rn, .x 2000005), (.bytes [], .x 32), (.len (.x 0), .x 33), (.bin .gtr (.x 33) (.i .i64 (.ofNat 0)), .b false)]
theorem runFd0_p8 : RNFd0_1 hyFd0_p8 (.exit 2) [(0, .x 3)] [(302, 302), (300, 300)] 420 [(10, .p 302 0), (13, .nils)] [(302, .b ⟨53, .l [.i .i64 (.ofNat 65535), .sy 300, .und, .b false], 0, 0, 0, false, false⟩), (300, .t 0 5)] = true := by kernel_rfl
def hyFd0_p9 : LK := [(.rn, .x 2000006), (.bytes [], .x 23), (.len (.x 0), .x 24), (.bin .gtr (.x 24) (.i .i64 (.ofNat 0)), .b true), (.sub (.x 0) none (some (.i .i64 (.ofNat 1))), .x 25), (.bin .add (.x 3) (.x 25), .x 26), (.fit (.x 26), .b true), (.len (.x 26), .x 27), (.bin .lss (.x 27) (.x 2), .b false), (.fit (.x 28), .b true), (.call 20 [.x 28], .x 30), (.rr (.x 2000000) (.x 2000007), .x 2000008), (.rf (.x 2000008) 4 40, .b true), (.sub (.x 0) (some (.i .i64 (.ofNat 1))) none, .x 31), (.bin .add (.x 1) (.i .i64 (.ofNat 1)), .x 32)]
def lh18 : LH := ⟨1, 320, 380, [(302, .b ⟨53, .l [.i .i64 (.ofNat 65535), .sy 303, .x 2, .b false], 0, 0, 0, false, false⟩), (303, .t 26 5)], [(302, .b ⟨53, .l [.i .i64 (.ofNat 65535), .sy 321, .x 29, .b false], 0, 0, 0, false, false⟩), (320, .r 2000007 26 4 false)]⟩
def lf18 : LF := ⟨2, 38, [(0, .p 302 0), (1, .x 26), (7, .nils)], [], .ret, [(4, .sr 320), (5, .x 28), (6, .ni)], some lh18⟩
noncomputable def tbFd0_p9 : Tab := addLps ((tbl hyFd0_p9)) 19 fi19 [lf18]
def LFd0_p9 : List LF := []
theorem runFd0_p9 : okRdH (code tbFd0_p9 5000 LFd0_p9 bodyFd0 (envOf (headOf epFd0_2 keepFd0) 137) ⟨lhSet hpFd0_2 .leaf, 303, 0, 0⟩) .normal keepFd0 137 420 [(0, .x 31), (1, .x 32), (2, .x 30), (3, .x 28), (2000000, .x 2000008)] [(302, 302), (301, 381), (300, 380)] 300 303 epFd0_2 hpFd0_2 = true := by kernel_rfl
theorem nxFd0_p9 (Sx : LB) (s u : LB) (i nd : Int) (X : Nat → Value) (hI : InvFd0 Sx (2, s, u, i, nd)) (h0 : 0 < (s.length : Int)) (h1 : ¬ (((cU u).2.1.length : Int) + 1 < nd)) (h2 : ¬ ((cU ((cU u).2.1 ++ (List.take (Int.toNat (1)) s))).1.length = 0)) : RHFd0 Sx E' x' e' h' (2, s, u, i, nd) X := by
  obtain ⟨i0, i1, i2, i3, i4, i5, i6, i7, i8, i9, it⟩ := unIFd0 Sx 2 s u i nd hI
  have := lenTake (l := s) (Q := 1) (by omega) (by omega)
  obtain ⟨hr1, hcw, hr3, hr4, hr5, hr6, hr7, hr9, hr8⟩ := fR (k := 1) i0 i2 i5 (by omega) (by omega)
  rw [List.length_append] at hr9
  have hwl : (((cU u).2.1 ++ List.take (Int.toNat (1)) s)).length ≤ 10000 := by rw [List.length_append]; omega
  have := lenDrop (l := s) (P := 1) (by omega) (by omega)
  have ho : ∀ a' r', (a', r') ∈ hyFd0_p9 → HOk (cx (nuX (nuFd0_2 Sx s u i nd) (rX (roFd0_2 Sx s u i nd) X)) (nuX_one (nuL_one (l := nuFd0_2 Sx s u i nd) rfl)) 1 laidE laidE_stab) a' r' := by
    unfold hyFd0_p9
    exact hc (kRn (denX rfl)) <|
     hc (kBytesB (bs := ([] : LB)) .nil (denX rfl)) <|
     hc (lnV rfl rfl (by omega)) <|
     hc (gtcT rfl (by omega)) <|
     hc (tkC rfl rfl (by omega)) <|
     hc (kCat (isX rfl) (isX rfl) (denX rfl) (by first | rfl | (simp; done)) (by omega)) <|
     hc (kFit (isX rfl) (by first | omega | (simp <;> omega))) <|
     hc (lnV rfl rfl (by first | omega | (simp <;> omega))) <|
     hc (ltF rfl rfl (by omega)) <|
     hc (kFit (isX rfl) (by first | omega | (simp <;> omega))) <|
     hc (hokNds (isX rfl) (denX rfl) (by omega)) <|
     hc (kRr (f := reC) (l := (cU u).1) (m := (cU ((cU u).2.1 ++ (List.take (Int.toNat (1)) s))).1) (isX rfl) (isX rfl) (denX rfl)) <|
     hc (kRfG reC_len (isX rfl) (by first | (rw [List.length_append]; omega) | (first | omega | (simp <;> omega))) (by first | (rw [List.length_append]; omega) | (first | omega | (simp <;> omega)))) <|
     hc (drC rfl rfl (by omega)) <|
     hc (adC rfl rfl (by omega)) <|
     hnil
  exact sLFd0_2 Sx s u i nd (tb := tbFd0_p9) (L := LFd0_p9) (2, (List.drop (Int.toNat (1)) s), (u ++ List.take (Int.toNat (1)) s), i + 1, (ndS ((cU ((cU u).2.1 ++ (List.take (Int.toNat (1)) s))).2.1))) (AllOk.lp1 ((tabkOk _ _).hyps ho) (by omega) fi19_at fi19_body (lfCons (lpKnown rfl ⟨0, keyCuFd0, lfOkCuFd0_1 (l := lf18) (h := lh18) ((cU ((cU u).2.1 ++ (List.take (Int.toNat (1)) s))).1) ((cU ((cU u).2.1 ++ (List.take (Int.toNat (1)) s))).2.1) ((cU ((cU u).2.1 ++ (List.take (Int.toNat (1)) s))).2.2) nd hcw (by omega) (0, ((cU u).2.1 ++ (List.take (Int.toNat (1)) s)), []) (mkICuFd0 ((cU ((cU u).2.1 ++ (List.take (Int.toNat (1)) s))).1) ((cU ((cU u).2.1 ++ (List.take (Int.toNat (1)) s))).2.1) ((cU ((cU u).2.1 ++ (List.take (Int.toNat (1)) s))).2.2) nd 0 ((cU u).2.1 ++ (List.take (Int.toNat (1)) s)) [] ⟨by omega, rfl, rfl, rfl, by simp only [List.length_nil]; omega, fun _ => rfl, fun h => by omega, by omega⟩) rfl (by kernel_rfl) (th0 := [(0, .x 26), (1, .x 2)]) (sg0 := [(321, 303)]) (fun X => thXv (v := St' ((cU u).2.1 ++ (List.take (Int.toNat (1)) s))) rfl rfl (thXv (v := .int .i64 (nd)) rfl rfl (thNil))) (by kernel_rfl) (thx := [(28, .x 0), (29, .x 1), (2000007, .x 2000000)]) (thXv (v := St' ((cU ((cU u).2.1 ++ (List.take (Int.toNat (1)) s))).2.1)) rfl rfl (thXv (v := .int .i64 (nd)) rfl rfl (thXv (v := rwG reC ((cU ((cU u).2.1 ++ (List.take (Int.toNat (1)) s))).1)) rfl rfl (thNil)))) (by kernel_rfl)⟩) lfNil)) (lpOk_one lfNil) rfl (mkIFd0 Sx 2 (List.drop (Int.toNat (1)) s) (u ++ List.take (Int.toNat (1)) s) (i + 1) (ndS ((cU ((cU u).2.1 ++ (List.take (Int.toNat (1)) s))).2.1)) ⟨hr1, i1, i2, by omega, by rw [List.length_append]; omega, hr5, fun h => by omega, fun h => by omega, fun _ => by rw [List.length_append]; omega, fun _ => by have h9 := i9 rfl; rw [hr3, List.length_append]; omega, by omega⟩) (by show (List.drop (Int.toNat (1)) s).length < s.length; omega) (thXv (v := St' (List.drop (Int.toNat (1)) s)) rfl rfl (thXi (b := ((i + 1))) rfl rfl (by omega) (thXv (v := .int .i64 ((ndS ((cU ((cU u).2.1 ++ (List.take (Int.toNat (1)) s))).2.1)))) rfl rfl (thXe (v := St' ((cU ((cU u).2.1 ++ (List.take (Int.toNat (1)) s))).2.1)) (u := St' ((cU (u ++ List.take (Int.toNat (1)) s)).2.1)) rfl rfl (congrArg (fun l => St' l) hr4.symm) (thXe (v := rwG reC ((cU u).1 ++ (cU ((cU u).2.1 ++ (List.take (Int.toNat (1)) s))).1)) (u := rwG reC ((cU (u ++ List.take (Int.toNat (1)) s)).1)) rfl rfl (congrArg (rwG reC) hr3.symm) (thNil)))))) runFd0_p9
def nuEFd0_0 (Sx : LB) : List Value := []
def roEFd0_0 (Sx : LB) : List Value := []
noncomputable def EFd0_0 (Sx : LB) : Cx := cx (nuX (nuEFd0_0 Sx) (rX (roEFd0_0 Sx) (fun _ => .bool true))) (nuX_one (nuL_one (l := nuEFd0_0 Sx) rfl)) 1 laidE laidE_stab
theorem roundsFd0_0 (Sx : LB) (x0 : Sx.length = 0) (st : Nat × LB × LB × Int × Int) (X : Nat → Value) (hI : InvFd0 Sx st) : RHFd0 Sx (EFd0_0 Sx) (.exit 2) [(10, .p 302 0), (13, .nils)] [(302, .b ⟨53, .l [.i .i64 (.ofNat 65535), .nils, .und, .b false], 0, 0, 0, false, false⟩)] st X := by
  obtain ⟨tag, s, u, i, nd⟩ := st
  have hI0 := hI
  obtain ⟨i0, i1, i2, i3, i4, i5, i6, i7, i8, i9, it⟩ := unIFd0 Sx tag s u i nd hI
  rcases (show tag = 0 ∨ tag = 1 ∨ tag = 2 from by omega) with rfl | rfl | rfl
  · skip
    by_cases h0 : 0 < (s.length : Int)
    · exact nxFd0_p0 Sx s u i nd X hI0 h0
    · skip
      have hux := sfx i0 (by assumption)
      refine lvFd0_0 Sx s u i nd (h := hyFd0_p1) rfl ?_ (thNil) runFd0_p1
      unfold hyFd0_p1
      exact hc (kRn (denX rfl)) <|
       hc (kBytesB (bs := ([] : LB)) .nil (denX rfl)) <|
       hc (lnV rfl rfl (by omega)) <|
       hc (gtcF rfl (by omega)) <|
       hnil
  · skip
    by_cases h0 : 0 < (s.length : Int)
    · by_cases h1 : ((cU u).2.1.length : Int) + 1 < nd
      · exact nxFd0_p2 Sx s u i nd X hI0 h0 h1
      · by_cases h2 : (cU ((cU u).2.1 ++ (List.take (Int.toNat (1)) s))).1.length = 0
        · exact nxFd0_p4 Sx s u i nd X hI0 h0 h1 h2
        · exact nxFd0_p3 Sx s u i nd X hI0 h0 h1 h2
    · exfalso; have hux := sfx i0 (by assumption); have h := i8 (by decide); rw [hux] at h; omega
  · skip
    by_cases h0 : 0 < (s.length : Int)
    · by_cases h1 : ((cU u).2.1.length : Int) + 1 < nd
      · exact nxFd0_p6 Sx s u i nd X hI0 h0 h1
      · by_cases h2 : (cU ((cU u).2.1 ++ (List.take (Int.toNat (1)) s))).1.length = 0
        · exact nxFd0_p5 Sx s u i nd X hI0 h0 h1 h2
        · exact nxFd0_p9 Sx s u i nd X hI0 h0 h1 h2
    · exfalso; have hux := sfx i0 (by assumption); have h := i8 (by decide); rw [hux] at h; omega
theorem lfOkFd0_0 {l : LF} {h : LH} (Sx : LB) (x0 : Sx.length = 0) (st : Nat × LB × LB × Int × Int) (hI : InvFd0 Sx st) (hl : l.hp = some h) (hs : lfSame l h 137 keepFd0 (.exit 2) 1 300 420 = true) {th0 : LA} {sg0 : List (Nat × Nat)} (hth0 : ∀ X, ThOk (cx nu one 1 laidE laidE_stab) (DFd0 Sx st X) th0) (h0 : startOk l h 137 300 303 th0 sg0 (epFd0 st) (hpFd0 st) = true) {thx : LA} (hthx : ThOk (EFd0_0 Sx) (cx nu one 1 laidE laidE_stab) thx) (hx : exitOk l h 137 300 420 thx [(10, .p 302 0), (13, .nils)] [(302, .b ⟨53, .l [.i .i64 (.ofNat 65535), .nils, .und, .b false], 0, 0, 0, false, false⟩)] = true) : LfOk (cx nu one 1 laidE laidE_stab) bodyFd0 l :=
  lfOkX (E := EFd0_0 Sx) (InvFd0 Sx) (muFd0 Sx) (DFd0 Sx) (fun _ _ => rfl) (fun _ _ => rfl) (fun _ _ => rfl) (fun st X t ht => nuX_keep.trans (rX_keep ((by decide : ∀ t, t ∈ keepFd0 → t < 1000000) t ht))) rfl rfl rfl hl hs ebFd0 rfl rfl st hI hth0 h0 hthx hx (roundsFd0_0 Sx x0)
def nuEFd0_1 (Sx : LB) : List Value := [St' ((cU Sx).2.1)]
def roEFd0_1 (Sx : LB) : List Value := []
noncomputable def EFd0_1 (Sx : LB) : Cx := cx (nuX (nuEFd0_1 Sx) (rX (roEFd0_1 Sx) (fun _ => .bool true))) (nuX_one (nuL_one (l := nuEFd0_1 Sx) rfl)) 1 laidE laidE_stab
theorem roundsFd0_1 (Sx : LB) (x0 : ¬ Sx.length = 0) (x1 : (cU Sx).1.length = 0) (st : Nat × LB × LB × Int × Int) (X : Nat → Value) (hI : InvFd0 Sx st) : RHFd0 Sx (EFd0_1 Sx) (.exit 2) [(10, .p 302 0), (13, .nils)] [(302, .b ⟨53, .l [.i .i64 (.ofNat 65535), .sy 300, .und, .b false], 0, 0, 0, false, false⟩), (300, .t 0 5)] st X := by
  obtain ⟨tag, s, u, i, nd⟩ := st
  have hI0 := hI
  obtain ⟨i0, i1, i2, i3, i4, i5, i6, i7, i8, i9, it⟩ := unIFd0 Sx tag s u i nd hI
  rcases (show tag = 0 ∨ tag = 1 ∨ tag = 2 from by omega) with rfl | rfl | rfl
  · skip
    by_cases h0 : 0 < (s.length : Int)
    · exact nxFd0_p0 Sx s u i nd X hI0 h0
    · exfalso; have hux := sfx i0 (by assumption); have hu0 := i6 rfl; rw [hux] at hu0; exact x0 (by rw [hu0]; rfl)
  · skip
    by_cases h0 : 0 < (s.length : Int)
    · by_cases h1 : ((cU u).2.1.length : Int) + 1 < nd
      · exact nxFd0_p2 Sx s u i nd X hI0 h0 h1
      · by_cases h2 : (cU ((cU u).2.1 ++ (List.take (Int.toNat (1)) s))).1.length = 0
        · exact nxFd0_p4 Sx s u i nd X hI0 h0 h1 h2
        · exact nxFd0_p3 Sx s u i nd X hI0 h0 h1 h2
    · skip
      have hux := sfx i0 (by assumption)
      refine lvFd0_1 Sx s u i nd (h := hyFd0_p8) rfl ?_ (thXe (v := St' ((cU u).2.1)) (u := St' ((cU Sx).2.1)) rfl rfl (congrArg (fun l => St' l) (by rw [hux])) (thNil)) runFd0_p8
      unfold hyFd0_p8
      exact hc (kRn (denX rfl)) <|
       hc (kBytesB (bs := ([] : LB)) .nil (denX rfl)) <|
       hc (lnV rfl rfl (by omega)) <|
       hc (gtcF rfl (by omega)) <|
       hnil
  · skip
    by_cases h0 : 0 < (s.length : Int)
    · by_cases h1 : ((cU u).2.1.length : Int) + 1 < nd
      · exact nxFd0_p6 Sx s u i nd X hI0 h0 h1
      · by_cases h2 : (cU ((cU u).2.1 ++ (List.take (Int.toNat (1)) s))).1.length = 0
        · exact nxFd0_p5 Sx s u i nd X hI0 h0 h1 h2
        · exact nxFd0_p9 Sx s u i nd X hI0 h0 h1 h2
    · exfalso; have hux := sfx i0 (by assumption); have h := i9 rfl; rw [hux] at h; exact h x1
theorem lfOkFd0_1 {l : LF} {h : LH} (Sx : LB) (x0 : ¬ Sx.length = 0) (x1 : (cU Sx).1.length = 0) (st : Nat × LB × LB × Int × Int) (hI : InvFd0 Sx st) (hl : l.hp = some h) (hs : lfSame l h 137 keepFd0 (.exit 2) 1 300 420 = true) {th0 : LA} {sg0 : List (Nat × Nat)} (hth0 : ∀ X, ThOk (cx nu one 1 laidE laidE_stab) (DFd0 Sx st X) th0) (h0 : startOk l h 137 300 303 th0 sg0 (epFd0 st) (hpFd0 st) = true) {thx : LA} (hthx : ThOk (EFd0_1 Sx) (cx nu one 1 laidE laidE_stab) thx) (hx : exitOk l h 137 300 420 thx [(10, .p 302 0), (13, .nils)] [(302, .b ⟨53, .l [.i .i64 (.ofNat 65535), .sy 300, .und, .b false], 0, 0, 0, false, false⟩), (300, .t 0 5)] = true) : LfOk (cx nu one 1 laidE laidE_stab) bodyFd0 l :=
  lfOkX (E := EFd0_1 Sx) (InvFd0 Sx) (muFd0 Sx) (DFd0 Sx) (fun _ _ => rfl) (fun _ _ => rfl) (fun _ _ => rfl) (fun st X t ht => nuX_keep.trans (rX_keep ((by decide : ∀ t, t ∈ keepFd0 → t < 1000000) t ht))) rfl rfl rfl hl hs ebFd0 rfl rfl st hI hth0 h0 hthx hx (roundsFd0_1 Sx x0 x1)
def nuEFd0_2 (Sx : LB) : List Value := [St' ((cU Sx).2.1)]
def roEFd0_2 (Sx : LB) : List Value := [rwG reC ((cU Sx).1)]
noncomputable def EFd0_2 (Sx : LB) : Cx := cx (nuX (nuEFd0_2 Sx) (rX (roEFd0_2 Sx) (fun _ => .bool true))) (nuX_one (nuL_one (l := nuEFd0_2 Sx) rfl)) 1 laidE laidE_stab
theorem roundsFd0_2 (Sx : LB) (x0 : ¬ (cU Sx).1.length = 0) (st : Nat × LB × LB × Int × Int) (X : Nat → Value) (hI : InvFd0 Sx st) : RHFd0 Sx (EFd0_2 Sx) (.exit 2) [(10, .p 302 0), (13, .sr 301)] [(302, .b ⟨53, .l [.i .i64 (.ofNat 65535), .sy 300, .und, .b false], 0, 0, 0, false, false⟩), (300, .t 0 5), (301, .r 2000000 26 4 false)] st X := by
  obtain ⟨tag, s, u, i, nd⟩ := st
  have hI0 := hI
  obtain ⟨i0, i1, i2, i3, i4, i5, i6, i7, i8, i9, it⟩ := unIFd0 Sx tag s u i nd hI
  rcases (show tag = 0 ∨ tag = 1 ∨ tag = 2 from by omega) with rfl | rfl | rfl
  · skip
    by_cases h0 : 0 < (s.length : Int)
    · exact nxFd0_p0 Sx s u i nd X hI0 h0
    · exfalso; have hux := sfx i0 (by assumption); have hu0 := i6 rfl; rw [hux] at hu0; exact x0 (by rw [hu0, cU_nil]; rfl)
  · skip
    by_cases h0 : 0 < (s.length : Int)
    · by_cases h1 : ((cU u).2.1.length : Int) + 1 < nd
      · exact nxFd0_p2 Sx s u i nd X hI0 h0 h1
      · by_cases h2 : (cU ((cU u).2.1 ++ (List.take (Int.toNat (1)) s))).1.length = 0
        · exact nxFd0_p4 Sx s u i nd X hI0 h0 h1 h2
        · exact nxFd0_p3 Sx s u i nd X hI0 h0 h1 h2
    · exfalso; have hux := sfx i0 (by assumption); have h := i7 rfl; rw [hux] at h; exact x0 h
  · skip
    by_cases h0 : 0 < (s.length : Int)
    · by_cases h1 : ((cU u).2.1.length : Int) + 1 < nd
      · exact nxFd0_p6 Sx s u i nd X hI0 h0 h1
      · by_cases h2 : (cU ((cU u).2.1 ++ (List.take (Int.toNat (1)) s))).1.length = 0
        · exact nxFd0_p5 Sx s u i nd X hI0 h0 h1 h2
        · exact nxFd0_p9 Sx s u i nd X hI0 h0 h1 h2
    · skip
      have hux := sfx i0 (by assumption)
      refine lvFd0_2 Sx s u i nd (h := hyFd0_p7) rfl ?_ (thXe (v := St' ((cU u).2.1)) (u := St' ((cU Sx).2.1)) rfl rfl (congrArg (fun l => St' l) (by rw [hux])) (thXe (v := rwG reC ((cU u).1)) (u := rwG reC ((cU Sx).1)) rfl rfl (congrArg (rwG reC) (by rw [hux])) (thNil))) runFd0_p7
      unfold hyFd0_p7
      exact hc (kRn (denX rfl)) <|
       hc (kBytesB (bs := ([] : LB)) .nil (denX rfl)) <|
       hc (lnV rfl rfl (by omega)) <|
       hc (gtcF rfl (by omega)) <|
       hnil
theorem lfOkFd0_2 {l : LF} {h : LH} (Sx : LB) (x0 : ¬ (cU Sx).1.length = 0) (st : Nat × LB × LB × Int × Int) (hI : InvFd0 Sx st) (hl : l.hp = some h) (hs : lfSame l h 137 keepFd0 (.exit 2) 1 300 420 = true) {th0 : LA} {sg0 : List (Nat × Nat)} (hth0 : ∀ X, ThOk (cx nu one 1 laidE laidE_stab) (DFd0 Sx st X) th0) (h0 : startOk l h 137 300 303 th0 sg0 (epFd0 st) (hpFd0 st) = true) {thx : LA} (hthx : ThOk (EFd0_2 Sx) (cx nu one 1 laidE laidE_stab) thx) (hx : exitOk l h 137 300 420 thx [(10, .p 302 0), (13, .sr 301)] [(302, .b ⟨53, .l [.i .i64 (.ofNat 65535), .sy 300, .und, .b false], 0, 0, 0, false, false⟩), (300, .t 0 5), (301, .r 2000000 26 4 false)] = true) : LfOk (cx nu one 1 laidE laidE_stab) bodyFd0 l :=
  lfOkX (E := EFd0_2 Sx) (InvFd0 Sx) (muFd0 Sx) (DFd0 Sx) (fun _ _ => rfl) (fun _ _ => rfl) (fun _ _ => rfl) (fun st X t ht => nuX_keep.trans (rX_keep ((by decide : ∀ t, t ∈ keepFd0 → t < 1000000) t ht))) rfl rfl rfl hl hs ebFd0 rfl rfl st hI hth0 h0 hthx hx (roundsFd0_2 Sx x0)
end Go.Proofs.YtlfmfmegnenohaaDoor.cutterCuts
