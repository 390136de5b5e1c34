/- A part of the proof: an interpreter of the model's own code on partly known states, and that what it answers is what the program answers. No condition of its own. -/
import Derived.Test.YtnaffjionjndgaaDoorH1PairBackO4
set_option maxRecDepth 100000
set_option linter.unusedVariables false
set_option linter.unusedSimpArgs false
set_option maxHeartbeats 4000000
namespace Go.Proofs.YtnaffjionjndgaaDoor.pairBack
open Go Go.AX Go.Proofs Go.Proofs.YtnaffjionjndgaaDoor
variable {nu : Nat → Value} {one : ∀ i, i < 1000000 → (nu i).oneCell' = true} {E' : Cx} {x' : Ex} {e' : LA} {h' : LE}
noncomputable def bodyRd460 : Code := loopNo (Tryd.f6.body.getD .skip) 0
theorem keyRd460 : oneKey (loopsOf (Tryd.f6.body.getD .skip)) 2 0 0 = true := by kernel_rfl
def keepRd460 : List Nat := []
def epRd460_0 : LA := [(0, .x 0), (4, .nils)]
def hpRd460_0 : LE := []
def nuRd460_0 (To : List (LB × LB)) (Tk : Int) (s : LB) (o : List (LB × LB)) : List Value := [St' s, St' ([] : LB), .int .i64 ((vL s)), St' (rsL s), .int .i64 ((vL (rsL s))), St' (rsL (rsL s)), .int .i64 (((rsL (rsL s)).length : Int)), .int .i64 (((rsL (rsL s)).length : Int) - (vL s)), St' ((pv s).1), .int .i64 ((vL (rsL s)) + (vL s)), St' ((pv s).2), St' (prs s), St' ([] : LB), St' ([] : LB), St' ([] : LB), .int .i64 ((vL s)), St' (rsL s), St' ([] : LB), .int .i64 ((vL s)), St' (rsL s), .int .i64 ((vL (rsL s))), St' (rsL (rsL s)), .int .i64 (((rsL (rsL s)).length : Int)), St' ([] : LB), .int .i64 ((vL s)), St' (rsL s), .int .i64 ((vL (rsL s))), St' (rsL (rsL s)), .int .i64 (((rsL (rsL s)).length : Int)), .int .i64 (((rsL (rsL s)).length : Int) - (vL s))]
def roRd460_0 (To : List (LB × LB)) (Tk : Int) (s : LB) (o : List (LB × LB)) : List Value := [rwS ([] : List LB), rwG prC (([] : List (LB × LB)) ++ [((pv s).1, (pv s).2)]), rwS ([] : List LB), rwS ([] : List LB), rwS ([] : List LB), rwS ([] : List LB), rwS ([] : List LB)]
def epRd460_1 : LA := [(0, .x 0), (4, .sr 460)]
def hpRd460_1 : LE := [(460, .r 2000000 26 2 false)]
def nuRd460_1 (To : List (LB × LB)) (Tk : Int) (s : LB) (o : List (LB × LB)) : List Value := [St' s, St' ([] : LB), .int .i64 ((o.length : Int)), .int .i64 ((vL s)), St' (rsL s), .int .i64 ((vL (rsL s))), St' (rsL (rsL s)), .int .i64 (((rsL (rsL s)).length : Int)), .int .i64 (((rsL (rsL s)).length : Int) - (vL s)), St' ((pv s).1), .int .i64 ((vL (rsL s)) + (vL s)), St' ((pv s).2), St' (prs s), St' ([] : LB), St' ([] : LB), .int .i64 ((o.length : Int)), .int .i64 ((o.length : Int) + 1), St' (itS ((o.length : Int) + 1)), St' ([u8 112, u8 97, u8 105, u8 114, u8 32] ++ (itS ((o.length : Int) + 1))), St' ([u8 112, u8 97, u8 105, u8 114, u8 32] ++ ((itS ((o.length : Int) + 1)) ++ [u8 32, u8 105, u8 115, u8 110, u8 39, u8 116, u8 32, u8 97, u8 108, u8 108, u8 32, u8 116, u8 104, u8 101, u8 114, u8 101])), St' ([] : LB), .int .i64 ((o.length : Int)), .int .i64 ((vL s)), St' (rsL s), .int .i64 ((o.length : Int) + 1), St' (itS ((o.length : Int) + 1)), St' ([u8 112, u8 97, u8 105, u8 114, u8 32] ++ (itS ((o.length : Int) + 1))), St' ([u8 112, u8 97, u8 105, u8 114, u8 32] ++ ((itS ((o.length : Int) + 1)) ++ [u8 32, u8 105, u8 115, u8 110, u8 39, u8 116, u8 32, u8 97, u8 108, u8 108, u8 32, u8 116, u8 104, u8 101, u8 114, u8 101])), St' ([] : LB), .int .i64 ((o.length : Int)), .int .i64 ((vL s)), St' (rsL s), .int .i64 ((vL (rsL s))), St' (rsL (rsL s)), .int .i64 (((rsL (rsL s)).length : Int)), .int .i64 ((o.length : Int) + 1), St' (itS ((o.length : Int) + 1)), St' ([u8 112, u8 97, u8 105, u8 114, u8 32] ++ (itS ((o.length : Int) + 1))), St' ([u8 112, u8 97, u8 105, u8 114, u8 32] ++ ((itS ((o.length : Int) + 1)) ++ [u8 32, u8 105, u8 115, u8 110, u8 39, u8 116, u8 32, u8 97, u8 108, u8 108, u8 32, u8 116, u8 104, u8 101, u8 114, u8 101])), St' ([] : LB), .int .i64 ((o.length : Int)), .int .i64 ((vL s)), St' (rsL s), .int .i64 ((vL (rsL s))), St' (rsL (rsL s)), .int .i64 (((rsL (rsL s)).length : Int)), .int .i64 (((rsL (rsL s)).length : Int) - (vL s)), .int .i64 ((o.length : Int) + 1), St' (itS ((o.length : Int) + 1)), St' ([u8 112, u8 97, u8 105, u8 114, u8 32] ++ (itS ((o.length : Int) + 1))), St' ([u8 112, u8 97, u8 105, u8 114, u8 32] ++ ((itS ((o.length : Int) + 1)) ++ [u8 32, u8 105, u8 115, u8 110, u8 39, u8 116, u8 32, u8 97, u8 108, u8 108, u8 32, u8 116, u8 104, u8 101, u8 114, u8 101]))]
def roRd460_1 (To : List (LB × LB)) (Tk : Int) (s : LB) (o : List (LB × LB)) : List Value := [rwG prC o, rwS ([] : List LB), rwG prC (o ++ [((pv s).1, (pv s).2)]), rwS ([] : List LB), rwS ([] : List LB), rwS ([] : List LB), rwS ([] : List LB), rwS ([] : List LB)]
def epRd460 (st : Nat × LB × List (LB × LB)) : LA := if st.1 = 0 then epRd460_0 else epRd460_1
def hpRd460 (st : Nat × LB × List (LB × LB)) : LE := if st.1 = 0 then hpRd460_0 else hpRd460_1
def nuRd460 (To : List (LB × LB)) (Tk : Int) (st : Nat × LB × List (LB × LB)) : List Value := if st.1 = 0 then nuRd460_0 To Tk (st.2.1) (st.2.2) else nuRd460_1 To Tk (st.2.1) (st.2.2)
def roRd460 (To : List (LB × LB)) (Tk : Int) (st : Nat × LB × List (LB × LB)) : List Value := if st.1 = 0 then roRd460_0 To Tk (st.2.1) (st.2.2) else roRd460_1 To Tk (st.2.1) (st.2.2)
theorem onRd460 (To : List (LB × LB)) (Tk : Int) (st : Nat × LB × List (LB × LB)) : ∀ j, (nuL (nuRd460 To Tk st) j).oneCell' = true := by
  intro j
  unfold nuRd460
  by_cases g0 : st.1 = 0
  · rw [if_pos g0]; exact nuL_one (l := nuRd460_0 To Tk (st.2.1) (st.2.2)) rfl j
  rw [if_neg g0]
  exact nuL_one (l := nuRd460_1 To Tk (st.2.1) (st.2.2)) rfl j
theorem ebRd460 (st : Nat × LB × List (LB × LB)) : (lfB (epRd460 st) && lfC keepRd460) = true := by
  unfold epRd460
  by_cases g0 : st.1 = 0
  · rw [if_pos g0]; rfl
  rw [if_neg g0]
  rfl
noncomputable def DRd460 (To : List (LB × LB)) (Tk : Int) (st : Nat × LB × List (LB × LB)) (X : Nat → Value) : Cx := cx (nuX (nuRd460 To Tk st) (rX (roRd460 To Tk st) X)) (nuX_one (onRd460 To Tk st)) 1 laidE laidE_stab
def InvRd460 (To : List (LB × LB)) (Tk : Int) (st : Nat × LB × List (LB × LB)) : Prop := ((st.2.1).length ≤ 60000) ∧ ((st.2.2) ++ (prS (st.2.1)).1 = To) ∧ ((prS (st.2.1)).2 = Tk) ∧ (To.length ≤ 40) ∧ ((st.1) = 0 → (st.2.2) = []) ∧ ((st.1) = 1 → 1 ≤ (st.2.2).length) ∧ ((st.1) < 2)
abbrev CjRd460 (To : List (LB × LB)) (Tk : Int) (tag : Nat) (s : LB) (o : List (LB × LB)) : Prop := (s.length ≤ 60000) ∧ (o ++ (prS s).1 = To) ∧ ((prS s).2 = Tk) ∧ (To.length ≤ 40) ∧ (tag = 0 → o = []) ∧ (tag = 1 → 1 ≤ o.length) ∧ (tag < 2)
theorem mkIRd460 (To : List (LB × LB)) (Tk : Int) (tag : Nat) (s : LB) (o : List (LB × LB)) (h : CjRd460 To Tk tag s o) : InvRd460 To Tk (tag, s, o) := h
theorem unIRd460 (To : List (LB × LB)) (Tk : Int) (tag : Nat) (s : LB) (o : List (LB × LB)) (h : InvRd460 To Tk (tag, s, o)) : (s.length ≤ 60000) ∧ (o ++ (prS s).1 = To) ∧ ((prS s).2 = Tk) ∧ (To.length ≤ 40) ∧ (tag = 0 → o = []) ∧ (tag = 1 → 1 ≤ o.length) ∧ (tag < 2) := h
def muRd460 (To : List (LB × LB)) (Tk : Int) (st : Nat × LB × List (LB × LB)) : Nat := (st.2.1).length
abbrev RHRd460 (To : List (LB × LB)) (Tk : Int) (E' : Cx) (ex' : Ex) (epx' : LA) (hpx' : LE) (st : Nat × LB × List (LB × LB)) (X : Nat → Value) : Prop := RoundH E' bodyRd460 keepRd460 38 ex' 4 460 461 520 epRd460 hpRd460 epx' hpx' (InvRd460 To Tk) (muRd460 To Tk) (DRd460 To Tk) st X
theorem sLRd460_0 (To : List (LB × LB)) (Tk : Int) (s : LB) (o : List (LB × LB)) {X : Nat → Value} {tb : Tab} {L : List LF} (y : Nat × LB × List (LB × LB)) {th : LA} {sg : List (Nat × Nat)} (hall : AllOk (cx (nuX (nuRd460_0 To Tk s o) (rX (roRd460_0 To Tk s o) X)) (nuX_one (nuL_one (l := nuRd460_0 To Tk s o) rfl)) 1 laidE laidE_stab) tb) (hlp : LpOk (cx (nuX (nuRd460_0 To Tk s o) (rX (roRd460_0 To Tk s o) X)) (nuX_one (nuL_one (l := nuRd460_0 To Tk s o) rfl)) 1 laidE laidE_stab) L bodyRd460) (hng : tb.ng = 4) (hy : InvRd460 To Tk y) (lt : muRd460 To Tk y < muRd460 To Tk (0, s, o)) (ht : ThOk (cx (nuX (nuRd460_0 To Tk s o) (rX (roRd460_0 To Tk s o) X)) (nuX_one (nuL_one (l := nuRd460_0 To Tk s o) rfl)) 1 laidE laidE_stab) (DRd460 To Tk y X) th) (run : okRdH (code tb 4000 L bodyRd460 (envOf (headOf epRd460_0 keepRd460) 38) ⟨lhSet hpRd460_0 .leaf, 461, 0, 0⟩) .normal keepRd460 38 520 th sg 460 461 (epRd460 y) (hpRd460 y) = true) : RHRd460 To Tk E' x' e' h' (0, s, o) X :=
  RoundH.next (tb := tb) (L := L) (f := 4000) y hall hlp hng hy lt ht run
theorem lLRd460_0 (To : List (LB × LB)) (Tk : Int) (s : LB) (o : List (LB × LB)) {X : Nat → Value} {tb : Tab} {L : List LF} {th : LA} {sg : List (Nat × Nat)} (hne : exB x' .normal = false) (hall : AllOk (cx (nuX (nuRd460_0 To Tk s o) (rX (roRd460_0 To Tk s o) X)) (nuX_one (nuL_one (l := nuRd460_0 To Tk s o) rfl)) 1 laidE laidE_stab) tb) (hlp : LpOk (cx (nuX (nuRd460_0 To Tk s o) (rX (roRd460_0 To Tk s o) X)) (nuX_one (nuL_one (l := nuRd460_0 To Tk s o) rfl)) 1 laidE laidE_stab) L bodyRd460) (hng : tb.ng = 4) (ht : ThOk (cx (nuX (nuRd460_0 To Tk s o) (rX (roRd460_0 To Tk s o) X)) (nuX_one (nuL_one (l := nuRd460_0 To Tk s o) rfl)) 1 laidE laidE_stab) E' th) (run : okRdH (code tb 4000 L bodyRd460 (envOf (headOf epRd460_0 keepRd460) 38) ⟨lhSet hpRd460_0 .leaf, 461, 0, 0⟩) x' keepRd460 38 520 th sg 460 520 e' h' = true) : RHRd460 To Tk E' x' e' h' (0, s, o) X :=
  RoundH.leave (tb := tb) (L := L) (f := 4000) hall hlp hng hne ht run
noncomputable abbrev RNRd460_0 (h : LK) (x : Ex) (th : LA) (sg : List (Nat × Nat)) (m : Nat) (ep : LA) (hp : LE) : Bool := okRdH (code (tbl h) 4000 [] bodyRd460 (envOf (headOf epRd460_0 keepRd460) 38) ⟨lhSet hpRd460_0 .leaf, 461, 0, 0⟩) x keepRd460 38 520 th sg 460 m ep hp
theorem stRd460_0 (To : List (LB × LB)) (Tk : Int) (s : LB) (o : List (LB × LB)) {X : Nat → Value} {h : LK} (y : Nat × LB × List (LB × LB)) {th : LA} {sg : List (Nat × Nat)} (ho : ∀ a' r', (a', r') ∈ h → HOk (cx (nuX (nuRd460_0 To Tk s o) (rX (roRd460_0 To Tk s o) X)) (nuX_one (nuL_one (l := nuRd460_0 To Tk s o) rfl)) 1 laidE laidE_stab) a' r') (hy : InvRd460 To Tk y) (lt : muRd460 To Tk y < muRd460 To Tk (0, s, o)) (ht : ThOk (cx (nuX (nuRd460_0 To Tk s o) (rX (roRd460_0 To Tk s o) X)) (nuX_one (nuL_one (l := nuRd460_0 To Tk s o) rfl)) 1 laidE laidE_stab) (DRd460 To Tk y X) th) (run : RNRd460_0 h .normal th sg 461 (epRd460 y) (hpRd460 y) = true) : RHRd460 To Tk E' x' e' h' (0, s, o) X :=
  RoundH.next (tb := tbl h) (L := []) (f := 4000) y ((tabkOk _ _).hyps ho) (LpOk.nil _) rfl hy lt ht run
theorem lvRd460_0 (To : List (LB × LB)) (Tk : Int) (s : LB) (o : List (LB × LB)) {X : Nat → Value} {h : LK} {th : LA} {sg : List (Nat × Nat)} (hne : exB x' .normal = false) (ho : ∀ a' r', (a', r') ∈ h → HOk (cx (nuX (nuRd460_0 To Tk s o) (rX (roRd460_0 To Tk s o) X)) (nuX_one (nuL_one (l := nuRd460_0 To Tk s o) rfl)) 1 laidE laidE_stab) a' r') (ht : ThOk (cx (nuX (nuRd460_0 To Tk s o) (rX (roRd460_0 To Tk s o) X)) (nuX_one (nuL_one (l := nuRd460_0 To Tk s o) rfl)) 1 laidE laidE_stab) E' th) (run : RNRd460_0 h x' th sg 520 e' h' = true) : RHRd460 To Tk E' x' e' h' (0, s, o) X :=
  RoundH.leave (tb := tbl h) (L := []) (f := 4000) ((tabkOk _ _).hyps ho) (LpOk.nil _) rfl hne ht run
theorem sLRd460_1 (To : List (LB × LB)) (Tk : Int) (s : LB) (o : List (LB × LB)) {X : Nat → Value} {tb : Tab} {L : List LF} (y : Nat × LB × List (LB × LB)) {th : LA} {sg : List (Nat × Nat)} (hall : AllOk (cx (nuX (nuRd460_1 To Tk s o) (rX (roRd460_1 To Tk s o) X)) (nuX_one (nuL_one (l := nuRd460_1 To Tk s o) rfl)) 1 laidE laidE_stab) tb) (hlp : LpOk (cx (nuX (nuRd460_1 To Tk s o) (rX (roRd460_1 To Tk s o) X)) (nuX_one (nuL_one (l := nuRd460_1 To Tk s o) rfl)) 1 laidE laidE_stab) L bodyRd460) (hng : tb.ng = 4) (hy : InvRd460 To Tk y) (lt : muRd460 To Tk y < muRd460 To Tk (1, s, o)) (ht : ThOk (cx (nuX (nuRd460_1 To Tk s o) (rX (roRd460_1 To Tk s o) X)) (nuX_one (nuL_one (l := nuRd460_1 To Tk s o) rfl)) 1 laidE laidE_stab) (DRd460 To Tk y X) th) (run : okRdH (code tb 4000 L bodyRd460 (envOf (headOf epRd460_1 keepRd460) 38) ⟨lhSet hpRd460_1 .leaf, 461, 0, 0⟩) .normal keepRd460 38 520 th sg 460 461 (epRd460 y) (hpRd460 y) = true) : RHRd460 To Tk E' x' e' h' (1, s, o) X :=
  RoundH.next (tb := tb) (L := L) (f := 4000) y hall hlp hng hy lt ht run
theorem lLRd460_1 (To : List (LB × LB)) (Tk : Int) (s : LB) (o : List (LB × LB)) {X : Nat → Value} {tb : Tab} {L : List LF} {th : LA} {sg : List (Nat × Nat)} (hne : exB x' .normal = false) (hall : AllOk (cx (nuX (nuRd460_1 To Tk s o) (rX (roRd460_1 To Tk s o) X)) (nuX_one (nuL_one (l := nuRd460_1 To Tk s o) rfl)) 1 laidE laidE_stab) tb) (hlp : LpOk (cx (nuX (nuRd460_1 To Tk s o) (rX (roRd460_1 To Tk s o) X)) (nuX_one (nuL_one (l := nuRd460_1 To Tk s o) rfl)) 1 laidE laidE_stab) L bodyRd460) (hng : tb.ng = 4) (ht : ThOk (cx (nuX (nuRd460_1 To Tk s o) (rX (roRd460_1 To Tk s o) X)) (nuX_one (nuL_one (l := nuRd460_1 To Tk s o) rfl)) 1 laidE laidE_stab) E' th) (run : okRdH (code tb 4000 L bodyRd460 (envOf (headOf epRd460_1 keepRd460) 38) ⟨lhSet hpRd460_1 .leaf, 461, 0, 0⟩) x' keepRd460 38 520 th sg 460 520 e' h' = true) : RHRd460 To Tk E' x' e' h' (1, s, o) X :=
  RoundH.leave (tb := tb) (L := L) (f := 4000) hall hlp hng hne ht run
noncomputable abbrev RNRd460_1 (h : LK) (x : Ex) (th : LA) (sg : List (Nat × Nat)) (m : Nat) (ep : LA) (hp : LE) : Bool := okRdH (code (tbl h) 4000 [] bodyRd460 (envOf (headOf epRd460_1 keepRd460) 38) ⟨lhSet hpRd460_1 .leaf, 461, 0, 0⟩) x keepRd460 38 520 th sg 460 m ep hp
theorem stRd460_1 (To : List (LB × LB)) (Tk : Int) (s : LB) (o : List (LB × LB)) {X : Nat → Value} {h : LK} (y : Nat × LB × List (LB × LB)) {th : LA} {sg : List (Nat × Nat)} (ho : ∀ a' r', (a', r') ∈ h → HOk (cx (nuX (nuRd460_1 To Tk s o) (rX (roRd460_1 To Tk s o) X)) (nuX_one (nuL_one (l := nuRd460_1 To Tk s o) rfl)) 1 laidE laidE_stab) a' r') (hy : InvRd460 To Tk y) (lt : muRd460 To Tk y < muRd460 To Tk (1, s, o)) (ht : ThOk (cx (nuX (nuRd460_1 To Tk s o) (rX (roRd460_1 To Tk s o) X)) (nuX_one (nuL_one (l := nuRd460_1 To Tk s o) rfl)) 1 laidE laidE_stab) (DRd460 To Tk y X) th) (run : RNRd460_1 h .normal th sg 461 (epRd460 y) (hpRd460 y) = true) : RHRd460 To Tk E' x' e' h' (1, s, o) X :=
  RoundH.next (tb := tbl h) (L := []) (f := 4000) y ((tabkOk _ _).hyps ho) (LpOk.nil _) rfl hy lt ht run
theorem lvRd460_1 (To : List (LB × LB)) (Tk : Int) (s : LB) (o : List (LB × LB)) {X : Nat → Value} {h : LK} {th : LA} {sg : List (Nat × Nat)} (hne : exB x' .normal = false) (ho : ∀ a' r', (a', r') ∈ h → HOk (cx (nuX (nuRd460_1 To Tk s o) (rX (roRd460_1 To Tk s o) X)) (nuX_one (nuL_one (l := nuRd460_1 To Tk s o) rfl)) 1 laidE laidE_stab) a' r') (ht : ThOk (cx (nuX (nuRd460_1 To Tk s o) (rX (roRd460_1 To Tk s o) X)) (nuX_one (nuL_one (l := nuRd460_1 To Tk s o) rfl)) 1 laidE laidE_stab) E' th) (run : RNRd460_1 h x' th sg 520 e' h' = true) : RHRd460 To Tk E' x' e' h' (1, s, o) X :=
  RoundH.leave (tb := tbl h) (L := []) (f := 4000) ((tabkOk _ _).hyps ho) (LpOk.nil _) rfl hne ht run
def hyRd460_p0 : LK := [(.rn, .x 2000000), (.bytes [], .x 1), (.bin .neq (.x 0) (.s 0 0), .b true), (.call 19 [.x 0], .tu [.x 2, .x 3, .ni]), (.call 19 [.x 3], .tu [.x 4, .x 5, .ni]), (.len (.x 5), .x 6), (.bin .lss (.x 6) (.x 2), .b false), (.bin .sub (.x 6) (.x 2), .x 7), (.bin .lss (.x 7) (.x 4), .b false), (.sub (.x 5) none (some (.x 2)), .x 8), (.bin .add (.x 2) (.x 4), .x 9), (.sub (.x 5) (some (.x 2)) (some (.x 9)), .x 10), (.sub (.x 5) (some (.x 9)) none, .x 11), (.ra (.x 2000000) [.x 8, .x 10], .x 2000001), (.rf (.x 2000001) 2 32, .b true)]
theorem runRd460_p0 : RNRd460_0 hyRd460_p0 .normal [(0, .x 11), (2000000, .x 2000001)] [(460, 465)] 461 epRd460_1 hpRd460_1 = true := by kernel_rfl
theorem nxRd460_p0 (To : List (LB × LB)) (Tk : Int) (s : LB) (o : List (LB × LB)) (X : Nat → Value) (hI : InvRd460 To Tk (0, s, o)) (h0 : ¬ ((s.length : Int) = 0)) (h1 : ¬ (lkL s)) (h2 : ¬ (lkL (rsL s))) (h3 : ¬ (((rsL (rsL s)).length : Int) < (vL s))) (h4 : ¬ (((rsL (rsL s)).length : Int) - (vL s) < (vL (rsL s)))) : RHRd460 To Tk E' x' e' h' (0, s, o) X := by
  obtain ⟨i0, i1, i2, i3, i4, i5, it⟩ := unIRd460 To Tk 0 s o hI
  have hol : o.length ≤ To.length := by rw [← i1, List.length_append]; omega
  have hv1 := vL_lo s; have hv2 := vL_lo (rsL s)
  have := rsL_len (s := s) (by assumption); have := hL_lo s
  have := rsL_len (s := (rsL s)) (by assumption); have := hL_lo (rsL s)
  have hcu := rd_rec (s := s) (rest := prs s) (o := []) (To := To) (Tk := Tk) (pk0 (by assumption) (by assumption) (by omega)) rfl (by rw [i4 rfl] at i1; exact i1) i2
  have hpl := pk_len (s := s) (pk0 (by assumption) (by assumption) (by omega))
  refine stRd460_0 To Tk s o (h := hyRd460_p0) (1, (prs s), (([] : List (LB × LB)) ++ [((pv s).1, (pv s).2)])) ?_ (mkIRd460 To Tk 1 (prs s) (([] : List (LB × LB)) ++ [((pv s).1, (pv s).2)]) ⟨by omega, hcu.1, hcu.2, i3, fun h => by omega, fun _ => by simp, by omega⟩) (by show (prs s).length < s.length; omega) (thXv (v := St' (prs s)) rfl rfl (thXv (v := rwG prC (([] : List (LB × LB)) ++ [((pv s).1, (pv s).2)])) rfl rfl (thNil))) runRd460_p0
  unfold hyRd460_p0
  exact hc (kRn (denX rfl)) <|
   hc (kBytesB (bs := ([] : LB)) .nil (denX rfl)) <|
   hc (kNeS (isX rfl) (isSx (l := ([] : LB)) 0 0 rfl) (bnT (nilF (by omega)))) <|
   hc (hokLng (isX rfl) (denLn (by assumption) (denT3 (denX rfl) (denX rfl) denNi)) (by omega)) <|
   hc (hokLng (isX rfl) (denLn (by assumption) (denT3 (denX rfl) (denX rfl) denNi)) (by omega)) <|
   hc (lnV rfl rfl (by omega)) <|
   hc (ltF rfl rfl (by omega)) <|
   hc (sbX rfl rfl rfl (by omega)) <|
   hc (ltF rfl rfl (by omega)) <|
   hc (kMid (P := 0) (Q := (vL s)) (isX rfl) (.inl ⟨rfl, rfl⟩) (.inr ⟨_, _, rfl, (isX rfl)⟩) (by omega) (by omega) (by omega) (denX (congrArg (fun l => St' l) pv1))) <|
   hc (adX rfl rfl rfl (by omega)) <|
   hc (kMid (P := (vL s)) (Q := (vL (rsL s)) + (vL s)) (isX rfl) (.inr ⟨_, _, rfl, (isX rfl)⟩) (.inr ⟨_, _, rfl, (isX rfl)⟩) (by omega) (by omega) (by omega) (denX (congrArg (fun l => St' l) (pv2 (by omega))))) <|
   hc (kMid (P := (vL (rsL s)) + (vL s)) (Q := ((rsL (rsL s)).length : Int)) (isX rfl) (.inr ⟨_, _, rfl, (isX rfl)⟩) (.inl ⟨rfl, rfl⟩) (by omega) (by omega) (by omega) (denX (congrArg (fun l => St' l) (pv3 (by omega))))) <|
   hc (kRaG (f := prC) (l := ([] : List (LB × LB))) (a := ((pv s).1, (pv s).2)) (isX rfl) (isL2 (isX rfl) (isX rfl)) (denX rfl)) <|
   hc (kRfG prC_len (isX rfl) (by first | omega | (simp <;> omega)) (by first | omega | (simp <;> omega))) <|
   hnil
def hyRd460_p1 : LK := [(.rn, .x 2000002), (.bytes [], .x 12), (.bin .neq (.x 0) (.s 0 0), .b false)]
theorem runRd460_p1 : RNRd460_0 hyRd460_p1 (.exit 0) [] [] 520 [(4, .nils)] [] = true := by kernel_rfl
def hyRd460_p2 : LK := [(.rn, .x 2000003), (.bytes [], .x 13), (.bin .neq (.x 0) (.s 0 0), .b true), (.call 19 [.x 0], .tu [.i .i64 (.ofNat 0), .s 0 0, .ifc 34 (.i .i64 (.ofNat 11))])]
def lh22 : LH := ⟨4, 491, 501, [(463, .b ⟨34, .l [.i .i64 (.ofNat 0)], 0, 0, 0, false, false⟩)], [(463, .b ⟨34, .l [.i .i64 (.ofNat 11)], 0, 0, 0, false, false⟩)]⟩
def lf22 : LF := ⟨8888888, 0, [(0, .ifc 34 (.i .i64 (.ofNat 11))), (1, .ifc 48 (.p 463 0))], [], .normal, [(0, .b true)], some lh22⟩
noncomputable def tbRd460_p2 : Tab := addLps ((tbl hyRd460_p2)) 14 fi14 [lf22]
def LRd460_p2 : List LF := []
theorem runRd460_p2 : okRdH (code tbRd460_p2 4000 LRd460_p2 bodyRd460 (envOf (headOf epRd460_0 keepRd460) 38) ⟨lhSet hpRd460_0 .leaf, 461, 0, 0⟩) .ret keepRd460 38 520 [(0, .s 22 37955776458944960963913678488088589788834095522472304)] [] 460 520 [(2, .nils), (3, .ifc 56 (.ag [.i .i64 (.ofNat 11), .x 0]))] [] = true := by kernel_rfl
def hyRd460_p3 : LK := [(.rn, .x 2000004), (.bytes [], .x 14), (.bin .neq (.x 0) (.s 0 0), .b true), (.call 19 [.x 0], .tu [.x 15, .x 16, .ni]), (.call 19 [.x 16], .tu [.i .i64 (.ofNat 0), .s 0 0, .ifc 34 (.i .i64 (.ofNat 11))])]
def lh23 : LH := ⟨4, 491, 501, [(463, .b ⟨34, .l [.i .i64 (.ofNat 0)], 0, 0, 0, false, false⟩)], [(463, .b ⟨34, .l [.i .i64 (.ofNat 11)], 0, 0, 0, false, false⟩)]⟩
def lf23 : LF := ⟨8888888, 0, [(0, .ifc 34 (.i .i64 (.ofNat 11))), (1, .ifc 48 (.p 463 0))], [], .normal, [(0, .b true)], some lh23⟩
noncomputable def tbRd460_p3 : Tab := addLps ((tbl hyRd460_p3)) 14 fi14 [lf23]
def LRd460_p3 : List LF := []
theorem runRd460_p3 : okRdH (code tbRd460_p3 4000 LRd460_p3 bodyRd460 (envOf (headOf epRd460_0 keepRd460) 38) ⟨lhSet hpRd460_0 .leaf, 461, 0, 0⟩) .ret keepRd460 38 520 [(0, .s 22 37955776458944960963913678488088589788834095522472304)] [] 460 520 [(2, .nils), (3, .ifc 56 (.ag [.i .i64 (.ofNat 11), .x 0]))] [] = true := by kernel_rfl
def hyRd460_p4 : LK := [(.rn, .x 2000005), (.bytes [], .x 17), (.bin .neq (.x 0) (.s 0 0), .b true), (.call 19 [.x 0], .tu [.x 18, .x 19, .ni]), (.call 19 [.x 19], .tu [.x 20, .x 21, .ni]), (.len (.x 21), .x 22), (.bin .lss (.x 22) (.x 18), .b true)]
def lh25 : LH := ⟨4, 491, 501, [(463, .b ⟨34, .l [.i .i64 (.ofNat 0)], 0, 0, 0, false, false⟩)], [(463, .b ⟨34, .l [.i .i64 (.ofNat 11)], 0, 0, 0, false, false⟩)]⟩
def lf25 : LF := ⟨8888888, 0, [(0, .ifc 34 (.i .i64 (.ofNat 11))), (1, .ifc 48 (.p 463 0))], [], .normal, [(0, .b true)], some lh25⟩
noncomputable def tbRd460_p4 : Tab := addLps ((tbl hyRd460_p4)) 14 fi14 [lf25]
def LRd460_p4 : List LF := []
theorem runRd460_p4 : okRdH (code tbRd460_p4 4000 LRd460_p4 bodyRd460 (envOf (headOf epRd460_0 keepRd460) 38) ⟨lhSet hpRd460_0 .leaf, 461, 0, 0⟩) .ret keepRd460 38 520 [(0, .s 22 37955776458944960963913678488088589788834095522472304)] [] 460 520 [(2, .nils), (3, .ifc 56 (.ag [.i .i64 (.ofNat 11), .x 0]))] [] = true := by kernel_rfl
def hyRd460_p5 : LK := [(.rn, .x 2000006), (.bytes [], .x 23), (.bin .neq (.x 0) (.s 0 0), .b true), (.call 19 [.x 0], .tu [.x 24, .x 25, .ni]), (.call 19 [.x 25], .tu [.x 26, .x 27, .ni]), (.len (.x 27), .x 28), (.bin .lss (.x 28) (.x 24), .b false), (.bin .sub (.x 28) (.x 24), .x 29), (.bin .lss (.x 29) (.x 26), .b true)]
def lh26 : LH := ⟨4, 491, 501, [(463, .b ⟨34, .l [.i .i64 (.ofNat 0)], 0, 0, 0, false, false⟩)], [(463, .b ⟨34, .l [.i .i64 (.ofNat 11)], 0, 0, 0, false, false⟩)]⟩
def lf26 : LF := ⟨8888888, 0, [(0, .ifc 34 (.i .i64 (.ofNat 11))), (1, .ifc 48 (.p 463 0))], [], .normal, [(0, .b true)], some lh26⟩
noncomputable def tbRd460_p5 : Tab := addLps ((tbl hyRd460_p5)) 14 fi14 [lf26]
def LRd460_p5 : List LF := []
theorem runRd460_p5 : okRdH (code tbRd460_p5 4000 LRd460_p5 bodyRd460 (envOf (headOf epRd460_0 keepRd460) 38) ⟨lhSet hpRd460_0 .leaf, 461, 0, 0⟩) .ret keepRd460 38 520 [(0, .s 22 37955776458944960963913678488088589788834095522472304)] [] 460 520 [(2, .nils), (3, .ifc 56 (.ag [.i .i64 (.ofNat 11), .x 0]))] [] = true := by kernel_rfl
def hyRd460_p6 : LK := [(.rn, .x 2000001), (.bytes [], .x 1), (.bin .neq (.x 0) (.s 0 0), .b true), (.rl (.x 2000000) 2, .x 2), (.bin .eql (.x 2) (.i .i64 (.ofNat 200)), .b false), (.call 19 [.x 0], .tu [.x 3, .x 4, .ni]), (.call 19 [.x 4], .tu [.x 5, .x 6, .ni]), (.len (.x 6), .x 7), (.bin .lss (.x 7) (.x 3), .b false), (.bin .sub (.x 7) (.x 3), .x 8), (.bin .lss (.x 8) (.x 5), .b false), (.sub (.x 6) none (some (.x 3)), .x 9), (.bin .add (.x 3) (.x 5), .x 10), (.sub (.x 6) (some (.x 3)) (some (.x 10)), .x 11), (.sub (.x 6) (some (.x 10)) none, .x 12), (.ra (.x 2000000) [.x 9, .x 11], .x 2000002), (.rf (.x 2000002) 2 32, .b true)]
theorem runRd460_p6 : RNRd460_1 hyRd460_p6 .normal [(0, .x 12), (2000000, .x 2000002)] [(460, 465)] 461 epRd460_1 hpRd460_1 = true := by kernel_rfl
theorem nxRd460_p6 (To : List (LB × LB)) (Tk : Int) (s : LB) (o : List (LB × LB)) (X : Nat → Value) (hI : InvRd460 To Tk (1, s, o)) (h0 : ¬ ((s.length : Int) = 0)) (h2 : ¬ (lkL s)) (h3 : ¬ (lkL (rsL s))) (h4 : ¬ (((rsL (rsL s)).length : Int) < (vL s))) (h5 : ¬ (((rsL (rsL s)).length : Int) - (vL s) < (vL (rsL s)))) : RHRd460 To Tk E' x' e' h' (1, s, o) X := by
  obtain ⟨i0, i1, i2, i3, i4, i5, it⟩ := unIRd460 To Tk 1 s o hI
  have hol : o.length ≤ To.length := by rw [← i1, List.length_append]; omega
  have hv1 := vL_lo s; have hv2 := vL_lo (rsL s)
  have := rsL_len (s := s) (by assumption); have := hL_lo s
  have := rsL_len (s := (rsL s)) (by assumption); have := hL_lo (rsL s)
  have hcu := rd_rec (s := s) (rest := prs s) (To := To) (Tk := Tk) (pk0 (by assumption) (by assumption) (by omega)) rfl i1 i2
  have hpl := pk_len (s := s) (pk0 (by assumption) (by assumption) (by omega))
  refine stRd460_1 To Tk s o (h := hyRd460_p6) (1, (prs s), (o ++ [((pv s).1, (pv s).2)])) ?_ (mkIRd460 To Tk 1 (prs s) (o ++ [((pv s).1, (pv s).2)]) ⟨by omega, hcu.1, hcu.2, i3, fun h => by omega, fun _ => by simp, by omega⟩) (by show (prs s).length < s.length; omega) (thXv (v := St' (prs s)) rfl rfl (thXv (v := rwG prC (o ++ [((pv s).1, (pv s).2)])) rfl rfl (thNil))) runRd460_p6
  unfold hyRd460_p6
  exact hc (kRn (denX rfl)) <|
   hc (kBytesB (bs := ([] : LB)) .nil (denX rfl)) <|
   hc (kNeS (isX rfl) (isSx (l := ([] : LB)) 0 0 rfl) (bnT (nilF (by omega)))) <|
   hc (kRlG prC_len (isX rfl) (denX rfl) (by first | omega | (simp <;> omega))) <|
   hc (eqcF rfl (by omega)) <|
   hc (hokLng (isX rfl) (denLn (by assumption) (denT3 (denX rfl) (denX rfl) denNi)) (by omega)) <|
   hc (hokLng (isX rfl) (denLn (by assumption) (denT3 (denX rfl) (denX rfl) denNi)) (by omega)) <|
   hc (lnV rfl rfl (by omega)) <|
   hc (ltF rfl rfl (by omega)) <|
   hc (sbX rfl rfl rfl (by omega)) <|
   hc (ltF rfl rfl (by omega)) <|
   hc (kMid (P := 0) (Q := (vL s)) (isX rfl) (.inl ⟨rfl, rfl⟩) (.inr ⟨_, _, rfl, (isX rfl)⟩) (by omega) (by omega) (by omega) (denX (congrArg (fun l => St' l) pv1))) <|
   hc (adX rfl rfl rfl (by omega)) <|
   hc (kMid (P := (vL s)) (Q := (vL (rsL s)) + (vL s)) (isX rfl) (.inr ⟨_, _, rfl, (isX rfl)⟩) (.inr ⟨_, _, rfl, (isX rfl)⟩) (by omega) (by omega) (by omega) (denX (congrArg (fun l => St' l) (pv2 (by omega))))) <|
   hc (kMid (P := (vL (rsL s)) + (vL s)) (Q := ((rsL (rsL s)).length : Int)) (isX rfl) (.inr ⟨_, _, rfl, (isX rfl)⟩) (.inl ⟨rfl, rfl⟩) (by omega) (by omega) (by omega) (denX (congrArg (fun l => St' l) (pv3 (by omega))))) <|
   hc (kRaG (f := prC) (l := o) (a := ((pv s).1, (pv s).2)) (isX rfl) (isL2 (isX rfl) (isX rfl)) (denX rfl)) <|
   hc (kRfG prC_len (isX rfl) (by first | omega | (simp <;> omega)) (by first | omega | (simp <;> omega))) <|
   hnil
def hyRd460_p7 : LK := [(.rn, .x 2000003), (.bytes [], .x 13), (.bin .neq (.x 0) (.s 0 0), .b false)]
theorem runRd460_p7 : RNRd460_1 hyRd460_p7 (.exit 0) [(2000000, .x 2000000)] [(460, 460)] 520 [(4, .sr 460)] [(460, .r 2000000 26 2 false)] = true := by kernel_rfl
def hyRd460_p8 : LK := [(.rn, .x 2000004), (.bytes [], .x 14), (.bin .neq (.x 0) (.s 0 0), .b true), (.rl (.x 2000000) 2, .x 15), (.bin .eql (.x 15) (.i .i64 (.ofNat 200)), .b false), (.call 19 [.x 0], .tu [.i .i64 (.ofNat 0), .s 0 0, .ifc 34 (.i .i64 (.ofNat 11))]), (.bin .add (.x 15) (.i .i64 (.ofNat 1)), .x 16), (.call 15 [.x 16], .x 17), (.bin .add (.s 5 139358462320) (.x 17), .x 18), (.bin .add (.x 18) (.s 16 134846006215187802595471845592415824160), .x 19)]
def lh27 : LH := ⟨4, 491, 501, [(463, .b ⟨34, .l [.i .i64 (.ofNat 0)], 0, 0, 0, false, false⟩)], [(463, .b ⟨34, .l [.i .i64 (.ofNat 11)], 0, 0, 0, false, false⟩)]⟩
def lf27 : LF := ⟨8888888, 0, [(0, .ifc 34 (.i .i64 (.ofNat 11))), (1, .ifc 48 (.p 463 0))], [], .normal, [(0, .b true)], some lh27⟩
noncomputable def tbRd460_p8 : Tab := addLps ((tbl hyRd460_p8)) 14 fi14 [lf27]
def LRd460_p8 : List LF := []
theorem runRd460_p8 : okRdH (code tbRd460_p8 4000 LRd460_p8 bodyRd460 (envOf (headOf epRd460_1 keepRd460) 38) ⟨lhSet hpRd460_1 .leaf, 461, 0, 0⟩) .ret keepRd460 38 520 [(0, .x 19)] [] 460 520 [(2, .nils), (3, .ifc 56 (.ag [.i .i64 (.ofNat 11), .x 0]))] [] = true := by kernel_rfl
def hyRd460_p9 : LK := [(.rn, .x 2000005), (.bytes [], .x 20), (.bin .neq (.x 0) (.s 0 0), .b true), (.rl (.x 2000000) 2, .x 21), (.bin .eql (.x 21) (.i .i64 (.ofNat 200)), .b false), (.call 19 [.x 0], .tu [.x 22, .x 23, .ni]), (.call 19 [.x 23], .tu [.i .i64 (.ofNat 0), .s 0 0, .ifc 34 (.i .i64 (.ofNat 11))]), (.bin .add (.x 21) (.i .i64 (.ofNat 1)), .x 24), (.call 15 [.x 24], .x 25), (.bin .add (.s 5 139358462320) (.x 25), .x 26), (.bin .add (.x 26) (.s 16 134846006215187802595471845592415824160), .x 27)]
def lh28 : LH := ⟨4, 491, 501, [(463, .b ⟨34, .l [.i .i64 (.ofNat 0)], 0, 0, 0, false, false⟩)], [(463, .b ⟨34, .l [.i .i64 (.ofNat 11)], 0, 0, 0, false, false⟩)]⟩
def lf28 : LF := ⟨8888888, 0, [(0, .ifc 34 (.i .i64 (.ofNat 11))), (1, .ifc 48 (.p 463 0))], [], .normal, [(0, .b true)], some lh28⟩
noncomputable def tbRd460_p9 : Tab := addLps ((tbl hyRd460_p9)) 14 fi14 [lf28]
def LRd460_p9 : List LF := []
theorem runRd460_p9 : okRdH (code tbRd460_p9 4000 LRd460_p9 bodyRd460 (envOf (headOf epRd460_1 keepRd460) 38) ⟨lhSet hpRd460_1 .leaf, 461, 0, 0⟩) .ret keepRd460 38 520 [(0, .x 27)] [] 460 520 [(2, .nils), (3, .ifc 56 (.ag [.i .i64 (.ofNat 11), .x 0]))] [] = true := by kernel_rfl
def hyRd460_p10 : LK := [(.rn, .x 2000006), (.bytes [], .x 28), (.bin .neq (.x 0) (.s 0 0), .b true), (.rl (.x 2000000) 2, .x 29), (.bin .eql (.x 29) (.i .i64 (.ofNat 200)), .b false), (.call 19 [.x 0], .tu [.x 30, .x 31, .ni]), (.call 19 [.x 31], .tu [.x 32, .x 33, .ni]), (.len (.x 33), .x 34), (.bin .lss (.x 34) (.x 30), .b true), (.bin .add (.x 29) (.i .i64 (.ofNat 1)), .x 35), (.call 15 [.x 35], .x 36), (.bin .add (.s 5 139358462320) (.x 36), .x 37), (.bin .add (.x 37) (.s 16 134846006215187802595471845592415824160), .x 38)]
def lh30 : LH := ⟨4, 491, 501, [(463, .b ⟨34, .l [.i .i64 (.ofNat 0)], 0, 0, 0, false, false⟩)], [(463, .b ⟨34, .l [.i .i64 (.ofNat 11)], 0, 0, 0, false, false⟩)]⟩
def lf30 : LF := ⟨8888888, 0, [(0, .ifc 34 (.i .i64 (.ofNat 11))), (1, .ifc 48 (.p 463 0))], [], .normal, [(0, .b true)], some lh30⟩
noncomputable def tbRd460_p10 : Tab := addLps ((tbl hyRd460_p10)) 14 fi14 [lf30]
def LRd460_p10 : List LF := []
theorem runRd460_p10 : okRdH (code tbRd460_p10 4000 LRd460_p10 bodyRd460 (envOf (headOf epRd460_1 keepRd460) 38) ⟨lhSet hpRd460_1 .leaf, 461, 0, 0⟩) .ret keepRd460 38 520 [(0, .x 38)] [] 460 520 [(2, .nils), (3, .ifc 56 (.ag [.i .i64 (.ofNat 11), .x 0]))] [] = true := by kernel_rfl
def hyRd460_p11 : LK := [(.rn, .x 2000007), (.bytes [], .x 39), (.bin .neq (.x 0) (.s 0 0), .b true), (.rl (.x 2000000) 2, .x 40), (.bin .eql (.x 40) (.i .i64 (.ofNat 200)), .b false), (.call 19 [.x 0], .tu [.x 41, .x 42, .ni]), (.call 19 [.x 42], .tu [.x 43, .x 44, .ni]), (.len (.x 44), .x 45), (.bin .lss (.x 45) (.x 41), .b false), (.bin .sub (.x 45) (.x 41), .x 46), (.bin .lss (.x 46) (.x 43), .b true), (.bin .add (.x 40) (.i .i64 (.ofNat 1)), .x 47), (.call 15 [.x 47], .x 48), (.bin .add (.s 5 139358462320) (.x 48), .x 49), (.bin .add (.x 49) (.s 16 134846006215187802595471845592415824160), .x 50)]
def lh31 : LH := ⟨4, 491, 501, [(463, .b ⟨34, .l [.i .i64 (.ofNat 0)], 0, 0, 0, false, false⟩)], [(463, .b ⟨34, .l [.i .i64 (.ofNat 11)], 0, 0, 0, false, false⟩)]⟩
def lf31 : LF := ⟨8888888, 0, [(0, .ifc 34 (.i .i64 (.ofNat 11))), (1, .ifc 48 (.p 463 0))], [], .normal, [(0, .b true)], some lh31⟩
noncomputable def tbRd460_p11 : Tab := addLps ((tbl hyRd460_p11)) 14 fi14 [lf31]
def LRd460_p11 : List LF := []
theorem runRd460_p11 : okRdH (code tbRd460_p11 4000 LRd460_p11 bodyRd460 (envOf (headOf epRd460_1 keepRd460) 38) ⟨lhSet hpRd460_1 .leaf, 461, 0, 0⟩) .ret keepRd460 38 520 [(0, .x 50)] [] 460 520 [(2, .nils), (3, .ifc 56 (.ag [.i .i64 (.ofNat 11), .x 0]))] [] = true := by kernel_rfl
def nuERd460_0 (To : List (LB × LB)) (Tk : Int) : List Value := []
def roERd460_0 (To : List (LB × LB)) (Tk : Int) : List Value := []
noncomputable def ERd460_0 (To : List (LB × LB)) (Tk : Int) : Cx := cx (nuX (nuERd460_0 To Tk) (rX (roERd460_0 To Tk) (fun _ => .bool true))) (nuX_one (nuL_one (l := nuERd460_0 To Tk) rfl)) 1 laidE laidE_stab
theorem roundsRd460_0 (To : List (LB × LB)) (Tk : Int) (x0 : Tk = 0) (x1 : To.length = 0) (st : Nat × LB × List (LB × LB)) (X : Nat → Value) (hI : InvRd460 To Tk st) : RHRd460 To Tk (ERd460_0 To Tk) (.exit 0) [(4, .nils)] [] st X := by
  obtain ⟨tag, s, o⟩ := st
  have hI0 := hI
  obtain ⟨i0, i1, i2, i3, i4, i5, it⟩ := unIRd460 To Tk tag s o hI
  rcases (show tag = 0 ∨ tag = 1 from by omega) with rfl | rfl
  · skip
    have hol : o.length ≤ To.length := by rw [← i1, List.length_append]; omega
    have hv1 := vL_lo s; have hv2 := vL_lo (rsL s)
    by_cases h0 : (s.length : Int) = 0
    · skip
      have hol : o.length ≤ To.length := by rw [← i1, List.length_append]; omega
      have hv1 := vL_lo s; have hv2 := vL_lo (rsL s)
      have hce := rd_end0 (by omega) i1 i2; have hk3 := hce.2
      refine lvRd460_0 To Tk s o (h := hyRd460_p1) rfl ?_ (thNil) runRd460_p1
      unfold hyRd460_p1
      exact hc (kRn (denX rfl)) <|
       hc (kBytesB (bs := ([] : LB)) .nil (denX rfl)) <|
       hc (kNeS (isX rfl) (isSx (l := ([] : LB)) 0 0 rfl) (bnF (nilT (by omega)))) <|
       hnil
    · by_cases h1 : lkL s
      · exfalso; have hce := rd_end1 (by omega) (pk1 (by assumption)) i1 i2; have hk3 := hce.2; omega
      · by_cases h2 : lkL (rsL s)
        · exfalso; have hce := rd_end1 (by omega) (pk2 (by assumption)) i1 i2; have hk3 := hce.2; omega
        · by_cases h3 : ((rsL (rsL s)).length : Int) < (vL s)
          · exfalso; have hce := rd_end1 (by omega) (pk3 (by omega)) i1 i2; have hk3 := hce.2; omega
          · by_cases h4 : ((rsL (rsL s)).length : Int) - (vL s) < (vL (rsL s))
            · exfalso; have hce := rd_end1 (by omega) (pk3 (by omega)) i1 i2; have hk3 := hce.2; omega
            · exact nxRd460_p0 To Tk s o X hI0 h0 h1 h2 h3 h4
  · skip
    have hol : o.length ≤ To.length := by rw [← i1, List.length_append]; omega
    have hv1 := vL_lo s; have hv2 := vL_lo (rsL s)
    by_cases h0 : (s.length : Int) = 0
    · exfalso; have hce := rd_end0 (by omega) i1 i2; have hk3 := hce.2; have h0 := i5 rfl; rw [hce.1] at h0; omega
    · by_cases h2 : lkL s
      · exfalso; have hce := rd_end1 (by omega) (pk1 (by assumption)) i1 i2; have hk3 := hce.2; omega
      · by_cases h3 : lkL (rsL s)
        · exfalso; have hce := rd_end1 (by omega) (pk2 (by assumption)) i1 i2; have hk3 := hce.2; omega
        · by_cases h4 : ((rsL (rsL s)).length : Int) < (vL s)
          · exfalso; have hce := rd_end1 (by omega) (pk3 (by omega)) i1 i2; have hk3 := hce.2; omega
          · by_cases h5 : ((rsL (rsL s)).length : Int) - (vL s) < (vL (rsL s))
            · exfalso; have hce := rd_end1 (by omega) (pk3 (by omega)) i1 i2; have hk3 := hce.2; omega
            · exact nxRd460_p6 To Tk s o X hI0 h0 h2 h3 h4 h5
theorem lfOkRd460_0 {l : LF} {h : LH} (To : List (LB × LB)) (Tk : Int) (x0 : Tk = 0) (x1 : To.length = 0) (st : Nat × LB × List (LB × LB)) (hI : InvRd460 To Tk st) (hl : l.hp = some h) (hs : lfSame l h 38 keepRd460 (.exit 0) 4 460 520 = true) {th0 : LA} {sg0 : List (Nat × Nat)} (hth0 : ∀ X, ThOk (cx nu one 1 laidE laidE_stab) (DRd460 To Tk st X) th0) (h0 : startOk l h 38 460 461 th0 sg0 (epRd460 st) (hpRd460 st) = true) {thx : LA} (hthx : ThOk (ERd460_0 To Tk) (cx nu one 1 laidE laidE_stab) thx) (hx : exitOk l h 38 460 520 thx [(4, .nils)] [] = true) : LfOk (cx nu one 1 laidE laidE_stab) bodyRd460 l :=
  lfOkX (E := ERd460_0 To Tk) (InvRd460 To Tk) (muRd460 To Tk) (DRd460 To Tk) (fun _ _ => rfl) (fun _ _ => rfl) (fun _ _ => rfl) (fun st X t ht => nuX_keep.trans (rX_keep ((by decide : ∀ t, t ∈ keepRd460 → t < 1000000) t ht))) rfl rfl rfl hl hs ebRd460 rfl rfl st hI hth0 h0 hthx hx (roundsRd460_0 To Tk x0 x1)
def nuERd460_1 (To : List (LB × LB)) (Tk : Int) : List Value := []
def roERd460_1 (To : List (LB × LB)) (Tk : Int) : List Value := [rwG prC To]
noncomputable def ERd460_1 (To : List (LB × LB)) (Tk : Int) : Cx := cx (nuX (nuERd460_1 To Tk) (rX (roERd460_1 To Tk) (fun _ => .bool true))) (nuX_one (nuL_one (l := nuERd460_1 To Tk) rfl)) 1 laidE laidE_stab
theorem roundsRd460_1 (To : List (LB × LB)) (Tk : Int) (x0 : Tk = 0) (x1 : ¬ To.length = 0) (st : Nat × LB × List (LB × LB)) (X : Nat → Value) (hI : InvRd460 To Tk st) : RHRd460 To Tk (ERd460_1 To Tk) (.exit 0) [(4, .sr 460)] [(460, .r 2000000 26 2 false)] st X := by
  obtain ⟨tag, s, o⟩ := st
  have hI0 := hI
  obtain ⟨i0, i1, i2, i3, i4, i5, it⟩ := unIRd460 To Tk tag s o hI
  rcases (show tag = 0 ∨ tag = 1 from by omega) with rfl | rfl
  · skip
    have hol : o.length ≤ To.length := by rw [← i1, List.length_append]; omega
    have hv1 := vL_lo s; have hv2 := vL_lo (rsL s)
    by_cases h0 : (s.length : Int) = 0
    · exfalso; have hce := rd_end0 (by omega) i1 i2; have hk3 := hce.2; have h0 := i4 rfl; rw [← hce.1, h0] at x1; simp at x1
    · by_cases h1 : lkL s
      · exfalso; have hce := rd_end1 (by omega) (pk1 (by assumption)) i1 i2; have hk3 := hce.2; omega
      · by_cases h2 : lkL (rsL s)
        · exfalso; have hce := rd_end1 (by omega) (pk2 (by assumption)) i1 i2; have hk3 := hce.2; omega
        · by_cases h3 : ((rsL (rsL s)).length : Int) < (vL s)
          · exfalso; have hce := rd_end1 (by omega) (pk3 (by omega)) i1 i2; have hk3 := hce.2; omega
          · by_cases h4 : ((rsL (rsL s)).length : Int) - (vL s) < (vL (rsL s))
            · exfalso; have hce := rd_end1 (by omega) (pk3 (by omega)) i1 i2; have hk3 := hce.2; omega
            · exact nxRd460_p0 To Tk s o X hI0 h0 h1 h2 h3 h4
  · skip
    have hol : o.length ≤ To.length := by rw [← i1, List.length_append]; omega
    have hv1 := vL_lo s; have hv2 := vL_lo (rsL s)
    by_cases h0 : (s.length : Int) = 0
    · skip
      have hol : o.length ≤ To.length := by rw [← i1, List.length_append]; omega
      have hv1 := vL_lo s; have hv2 := vL_lo (rsL s)
      have hce := rd_end0 (by omega) i1 i2; have hk3 := hce.2
      refine lvRd460_1 To Tk s o (h := hyRd460_p7) rfl ?_ (thXe (v := rwG prC o) (u := rwG prC To) rfl rfl (congrArg (rwG prC) hce.1) (thNil)) runRd460_p7
      unfold hyRd460_p7
      exact hc (kRn (denX rfl)) <|
       hc (kBytesB (bs := ([] : LB)) .nil (denX rfl)) <|
       hc (kNeS (isX rfl) (isSx (l := ([] : LB)) 0 0 rfl) (bnF (nilT (by omega)))) <|
       hnil
    · by_cases h2 : lkL s
      · exfalso; have hce := rd_end1 (by omega) (pk1 (by assumption)) i1 i2; have hk3 := hce.2; omega
      · by_cases h3 : lkL (rsL s)
        · exfalso; have hce := rd_end1 (by omega) (pk2 (by assumption)) i1 i2; have hk3 := hce.2; omega
        · by_cases h4 : ((rsL (rsL s)).length : Int) < (vL s)
          · exfalso; have hce := rd_end1 (by omega) (pk3 (by omega)) i1 i2; have hk3 := hce.2; omega
          · by_cases h5 : ((rsL (rsL s)).length : Int) - (vL s) < (vL (rsL s))
            · exfalso; have hce := rd_end1 (by omega) (pk3 (by omega)) i1 i2; have hk3 := hce.2; omega
            · exact nxRd460_p6 To Tk s o X hI0 h0 h2 h3 h4 h5
theorem lfOkRd460_1 {l : LF} {h : LH} (To : List (LB × LB)) (Tk : Int) (x0 : Tk = 0) (x1 : ¬ To.length = 0) (st : Nat × LB × List (LB × LB)) (hI : InvRd460 To Tk st) (hl : l.hp = some h) (hs : lfSame l h 38 keepRd460 (.exit 0) 4 460 520 = true) {th0 : LA} {sg0 : List (Nat × Nat)} (hth0 : ∀ X, ThOk (cx nu one 1 laidE laidE_stab) (DRd460 To Tk st X) th0) (h0 : startOk l h 38 460 461 th0 sg0 (epRd460 st) (hpRd460 st) = true) {thx : LA} (hthx : ThOk (ERd460_1 To Tk) (cx nu one 1 laidE laidE_stab) thx) (hx : exitOk l h 38 460 520 thx [(4, .sr 460)] [(460, .r 2000000 26 2 false)] = true) : LfOk (cx nu one 1 laidE laidE_stab) bodyRd460 l :=
  lfOkX (E := ERd460_1 To Tk) (InvRd460 To Tk) (muRd460 To Tk) (DRd460 To Tk) (fun _ _ => rfl) (fun _ _ => rfl) (fun _ _ => rfl) (fun st X t ht => nuX_keep.trans (rX_keep ((by decide : ∀ t, t ∈ keepRd460 → t < 1000000) t ht))) rfl rfl rfl hl hs ebRd460 rfl rfl st hI hth0 h0 hthx hx (roundsRd460_1 To Tk x0 x1)
def nuERd460_2 (To : List (LB × LB)) (Tk : Int) : List Value := [St' (pmS ((To.length : Int) + 1))]
def roERd460_2 (To : List (LB × LB)) (Tk : Int) : List Value := []
noncomputable def ERd460_2 (To : List (LB × LB)) (Tk : Int) : Cx := cx (nuX (nuERd460_2 To Tk) (rX (roERd460_2 To Tk) (fun _ => .bool true))) (nuX_one (nuL_one (l := nuERd460_2 To Tk) rfl)) 1 laidE laidE_stab
theorem roundsRd460_2 (To : List (LB × LB)) (Tk : Int) (x0 : ¬ Tk = 0) (st : Nat × LB × List (LB × LB)) (X : Nat → Value) (hI : InvRd460 To Tk st) : RHRd460 To Tk (ERd460_2 To Tk) .ret [(2, .nils), (3, .ifc 56 (.ag [.i .i64 (.ofNat 11), .x 0]))] [] st X := by
  obtain ⟨tag, s, o⟩ := st
  have hI0 := hI
  obtain ⟨i0, i1, i2, i3, i4, i5, it⟩ := unIRd460 To Tk tag s o hI
  rcases (show tag = 0 ∨ tag = 1 from by omega) with rfl | rfl
  · skip
    have hol : o.length ≤ To.length := by rw [← i1, List.length_append]; omega
    have hv1 := vL_lo s; have hv2 := vL_lo (rsL s)
    by_cases h0 : (s.length : Int) = 0
    · exfalso; have hce := rd_end0 (by omega) i1 i2; have hk3 := hce.2; omega
    · by_cases h1 : lkL s
      · skip
        have hol : o.length ≤ To.length := by rw [← i1, List.length_append]; omega
        have hv1 := vL_lo s; have hv2 := vL_lo (rsL s)
        have hce := rd_end1 (by omega) (pk1 (by assumption)) i1 i2; have hk3 := hce.2
        have ho : ∀ a' r', (a', r') ∈ hyRd460_p2 → HOk (cx (nuX (nuRd460_0 To Tk s o) (rX (roRd460_0 To Tk s o) X)) (nuX_one (nuL_one (l := nuRd460_0 To Tk s o) rfl)) 1 laidE laidE_stab) a' r' := by
          unfold hyRd460_p2
          exact hc (kRn (denX rfl)) <|
           hc (kBytesB (bs := ([] : LB)) .nil (denX rfl)) <|
           hc (kNeS (isX rfl) (isSx (l := ([] : LB)) 0 0 rfl) (bnT (nilF (by omega)))) <|
           hc (hokLng (isX rfl) (denLk (by assumption) (denT3 denZ0 denS0 denEs)) (by omega)) <|
           hnil
        exact lLRd460_0 To Tk s o (tb := tbRd460_p2) (L := LRd460_p2) rfl (AllOk.lp2 ((tabkOk _ _).hyps ho) (by omega) fi14_at fi14_body (lfCons (.inr ⟨⟨rfl, rfl⟩, cfA14, cfAs460x0_0 (l := lf22) (h := lh22) (q := (0, .b true)) rfl rfl (by kernel_rfl) (th0 := []) (sg0 := []) (thNil) (by kernel_rfl) (thx := []) (thNil) (by kernel_rfl)⟩) lfNil)) (lpOk_one lfNil) rfl (thCons (show Is _ (.s 22 37955776458944960963913678488088589788834095522472304) (St' (pmS ((To.length : Int) + 1))) from isTo (v := St' ([u8 112, u8 97, u8 105, u8 114, u8 32, u8 49, u8 32, u8 105, u8 115, u8 110, u8 39, u8 116, u8 32, u8 97, u8 108, u8 108, u8 32, u8 116, u8 104, u8 101, u8 114, u8 101])) (isSx (l := [u8 112, u8 97, u8 105, u8 114, u8 32, u8 49, u8 32, u8 105, u8 115, u8 110, u8 39, u8 116, u8 32, u8 97, u8 108, u8 108, u8 32, u8 116, u8 104, u8 101, u8 114, u8 101]) 22 37955776458944960963913678488088589788834095522472304 rfl) (congrArg (fun l => St' l) (by rw [← hce.1, i4 rfl]; rfl))) (thNil)) runRd460_p2
      · by_cases h2 : lkL (rsL s)
        · skip
          have hol : o.length ≤ To.length := by rw [← i1, List.length_append]; omega
          have hv1 := vL_lo s; have hv2 := vL_lo (rsL s)
          have := rsL_len (s := s) (by assumption); have := hL_lo s
          have hce := rd_end1 (by omega) (pk2 (by assumption)) i1 i2; have hk3 := hce.2
          have ho : ∀ a' r', (a', r') ∈ hyRd460_p3 → HOk (cx (nuX (nuRd460_0 To Tk s o) (rX (roRd460_0 To Tk s o) X)) (nuX_one (nuL_one (l := nuRd460_0 To Tk s o) rfl)) 1 laidE laidE_stab) a' r' := by
            unfold hyRd460_p3
            exact hc (kRn (denX rfl)) <|
             hc (kBytesB (bs := ([] : LB)) .nil (denX rfl)) <|
             hc (kNeS (isX rfl) (isSx (l := ([] : LB)) 0 0 rfl) (bnT (nilF (by omega)))) <|
             hc (hokLng (isX rfl) (denLn (by assumption) (denT3 (denX rfl) (denX rfl) denNi)) (by omega)) <|
             hc (hokLng (isX rfl) (denLk (by assumption) (denT3 denZ0 denS0 denEs)) (by omega)) <|
             hnil
          exact lLRd460_0 To Tk s o (tb := tbRd460_p3) (L := LRd460_p3) rfl (AllOk.lp2 ((tabkOk _ _).hyps ho) (by omega) fi14_at fi14_body (lfCons (.inr ⟨⟨rfl, rfl⟩, cfA14, cfAs460x0_0 (l := lf23) (h := lh23) (q := (0, .b true)) rfl rfl (by kernel_rfl) (th0 := []) (sg0 := []) (thNil) (by kernel_rfl) (thx := []) (thNil) (by kernel_rfl)⟩) lfNil)) (lpOk_one lfNil) rfl (thCons (show Is _ (.s 22 37955776458944960963913678488088589788834095522472304) (St' (pmS ((To.length : Int) + 1))) from isTo (v := St' ([u8 112, u8 97, u8 105, u8 114, u8 32, u8 49, u8 32, u8 105, u8 115, u8 110, u8 39, u8 116, u8 32, u8 97, u8 108, u8 108, u8 32, u8 116, u8 104, u8 101, u8 114, u8 101])) (isSx (l := [u8 112, u8 97, u8 105, u8 114, u8 32, u8 49, u8 32, u8 105, u8 115, u8 110, u8 39, u8 116, u8 32, u8 97, u8 108, u8 108, u8 32, u8 116, u8 104, u8 101, u8 114, u8 101]) 22 37955776458944960963913678488088589788834095522472304 rfl) (congrArg (fun l => St' l) (by rw [← hce.1, i4 rfl]; rfl))) (thNil)) runRd460_p3
        · by_cases h3 : ((rsL (rsL s)).length : Int) < (vL s)
          · skip
            have hol : o.length ≤ To.length := by rw [← i1, List.length_append]; omega
            have hv1 := vL_lo s; have hv2 := vL_lo (rsL s)
            have := rsL_len (s := s) (by assumption); have := hL_lo s
            have := rsL_len (s := (rsL s)) (by assumption); have := hL_lo (rsL s)
            have hce := rd_end1 (by omega) (pk3 (by omega)) i1 i2; have hk3 := hce.2
            have ho : ∀ a' r', (a', r') ∈ hyRd460_p4 → HOk (cx (nuX (nuRd460_0 To Tk s o) (rX (roRd460_0 To Tk s o) X)) (nuX_one (nuL_one (l := nuRd460_0 To Tk s o) rfl)) 1 laidE laidE_stab) a' r' := by
              unfold hyRd460_p4
              exact hc (kRn (denX rfl)) <|
               hc (kBytesB (bs := ([] : LB)) .nil (denX rfl)) <|
               hc (kNeS (isX rfl) (isSx (l := ([] : LB)) 0 0 rfl) (bnT (nilF (by omega)))) <|
               hc (hokLng (isX rfl) (denLn (by assumption) (denT3 (denX rfl) (denX rfl) denNi)) (by omega)) <|
               hc (hokLng (isX rfl) (denLn (by assumption) (denT3 (denX rfl) (denX rfl) denNi)) (by omega)) <|
               hc (lnV rfl rfl (by omega)) <|
               hc (ltT rfl rfl (by omega)) <|
               hnil
            exact lLRd460_0 To Tk s o (tb := tbRd460_p4) (L := LRd460_p4) rfl (AllOk.lp2 ((tabkOk _ _).hyps ho) (by omega) fi14_at fi14_body (lfCons (.inr ⟨⟨rfl, rfl⟩, cfA14, cfAs460x0_0 (l := lf25) (h := lh25) (q := (0, .b true)) rfl rfl (by kernel_rfl) (th0 := []) (sg0 := []) (thNil) (by kernel_rfl) (thx := []) (thNil) (by kernel_rfl)⟩) lfNil)) (lpOk_one lfNil) rfl (thCons (show Is _ (.s 22 37955776458944960963913678488088589788834095522472304) (St' (pmS ((To.length : Int) + 1))) from isTo (v := St' ([u8 112, u8 97, u8 105, u8 114, u8 32, u8 49, u8 32, u8 105, u8 115, u8 110, u8 39, u8 116, u8 32, u8 97, u8 108, u8 108, u8 32, u8 116, u8 104, u8 101, u8 114, u8 101])) (isSx (l := [u8 112, u8 97, u8 105, u8 114, u8 32, u8 49, u8 32, u8 105, u8 115, u8 110, u8 39, u8 116, u8 32, u8 97, u8 108, u8 108, u8 32, u8 116, u8 104, u8 101, u8 114, u8 101]) 22 37955776458944960963913678488088589788834095522472304 rfl) (congrArg (fun l => St' l) (by rw [← hce.1, i4 rfl]; rfl))) (thNil)) runRd460_p4
          · by_cases h4 : ((rsL (rsL s)).length : Int) - (vL s) < (vL (rsL s))
            · skip
              have hol : o.length ≤ To.length := by rw [← i1, List.length_append]; omega
              have hv1 := vL_lo s; have hv2 := vL_lo (rsL s)
              have := rsL_len (s := s) (by assumption); have := hL_lo s
              have := rsL_len (s := (rsL s)) (by assumption); have := hL_lo (rsL s)
              have hce := rd_end1 (by omega) (pk3 (by omega)) i1 i2; have hk3 := hce.2
              have ho : ∀ a' r', (a', r') ∈ hyRd460_p5 → HOk (cx (nuX (nuRd460_0 To Tk s o) (rX (roRd460_0 To Tk s o) X)) (nuX_one (nuL_one (l := nuRd460_0 To Tk s o) rfl)) 1 laidE laidE_stab) a' r' := by
                unfold hyRd460_p5
                exact hc (kRn (denX rfl)) <|
                 hc (kBytesB (bs := ([] : LB)) .nil (denX rfl)) <|
                 hc (kNeS (isX rfl) (isSx (l := ([] : LB)) 0 0 rfl) (bnT (nilF (by omega)))) <|
                 hc (hokLng (isX rfl) (denLn (by assumption) (denT3 (denX rfl) (denX rfl) denNi)) (by omega)) <|
                 hc (hokLng (isX rfl) (denLn (by assumption) (denT3 (denX rfl) (denX rfl) denNi)) (by omega)) <|
                 hc (lnV rfl rfl (by omega)) <|
                 hc (ltF rfl rfl (by omega)) <|
                 hc (sbX rfl rfl rfl (by omega)) <|
                 hc (ltT rfl rfl (by omega)) <|
                 hnil
              exact lLRd460_0 To Tk s o (tb := tbRd460_p5) (L := LRd460_p5) rfl (AllOk.lp2 ((tabkOk _ _).hyps ho) (by omega) fi14_at fi14_body (lfCons (.inr ⟨⟨rfl, rfl⟩, cfA14, cfAs460x0_0 (l := lf26) (h := lh26) (q := (0, .b true)) rfl rfl (by kernel_rfl) (th0 := []) (sg0 := []) (thNil) (by kernel_rfl) (thx := []) (thNil) (by kernel_rfl)⟩) lfNil)) (lpOk_one lfNil) rfl (thCons (show Is _ (.s 22 37955776458944960963913678488088589788834095522472304) (St' (pmS ((To.length : Int) + 1))) from isTo (v := St' ([u8 112, u8 97, u8 105, u8 114, u8 32, u8 49, u8 32, u8 105, u8 115, u8 110, u8 39, u8 116, u8 32, u8 97, u8 108, u8 108, u8 32, u8 116, u8 104, u8 101, u8 114, u8 101])) (isSx (l := [u8 112, u8 97, u8 105, u8 114, u8 32, u8 49, u8 32, u8 105, u8 115, u8 110, u8 39, u8 116, u8 32, u8 97, u8 108, u8 108, u8 32, u8 116, u8 104, u8 101, u8 114, u8 101]) 22 37955776458944960963913678488088589788834095522472304 rfl) (congrArg (fun l => St' l) (by rw [← hce.1, i4 rfl]; rfl))) (thNil)) runRd460_p5
            · exact nxRd460_p0 To Tk s o X hI0 h0 h1 h2 h3 h4
  · skip
    have hol : o.length ≤ To.length := by rw [← i1, List.length_append]; omega
    have hv1 := vL_lo s; have hv2 := vL_lo (rsL s)
    by_cases h0 : (s.length : Int) = 0
    · exfalso; have hce := rd_end0 (by omega) i1 i2; have hk3 := hce.2; omega
    · by_cases h2 : lkL s
      · skip
        have hol : o.length ≤ To.length := by rw [← i1, List.length_append]; omega
        have hv1 := vL_lo s; have hv2 := vL_lo (rsL s)
        have := itS_len ((o.length : Int) + 1)
        have hce := rd_end1 (by omega) (pk1 (by assumption)) i1 i2; have hk3 := hce.2
        have ho : ∀ a' r', (a', r') ∈ hyRd460_p8 → HOk (cx (nuX (nuRd460_1 To Tk s o) (rX (roRd460_1 To Tk s o) X)) (nuX_one (nuL_one (l := nuRd460_1 To Tk s o) rfl)) 1 laidE laidE_stab) a' r' := by
          unfold hyRd460_p8
          exact hc (kRn (denX rfl)) <|
           hc (kBytesB (bs := ([] : LB)) .nil (denX rfl)) <|
           hc (kNeS (isX rfl) (isSx (l := ([] : LB)) 0 0 rfl) (bnT (nilF (by omega)))) <|
           hc (kRlG prC_len (isX rfl) (denX rfl) (by first | omega | (simp <;> omega))) <|
           hc (eqcF rfl (by omega)) <|
           hc (hokLng (isX rfl) (denLk (by assumption) (denT3 denZ0 denS0 denEs)) (by omega)) <|
           hc (adC rfl rfl (by omega)) <|
           hc (hokIto (isX rfl) (denX rfl) (by omega) (by omega)) <|
           hc (kCat (isSx (l := [u8 112, u8 97, u8 105, u8 114, u8 32]) 5 139358462320 rfl) (isX rfl) (denX rfl) (by first | rfl | (simp; done)) (by first | omega | (simp <;> omega))) <|
           hc (kCat (isX rfl) (isSx (l := [u8 32, u8 105, u8 115, u8 110, u8 39, u8 116, u8 32, u8 97, u8 108, u8 108, u8 32, u8 116, u8 104, u8 101, u8 114, u8 101]) 16 134846006215187802595471845592415824160 rfl) (denX rfl) (by first | rfl | (simp; done)) (by first | omega | (simp <;> omega))) <|
           hnil
        exact lLRd460_1 To Tk s o (tb := tbRd460_p8) (L := LRd460_p8) rfl (AllOk.lp2 ((tabkOk _ _).hyps ho) (by omega) fi14_at fi14_body (lfCons (.inr ⟨⟨rfl, rfl⟩, cfA14, cfAs460x0_0 (l := lf27) (h := lh27) (q := (0, .b true)) rfl rfl (by kernel_rfl) (th0 := []) (sg0 := []) (thNil) (by kernel_rfl) (thx := []) (thNil) (by kernel_rfl)⟩) lfNil)) (lpOk_one lfNil) rfl (thXe (v := St' ([u8 112, u8 97, u8 105, u8 114, u8 32] ++ ((itS ((o.length : Int) + 1)) ++ [u8 32, u8 105, u8 115, u8 110, u8 39, u8 116, u8 32, u8 97, u8 108, u8 108, u8 32, u8 116, u8 104, u8 101, u8 114, u8 101]))) (u := St' (pmS ((To.length : Int) + 1))) rfl rfl (congrArg (fun l => St' l) (by rw [← hce.1]; rfl)) (thNil)) runRd460_p8
      · by_cases h3 : lkL (rsL s)
        · skip
          have hol : o.length ≤ To.length := by rw [← i1, List.length_append]; omega
          have hv1 := vL_lo s; have hv2 := vL_lo (rsL s)
          have := rsL_len (s := s) (by assumption); have := hL_lo s
          have := itS_len ((o.length : Int) + 1)
          have hce := rd_end1 (by omega) (pk2 (by assumption)) i1 i2; have hk3 := hce.2
          have ho : ∀ a' r', (a', r') ∈ hyRd460_p9 → HOk (cx (nuX (nuRd460_1 To Tk s o) (rX (roRd460_1 To Tk s o) X)) (nuX_one (nuL_one (l := nuRd460_1 To Tk s o) rfl)) 1 laidE laidE_stab) a' r' := by
            unfold hyRd460_p9
            exact hc (kRn (denX rfl)) <|
             hc (kBytesB (bs := ([] : LB)) .nil (denX rfl)) <|
             hc (kNeS (isX rfl) (isSx (l := ([] : LB)) 0 0 rfl) (bnT (nilF (by omega)))) <|
             hc (kRlG prC_len (isX rfl) (denX rfl) (by first | omega | (simp <;> omega))) <|
             hc (eqcF rfl (by omega)) <|
             hc (hokLng (isX rfl) (denLn (by assumption) (denT3 (denX rfl) (denX rfl) denNi)) (by omega)) <|
             hc (hokLng (isX rfl) (denLk (by assumption) (denT3 denZ0 denS0 denEs)) (by omega)) <|
             hc (adC rfl rfl (by omega)) <|
             hc (hokIto (isX rfl) (denX rfl) (by omega) (by omega)) <|
             hc (kCat (isSx (l := [u8 112, u8 97, u8 105, u8 114, u8 32]) 5 139358462320 rfl) (isX rfl) (denX rfl) (by first | rfl | (simp; done)) (by first | omega | (simp <;> omega))) <|
             hc (kCat (isX rfl) (isSx (l := [u8 32, u8 105, u8 115, u8 110, u8 39, u8 116, u8 32, u8 97, u8 108, u8 108, u8 32, u8 116, u8 104, u8 101, u8 114, u8 101]) 16 134846006215187802595471845592415824160 rfl) (denX rfl) (by first | rfl | (simp; done)) (by first | omega | (simp <;> omega))) <|
             hnil
          exact lLRd460_1 To Tk s o (tb := tbRd460_p9) (L := LRd460_p9) rfl (AllOk.lp2 ((tabkOk _ _).hyps ho) (by omega) fi14_at fi14_body (lfCons (.inr ⟨⟨rfl, rfl⟩, cfA14, cfAs460x0_0 (l := lf28) (h := lh28) (q := (0, .b true)) rfl rfl (by kernel_rfl) (th0 := []) (sg0 := []) (thNil) (by kernel_rfl) (thx := []) (thNil) (by kernel_rfl)⟩) lfNil)) (lpOk_one lfNil) rfl (thXe (v := St' ([u8 112, u8 97, u8 105, u8 114, u8 32] ++ ((itS ((o.length : Int) + 1)) ++ [u8 32, u8 105, u8 115, u8 110, u8 39, u8 116, u8 32, u8 97, u8 108, u8 108, u8 32, u8 116, u8 104, u8 101, u8 114, u8 101]))) (u := St' (pmS ((To.length : Int) + 1))) rfl rfl (congrArg (fun l => St' l) (by rw [← hce.1]; rfl)) (thNil)) runRd460_p9
        · by_cases h4 : ((rsL (rsL s)).length : Int) < (vL s)
          · skip
            have hol : o.length ≤ To.length := by rw [← i1, List.length_append]; omega
            have hv1 := vL_lo s; have hv2 := vL_lo (rsL s)
            have := rsL_len (s := s) (by assumption); have := hL_lo s
            have := rsL_len (s := (rsL s)) (by assumption); have := hL_lo (rsL s)
            have := itS_len ((o.length : Int) + 1)
            have hce := rd_end1 (by omega) (pk3 (by omega)) i1 i2; have hk3 := hce.2
            have ho : ∀ a' r', (a', r') ∈ hyRd460_p10 → HOk (cx (nuX (nuRd460_1 To Tk s o) (rX (roRd460_1 To Tk s o) X)) (nuX_one (nuL_one (l := nuRd460_1 To Tk s o) rfl)) 1 laidE laidE_stab) a' r' := by
              unfold hyRd460_p10
              exact hc (kRn (denX rfl)) <|
               hc (kBytesB (bs := ([] : LB)) .nil (denX rfl)) <|
               hc (kNeS (isX rfl) (isSx (l := ([] : LB)) 0 0 rfl) (bnT (nilF (by omega)))) <|
               hc (kRlG prC_len (isX rfl) (denX rfl) (by first | omega | (simp <;> omega))) <|
               hc (eqcF rfl (by omega)) <|
               hc (hokLng (isX rfl) (denLn (by assumption) (denT3 (denX rfl) (denX rfl) denNi)) (by omega)) <|
               hc (hokLng (isX rfl) (denLn (by assumption) (denT3 (denX rfl) (denX rfl) denNi)) (by omega)) <|
               hc (lnV rfl rfl (by omega)) <|
               hc (ltT rfl rfl (by omega)) <|
               hc (adC rfl rfl (by omega)) <|
               hc (hokIto (isX rfl) (denX rfl) (by omega) (by omega)) <|
               hc (kCat (isSx (l := [u8 112, u8 97, u8 105, u8 114, u8 32]) 5 139358462320 rfl) (isX rfl) (denX rfl) (by first | rfl | (simp; done)) (by first | omega | (simp <;> omega))) <|
               hc (kCat (isX rfl) (isSx (l := [u8 32, u8 105, u8 115, u8 110, u8 39, u8 116, u8 32, u8 97, u8 108, u8 108, u8 32, u8 116, u8 104, u8 101, u8 114, u8 101]) 16 134846006215187802595471845592415824160 rfl) (denX rfl) (by first | rfl | (simp; done)) (by first | omega | (simp <;> omega))) <|
               hnil
            exact lLRd460_1 To Tk s o (tb := tbRd460_p10) (L := LRd460_p10) rfl (AllOk.lp2 ((tabkOk _ _).hyps ho) (by omega) fi14_at fi14_body (lfCons (.inr ⟨⟨rfl, rfl⟩, cfA14, cfAs460x0_0 (l := lf30) (h := lh30) (q := (0, .b true)) rfl rfl (by kernel_rfl) (th0 := []) (sg0 := []) (thNil) (by kernel_rfl) (thx := []) (thNil) (by kernel_rfl)⟩) lfNil)) (lpOk_one lfNil) rfl (thXe (v := St' ([u8 112, u8 97, u8 105, u8 114, u8 32] ++ ((itS ((o.length : Int) + 1)) ++ [u8 32, u8 105, u8 115, u8 110, u8 39, u8 116, u8 32, u8 97, u8 108, u8 108, u8 32, u8 116, u8 104, u8 101, u8 114, u8 101]))) (u := St' (pmS ((To.length : Int) + 1))) rfl rfl (congrArg (fun l => St' l) (by rw [← hce.1]; rfl)) (thNil)) runRd460_p10
          · by_cases h5 : ((rsL (rsL s)).length : Int) - (vL s) < (vL (rsL s))
            · skip
              have hol : o.length ≤ To.length := by rw [← i1, List.length_append]; omega
              have hv1 := vL_lo s; have hv2 := vL_lo (rsL s)
              have := rsL_len (s := s) (by assumption); have := hL_lo s
              have := rsL_len (s := (rsL s)) (by assumption); have := hL_lo (rsL s)
              have := itS_len ((o.length : Int) + 1)
              have hce := rd_end1 (by omega) (pk3 (by omega)) i1 i2; have hk3 := hce.2
              have ho : ∀ a' r', (a', r') ∈ hyRd460_p11 → HOk (cx (nuX (nuRd460_1 To Tk s o) (rX (roRd460_1 To Tk s o) X)) (nuX_one (nuL_one (l := nuRd460_1 To Tk s o) rfl)) 1 laidE laidE_stab) a' r' := by
                unfold hyRd460_p11
                exact hc (kRn (denX rfl)) <|
                 hc (kBytesB (bs := ([] : LB)) .nil (denX rfl)) <|
                 hc (kNeS (isX rfl) (isSx (l := ([] : LB)) 0 0 rfl) (bnT (nilF (by omega)))) <|
                 hc (kRlG prC_len (isX rfl) (denX rfl) (by first | omega | (simp <;> omega))) <|
                 hc (eqcF rfl (by omega)) <|
                 hc (hokLng (isX rfl) (denLn (by assumption) (denT3 (denX rfl) (denX rfl) denNi)) (by omega)) <|
                 hc (hokLng (isX rfl) (denLn (by assumption) (denT3 (denX rfl) (denX rfl) denNi)) (by omega)) <|
                 hc (lnV rfl rfl (by omega)) <|
                 hc (ltF rfl rfl (by omega)) <|
                 hc (sbX rfl rfl rfl (by omega)) <|
                 hc (ltT rfl rfl (by omega)) <|
                 hc (adC rfl rfl (by omega)) <|
                 hc (hokIto (isX rfl) (denX rfl) (by omega) (by omega)) <|
                 hc (kCat (isSx (l := [u8 112, u8 97, u8 105, u8 114, u8 32]) 5 139358462320 rfl) (isX rfl) (denX rfl) (by first | rfl | (simp; done)) (by first | omega | (simp <;> omega))) <|
                 hc (kCat (isX rfl) (isSx (l := [u8 32, u8 105, u8 115, u8 110, u8 39, u8 116, u8 32, u8 97, u8 108, u8 108, u8 32, u8 116, u8 104, u8 101, u8 114, u8 101]) 16 134846006215187802595471845592415824160 rfl) (denX rfl) (by first | rfl | (simp; done)) (by first | omega | (simp <;> omega))) <|
                 hnil
              exact lLRd460_1 To Tk s o (tb := tbRd460_p11) (L := LRd460_p11) rfl (AllOk.lp2 ((tabkOk _ _).hyps ho) (by omega) fi14_at fi14_body (lfCons (.inr ⟨⟨rfl, rfl⟩, cfA14, cfAs460x0_0 (l := lf31) (h := lh31) (q := (0, .b true)) rfl rfl (by kernel_rfl) (th0 := []) (sg0 := []) (thNil) (by kernel_rfl) (thx := []) (thNil) (by kernel_rfl)⟩) lfNil)) (lpOk_one lfNil) rfl (thXe (v := St' ([u8 112, u8 97, u8 105, u8 114, u8 32] ++ ((itS ((o.length : Int) + 1)) ++ [u8 32, u8 105, u8 115, u8 110, u8 39, u8 116, u8 32, u8 97, u8 108, u8 108, u8 32, u8 116, u8 104, u8 101, u8 114, u8 101]))) (u := St' (pmS ((To.length : Int) + 1))) rfl rfl (congrArg (fun l => St' l) (by rw [← hce.1]; rfl)) (thNil)) runRd460_p11
            · exact nxRd460_p6 To Tk s o X hI0 h0 h2 h3 h4 h5
theorem lfOkRd460_2 {l : LF} {h : LH} (To : List (LB × LB)) (Tk : Int) (x0 : ¬ Tk = 0) (st : Nat × LB × List (LB × LB)) (hI : InvRd460 To Tk st) (hl : l.hp = some h) (hs : lfSame l h 38 keepRd460 .ret 4 460 520 = true) {th0 : LA} {sg0 : List (Nat × Nat)} (hth0 : ∀ X, ThOk (cx nu one 1 laidE laidE_stab) (DRd460 To Tk st X) th0) (h0 : startOk l h 38 460 461 th0 sg0 (epRd460 st) (hpRd460 st) = true) {thx : LA} (hthx : ThOk (ERd460_2 To Tk) (cx nu one 1 laidE laidE_stab) thx) (hx : exitOk l h 38 460 520 thx [(2, .nils), (3, .ifc 56 (.ag [.i .i64 (.ofNat 11), .x 0]))] [] = true) : LfOk (cx nu one 1 laidE laidE_stab) bodyRd460 l :=
  lfOkX (E := ERd460_2 To Tk) (InvRd460 To Tk) (muRd460 To Tk) (DRd460 To Tk) (fun _ _ => rfl) (fun _ _ => rfl) (fun _ _ => rfl) (fun st X t ht => nuX_keep.trans (rX_keep ((by decide : ∀ t, t ∈ keepRd460 → t < 1000000) t ht))) rfl rfl rfl hl hs ebRd460 rfl rfl st hI hth0 h0 hthx hx (roundsRd460_2 To Tk x0)
noncomputable def fi3 : FI := (tabk.fn.get 3).getD default
theorem fi3_at : tabk.fn.get 3 = some fi3 := by kernel_rfl
theorem fi3_body : fi3.body = some (Tryd.f3.body.getD .skip) := by kernel_rfl
theorem fiB3 : fi3.body.isSome = true := by rw [fi3_body]; rfl
theorem cfA3 : (loopsOf (Tryd.f3.body.getD .skip)).all (fun b => !(keyEq (Go.AX.keyOf b) 8888888)) = true := by kernel_rfl
noncomputable def fi5 : FI := (tabk.fn.get 5).getD default
theorem fi5_at : tabk.fn.get 5 = some fi5 := by kernel_rfl
theorem fi5_body : fi5.body = some (Tryd.f5.body.getD .skip) := by kernel_rfl
theorem fiB5 : fi5.body.isSome = true := by rw [fi5_body]; rfl
theorem cfA5 : (loopsOf (Tryd.f5.body.getD .skip)).all (fun b => !(keyEq (Go.AX.keyOf b) 8888888)) = true := by kernel_rfl
noncomputable def fi7 : FI := (tabk.fn.get 7).getD default
theorem fi7_at : tabk.fn.get 7 = some fi7 := by kernel_rfl
theorem fi7_body : fi7.body = some (Tryd.f7.body.getD .skip) := by kernel_rfl
theorem fiB7 : fi7.body.isSome = true := by rw [fi7_body]; rfl
theorem cfA7 : (loopsOf (Tryd.f7.body.getD .skip)).all (fun b => !(keyEq (Go.AX.keyOf b) 8888888)) = true := by kernel_rfl
end Go.Proofs.YtnaffjionjndgaaDoor.pairBack
