/- A part of the proof: an interpreter of the model's own code on partly known states, and that what it answers is what the program answers. No condition of its own. -/
import Derived.Test.YtlfmfmegnenohaaDoorG1CutterStopsO4
set_option maxRecDepth 100000
set_option linter.unusedVariables false
set_option linter.unusedSimpArgs false
set_option maxHeartbeats 4000000
namespace Go.Proofs.YtlfmfmegnenohaaDoor.cutterStops
open Go Go.AX Go.Proofs Go.Proofs.YtlfmfmegnenohaaDoor
variable {nu : Nat → Value} {one : ∀ i, i < 1000000 → (nu i).oneCell' = true} {E' : Cx} {x' : Ex} {e' : LA} {h' : LE}
noncomputable def bodyCu1 : Code := loopNo (Tryd.f19.body.getD .skip) 0
theorem keyCu1 : oneKey (loopsOf (Tryd.f19.body.getD .skip)) 2 0 0 = true := by kernel_rfl
def keepCu1 : List Nat := []
def epCu1_0 : LA := [(0, .p 2 0), (1, .x 0), (7, .nils)]
def hpCu1_0 : LE := [(2, .b ⟨53, .l [.i .i64 (.ofNat 200), .sy 121, .x 1, .b false], 0, 0, 0, false, false⟩)]
def nuCu1_0 (To : List (Int × Int × LB × Int)) (Tr : LB) (Tk nd : Int) (s : LB) (o : List (Int × Int × LB × Int)) : List Value := [St' s, .int .i64 (nd), St' ([] : LB), .int .i64 ((s.length : Int)), .int .u8 (bt s 0), .int .u8 (bt s 4), .int .i64 ((bt s 4)), .int .i64 ((bt s 4) * 256), .int .u8 (bt s 5), .int .i64 ((bt s 5)), .int .i64 ((bt s 4) * 256 + (bt s 5)), .int .i64 ((bt s 4) * 256 + 8), .int .i64 ((bt s 4) * 256 + (bt s 5) + 8), .int .u8 (bt s 6), .int .i64 ((bt s 6)), .int .i64 ((bt s 4) * 256 + (bt s 5) + (bt s 6) + 8), .int .u8 (bt s 1), .int .i64 ((bt s 1)), .int .u8 (bt s 2), .int .i64 ((bt s 2)), .int .i64 ((bt s 2) * 256), .int .u8 (bt s 3), .int .i64 ((bt s 3)), .int .i64 ((bt s 2) * 256 + (bt s 3)), .int .i64 ((bt s 4) * 256 + (bt s 5) + 8), St' (rcC s), St' (List.drop (Int.toNat ((bt s 4) * 256 + (bt s 5) + (bt s 6) + 8)) s), St' ([] : LB), .int .i64 ((s.length : Int)), St' ([] : LB), .int .i64 ((s.length : Int)), .int .u8 (bt s 0), St' ([] : LB), .int .i64 ((s.length : Int)), .int .u8 (bt s 0), St' ([] : LB), .int .i64 ((s.length : Int)), .int .u8 (bt s 0), St' ([] : LB), .int .i64 ((s.length : Int)), .int .u8 (bt s 0), .int .u8 (bt s 4), .int .i64 ((bt s 4)), .int .i64 ((bt s 4) * 256), .int .u8 (bt s 5), .int .i64 ((bt s 5)), .int .i64 ((bt s 4) * 256 + (bt s 5)), St' ([] : LB), .int .i64 ((s.length : Int)), .int .u8 (bt s 0), .int .u8 (bt s 4), .int .i64 ((bt s 4)), .int .i64 ((bt s 4) * 256), .int .u8 (bt s 5), .int .i64 ((bt s 5)), .int .i64 ((bt s 4) * 256 + (bt s 5)), St' ([] : LB), .int .i64 ((s.length : Int)), .int .u8 (bt s 0), .int .u8 (bt s 4), .int .i64 ((bt s 4)), .int .i64 ((bt s 4) * 256), .int .u8 (bt s 5), .int .i64 ((bt s 5)), .int .i64 ((bt s 4) * 256 + (bt s 5)), .int .i64 ((bt s 4) * 256 + 8), .int .i64 ((bt s 4) * 256 + (bt s 5) + 8), .int .u8 (bt s 6), .int .i64 ((bt s 6)), .int .i64 ((bt s 4) * 256 + (bt s 5) + (bt s 6) + 8), St' ([] : LB), .int .i64 ((s.length : Int)), .int .u8 (bt s 0), .int .u8 (bt s 4), .int .i64 ((bt s 4)), .int .i64 ((bt s 4) * 256), .int .u8 (bt s 5), .int .i64 ((bt s 5)), .int .i64 ((bt s 4) * 256 + (bt s 5)), .int .i64 ((bt s 4) * 256 + 8), .int .i64 ((bt s 4) * 256 + (bt s 5) + 8), .int .u8 (bt s 6), .int .i64 ((bt s 6)), .int .i64 ((bt s 4) * 256 + (bt s 5) + (bt s 6) + 8), .int .u8 (bt s 1)]
def roCu1_0 (To : List (Int × Int × LB × Int)) (Tr : LB) (Tk nd : Int) (s : LB) (o : List (Int × Int × LB × Int)) : List Value := [rwS ([] : List LB), rwG reC (([] : List (Int × Int × LB × Int)) ++ [((bt s 1), (bt s 2) * 256 + (bt s 3), (rcC s), (bt s 6))]), rwS ([] : List LB), rwS ([] : List LB), rwS ([] : List LB), rwS ([] : List LB), rwS ([] : List LB), rwS ([] : List LB), rwS ([] : List LB), rwS ([] : List LB)]
def epCu1_1 : LA := [(0, .p 2 0), (1, .x 0), (7, .sr 120)]
def hpCu1_1 : LE := [(2, .b ⟨53, .l [.i .i64 (.ofNat 200), .sy 121, .x 1, .b false], 0, 0, 0, false, false⟩), (120, .r 2000000 26 4 false)]
def nuCu1_1 (To : List (Int × Int × LB × Int)) (Tr : LB) (Tk nd : Int) (s : LB) (o : List (Int × Int × LB × Int)) : List Value := [St' s, .int .i64 (nd), St' ([] : LB), .int .i64 ((s.length : Int)), .int .u8 (bt s 0), .int .u8 (bt s 4), .int .i64 ((bt s 4)), .int .i64 ((bt s 4) * 256), .int .u8 (bt s 5), .int .i64 ((bt s 5)), .int .i64 ((bt s 4) * 256 + (bt s 5)), .int .i64 ((bt s 4) * 256 + 8), .int .i64 ((bt s 4) * 256 + (bt s 5) + 8), .int .u8 (bt s 6), .int .i64 ((bt s 6)), .int .i64 ((bt s 4) * 256 + (bt s 5) + (bt s 6) + 8), .int .u8 (bt s 1), .int .i64 ((bt s 1)), .int .u8 (bt s 2), .int .i64 ((bt s 2)), .int .i64 ((bt s 2) * 256), .int .u8 (bt s 3), .int .i64 ((bt s 3)), .int .i64 ((bt s 2) * 256 + (bt s 3)), .int .i64 ((bt s 4) * 256 + (bt s 5) + 8), St' (rcC s), St' (List.drop (Int.toNat ((bt s 4) * 256 + (bt s 5) + (bt s 6) + 8)) s), St' ([] : LB), .int .i64 ((s.length : Int)), St' ([] : LB), .int .i64 ((s.length : Int)), .int .u8 (bt s 0), St' ([] : LB), .int .i64 ((s.length : Int)), .int .u8 (bt s 0), St' ([] : LB), .int .i64 ((s.length : Int)), .int .u8 (bt s 0), St' ([] : LB), .int .i64 ((s.length : Int)), .int .u8 (bt s 0), .int .u8 (bt s 4), .int .i64 ((bt s 4)), .int .i64 ((bt s 4) * 256), .int .u8 (bt s 5), .int .i64 ((bt s 5)), .int .i64 ((bt s 4) * 256 + (bt s 5)), St' ([] : LB), .int .i64 ((s.length : Int)), .int .u8 (bt s 0), .int .u8 (bt s 4), .int .i64 ((bt s 4)), .int .i64 ((bt s 4) * 256), .int .u8 (bt s 5), .int .i64 ((bt s 5)), .int .i64 ((bt s 4) * 256 + (bt s 5)), St' ([] : LB), .int .i64 ((s.length : Int)), .int .u8 (bt s 0), .int .u8 (bt s 4), .int .i64 ((bt s 4)), .int .i64 ((bt s 4) * 256), .int .u8 (bt s 5), .int .i64 ((bt s 5)), .int .i64 ((bt s 4) * 256 + (bt s 5)), .int .i64 ((bt s 4) * 256 + 8), .int .i64 ((bt s 4) * 256 + (bt s 5) + 8), .int .u8 (bt s 6), .int .i64 ((bt s 6)), .int .i64 ((bt s 4) * 256 + (bt s 5) + (bt s 6) + 8), St' ([] : LB), .int .i64 ((s.length : Int)), .int .u8 (bt s 0), .int .u8 (bt s 4), .int .i64 ((bt s 4)), .int .i64 ((bt s 4) * 256), .int .u8 (bt s 5), .int .i64 ((bt s 5)), .int .i64 ((bt s 4) * 256 + (bt s 5)), .int .i64 ((bt s 4) * 256 + 8), .int .i64 ((bt s 4) * 256 + (bt s 5) + 8), .int .u8 (bt s 6), .int .i64 ((bt s 6)), .int .i64 ((bt s 4) * 256 + (bt s 5) + (bt s 6) + 8), .int .u8 (bt s 1)]
def roCu1_1 (To : List (Int × Int × LB × Int)) (Tr : LB) (Tk nd : Int) (s : LB) (o : List (Int × Int × LB × Int)) : List Value := [rwG reC o, rwS ([] : List LB), rwG reC (o ++ [((bt s 1), (bt s 2) * 256 + (bt s 3), (rcC s), (bt s 6))]), rwS ([] : List LB), rwS ([] : List LB), rwS ([] : List LB), rwS ([] : List LB), rwS ([] : List LB), rwS ([] : List LB), rwS ([] : List LB), rwS ([] : List LB)]
def epCu1 (st : Nat × LB × List (Int × Int × LB × Int)) : LA := if st.1 = 0 then epCu1_0 else epCu1_1
def hpCu1 (st : Nat × LB × List (Int × Int × LB × Int)) : LE := if st.1 = 0 then hpCu1_0 else hpCu1_1
def nuCu1 (To : List (Int × Int × LB × Int)) (Tr : LB) (Tk nd : Int) (st : Nat × LB × List (Int × Int × LB × Int)) : List Value := if st.1 = 0 then nuCu1_0 To Tr Tk nd (st.2.1) (st.2.2) else nuCu1_1 To Tr Tk nd (st.2.1) (st.2.2)
def roCu1 (To : List (Int × Int × LB × Int)) (Tr : LB) (Tk nd : Int) (st : Nat × LB × List (Int × Int × LB × Int)) : List Value := if st.1 = 0 then roCu1_0 To Tr Tk nd (st.2.1) (st.2.2) else roCu1_1 To Tr Tk nd (st.2.1) (st.2.2)
theorem onCu1 (To : List (Int × Int × LB × Int)) (Tr : LB) (Tk nd : Int) (st : Nat × LB × List (Int × Int × LB × Int)) : ∀ j, (nuL (nuCu1 To Tr Tk nd st) j).oneCell' = true := by
  intro j
  unfold nuCu1
  by_cases g0 : st.1 = 0
  · rw [if_pos g0]; exact nuL_one (l := nuCu1_0 To Tr Tk nd (st.2.1) (st.2.2)) rfl j
  rw [if_neg g0]
  exact nuL_one (l := nuCu1_1 To Tr Tk nd (st.2.1) (st.2.2)) rfl j
theorem ebCu1 (st : Nat × LB × List (Int × Int × LB × Int)) : (lfB (epCu1 st) && lfC keepCu1) = true := by
  unfold epCu1
  by_cases g0 : st.1 = 0
  · rw [if_pos g0]; rfl
  rw [if_neg g0]
  rfl
noncomputable def DCu1 (To : List (Int × Int × LB × Int)) (Tr : LB) (Tk nd : Int) (st : Nat × LB × List (Int × Int × LB × Int)) (X : Nat → Value) : Cx := cx (nuX (nuCu1 To Tr Tk nd st) (rX (roCu1 To Tr Tk nd st) X)) (nuX_one (onCu1 To Tr Tk nd st)) 1 laidE laidE_stab
def InvCu1 (To : List (Int × Int × LB × Int)) (Tr : LB) (Tk nd : Int) (st : Nat × LB × List (Int × Int × LB × Int)) : Prop := ((st.2.1).length ≤ 100000) ∧ ((st.2.2) ++ (cutS (200) (st.2.1)).1 = To) ∧ ((cutS (200) (st.2.1)).2.1 = Tr) ∧ ((cutS (200) (st.2.1)).2.2 = Tk) ∧ (8 * (st.2.2).length + (st.2.1).length ≤ 100000) ∧ ((st.1) = 0 → (st.2.2) = []) ∧ ((st.1) = 1 → 1 ≤ (st.2.2).length) ∧ ((st.1) < 2)
abbrev CjCu1 (To : List (Int × Int × LB × Int)) (Tr : LB) (Tk nd : Int) (tag : Nat) (s : LB) (o : List (Int × Int × LB × Int)) : Prop := (s.length ≤ 100000) ∧ (o ++ (cutS (200) s).1 = To) ∧ ((cutS (200) s).2.1 = Tr) ∧ ((cutS (200) s).2.2 = Tk) ∧ (8 * o.length + s.length ≤ 100000) ∧ (tag = 0 → o = []) ∧ (tag = 1 → 1 ≤ o.length) ∧ (tag < 2)
theorem mkICu1 (To : List (Int × Int × LB × Int)) (Tr : LB) (Tk nd : Int) (tag : Nat) (s : LB) (o : List (Int × Int × LB × Int)) (h : CjCu1 To Tr Tk nd tag s o) : InvCu1 To Tr Tk nd (tag, s, o) := h
theorem unICu1 (To : List (Int × Int × LB × Int)) (Tr : LB) (Tk nd : Int) (tag : Nat) (s : LB) (o : List (Int × Int × LB × Int)) (h : InvCu1 To Tr Tk nd (tag, s, o)) : (s.length ≤ 100000) ∧ (o ++ (cutS (200) s).1 = To) ∧ ((cutS (200) s).2.1 = Tr) ∧ ((cutS (200) s).2.2 = Tk) ∧ (8 * o.length + s.length ≤ 100000) ∧ (tag = 0 → o = []) ∧ (tag = 1 → 1 ≤ o.length) ∧ (tag < 2) := h
def muCu1 (To : List (Int × Int × LB × Int)) (Tr : LB) (Tk nd : Int) (st : Nat × LB × List (Int × Int × LB × Int)) : Nat := (st.2.1).length
abbrev RHCu1 (To : List (Int × Int × LB × Int)) (Tr : LB) (Tk nd : Int) (E' : Cx) (ex' : Ex) (epx' : LA) (hpx' : LE) (st : Nat × LB × List (Int × Int × LB × Int)) (X : Nat → Value) : Prop := RoundH E' bodyCu1 keepCu1 38 ex' 1 120 122 180 epCu1 hpCu1 epx' hpx' (InvCu1 To Tr Tk nd) (muCu1 To Tr Tk nd) (DCu1 To Tr Tk nd) st X
theorem sLCu1_0 (To : List (Int × Int × LB × Int)) (Tr : LB) (Tk nd : Int) (s : LB) (o : List (Int × Int × LB × Int)) {X : Nat → Value} {tb : Tab} {L : List LF} (y : Nat × LB × List (Int × Int × LB × Int)) {th : LA} {sg : List (Nat × Nat)} (hall : AllOk (cx (nuX (nuCu1_0 To Tr Tk nd s o) (rX (roCu1_0 To Tr Tk nd s o) X)) (nuX_one (nuL_one (l := nuCu1_0 To Tr Tk nd s o) rfl)) 1 laidE laidE_stab) tb) (hlp : LpOk (cx (nuX (nuCu1_0 To Tr Tk nd s o) (rX (roCu1_0 To Tr Tk nd s o) X)) (nuX_one (nuL_one (l := nuCu1_0 To Tr Tk nd s o) rfl)) 1 laidE laidE_stab) L bodyCu1) (hng : tb.ng = 1) (hy : InvCu1 To Tr Tk nd y) (lt : muCu1 To Tr Tk nd y < muCu1 To Tr Tk nd (0, s, o)) (ht : ThOk (cx (nuX (nuCu1_0 To Tr Tk nd s o) (rX (roCu1_0 To Tr Tk nd s o) X)) (nuX_one (nuL_one (l := nuCu1_0 To Tr Tk nd s o) rfl)) 1 laidE laidE_stab) (DCu1 To Tr Tk nd y X) th) (run : okRdH (code tb 4000 L bodyCu1 (envOf (headOf epCu1_0 keepCu1) 38) ⟨lhSet hpCu1_0 .leaf, 122, 0, 0⟩) .normal keepCu1 38 180 th sg 120 122 (epCu1 y) (hpCu1 y) = true) : RHCu1 To Tr Tk nd E' x' e' h' (0, s, o) X :=
  RoundH.next (tb := tb) (L := L) (f := 4000) y hall hlp hng hy lt ht run
theorem lLCu1_0 (To : List (Int × Int × LB × Int)) (Tr : LB) (Tk nd : Int) (s : LB) (o : List (Int × Int × LB × Int)) {X : Nat → Value} {tb : Tab} {L : List LF} {th : LA} {sg : List (Nat × Nat)} (hne : exB x' .normal = false) (hall : AllOk (cx (nuX (nuCu1_0 To Tr Tk nd s o) (rX (roCu1_0 To Tr Tk nd s o) X)) (nuX_one (nuL_one (l := nuCu1_0 To Tr Tk nd s o) rfl)) 1 laidE laidE_stab) tb) (hlp : LpOk (cx (nuX (nuCu1_0 To Tr Tk nd s o) (rX (roCu1_0 To Tr Tk nd s o) X)) (nuX_one (nuL_one (l := nuCu1_0 To Tr Tk nd s o) rfl)) 1 laidE laidE_stab) L bodyCu1) (hng : tb.ng = 1) (ht : ThOk (cx (nuX (nuCu1_0 To Tr Tk nd s o) (rX (roCu1_0 To Tr Tk nd s o) X)) (nuX_one (nuL_one (l := nuCu1_0 To Tr Tk nd s o) rfl)) 1 laidE laidE_stab) E' th) (run : okRdH (code tb 4000 L bodyCu1 (envOf (headOf epCu1_0 keepCu1) 38) ⟨lhSet hpCu1_0 .leaf, 122, 0, 0⟩) x' keepCu1 38 180 th sg 120 180 e' h' = true) : RHCu1 To Tr Tk nd E' x' e' h' (0, s, o) X :=
  RoundH.leave (tb := tb) (L := L) (f := 4000) hall hlp hng hne ht run
noncomputable abbrev RNCu1_0 (h : LK) (x : Ex) (th : LA) (sg : List (Nat × Nat)) (m : Nat) (ep : LA) (hp : LE) : Bool := okRdH (code (tbl h) 4000 [] bodyCu1 (envOf (headOf epCu1_0 keepCu1) 38) ⟨lhSet hpCu1_0 .leaf, 122, 0, 0⟩) x keepCu1 38 180 th sg 120 m ep hp
theorem stCu1_0 (To : List (Int × Int × LB × Int)) (Tr : LB) (Tk nd : Int) (s : LB) (o : List (Int × Int × LB × Int)) {X : Nat → Value} {h : LK} (y : Nat × LB × List (Int × Int × LB × Int)) {th : LA} {sg : List (Nat × Nat)} (ho : ∀ a' r', (a', r') ∈ h → HOk (cx (nuX (nuCu1_0 To Tr Tk nd s o) (rX (roCu1_0 To Tr Tk nd s o) X)) (nuX_one (nuL_one (l := nuCu1_0 To Tr Tk nd s o) rfl)) 1 laidE laidE_stab) a' r') (hy : InvCu1 To Tr Tk nd y) (lt : muCu1 To Tr Tk nd y < muCu1 To Tr Tk nd (0, s, o)) (ht : ThOk (cx (nuX (nuCu1_0 To Tr Tk nd s o) (rX (roCu1_0 To Tr Tk nd s o) X)) (nuX_one (nuL_one (l := nuCu1_0 To Tr Tk nd s o) rfl)) 1 laidE laidE_stab) (DCu1 To Tr Tk nd y X) th) (run : RNCu1_0 h .normal th sg 122 (epCu1 y) (hpCu1 y) = true) : RHCu1 To Tr Tk nd E' x' e' h' (0, s, o) X :=
  RoundH.next (tb := tbl h) (L := []) (f := 4000) y ((tabkOk _ _).hyps ho) (LpOk.nil _) rfl hy lt ht run
theorem lvCu1_0 (To : List (Int × Int × LB × Int)) (Tr : LB) (Tk nd : Int) (s : LB) (o : List (Int × Int × LB × Int)) {X : Nat → Value} {h : LK} {th : LA} {sg : List (Nat × Nat)} (hne : exB x' .normal = false) (ho : ∀ a' r', (a', r') ∈ h → HOk (cx (nuX (nuCu1_0 To Tr Tk nd s o) (rX (roCu1_0 To Tr Tk nd s o) X)) (nuX_one (nuL_one (l := nuCu1_0 To Tr Tk nd s o) rfl)) 1 laidE laidE_stab) a' r') (ht : ThOk (cx (nuX (nuCu1_0 To Tr Tk nd s o) (rX (roCu1_0 To Tr Tk nd s o) X)) (nuX_one (nuL_one (l := nuCu1_0 To Tr Tk nd s o) rfl)) 1 laidE laidE_stab) E' th) (run : RNCu1_0 h x' th sg 180 e' h' = true) : RHCu1 To Tr Tk nd E' x' e' h' (0, s, o) X :=
  RoundH.leave (tb := tbl h) (L := []) (f := 4000) ((tabkOk _ _).hyps ho) (LpOk.nil _) rfl hne ht run
theorem sLCu1_1 (To : List (Int × Int × LB × Int)) (Tr : LB) (Tk nd : Int) (s : LB) (o : List (Int × Int × LB × Int)) {X : Nat → Value} {tb : Tab} {L : List LF} (y : Nat × LB × List (Int × Int × LB × Int)) {th : LA} {sg : List (Nat × Nat)} (hall : AllOk (cx (nuX (nuCu1_1 To Tr Tk nd s o) (rX (roCu1_1 To Tr Tk nd s o) X)) (nuX_one (nuL_one (l := nuCu1_1 To Tr Tk nd s o) rfl)) 1 laidE laidE_stab) tb) (hlp : LpOk (cx (nuX (nuCu1_1 To Tr Tk nd s o) (rX (roCu1_1 To Tr Tk nd s o) X)) (nuX_one (nuL_one (l := nuCu1_1 To Tr Tk nd s o) rfl)) 1 laidE laidE_stab) L bodyCu1) (hng : tb.ng = 1) (hy : InvCu1 To Tr Tk nd y) (lt : muCu1 To Tr Tk nd y < muCu1 To Tr Tk nd (1, s, o)) (ht : ThOk (cx (nuX (nuCu1_1 To Tr Tk nd s o) (rX (roCu1_1 To Tr Tk nd s o) X)) (nuX_one (nuL_one (l := nuCu1_1 To Tr Tk nd s o) rfl)) 1 laidE laidE_stab) (DCu1 To Tr Tk nd y X) th) (run : okRdH (code tb 4000 L bodyCu1 (envOf (headOf epCu1_1 keepCu1) 38) ⟨lhSet hpCu1_1 .leaf, 122, 0, 0⟩) .normal keepCu1 38 180 th sg 120 122 (epCu1 y) (hpCu1 y) = true) : RHCu1 To Tr Tk nd E' x' e' h' (1, s, o) X :=
  RoundH.next (tb := tb) (L := L) (f := 4000) y hall hlp hng hy lt ht run
theorem lLCu1_1 (To : List (Int × Int × LB × Int)) (Tr : LB) (Tk nd : Int) (s : LB) (o : List (Int × Int × LB × Int)) {X : Nat → Value} {tb : Tab} {L : List LF} {th : LA} {sg : List (Nat × Nat)} (hne : exB x' .normal = false) (hall : AllOk (cx (nuX (nuCu1_1 To Tr Tk nd s o) (rX (roCu1_1 To Tr Tk nd s o) X)) (nuX_one (nuL_one (l := nuCu1_1 To Tr Tk nd s o) rfl)) 1 laidE laidE_stab) tb) (hlp : LpOk (cx (nuX (nuCu1_1 To Tr Tk nd s o) (rX (roCu1_1 To Tr Tk nd s o) X)) (nuX_one (nuL_one (l := nuCu1_1 To Tr Tk nd s o) rfl)) 1 laidE laidE_stab) L bodyCu1) (hng : tb.ng = 1) (ht : ThOk (cx (nuX (nuCu1_1 To Tr Tk nd s o) (rX (roCu1_1 To Tr Tk nd s o) X)) (nuX_one (nuL_one (l := nuCu1_1 To Tr Tk nd s o) rfl)) 1 laidE laidE_stab) E' th) (run : okRdH (code tb 4000 L bodyCu1 (envOf (headOf epCu1_1 keepCu1) 38) ⟨lhSet hpCu1_1 .leaf, 122, 0, 0⟩) x' keepCu1 38 180 th sg 120 180 e' h' = true) : RHCu1 To Tr Tk nd E' x' e' h' (1, s, o) X :=
  RoundH.leave (tb := tb) (L := L) (f := 4000) hall hlp hng hne ht run
noncomputable abbrev RNCu1_1 (h : LK) (x : Ex) (th : LA) (sg : List (Nat × Nat)) (m : Nat) (ep : LA) (hp : LE) : Bool := okRdH (code (tbl h) 4000 [] bodyCu1 (envOf (headOf epCu1_1 keepCu1) 38) ⟨lhSet hpCu1_1 .leaf, 122, 0, 0⟩) x keepCu1 38 180 th sg 120 m ep hp
theorem stCu1_1 (To : List (Int × Int × LB × Int)) (Tr : LB) (Tk nd : Int) (s : LB) (o : List (Int × Int × LB × Int)) {X : Nat → Value} {h : LK} (y : Nat × LB × List (Int × Int × LB × Int)) {th : LA} {sg : List (Nat × Nat)} (ho : ∀ a' r', (a', r') ∈ h → HOk (cx (nuX (nuCu1_1 To Tr Tk nd s o) (rX (roCu1_1 To Tr Tk nd s o) X)) (nuX_one (nuL_one (l := nuCu1_1 To Tr Tk nd s o) rfl)) 1 laidE laidE_stab) a' r') (hy : InvCu1 To Tr Tk nd y) (lt : muCu1 To Tr Tk nd y < muCu1 To Tr Tk nd (1, s, o)) (ht : ThOk (cx (nuX (nuCu1_1 To Tr Tk nd s o) (rX (roCu1_1 To Tr Tk nd s o) X)) (nuX_one (nuL_one (l := nuCu1_1 To Tr Tk nd s o) rfl)) 1 laidE laidE_stab) (DCu1 To Tr Tk nd y X) th) (run : RNCu1_1 h .normal th sg 122 (epCu1 y) (hpCu1 y) = true) : RHCu1 To Tr Tk nd E' x' e' h' (1, s, o) X :=
  RoundH.next (tb := tbl h) (L := []) (f := 4000) y ((tabkOk _ _).hyps ho) (LpOk.nil _) rfl hy lt ht run
theorem lvCu1_1 (To : List (Int × Int × LB × Int)) (Tr : LB) (Tk nd : Int) (s : LB) (o : List (Int × Int × LB × Int)) {X : Nat → Value} {h : LK} {th : LA} {sg : List (Nat × Nat)} (hne : exB x' .normal = false) (ho : ∀ a' r', (a', r') ∈ h → HOk (cx (nuX (nuCu1_1 To Tr Tk nd s o) (rX (roCu1_1 To Tr Tk nd s o) X)) (nuX_one (nuL_one (l := nuCu1_1 To Tr Tk nd s o) rfl)) 1 laidE laidE_stab) a' r') (ht : ThOk (cx (nuX (nuCu1_1 To Tr Tk nd s o) (rX (roCu1_1 To Tr Tk nd s o) X)) (nuX_one (nuL_one (l := nuCu1_1 To Tr Tk nd s o) rfl)) 1 laidE laidE_stab) E' th) (run : RNCu1_1 h x' th sg 180 e' h' = true) : RHCu1 To Tr Tk nd E' x' e' h' (1, s, o) X :=
  RoundH.leave (tb := tbl h) (L := []) (f := 4000) ((tabkOk _ _).hyps ho) (LpOk.nil _) rfl hne ht run
def hyCu1_p0 : LK := [(.rn, .x 2000000), (.bytes [], .x 2), (.len (.x 0), .x 3), (.bin .geq (.x 3) (.i .i64 (.ofNat 6)), .b true), (.idx (.x 0) (.i .i64 (.ofNat 0)), .x 4), (.bin .eql (.x 4) (.i .u8 (.ofNat 1)), .b true), (.idx (.x 0) (.i .i64 (.ofNat 4)), .x 5), (.conv 3 (.x 5), .x 6), (.bin .shl (.x 6) (.i .u64 (.ofNat 8)), .x 7), (.idx (.x 0) (.i .i64 (.ofNat 5)), .x 8), (.conv 3 (.x 8), .x 9), (.bin .add (.x 7) (.x 9), .x 10), (.bin .gtr (.x 10) (.i .i64 (.ofNat 200)), .b false), (.bin .neq (.x 0) (.s 0 0), .b true), (.bin .neq (.x 4) (.i .u8 (.ofNat 1)), .b false), (.bin .lss (.x 3) (.i .i64 (.ofNat 8)), .b false), (.bin .add (.i .i64 (.ofNat 8)) (.x 7), .x 11), (.bin .add (.x 11) (.x 9), .x 12), (.idx (.x 0) (.i .i64 (.ofNat 6)), .x 13), (.conv 3 (.x 13), .x 14), (.bin .add (.x 12) (.x 14), .x 15), (.bin .lss (.x 3) (.x 15), .b false), (.idx (.x 0) (.i .i64 (.ofNat 1)), .x 16), (.bin .eql (.x 16) (.i .u8 (.ofNat 0)), .b false), (.conv 3 (.x 16), .x 17), (.idx (.x 0) (.i .i64 (.ofNat 2)), .x 18), (.conv 3 (.x 18), .x 19), (.bin .shl (.x 19) (.i .u64 (.ofNat 8)), .x 20), (.idx (.x 0) (.i .i64 (.ofNat 3)), .x 21), (.conv 3 (.x 21), .x 22), (.bin .or (.x 20) (.x 22), .x 23), (.bin .sub (.x 15) (.x 14), .x 24), (.sub (.x 0) (some (.i .i64 (.ofNat 8))) (some (.x 24)), .x 25), (.sub (.x 0) (some (.x 15)) none, .x 26), (.ra (.x 2000000) [.x 17, .x 23, .x 25, .x 14], .x 2000001), (.rf (.x 2000001) 4 40, .b true)]
theorem runCu1_p0 : RNCu1_0 hyCu1_p0 .normal [(0, .x 26), (1, .x 1), (2000000, .x 2000001)] [(120, 128), (121, 121)] 122 epCu1_1 hpCu1_1 = true := by kernel_rfl
theorem nxCu1_p0 (To : List (Int × Int × LB × Int)) (Tr : LB) (Tk nd : Int) (s : LB) (o : List (Int × Int × LB × Int)) (X : Nat → Value) (hI : InvCu1 To Tr Tk nd (0, s, o)) (h0 : 6 ≤ (s.length : Int)) (h1 : bt s 0 = 1) (h2 : ¬ (200 < (bt s 4) * 256 + (bt s 5))) (h5 : ¬ ((s.length : Int) < 8)) (h6 : ¬ ((s.length : Int) < (bt s 4) * 256 + (bt s 5) + (bt s 6) + 8)) (h7 : ¬ (bt s 1 = 0)) : RHCu1 To Tr Tk nd E' x' e' h' (0, s, o) X := by
  obtain ⟨i0, i1, i2, i3, i4, i5, i6, it⟩ := unICu1 To Tr Tk nd 0 s o hI
  have := bt_lo s 0; have := bt_hi s 0
  have := bt_lo s 4; have := bt_hi s 4
  have := bt_lo s 5; have := bt_hi s 5
  have := bt_lo s 6; have := bt_hi s 6
  have := bt_lo s 1; have := bt_hi s 1
  have := bt_lo s 2; have := bt_hi s 2
  have := bt_lo s 3; have := bt_hi s 3
  have := rcC_len (s := s) (by omega)
  have := lenDrop (l := s) (P := (bt s 4) * 256 + (bt s 5) + (bt s 6) + 8) (by omega) (by omega)
  have hb1 := bt_lo s 4; have hb2 := bt_lo s 5; have hb3 := bt_lo s 6; have hb4 := bt_hi s 4; have hb5 := bt_hi s 5; have hb6 := bt_hi s 6
  have hcu := cu_rec (m := 200) (s := s) (rest := (List.drop (Int.toNat ((bt s 4) * 256 + (bt s 5) + (bt s 6) + 8)) s)) (o := []) (To := To) (Tr := Tr) (Tk := Tk) (rck00 (by omega) (by omega) (by omega) (by omega) (by omega)) (by congr 2; unfold rsz; omega) (by rw [i5 rfl] at i1; exact i1) i2 i3
  refine stCu1_0 To Tr Tk nd s o (h := hyCu1_p0) (1, (List.drop (Int.toNat ((bt s 4) * 256 + (bt s 5) + (bt s 6) + 8)) s), (([] : List (Int × Int × LB × Int)) ++ [((bt s 1), (bt s 2) * 256 + (bt s 3), (rcC s), (bt s 6))])) ?_ (mkICu1 To Tr Tk nd 1 (List.drop (Int.toNat ((bt s 4) * 256 + (bt s 5) + (bt s 6) + 8)) s) (([] : List (Int × Int × LB × Int)) ++ [((bt s 1), (bt s 2) * 256 + (bt s 3), (rcC s), (bt s 6))]) ⟨by first | omega | (rw [List.length_drop]; omega), hcu.1, hcu.2.1, hcu.2.2, by simp only [List.length_append, List.length_cons, List.length_nil, List.length_drop]; omega, fun h => by omega, fun _ => by simp, by omega⟩) (by show ((List.drop (Int.toNat ((bt s 4) * 256 + (bt s 5) + (bt s 6) + 8)) s)).length < s.length; rw [List.length_drop]; omega) (thXv (v := St' (List.drop (Int.toNat ((bt s 4) * 256 + (bt s 5) + (bt s 6) + 8)) s)) rfl rfl (thXv (v := .int .i64 (nd)) rfl rfl (thXv (v := rwG reC (([] : List (Int × Int × LB × Int)) ++ [((bt s 1), (bt s 2) * 256 + (bt s 3), (rcC s), (bt s 6))])) rfl rfl (thNil)))) runCu1_p0
  unfold hyCu1_p0
  exact hc (kRn (denX rfl)) <|
   hc (kBytesB (bs := ([] : LB)) .nil (denX rfl)) <|
   hc (lnV rfl rfl (by omega)) <|
   hc (gecT rfl (by omega)) <|
   hc (ixC rfl rfl (by omega)) <|
   hc (eqcT rfl (by omega)) <|
   hc (ixC rfl rfl (by omega)) <|
   hc (kConvF (isX rfl) tu3 (denX rfl) (fI64 (by omega) (by omega))) <|
   hc (kShlM 8 256 rfl (isX rfl) (isZ (m := 8) rfl) (denX rfl) rfl (by decide) (by omega) (fI64 (by omega) (by omega))) <|
   hc (ixC rfl rfl (by omega)) <|
   hc (kConvF (isX rfl) tu3 (denX rfl) (fI64 (by omega) (by omega))) <|
   hc (adX rfl rfl rfl (by omega)) <|
   hc (gtcF rfl (by omega)) <|
   hc (kNeS (isX rfl) (isSx (l := ([] : LB)) 0 0 rfl) (bnT (nilF (by omega)))) <|
   hc (necF rfl (by omega)) <|
   hc (ltcF rfl (by omega)) <|
   hc (kAdd (isZ (m := 8) rfl) (isX rfl) (denX rfl) (by omega) (fI64 (by omega) (by omega))) <|
   hc (adX rfl rfl rfl (by omega)) <|
   hc (ixC rfl rfl (by omega)) <|
   hc (kConvF (isX rfl) tu3 (denX rfl) (fI64 (by omega) (by omega))) <|
   hc (adX rfl rfl rfl (by omega)) <|
   hc (ltF rfl rfl (by omega)) <|
   hc (ixC rfl rfl (by omega)) <|
   hc (eqcF rfl (by omega)) <|
   hc (kConvF (isX rfl) tu3 (denX rfl) (fI64 (by omega) (by omega))) <|
   hc (ixC rfl rfl (by omega)) <|
   hc (kConvF (isX rfl) tu3 (denX rfl) (fI64 (by omega) (by omega))) <|
   hc (kShlM 8 256 rfl (isX rfl) (isZ (m := 8) rfl) (denX rfl) rfl (by decide) (by omega) (fI64 (by omega) (by omega))) <|
   hc (ixC rfl rfl (by omega)) <|
   hc (kConvF (isX rfl) tu3 (denX rfl) (fI64 (by omega) (by omega))) <|
   hc (kOrM 8 256 rfl (isX rfl) (isX rfl) (denX rfl) (by omega) (by omega) (fI64 (by omega) (by omega)) (fI64 (by omega) (by omega)) (by omega) (by omega) (by omega) (fI64 (by omega) (by omega))) <|
   hc (sbX rfl rfl rfl (by omega)) <|
   hc (kMid (P := 8) (Q := (bt s 4) * 256 + (bt s 5) + 8) (isX rfl) (.inr ⟨_, _, rfl, (isZ (m := 8) rfl)⟩) (.inr ⟨_, _, rfl, (isX rfl)⟩) (by omega) (by omega) (by omega) (denX (congrArg (fun l => St' l) (rcC_mid (by omega) (by omega))))) <|
   hc (drV rfl rfl rfl (by omega)) <|
   hc (kRaG (f := reC) (l := ([] : List (Int × Int × LB × Int))) (a := ((bt s 1), (bt s 2) * 256 + (bt s 3), (rcC s), (bt s 6))) (isX rfl) (isL4 (isX rfl) (isX rfl) (isX rfl) (isX rfl)) (denX rfl)) <|
   hc (kRfG reC_len (isX rfl) (by first | (rw [List.length_append]; omega) | (first | omega | (simp <;> omega))) (by first | (rw [List.length_append]; omega) | (first | omega | (simp <;> omega)))) <|
   hnil
def hyCu1_p1 : LK := [(.rn, .x 2000002), (.bytes [], .x 27), (.len (.x 0), .x 28), (.bin .geq (.x 28) (.i .i64 (.ofNat 6)), .b false), (.bin .neq (.x 0) (.s 0 0), .b false), (.bin .lss (.x 28) (.i .i64 (.ofNat 8)), .b true)]
def hyCu1_p2 : LK := [(.rn, .x 2000003), (.bytes [], .x 29), (.len (.x 0), .x 30), (.bin .geq (.x 30) (.i .i64 (.ofNat 6)), .b false), (.bin .neq (.x 0) (.s 0 0), .b true), (.idx (.x 0) (.i .i64 (.ofNat 0)), .x 31), (.bin .neq (.x 31) (.i .u8 (.ofNat 1)), .b false), (.bin .lss (.x 30) (.i .i64 (.ofNat 8)), .b true)]
def hyCu1_p3 : LK := [(.rn, .x 2000004), (.bytes [], .x 32), (.len (.x 0), .x 33), (.bin .geq (.x 33) (.i .i64 (.ofNat 6)), .b false), (.bin .neq (.x 0) (.s 0 0), .b true), (.idx (.x 0) (.i .i64 (.ofNat 0)), .x 34), (.bin .neq (.x 34) (.i .u8 (.ofNat 1)), .b true)]
def lh15 : LH := ⟨1, 151, 161, [(126, .b ⟨29, .l [.i .i64 (.ofNat 0)], 0, 0, 0, false, false⟩)], [(126, .b ⟨29, .l [.i .i64 (.ofNat 13)], 0, 0, 0, false, false⟩)]⟩
def lf15 : LF := ⟨8888888, 0, [(0, .ifc 68 (.ag [.i .i64 (.ofNat 13), .s 27 45430407375676916831998826942035274374409028507990266741766889569])), (1, .ifc 66 (.p 126 0))], [], .normal, [(0, .b true)], some lh15⟩
noncomputable def tbCu1_p3 : Tab := addLps ((tbl hyCu1_p3)) 25 fi25 [lf15]
def LCu1_p3 : List LF := []
theorem runCu1_p3 : okRdH (code tbCu1_p3 4000 LCu1_p3 bodyCu1 (envOf (headOf epCu1_0 keepCu1) 38) ⟨lhSet hpCu1_0 .leaf, 122, 0, 0⟩) .ret keepCu1 38 180 [(0, .x 0), (1, .x 1)] [(121, 121)] 120 180 [(4, .nils), (5, .x 0), (6, .ifc 68 (.ag [.i .i64 (.ofNat 13), .s 35 883751524516594027940889836758751821087985845510287451484159566615753519918736505186]))] [(2, .b ⟨53, .l [.i .i64 (.ofNat 200), .sy 121, .x 1, .b false], 0, 0, 0, false, false⟩)] = true := by kernel_rfl
def hyCu1_p4 : LK := [(.rn, .x 2000005), (.bytes [], .x 35), (.len (.x 0), .x 36), (.bin .geq (.x 36) (.i .i64 (.ofNat 6)), .b true), (.idx (.x 0) (.i .i64 (.ofNat 0)), .x 37), (.bin .eql (.x 37) (.i .u8 (.ofNat 1)), .b false), (.bin .neq (.x 0) (.s 0 0), .b true), (.bin .neq (.x 37) (.i .u8 (.ofNat 1)), .b true)]
def lh16 : LH := ⟨1, 151, 161, [(126, .b ⟨29, .l [.i .i64 (.ofNat 0)], 0, 0, 0, false, false⟩)], [(126, .b ⟨29, .l [.i .i64 (.ofNat 13)], 0, 0, 0, false, false⟩)]⟩
def lf16 : LF := ⟨8888888, 0, [(0, .ifc 68 (.ag [.i .i64 (.ofNat 13), .s 27 45430407375676916831998826942035274374409028507990266741766889569])), (1, .ifc 66 (.p 126 0))], [], .normal, [(0, .b true)], some lh16⟩
noncomputable def tbCu1_p4 : Tab := addLps ((tbl hyCu1_p4)) 25 fi25 [lf16]
def LCu1_p4 : List LF := []
theorem runCu1_p4 : okRdH (code tbCu1_p4 4000 LCu1_p4 bodyCu1 (envOf (headOf epCu1_0 keepCu1) 38) ⟨lhSet hpCu1_0 .leaf, 122, 0, 0⟩) .ret keepCu1 38 180 [(0, .x 0), (1, .x 1)] [(121, 121)] 120 180 [(4, .nils), (5, .x 0), (6, .ifc 68 (.ag [.i .i64 (.ofNat 13), .s 35 883751524516594027940889836758751821087985845510287451484159566615753519918736505186]))] [(2, .b ⟨53, .l [.i .i64 (.ofNat 200), .sy 121, .x 1, .b false], 0, 0, 0, false, false⟩)] = true := by kernel_rfl
def hyCu1_p5 : LK := [(.rn, .x 2000006), (.bytes [], .x 38), (.len (.x 0), .x 39), (.bin .geq (.x 39) (.i .i64 (.ofNat 6)), .b true), (.idx (.x 0) (.i .i64 (.ofNat 0)), .x 40), (.bin .eql (.x 40) (.i .u8 (.ofNat 1)), .b true), (.idx (.x 0) (.i .i64 (.ofNat 4)), .x 41), (.conv 3 (.x 41), .x 42), (.bin .shl (.x 42) (.i .u64 (.ofNat 8)), .x 43), (.idx (.x 0) (.i .i64 (.ofNat 5)), .x 44), (.conv 3 (.x 44), .x 45), (.bin .add (.x 43) (.x 45), .x 46), (.bin .gtr (.x 46) (.i .i64 (.ofNat 200)), .b true)]
def lh17 : LH := ⟨1, 151, 161, [(124, .b ⟨29, .l [.i .i64 (.ofNat 0)], 0, 0, 0, false, false⟩)], [(124, .b ⟨29, .l [.i .i64 (.ofNat 12)], 0, 0, 0, false, false⟩)]⟩
def lf17 : LF := ⟨8888888, 0, [(0, .ifc 29 (.i .i64 (.ofNat 12))), (1, .ifc 66 (.p 124 0))], [], .normal, [(0, .b true)], some lh17⟩
noncomputable def tbCu1_p5 : Tab := addLps ((tbl hyCu1_p5)) 25 fi25 [lf17]
def LCu1_p5 : List LF := []
theorem runCu1_p5 : okRdH (code tbCu1_p5 4000 LCu1_p5 bodyCu1 (envOf (headOf epCu1_0 keepCu1) 38) ⟨lhSet hpCu1_0 .leaf, 122, 0, 0⟩) .ret keepCu1 38 180 [(0, .x 0), (1, .x 1)] [(121, 121)] 120 180 [(4, .nils), (5, .x 0), (6, .ifc 68 (.ag [.i .i64 (.ofNat 12), .s 35 883751524516594027940889836758751821087985845510287451484159566615753519918736505186]))] [(2, .b ⟨53, .l [.i .i64 (.ofNat 200), .sy 121, .x 1, .b false], 0, 0, 0, false, false⟩)] = true := by kernel_rfl
def hyCu1_p6 : LK := [(.rn, .x 2000007), (.bytes [], .x 47), (.len (.x 0), .x 48), (.bin .geq (.x 48) (.i .i64 (.ofNat 6)), .b true), (.idx (.x 0) (.i .i64 (.ofNat 0)), .x 49), (.bin .eql (.x 49) (.i .u8 (.ofNat 1)), .b true), (.idx (.x 0) (.i .i64 (.ofNat 4)), .x 50), (.conv 3 (.x 50), .x 51), (.bin .shl (.x 51) (.i .u64 (.ofNat 8)), .x 52), (.idx (.x 0) (.i .i64 (.ofNat 5)), .x 53), (.conv 3 (.x 53), .x 54), (.bin .add (.x 52) (.x 54), .x 55), (.bin .gtr (.x 55) (.i .i64 (.ofNat 200)), .b false), (.bin .neq (.x 0) (.s 0 0), .b true), (.bin .neq (.x 49) (.i .u8 (.ofNat 1)), .b false), (.bin .lss (.x 48) (.i .i64 (.ofNat 8)), .b true)]
def hyCu1_p7 : LK := [(.rn, .x 2000008), (.bytes [], .x 56), (.len (.x 0), .x 57), (.bin .geq (.x 57) (.i .i64 (.ofNat 6)), .b true), (.idx (.x 0) (.i .i64 (.ofNat 0)), .x 58), (.bin .eql (.x 58) (.i .u8 (.ofNat 1)), .b true), (.idx (.x 0) (.i .i64 (.ofNat 4)), .x 59), (.conv 3 (.x 59), .x 60), (.bin .shl (.x 60) (.i .u64 (.ofNat 8)), .x 61), (.idx (.x 0) (.i .i64 (.ofNat 5)), .x 62), (.conv 3 (.x 62), .x 63), (.bin .add (.x 61) (.x 63), .x 64), (.bin .gtr (.x 64) (.i .i64 (.ofNat 200)), .b false), (.bin .neq (.x 0) (.s 0 0), .b true), (.bin .neq (.x 58) (.i .u8 (.ofNat 1)), .b false), (.bin .lss (.x 57) (.i .i64 (.ofNat 8)), .b false), (.bin .add (.i .i64 (.ofNat 8)) (.x 61), .x 65), (.bin .add (.x 65) (.x 63), .x 66), (.idx (.x 0) (.i .i64 (.ofNat 6)), .x 67), (.conv 3 (.x 67), .x 68), (.bin .add (.x 66) (.x 68), .x 69), (.bin .lss (.x 57) (.x 69), .b true)]
def hyCu1_p8 : LK := [(.rn, .x 2000009), (.bytes [], .x 70), (.len (.x 0), .x 71), (.bin .geq (.x 71) (.i .i64 (.ofNat 6)), .b true), (.idx (.x 0) (.i .i64 (.ofNat 0)), .x 72), (.bin .eql (.x 72) (.i .u8 (.ofNat 1)), .b true), (.idx (.x 0) (.i .i64 (.ofNat 4)), .x 73), (.conv 3 (.x 73), .x 74), (.bin .shl (.x 74) (.i .u64 (.ofNat 8)), .x 75), (.idx (.x 0) (.i .i64 (.ofNat 5)), .x 76), (.conv 3 (.x 76), .x 77), (.bin .add (.x 75) (.x 77), .x 78), (.bin .gtr (.x 78) (.i .i64 (.ofNat 200)), .b false), (.bin .neq (.x 0) (.s 0 0), .b true), (.bin .neq (.x 72) (.i .u8 (.ofNat 1)), .b false), (.bin .lss (.x 71) (.i .i64 (.ofNat 8)), .b false), (.bin .add (.i .i64 (.ofNat 8)) (.x 75), .x 79), (.bin .add (.x 79) (.x 77), .x 80), (.idx (.x 0) (.i .i64 (.ofNat 6)), .x 81), (.conv 3 (.x 81), .x 82), (.bin .add (.x 80) (.x 82), .x 83), (.bin .lss (.x 71) (.x 83), .b false), (.idx (.x 0) (.i .i64 (.ofNat 1)), .x 84), (.bin .eql (.x 84) (.i .u8 (.ofNat 0)), .b true)]
def lh19 : LH := ⟨1, 151, 161, [(125, .b ⟨29, .l [.i .i64 (.ofNat 0)], 0, 0, 0, false, false⟩)], [(125, .b ⟨29, .l [.i .i64 (.ofNat 10)], 0, 0, 0, false, false⟩)]⟩
def lf19 : LF := ⟨8888888, 0, [(0, .ifc 68 (.ag [.i .i64 (.ofNat 10), .s 18 4192413596494156358521667725059818226065505])), (1, .ifc 66 (.p 125 0))], [], .normal, [(0, .b true)], some lh19⟩
noncomputable def tbCu1_p8 : Tab := addLps ((tbl hyCu1_p8)) 25 fi25 [lf19]
def LCu1_p8 : List LF := []
theorem runCu1_p8 : okRdH (code tbCu1_p8 4000 LCu1_p8 bodyCu1 (envOf (headOf epCu1_0 keepCu1) 38) ⟨lhSet hpCu1_0 .leaf, 122, 0, 0⟩) .ret keepCu1 38 180 [(0, .x 0), (1, .x 1)] [(121, 121)] 120 180 [(4, .nils), (5, .x 0), (6, .ifc 68 (.ag [.i .i64 (.ofNat 10), .s 35 883751524516594027940889836758751821087985845510287451484159566615753519918736505186]))] [(2, .b ⟨53, .l [.i .i64 (.ofNat 200), .sy 121, .x 1, .b false], 0, 0, 0, false, false⟩)] = true := by kernel_rfl
def hyCu1_p9 : LK := [(.rn, .x 2000001), (.bytes [], .x 2), (.len (.x 0), .x 3), (.bin .geq (.x 3) (.i .i64 (.ofNat 6)), .b true), (.idx (.x 0) (.i .i64 (.ofNat 0)), .x 4), (.bin .eql (.x 4) (.i .u8 (.ofNat 1)), .b true), (.idx (.x 0) (.i .i64 (.ofNat 4)), .x 5), (.conv 3 (.x 5), .x 6), (.bin .shl (.x 6) (.i .u64 (.ofNat 8)), .x 7), (.idx (.x 0) (.i .i64 (.ofNat 5)), .x 8), (.conv 3 (.x 8), .x 9), (.bin .add (.x 7) (.x 9), .x 10), (.bin .gtr (.x 10) (.i .i64 (.ofNat 200)), .b false), (.bin .neq (.x 0) (.s 0 0), .b true), (.bin .neq (.x 4) (.i .u8 (.ofNat 1)), .b false), (.bin .lss (.x 3) (.i .i64 (.ofNat 8)), .b false), (.bin .add (.i .i64 (.ofNat 8)) (.x 7), .x 11), (.bin .add (.x 11) (.x 9), .x 12), (.idx (.x 0) (.i .i64 (.ofNat 6)), .x 13), (.conv 3 (.x 13), .x 14), (.bin .add (.x 12) (.x 14), .x 15), (.bin .lss (.x 3) (.x 15), .b false), (.idx (.x 0) (.i .i64 (.ofNat 1)), .x 16), (.bin .eql (.x 16) (.i .u8 (.ofNat 0)), .b false), (.conv 3 (.x 16), .x 17), (.idx (.x 0) (.i .i64 (.ofNat 2)), .x 18), (.conv 3 (.x 18), .x 19), (.bin .shl (.x 19) (.i .u64 (.ofNat 8)), .x 20), (.idx (.x 0) (.i .i64 (.ofNat 3)), .x 21), (.conv 3 (.x 21), .x 22), (.bin .or (.x 20) (.x 22), .x 23), (.bin .sub (.x 15) (.x 14), .x 24), (.sub (.x 0) (some (.i .i64 (.ofNat 8))) (some (.x 24)), .x 25), (.sub (.x 0) (some (.x 15)) none, .x 26), (.ra (.x 2000000) [.x 17, .x 23, .x 25, .x 14], .x 2000002), (.rf (.x 2000002) 4 40, .b true)]
theorem runCu1_p9 : RNCu1_1 hyCu1_p9 .normal [(0, .x 26), (1, .x 1), (2000000, .x 2000002)] [(120, 128), (121, 121)] 122 epCu1_1 hpCu1_1 = true := by kernel_rfl
theorem nxCu1_p9 (To : List (Int × Int × LB × Int)) (Tr : LB) (Tk nd : Int) (s : LB) (o : List (Int × Int × LB × Int)) (X : Nat → Value) (hI : InvCu1 To Tr Tk nd (1, s, o)) (h0 : 6 ≤ (s.length : Int)) (h1 : bt s 0 = 1) (h2 : ¬ (200 < (bt s 4) * 256 + (bt s 5))) (h5 : ¬ ((s.length : Int) < 8)) (h6 : ¬ ((s.length : Int) < (bt s 4) * 256 + (bt s 5) + (bt s 6) + 8)) (h7 : ¬ (bt s 1 = 0)) : RHCu1 To Tr Tk nd E' x' e' h' (1, s, o) X := by
  obtain ⟨i0, i1, i2, i3, i4, i5, i6, it⟩ := unICu1 To Tr Tk nd 1 s o hI
  have := bt_lo s 0; have := bt_hi s 0
  have := bt_lo s 4; have := bt_hi s 4
  have := bt_lo s 5; have := bt_hi s 5
  have := bt_lo s 6; have := bt_hi s 6
  have := bt_lo s 1; have := bt_hi s 1
  have := bt_lo s 2; have := bt_hi s 2
  have := bt_lo s 3; have := bt_hi s 3
  have := rcC_len (s := s) (by omega)
  have := lenDrop (l := s) (P := (bt s 4) * 256 + (bt s 5) + (bt s 6) + 8) (by omega) (by omega)
  have hb1 := bt_lo s 4; have hb2 := bt_lo s 5; have hb3 := bt_lo s 6; have hb4 := bt_hi s 4; have hb5 := bt_hi s 5; have hb6 := bt_hi s 6
  have hcu := cu_rec (m := 200) (s := s) (rest := (List.drop (Int.toNat ((bt s 4) * 256 + (bt s 5) + (bt s 6) + 8)) s)) (To := To) (Tr := Tr) (Tk := Tk) (rck00 (by omega) (by omega) (by omega) (by omega) (by omega)) (by congr 2; unfold rsz; omega) i1 i2 i3
  refine stCu1_1 To Tr Tk nd s o (h := hyCu1_p9) (1, (List.drop (Int.toNat ((bt s 4) * 256 + (bt s 5) + (bt s 6) + 8)) s), (o ++ [((bt s 1), (bt s 2) * 256 + (bt s 3), (rcC s), (bt s 6))])) ?_ (mkICu1 To Tr Tk nd 1 (List.drop (Int.toNat ((bt s 4) * 256 + (bt s 5) + (bt s 6) + 8)) s) (o ++ [((bt s 1), (bt s 2) * 256 + (bt s 3), (rcC s), (bt s 6))]) ⟨by first | omega | (rw [List.length_drop]; omega), hcu.1, hcu.2.1, hcu.2.2, by simp only [List.length_append, List.length_cons, List.length_nil, List.length_drop]; omega, fun h => by omega, fun _ => by simp, by omega⟩) (by show ((List.drop (Int.toNat ((bt s 4) * 256 + (bt s 5) + (bt s 6) + 8)) s)).length < s.length; rw [List.length_drop]; omega) (thXv (v := St' (List.drop (Int.toNat ((bt s 4) * 256 + (bt s 5) + (bt s 6) + 8)) s)) rfl rfl (thXv (v := .int .i64 (nd)) rfl rfl (thXv (v := rwG reC (o ++ [((bt s 1), (bt s 2) * 256 + (bt s 3), (rcC s), (bt s 6))])) rfl rfl (thNil)))) runCu1_p9
  unfold hyCu1_p9
  exact hc (kRn (denX rfl)) <|
   hc (kBytesB (bs := ([] : LB)) .nil (denX rfl)) <|
   hc (lnV rfl rfl (by omega)) <|
   hc (gecT rfl (by omega)) <|
   hc (ixC rfl rfl (by omega)) <|
   hc (eqcT rfl (by omega)) <|
   hc (ixC rfl rfl (by omega)) <|
   hc (kConvF (isX rfl) tu3 (denX rfl) (fI64 (by omega) (by omega))) <|
   hc (kShlM 8 256 rfl (isX rfl) (isZ (m := 8) rfl) (denX rfl) rfl (by decide) (by omega) (fI64 (by omega) (by omega))) <|
   hc (ixC rfl rfl (by omega)) <|
   hc (kConvF (isX rfl) tu3 (denX rfl) (fI64 (by omega) (by omega))) <|
   hc (adX rfl rfl rfl (by omega)) <|
   hc (gtcF rfl (by omega)) <|
   hc (kNeS (isX rfl) (isSx (l := ([] : LB)) 0 0 rfl) (bnT (nilF (by omega)))) <|
   hc (necF rfl (by omega)) <|
   hc (ltcF rfl (by omega)) <|
   hc (kAdd (isZ (m := 8) rfl) (isX rfl) (denX rfl) (by omega) (fI64 (by omega) (by omega))) <|
   hc (adX rfl rfl rfl (by omega)) <|
   hc (ixC rfl rfl (by omega)) <|
   hc (kConvF (isX rfl) tu3 (denX rfl) (fI64 (by omega) (by omega))) <|
   hc (adX rfl rfl rfl (by omega)) <|
   hc (ltF rfl rfl (by omega)) <|
   hc (ixC rfl rfl (by omega)) <|
   hc (eqcF rfl (by omega)) <|
   hc (kConvF (isX rfl) tu3 (denX rfl) (fI64 (by omega) (by omega))) <|
   hc (ixC rfl rfl (by omega)) <|
   hc (kConvF (isX rfl) tu3 (denX rfl) (fI64 (by omega) (by omega))) <|
   hc (kShlM 8 256 rfl (isX rfl) (isZ (m := 8) rfl) (denX rfl) rfl (by decide) (by omega) (fI64 (by omega) (by omega))) <|
   hc (ixC rfl rfl (by omega)) <|
   hc (kConvF (isX rfl) tu3 (denX rfl) (fI64 (by omega) (by omega))) <|
   hc (kOrM 8 256 rfl (isX rfl) (isX rfl) (denX rfl) (by omega) (by omega) (fI64 (by omega) (by omega)) (fI64 (by omega) (by omega)) (by omega) (by omega) (by omega) (fI64 (by omega) (by omega))) <|
   hc (sbX rfl rfl rfl (by omega)) <|
   hc (kMid (P := 8) (Q := (bt s 4) * 256 + (bt s 5) + 8) (isX rfl) (.inr ⟨_, _, rfl, (isZ (m := 8) rfl)⟩) (.inr ⟨_, _, rfl, (isX rfl)⟩) (by omega) (by omega) (by omega) (denX (congrArg (fun l => St' l) (rcC_mid (by omega) (by omega))))) <|
   hc (drV rfl rfl rfl (by omega)) <|
   hc (kRaG (f := reC) (l := o) (a := ((bt s 1), (bt s 2) * 256 + (bt s 3), (rcC s), (bt s 6))) (isX rfl) (isL4 (isX rfl) (isX rfl) (isX rfl) (isX rfl)) (denX rfl)) <|
   hc (kRfG reC_len (isX rfl) (by first | (rw [List.length_append]; omega) | (first | omega | (simp <;> omega))) (by first | (rw [List.length_append]; omega) | (first | omega | (simp <;> omega)))) <|
   hnil
def hyCu1_p10 : LK := [(.rn, .x 2000003), (.bytes [], .x 27), (.len (.x 0), .x 28), (.bin .geq (.x 28) (.i .i64 (.ofNat 6)), .b false), (.bin .neq (.x 0) (.s 0 0), .b false), (.bin .lss (.x 28) (.i .i64 (.ofNat 8)), .b true)]
def hyCu1_p11 : LK := [(.rn, .x 2000004), (.bytes [], .x 29), (.len (.x 0), .x 30), (.bin .geq (.x 30) (.i .i64 (.ofNat 6)), .b false), (.bin .neq (.x 0) (.s 0 0), .b true), (.idx (.x 0) (.i .i64 (.ofNat 0)), .x 31), (.bin .neq (.x 31) (.i .u8 (.ofNat 1)), .b false), (.bin .lss (.x 30) (.i .i64 (.ofNat 8)), .b true)]
def hyCu1_p12 : LK := [(.rn, .x 2000005), (.bytes [], .x 32), (.len (.x 0), .x 33), (.bin .geq (.x 33) (.i .i64 (.ofNat 6)), .b false), (.bin .neq (.x 0) (.s 0 0), .b true), (.idx (.x 0) (.i .i64 (.ofNat 0)), .x 34), (.bin .neq (.x 34) (.i .u8 (.ofNat 1)), .b true)]
def lh21 : LH := ⟨1, 151, 161, [(126, .b ⟨29, .l [.i .i64 (.ofNat 0)], 0, 0, 0, false, false⟩)], [(126, .b ⟨29, .l [.i .i64 (.ofNat 13)], 0, 0, 0, false, false⟩)]⟩
def lf21 : LF := ⟨8888888, 0, [(0, .ifc 68 (.ag [.i .i64 (.ofNat 13), .s 27 45430407375676916831998826942035274374409028507990266741766889569])), (1, .ifc 66 (.p 126 0))], [], .normal, [(0, .b true)], some lh21⟩
noncomputable def tbCu1_p12 : Tab := addLps ((tbl hyCu1_p12)) 25 fi25 [lf21]
def LCu1_p12 : List LF := []
theorem runCu1_p12 : okRdH (code tbCu1_p12 4000 LCu1_p12 bodyCu1 (envOf (headOf epCu1_1 keepCu1) 38) ⟨lhSet hpCu1_1 .leaf, 122, 0, 0⟩) .ret keepCu1 38 180 [(0, .x 0), (1, .x 1), (2000000, .x 2000000)] [(120, 120), (121, 121)] 120 180 [(4, .sr 120), (5, .x 0), (6, .ifc 68 (.ag [.i .i64 (.ofNat 13), .s 35 883751524516594027940889836758751821087985845510287451484159566615753519918736505186]))] [(2, .b ⟨53, .l [.i .i64 (.ofNat 200), .sy 121, .x 1, .b false], 0, 0, 0, false, false⟩), (120, .r 2000000 26 4 false)] = true := by kernel_rfl
def hyCu1_p13 : LK := [(.rn, .x 2000006), (.bytes [], .x 35), (.len (.x 0), .x 36), (.bin .geq (.x 36) (.i .i64 (.ofNat 6)), .b true), (.idx (.x 0) (.i .i64 (.ofNat 0)), .x 37), (.bin .eql (.x 37) (.i .u8 (.ofNat 1)), .b false), (.bin .neq (.x 0) (.s 0 0), .b true), (.bin .neq (.x 37) (.i .u8 (.ofNat 1)), .b true)]
def lh22 : LH := ⟨1, 151, 161, [(126, .b ⟨29, .l [.i .i64 (.ofNat 0)], 0, 0, 0, false, false⟩)], [(126, .b ⟨29, .l [.i .i64 (.ofNat 13)], 0, 0, 0, false, false⟩)]⟩
def lf22 : LF := ⟨8888888, 0, [(0, .ifc 68 (.ag [.i .i64 (.ofNat 13), .s 27 45430407375676916831998826942035274374409028507990266741766889569])), (1, .ifc 66 (.p 126 0))], [], .normal, [(0, .b true)], some lh22⟩
noncomputable def tbCu1_p13 : Tab := addLps ((tbl hyCu1_p13)) 25 fi25 [lf22]
def LCu1_p13 : List LF := []
theorem runCu1_p13 : okRdH (code tbCu1_p13 4000 LCu1_p13 bodyCu1 (envOf (headOf epCu1_1 keepCu1) 38) ⟨lhSet hpCu1_1 .leaf, 122, 0, 0⟩) .ret keepCu1 38 180 [(0, .x 0), (1, .x 1), (2000000, .x 2000000)] [(120, 120), (121, 121)] 120 180 [(4, .sr 120), (5, .x 0), (6, .ifc 68 (.ag [.i .i64 (.ofNat 13), .s 35 883751524516594027940889836758751821087985845510287451484159566615753519918736505186]))] [(2, .b ⟨53, .l [.i .i64 (.ofNat 200), .sy 121, .x 1, .b false], 0, 0, 0, false, false⟩), (120, .r 2000000 26 4 false)] = true := by kernel_rfl
def hyCu1_p14 : LK := [(.rn, .x 2000007), (.bytes [], .x 38), (.len (.x 0), .x 39), (.bin .geq (.x 39) (.i .i64 (.ofNat 6)), .b true), (.idx (.x 0) (.i .i64 (.ofNat 0)), .x 40), (.bin .eql (.x 40) (.i .u8 (.ofNat 1)), .b true), (.idx (.x 0) (.i .i64 (.ofNat 4)), .x 41), (.conv 3 (.x 41), .x 42), (.bin .shl (.x 42) (.i .u64 (.ofNat 8)), .x 43), (.idx (.x 0) (.i .i64 (.ofNat 5)), .x 44), (.conv 3 (.x 44), .x 45), (.bin .add (.x 43) (.x 45), .x 46), (.bin .gtr (.x 46) (.i .i64 (.ofNat 200)), .b true)]
def lh23 : LH := ⟨1, 151, 161, [(124, .b ⟨29, .l [.i .i64 (.ofNat 0)], 0, 0, 0, false, false⟩)], [(124, .b ⟨29, .l [.i .i64 (.ofNat 12)], 0, 0, 0, false, false⟩)]⟩
def lf23 : LF := ⟨8888888, 0, [(0, .ifc 29 (.i .i64 (.ofNat 12))), (1, .ifc 66 (.p 124 0))], [], .normal, [(0, .b true)], some lh23⟩
noncomputable def tbCu1_p14 : Tab := addLps ((tbl hyCu1_p14)) 25 fi25 [lf23]
def LCu1_p14 : List LF := []
theorem runCu1_p14 : okRdH (code tbCu1_p14 4000 LCu1_p14 bodyCu1 (envOf (headOf epCu1_1 keepCu1) 38) ⟨lhSet hpCu1_1 .leaf, 122, 0, 0⟩) .ret keepCu1 38 180 [(0, .x 0), (1, .x 1), (2000000, .x 2000000)] [(120, 120), (121, 121)] 120 180 [(4, .sr 120), (5, .x 0), (6, .ifc 68 (.ag [.i .i64 (.ofNat 12), .s 35 883751524516594027940889836758751821087985845510287451484159566615753519918736505186]))] [(2, .b ⟨53, .l [.i .i64 (.ofNat 200), .sy 121, .x 1, .b false], 0, 0, 0, false, false⟩), (120, .r 2000000 26 4 false)] = true := by kernel_rfl
def hyCu1_p15 : LK := [(.rn, .x 2000008), (.bytes [], .x 47), (.len (.x 0), .x 48), (.bin .geq (.x 48) (.i .i64 (.ofNat 6)), .b true), (.idx (.x 0) (.i .i64 (.ofNat 0)), .x 49), (.bin .eql (.x 49) (.i .u8 (.ofNat 1)), .b true), (.idx (.x 0) (.i .i64 (.ofNat 4)), .x 50), (.conv 3 (.x 50), .x 51), (.bin .shl (.x 51) (.i .u64 (.ofNat 8)), .x 52), (.idx (.x 0) (.i .i64 (.ofNat 5)), .x 53), (.conv 3 (.x 53), .x 54), (.bin .add (.x 52) (.x 54), .x 55), (.bin .gtr (.x 55) (.i .i64 (.ofNat 200)), .b false), (.bin .neq (.x 0) (.s 0 0), .b true), (.bin .neq (.x 49) (.i .u8 (.ofNat 1)), .b false), (.bin .lss (.x 48) (.i .i64 (.ofNat 8)), .b true)]
def hyCu1_p16 : LK := [(.rn, .x 2000009), (.bytes [], .x 56), (.len (.x 0), .x 57), (.bin .geq (.x 57) (.i .i64 (.ofNat 6)), .b true), (.idx (.x 0) (.i .i64 (.ofNat 0)), .x 58), (.bin .eql (.x 58) (.i .u8 (.ofNat 1)), .b true), (.idx (.x 0) (.i .i64 (.ofNat 4)), .x 59), (.conv 3 (.x 59), .x 60), (.bin .shl (.x 60) (.i .u64 (.ofNat 8)), .x 61), (.idx (.x 0) (.i .i64 (.ofNat 5)), .x 62), (.conv 3 (.x 62), .x 63), (.bin .add (.x 61) (.x 63), .x 64), (.bin .gtr (.x 64) (.i .i64 (.ofNat 200)), .b false), (.bin .neq (.x 0) (.s 0 0), .b true), (.bin .neq (.x 58) (.i .u8 (.ofNat 1)), .b false), (.bin .lss (.x 57) (.i .i64 (.ofNat 8)), .b false), (.bin .add (.i .i64 (.ofNat 8)) (.x 61), .x 65), (.bin .add (.x 65) (.x 63), .x 66), (.idx (.x 0) (.i .i64 (.ofNat 6)), .x 67), (.conv 3 (.x 67), .x 68), (.bin .add (.x 66) (.x 68), .x 69), (.bin .lss (.x 57) (.x 69), .b true)]
def hyCu1_p17 : LK := [(.rn, .x 2000010), (.bytes [], .x 70), (.len (.x 0), .x 71), (.bin .geq (.x 71) (.i .i64 (.ofNat 6)), .b true), (.idx (.x 0) (.i .i64 (.ofNat 0)), .x 72), (.bin .eql (.x 72) (.i .u8 (.ofNat 1)), .b true), (.idx (.x 0) (.i .i64 (.ofNat 4)), .x 73), (.conv 3 (.x 73), .x 74), (.bin .shl (.x 74) (.i .u64 (.ofNat 8)), .x 75), (.idx (.x 0) (.i .i64 (.ofNat 5)), .x 76), (.conv 3 (.x 76), .x 77), (.bin .add (.x 75) (.x 77), .x 78), (.bin .gtr (.x 78) (.i .i64 (.ofNat 200)), .b false), (.bin .neq (.x 0) (.s 0 0), .b true), (.bin .neq (.x 72) (.i .u8 (.ofNat 1)), .b false), (.bin .lss (.x 71) (.i .i64 (.ofNat 8)), .b false), (.bin .add (.i .i64 (.ofNat 8)) (.x 75), .x 79), (.bin .add (.x 79) (.x 77), .x 80), (.idx (.x 0) (.i .i64 (.ofNat 6)), .x 81), (.conv 3 (.x 81), .x 82), (.bin .add (.x 80) (.x 82), .x 83), (.bin .lss (.x 71) (.x 83), .b false), (.idx (.x 0) (.i .i64 (.ofNat 1)), .x 84), (.bin .eql (.x 84) (.i .u8 (.ofNat 0)), .b true)]
def lh25 : LH := ⟨1, 151, 161, [(125, .b ⟨29, .l [.i .i64 (.ofNat 0)], 0, 0, 0, false, false⟩)], [(125, .b ⟨29, .l [.i .i64 (.ofNat 10)], 0, 0, 0, false, false⟩)]⟩
def lf25 : LF := ⟨8888888, 0, [(0, .ifc 68 (.ag [.i .i64 (.ofNat 10), .s 18 4192413596494156358521667725059818226065505])), (1, .ifc 66 (.p 125 0))], [], .normal, [(0, .b true)], some lh25⟩
noncomputable def tbCu1_p17 : Tab := addLps ((tbl hyCu1_p17)) 25 fi25 [lf25]
def LCu1_p17 : List LF := []
theorem runCu1_p17 : okRdH (code tbCu1_p17 4000 LCu1_p17 bodyCu1 (envOf (headOf epCu1_1 keepCu1) 38) ⟨lhSet hpCu1_1 .leaf, 122, 0, 0⟩) .ret keepCu1 38 180 [(0, .x 0), (1, .x 1), (2000000, .x 2000000)] [(120, 120), (121, 121)] 120 180 [(4, .sr 120), (5, .x 0), (6, .ifc 68 (.ag [.i .i64 (.ofNat 10), .s 35 883751524516594027940889836758751821087985845510287451484159566615753519918736505186]))] [(2, .b ⟨53, .l [.i .i64 (.ofNat 200), .sy 121, .x 1, .b false], 0, 0, 0, false, false⟩), (120, .r 2000000 26 4 false)] = true := by kernel_rfl
def nuECu1_0 (To : List (Int × Int × LB × Int)) (Tr : LB) (Tk nd : Int) : List Value := [St' Tr, .int .i64 (nd)]
def roECu1_0 (To : List (Int × Int × LB × Int)) (Tr : LB) (Tk nd : Int) : List Value := []
noncomputable def ECu1_0 (To : List (Int × Int × LB × Int)) (Tr : LB) (Tk nd : Int) : Cx := cx (nuX (nuECu1_0 To Tr Tk nd) (rX (roECu1_0 To Tr Tk nd) (fun _ => .bool true))) (nuX_one (nuL_one (l := nuECu1_0 To Tr Tk nd) rfl)) 1 laidE laidE_stab
theorem roundsCu1_0 (To : List (Int × Int × LB × Int)) (Tr : LB) (Tk nd : Int) (x0 : Tk = 10) (x1 : To.length = 0) (st : Nat × LB × List (Int × Int × LB × Int)) (X : Nat → Value) (hI : InvCu1 To Tr Tk nd st) : RHCu1 To Tr Tk nd (ECu1_0 To Tr Tk nd) .ret [(4, .nils), (5, .x 0), (6, .ifc 68 (.ag [.i .i64 (.ofNat 10), .s 35 883751524516594027940889836758751821087985845510287451484159566615753519918736505186]))] [(2, .b ⟨53, .l [.i .i64 (.ofNat 200), .sy 121, .x 1, .b false], 0, 0, 0, false, false⟩)] st X := by
  obtain ⟨tag, s, o⟩ := st
  have hI0 := hI
  obtain ⟨i0, i1, i2, i3, i4, i5, i6, it⟩ := unICu1 To Tr Tk nd tag s o hI
  rcases (show tag = 0 ∨ tag = 1 from by omega) with rfl | rfl
  · skip
    by_cases h0 : 6 ≤ (s.length : Int)
    · by_cases h1 : bt s 0 = 1
      · by_cases h2 : 200 < (bt s 4) * 256 + (bt s 5)
        · exfalso; exact cz (rck12 (by omega) (by omega) (by omega)) (by decide) i3 (by omega)
        · by_cases h5 : (s.length : Int) < 8
          · exfalso; exact cz (rck11 (by omega) (by omega) (by omega)) (by decide) i3 (by omega)
          · by_cases h6 : (s.length : Int) < (bt s 4) * 256 + (bt s 5) + (bt s 6) + 8
            · exfalso; exact cz (rck11 (by omega) (by omega) (by omega)) (by decide) i3 (by omega)
            · by_cases h7 : bt s 1 = 0
              · skip
                have := bt_lo s 0; have := bt_hi s 0
                have := bt_lo s 4; have := bt_hi s 4
                have := bt_lo s 5; have := bt_hi s 5
                have := bt_lo s 6; have := bt_hi s 6
                have := bt_lo s 1; have := bt_hi s 1
                have hb1 := bt_lo s 4; have hb2 := bt_lo s 5; have hb3 := bt_lo s 6; have hb4 := bt_hi s 4; have hb5 := bt_hi s 5; have hb6 := bt_hi s 6
                have hce := cu_end (m := 200) (s := s) (k := 10) (rck10 (by omega) (by omega) (by omega) (by omega) (by omega)) (by decide) i1 i2 i3
                have ho : ∀ a' r', (a', r') ∈ hyCu1_p8 → HOk (cx (nuX (nuCu1_0 To Tr Tk nd s o) (rX (roCu1_0 To Tr Tk nd s o) X)) (nuX_one (nuL_one (l := nuCu1_0 To Tr Tk nd s o) rfl)) 1 laidE laidE_stab) a' r' := by
                  unfold hyCu1_p8
                  exact hc (kRn (denX rfl)) <|
                   hc (kBytesB (bs := ([] : LB)) .nil (denX rfl)) <|
                   hc (lnV rfl rfl (by omega)) <|
                   hc (gecT rfl (by omega)) <|
                   hc (ixC rfl rfl (by omega)) <|
                   hc (eqcT rfl (by omega)) <|
                   hc (ixC rfl rfl (by omega)) <|
                   hc (kConvF (isX rfl) tu3 (denX rfl) (fI64 (by omega) (by omega))) <|
                   hc (kShlM 8 256 rfl (isX rfl) (isZ (m := 8) rfl) (denX rfl) rfl (by decide) (by omega) (fI64 (by omega) (by omega))) <|
                   hc (ixC rfl rfl (by omega)) <|
                   hc (kConvF (isX rfl) tu3 (denX rfl) (fI64 (by omega) (by omega))) <|
                   hc (adX rfl rfl rfl (by omega)) <|
                   hc (gtcF rfl (by omega)) <|
                   hc (kNeS (isX rfl) (isSx (l := ([] : LB)) 0 0 rfl) (bnT (nilF (by omega)))) <|
                   hc (necF rfl (by omega)) <|
                   hc (ltcF rfl (by omega)) <|
                   hc (kAdd (isZ (m := 8) rfl) (isX rfl) (denX rfl) (by omega) (fI64 (by omega) (by omega))) <|
                   hc (adX rfl rfl rfl (by omega)) <|
                   hc (ixC rfl rfl (by omega)) <|
                   hc (kConvF (isX rfl) tu3 (denX rfl) (fI64 (by omega) (by omega))) <|
                   hc (adX rfl rfl rfl (by omega)) <|
                   hc (ltF rfl rfl (by omega)) <|
                   hc (ixC rfl rfl (by omega)) <|
                   hc (eqcT rfl (by omega)) <|
                   hnil
                exact lLCu1_0 To Tr Tk nd s o (tb := tbCu1_p8) (L := LCu1_p8) rfl (AllOk.lp2 ((tabkOk _ _).hyps ho) (by omega) fi25_at fi25_body (lfCons (.inr ⟨⟨rfl, rfl⟩, cfA25, cfAs1x2_0 (l := lf19) (h := lh19) (q := (0, .b true)) rfl rfl (by kernel_rfl) (th0 := []) (sg0 := []) (thNil) (by kernel_rfl) (thx := []) (thNil) (by kernel_rfl)⟩) lfNil)) (lpOk_one lfNil) rfl (thXe (v := St' s) (u := St' Tr) rfl rfl (congrArg (fun l => St' l) hce.2.1) (thXv (v := .int .i64 (nd)) rfl rfl (thNil))) runCu1_p8
              · exact nxCu1_p0 To Tr Tk nd s o X hI0 h0 h1 h2 h5 h6 h7
      · exfalso; exact cz (rck13 (by omega) (by omega)) (by decide) i3 (by omega)
    · by_cases h1 : (s.length : Int) = 0
      · exfalso; exact cz (rck11 (by omega) (by omega) (by omega)) (by decide) i3 (by omega)
      · by_cases h2 : bt s 0 = 1
        · exfalso; exact cz (rck11 (by omega) (by omega) (by omega)) (by decide) i3 (by omega)
        · exfalso; exact cz (rck13 (by omega) (by omega)) (by decide) i3 (by omega)
  · skip
    by_cases h0 : 6 ≤ (s.length : Int)
    · by_cases h1 : bt s 0 = 1
      · by_cases h2 : 200 < (bt s 4) * 256 + (bt s 5)
        · exfalso; exact cz (rck12 (by omega) (by omega) (by omega)) (by decide) i3 (by omega)
        · by_cases h5 : (s.length : Int) < 8
          · exfalso; exact cz (rck11 (by omega) (by omega) (by omega)) (by decide) i3 (by omega)
          · by_cases h6 : (s.length : Int) < (bt s 4) * 256 + (bt s 5) + (bt s 6) + 8
            · exfalso; exact cz (rck11 (by omega) (by omega) (by omega)) (by decide) i3 (by omega)
            · by_cases h7 : bt s 1 = 0
              · exfalso; have hce := cu_end (rck10 (by omega) (by omega) (by omega) (by omega) (by omega)) (by decide) i1 i2 i3; have h0 := i6 rfl; rw [hce.1] at h0; omega
              · exact nxCu1_p9 To Tr Tk nd s o X hI0 h0 h1 h2 h5 h6 h7
      · exfalso; exact cz (rck13 (by omega) (by omega)) (by decide) i3 (by omega)
    · by_cases h1 : (s.length : Int) = 0
      · exfalso; exact cz (rck11 (by omega) (by omega) (by omega)) (by decide) i3 (by omega)
      · by_cases h2 : bt s 0 = 1
        · exfalso; exact cz (rck11 (by omega) (by omega) (by omega)) (by decide) i3 (by omega)
        · exfalso; exact cz (rck13 (by omega) (by omega)) (by decide) i3 (by omega)
theorem lfOkCu1_0 {l : LF} {h : LH} (To : List (Int × Int × LB × Int)) (Tr : LB) (Tk nd : Int) (x0 : Tk = 10) (x1 : To.length = 0) (st : Nat × LB × List (Int × Int × LB × Int)) (hI : InvCu1 To Tr Tk nd st) (hl : l.hp = some h) (hs : lfSame l h 38 keepCu1 .ret 1 120 180 = true) {th0 : LA} {sg0 : List (Nat × Nat)} (hth0 : ∀ X, ThOk (cx nu one 1 laidE laidE_stab) (DCu1 To Tr Tk nd st X) th0) (h0 : startOk l h 38 120 122 th0 sg0 (epCu1 st) (hpCu1 st) = true) {thx : LA} (hthx : ThOk (ECu1_0 To Tr Tk nd) (cx nu one 1 laidE laidE_stab) thx) (hx : exitOk l h 38 120 180 thx [(4, .nils), (5, .x 0), (6, .ifc 68 (.ag [.i .i64 (.ofNat 10), .s 35 883751524516594027940889836758751821087985845510287451484159566615753519918736505186]))] [(2, .b ⟨53, .l [.i .i64 (.ofNat 200), .sy 121, .x 1, .b false], 0, 0, 0, false, false⟩)] = true) : LfOk (cx nu one 1 laidE laidE_stab) bodyCu1 l :=
  lfOkX (E := ECu1_0 To Tr Tk nd) (InvCu1 To Tr Tk nd) (muCu1 To Tr Tk nd) (DCu1 To Tr Tk nd) (fun _ _ => rfl) (fun _ _ => rfl) (fun _ _ => rfl) (fun st X t ht => nuX_keep.trans (rX_keep ((by decide : ∀ t, t ∈ keepCu1 → t < 1000000) t ht))) rfl rfl rfl hl hs ebCu1 rfl rfl st hI hth0 h0 hthx hx (roundsCu1_0 To Tr Tk nd x0 x1)
def nuECu1_1 (To : List (Int × Int × LB × Int)) (Tr : LB) (Tk nd : Int) : List Value := [St' Tr, .int .i64 (nd)]
def roECu1_1 (To : List (Int × Int × LB × Int)) (Tr : LB) (Tk nd : Int) : List Value := [rwG reC To]
noncomputable def ECu1_1 (To : List (Int × Int × LB × Int)) (Tr : LB) (Tk nd : Int) : Cx := cx (nuX (nuECu1_1 To Tr Tk nd) (rX (roECu1_1 To Tr Tk nd) (fun _ => .bool true))) (nuX_one (nuL_one (l := nuECu1_1 To Tr Tk nd) rfl)) 1 laidE laidE_stab
theorem roundsCu1_1 (To : List (Int × Int × LB × Int)) (Tr : LB) (Tk nd : Int) (x0 : Tk = 10) (x1 : ¬ To.length = 0) (st : Nat × LB × List (Int × Int × LB × Int)) (X : Nat → Value) (hI : InvCu1 To Tr Tk nd st) : RHCu1 To Tr Tk nd (ECu1_1 To Tr Tk nd) .ret [(4, .sr 120), (5, .x 0), (6, .ifc 68 (.ag [.i .i64 (.ofNat 10), .s 35 883751524516594027940889836758751821087985845510287451484159566615753519918736505186]))] [(2, .b ⟨53, .l [.i .i64 (.ofNat 200), .sy 121, .x 1, .b false], 0, 0, 0, false, false⟩), (120, .r 2000000 26 4 false)] st X := by
  obtain ⟨tag, s, o⟩ := st
  have hI0 := hI
  obtain ⟨i0, i1, i2, i3, i4, i5, i6, it⟩ := unICu1 To Tr Tk nd tag s o hI
  rcases (show tag = 0 ∨ tag = 1 from by omega) with rfl | rfl
  · skip
    by_cases h0 : 6 ≤ (s.length : Int)
    · by_cases h1 : bt s 0 = 1
      · by_cases h2 : 200 < (bt s 4) * 256 + (bt s 5)
        · exfalso; exact cz (rck12 (by omega) (by omega) (by omega)) (by decide) i3 (by omega)
        · by_cases h5 : (s.length : Int) < 8
          · exfalso; exact cz (rck11 (by omega) (by omega) (by omega)) (by decide) i3 (by omega)
          · by_cases h6 : (s.length : Int) < (bt s 4) * 256 + (bt s 5) + (bt s 6) + 8
            · exfalso; exact cz (rck11 (by omega) (by omega) (by omega)) (by decide) i3 (by omega)
            · by_cases h7 : bt s 1 = 0
              · exfalso; have hce := cu_end (rck10 (by omega) (by omega) (by omega) (by omega) (by omega)) (by decide) i1 i2 i3; have h0 := i5 rfl; rw [← hce.1, h0] at x1; simp at x1
              · exact nxCu1_p0 To Tr Tk nd s o X hI0 h0 h1 h2 h5 h6 h7
      · exfalso; exact cz (rck13 (by omega) (by omega)) (by decide) i3 (by omega)
    · by_cases h1 : (s.length : Int) = 0
      · exfalso; exact cz (rck11 (by omega) (by omega) (by omega)) (by decide) i3 (by omega)
      · by_cases h2 : bt s 0 = 1
        · exfalso; exact cz (rck11 (by omega) (by omega) (by omega)) (by decide) i3 (by omega)
        · exfalso; exact cz (rck13 (by omega) (by omega)) (by decide) i3 (by omega)
  · skip
    by_cases h0 : 6 ≤ (s.length : Int)
    · by_cases h1 : bt s 0 = 1
      · by_cases h2 : 200 < (bt s 4) * 256 + (bt s 5)
        · exfalso; exact cz (rck12 (by omega) (by omega) (by omega)) (by decide) i3 (by omega)
        · by_cases h5 : (s.length : Int) < 8
          · exfalso; exact cz (rck11 (by omega) (by omega) (by omega)) (by decide) i3 (by omega)
          · by_cases h6 : (s.length : Int) < (bt s 4) * 256 + (bt s 5) + (bt s 6) + 8
            · exfalso; exact cz (rck11 (by omega) (by omega) (by omega)) (by decide) i3 (by omega)
            · by_cases h7 : bt s 1 = 0
              · skip
                have := bt_lo s 0; have := bt_hi s 0
                have := bt_lo s 4; have := bt_hi s 4
                have := bt_lo s 5; have := bt_hi s 5
                have := bt_lo s 6; have := bt_hi s 6
                have := bt_lo s 1; have := bt_hi s 1
                have hb1 := bt_lo s 4; have hb2 := bt_lo s 5; have hb3 := bt_lo s 6; have hb4 := bt_hi s 4; have hb5 := bt_hi s 5; have hb6 := bt_hi s 6
                have hce := cu_end (m := 200) (s := s) (k := 10) (rck10 (by omega) (by omega) (by omega) (by omega) (by omega)) (by decide) i1 i2 i3
                have ho : ∀ a' r', (a', r') ∈ hyCu1_p17 → HOk (cx (nuX (nuCu1_1 To Tr Tk nd s o) (rX (roCu1_1 To Tr Tk nd s o) X)) (nuX_one (nuL_one (l := nuCu1_1 To Tr Tk nd s o) rfl)) 1 laidE laidE_stab) a' r' := by
                  unfold hyCu1_p17
                  exact hc (kRn (denX rfl)) <|
                   hc (kBytesB (bs := ([] : LB)) .nil (denX rfl)) <|
                   hc (lnV rfl rfl (by omega)) <|
                   hc (gecT rfl (by omega)) <|
                   hc (ixC rfl rfl (by omega)) <|
                   hc (eqcT rfl (by omega)) <|
                   hc (ixC rfl rfl (by omega)) <|
                   hc (kConvF (isX rfl) tu3 (denX rfl) (fI64 (by omega) (by omega))) <|
                   hc (kShlM 8 256 rfl (isX rfl) (isZ (m := 8) rfl) (denX rfl) rfl (by decide) (by omega) (fI64 (by omega) (by omega))) <|
                   hc (ixC rfl rfl (by omega)) <|
                   hc (kConvF (isX rfl) tu3 (denX rfl) (fI64 (by omega) (by omega))) <|
                   hc (adX rfl rfl rfl (by omega)) <|
                   hc (gtcF rfl (by omega)) <|
                   hc (kNeS (isX rfl) (isSx (l := ([] : LB)) 0 0 rfl) (bnT (nilF (by omega)))) <|
                   hc (necF rfl (by omega)) <|
                   hc (ltcF rfl (by omega)) <|
                   hc (kAdd (isZ (m := 8) rfl) (isX rfl) (denX rfl) (by omega) (fI64 (by omega) (by omega))) <|
                   hc (adX rfl rfl rfl (by omega)) <|
                   hc (ixC rfl rfl (by omega)) <|
                   hc (kConvF (isX rfl) tu3 (denX rfl) (fI64 (by omega) (by omega))) <|
                   hc (adX rfl rfl rfl (by omega)) <|
                   hc (ltF rfl rfl (by omega)) <|
                   hc (ixC rfl rfl (by omega)) <|
                   hc (eqcT rfl (by omega)) <|
                   hnil
                exact lLCu1_1 To Tr Tk nd s o (tb := tbCu1_p17) (L := LCu1_p17) rfl (AllOk.lp2 ((tabkOk _ _).hyps ho) (by omega) fi25_at fi25_body (lfCons (.inr ⟨⟨rfl, rfl⟩, cfA25, cfAs1x2_0 (l := lf25) (h := lh25) (q := (0, .b true)) rfl rfl (by kernel_rfl) (th0 := []) (sg0 := []) (thNil) (by kernel_rfl) (thx := []) (thNil) (by kernel_rfl)⟩) lfNil)) (lpOk_one lfNil) rfl (thXe (v := St' s) (u := St' Tr) rfl rfl (congrArg (fun l => St' l) hce.2.1) (thXv (v := .int .i64 (nd)) rfl rfl (thXe (v := rwG reC o) (u := rwG reC To) rfl rfl (congrArg (rwG reC) hce.1) (thNil)))) runCu1_p17
              · exact nxCu1_p9 To Tr Tk nd s o X hI0 h0 h1 h2 h5 h6 h7
      · exfalso; exact cz (rck13 (by omega) (by omega)) (by decide) i3 (by omega)
    · by_cases h1 : (s.length : Int) = 0
      · exfalso; exact cz (rck11 (by omega) (by omega) (by omega)) (by decide) i3 (by omega)
      · by_cases h2 : bt s 0 = 1
        · exfalso; exact cz (rck11 (by omega) (by omega) (by omega)) (by decide) i3 (by omega)
        · exfalso; exact cz (rck13 (by omega) (by omega)) (by decide) i3 (by omega)
theorem lfOkCu1_1 {l : LF} {h : LH} (To : List (Int × Int × LB × Int)) (Tr : LB) (Tk nd : Int) (x0 : Tk = 10) (x1 : ¬ To.length = 0) (st : Nat × LB × List (Int × Int × LB × Int)) (hI : InvCu1 To Tr Tk nd st) (hl : l.hp = some h) (hs : lfSame l h 38 keepCu1 .ret 1 120 180 = true) {th0 : LA} {sg0 : List (Nat × Nat)} (hth0 : ∀ X, ThOk (cx nu one 1 laidE laidE_stab) (DCu1 To Tr Tk nd st X) th0) (h0 : startOk l h 38 120 122 th0 sg0 (epCu1 st) (hpCu1 st) = true) {thx : LA} (hthx : ThOk (ECu1_1 To Tr Tk nd) (cx nu one 1 laidE laidE_stab) thx) (hx : exitOk l h 38 120 180 thx [(4, .sr 120), (5, .x 0), (6, .ifc 68 (.ag [.i .i64 (.ofNat 10), .s 35 883751524516594027940889836758751821087985845510287451484159566615753519918736505186]))] [(2, .b ⟨53, .l [.i .i64 (.ofNat 200), .sy 121, .x 1, .b false], 0, 0, 0, false, false⟩), (120, .r 2000000 26 4 false)] = true) : LfOk (cx nu one 1 laidE laidE_stab) bodyCu1 l :=
  lfOkX (E := ECu1_1 To Tr Tk nd) (InvCu1 To Tr Tk nd) (muCu1 To Tr Tk nd) (DCu1 To Tr Tk nd) (fun _ _ => rfl) (fun _ _ => rfl) (fun _ _ => rfl) (fun st X t ht => nuX_keep.trans (rX_keep ((by decide : ∀ t, t ∈ keepCu1 → t < 1000000) t ht))) rfl rfl rfl hl hs ebCu1 rfl rfl st hI hth0 h0 hthx hx (roundsCu1_1 To Tr Tk nd x0 x1)
def nuECu1_2 (To : List (Int × Int × LB × Int)) (Tr : LB) (Tk nd : Int) : List Value := [St' Tr, .int .i64 (nd)]
def roECu1_2 (To : List (Int × Int × LB × Int)) (Tr : LB) (Tk nd : Int) : List Value := []
noncomputable def ECu1_2 (To : List (Int × Int × LB × Int)) (Tr : LB) (Tk nd : Int) : Cx := cx (nuX (nuECu1_2 To Tr Tk nd) (rX (roECu1_2 To Tr Tk nd) (fun _ => .bool true))) (nuX_one (nuL_one (l := nuECu1_2 To Tr Tk nd) rfl)) 1 laidE laidE_stab
theorem roundsCu1_2 (To : List (Int × Int × LB × Int)) (Tr : LB) (Tk nd : Int) (x0 : Tk = 12) (x1 : To.length = 0) (st : Nat × LB × List (Int × Int × LB × Int)) (X : Nat → Value) (hI : InvCu1 To Tr Tk nd st) : RHCu1 To Tr Tk nd (ECu1_2 To Tr Tk nd) .ret [(4, .nils), (5, .x 0), (6, .ifc 68 (.ag [.i .i64 (.ofNat 12), .s 35 883751524516594027940889836758751821087985845510287451484159566615753519918736505186]))] [(2, .b ⟨53, .l [.i .i64 (.ofNat 200), .sy 121, .x 1, .b false], 0, 0, 0, false, false⟩)] st X := by
  obtain ⟨tag, s, o⟩ := st
  have hI0 := hI
  obtain ⟨i0, i1, i2, i3, i4, i5, i6, it⟩ := unICu1 To Tr Tk nd tag s o hI
  rcases (show tag = 0 ∨ tag = 1 from by omega) with rfl | rfl
  · skip
    by_cases h0 : 6 ≤ (s.length : Int)
    · by_cases h1 : bt s 0 = 1
      · by_cases h2 : 200 < (bt s 4) * 256 + (bt s 5)
        · skip
          have := bt_lo s 0; have := bt_hi s 0
          have := bt_lo s 4; have := bt_hi s 4
          have := bt_lo s 5; have := bt_hi s 5
          have hb1 := bt_lo s 4; have hb2 := bt_lo s 5; have hb3 := bt_lo s 6; have hb4 := bt_hi s 4; have hb5 := bt_hi s 5; have hb6 := bt_hi s 6
          have hce := cu_end (m := 200) (s := s) (k := 12) (rck12 (by omega) (by omega) (by omega)) (by decide) i1 i2 i3
          have ho : ∀ a' r', (a', r') ∈ hyCu1_p5 → HOk (cx (nuX (nuCu1_0 To Tr Tk nd s o) (rX (roCu1_0 To Tr Tk nd s o) X)) (nuX_one (nuL_one (l := nuCu1_0 To Tr Tk nd s o) rfl)) 1 laidE laidE_stab) a' r' := by
            unfold hyCu1_p5
            exact hc (kRn (denX rfl)) <|
             hc (kBytesB (bs := ([] : LB)) .nil (denX rfl)) <|
             hc (lnV rfl rfl (by omega)) <|
             hc (gecT rfl (by omega)) <|
             hc (ixC rfl rfl (by omega)) <|
             hc (eqcT rfl (by omega)) <|
             hc (ixC rfl rfl (by omega)) <|
             hc (kConvF (isX rfl) tu3 (denX rfl) (fI64 (by omega) (by omega))) <|
             hc (kShlM 8 256 rfl (isX rfl) (isZ (m := 8) rfl) (denX rfl) rfl (by decide) (by omega) (fI64 (by omega) (by omega))) <|
             hc (ixC rfl rfl (by omega)) <|
             hc (kConvF (isX rfl) tu3 (denX rfl) (fI64 (by omega) (by omega))) <|
             hc (adX rfl rfl rfl (by omega)) <|
             hc (gtcT rfl (by omega)) <|
             hnil
          exact lLCu1_0 To Tr Tk nd s o (tb := tbCu1_p5) (L := LCu1_p5) rfl (AllOk.lp2 ((tabkOk _ _).hyps ho) (by omega) fi25_at fi25_body (lfCons (.inr ⟨⟨rfl, rfl⟩, cfA25, cfAs1x1_0 (l := lf17) (h := lh17) (q := (0, .b true)) rfl rfl (by kernel_rfl) (th0 := []) (sg0 := []) (thNil) (by kernel_rfl) (thx := []) (thNil) (by kernel_rfl)⟩) lfNil)) (lpOk_one lfNil) rfl (thXe (v := St' s) (u := St' Tr) rfl rfl (congrArg (fun l => St' l) hce.2.1) (thXv (v := .int .i64 (nd)) rfl rfl (thNil))) runCu1_p5
        · by_cases h5 : (s.length : Int) < 8
          · exfalso; exact cz (rck11 (by omega) (by omega) (by omega)) (by decide) i3 (by omega)
          · by_cases h6 : (s.length : Int) < (bt s 4) * 256 + (bt s 5) + (bt s 6) + 8
            · exfalso; exact cz (rck11 (by omega) (by omega) (by omega)) (by decide) i3 (by omega)
            · by_cases h7 : bt s 1 = 0
              · exfalso; exact cz (rck10 (by omega) (by omega) (by omega) (by omega) (by omega)) (by decide) i3 (by omega)
              · exact nxCu1_p0 To Tr Tk nd s o X hI0 h0 h1 h2 h5 h6 h7
      · exfalso; exact cz (rck13 (by omega) (by omega)) (by decide) i3 (by omega)
    · by_cases h1 : (s.length : Int) = 0
      · exfalso; exact cz (rck11 (by omega) (by omega) (by omega)) (by decide) i3 (by omega)
      · by_cases h2 : bt s 0 = 1
        · exfalso; exact cz (rck11 (by omega) (by omega) (by omega)) (by decide) i3 (by omega)
        · exfalso; exact cz (rck13 (by omega) (by omega)) (by decide) i3 (by omega)
  · skip
    by_cases h0 : 6 ≤ (s.length : Int)
    · by_cases h1 : bt s 0 = 1
      · by_cases h2 : 200 < (bt s 4) * 256 + (bt s 5)
        · exfalso; have hce := cu_end (rck12 (by omega) (by omega) (by omega)) (by decide) i1 i2 i3; have h0 := i6 rfl; rw [hce.1] at h0; omega
        · by_cases h5 : (s.length : Int) < 8
          · exfalso; exact cz (rck11 (by omega) (by omega) (by omega)) (by decide) i3 (by omega)
          · by_cases h6 : (s.length : Int) < (bt s 4) * 256 + (bt s 5) + (bt s 6) + 8
            · exfalso; exact cz (rck11 (by omega) (by omega) (by omega)) (by decide) i3 (by omega)
            · by_cases h7 : bt s 1 = 0
              · exfalso; exact cz (rck10 (by omega) (by omega) (by omega) (by omega) (by omega)) (by decide) i3 (by omega)
              · exact nxCu1_p9 To Tr Tk nd s o X hI0 h0 h1 h2 h5 h6 h7
      · exfalso; exact cz (rck13 (by omega) (by omega)) (by decide) i3 (by omega)
    · by_cases h1 : (s.length : Int) = 0
      · exfalso; exact cz (rck11 (by omega) (by omega) (by omega)) (by decide) i3 (by omega)
      · by_cases h2 : bt s 0 = 1
        · exfalso; exact cz (rck11 (by omega) (by omega) (by omega)) (by decide) i3 (by omega)
        · exfalso; exact cz (rck13 (by omega) (by omega)) (by decide) i3 (by omega)
theorem lfOkCu1_2 {l : LF} {h : LH} (To : List (Int × Int × LB × Int)) (Tr : LB) (Tk nd : Int) (x0 : Tk = 12) (x1 : To.length = 0) (st : Nat × LB × List (Int × Int × LB × Int)) (hI : InvCu1 To Tr Tk nd st) (hl : l.hp = some h) (hs : lfSame l h 38 keepCu1 .ret 1 120 180 = true) {th0 : LA} {sg0 : List (Nat × Nat)} (hth0 : ∀ X, ThOk (cx nu one 1 laidE laidE_stab) (DCu1 To Tr Tk nd st X) th0) (h0 : startOk l h 38 120 122 th0 sg0 (epCu1 st) (hpCu1 st) = true) {thx : LA} (hthx : ThOk (ECu1_2 To Tr Tk nd) (cx nu one 1 laidE laidE_stab) thx) (hx : exitOk l h 38 120 180 thx [(4, .nils), (5, .x 0), (6, .ifc 68 (.ag [.i .i64 (.ofNat 12), .s 35 883751524516594027940889836758751821087985845510287451484159566615753519918736505186]))] [(2, .b ⟨53, .l [.i .i64 (.ofNat 200), .sy 121, .x 1, .b false], 0, 0, 0, false, false⟩)] = true) : LfOk (cx nu one 1 laidE laidE_stab) bodyCu1 l :=
  lfOkX (E := ECu1_2 To Tr Tk nd) (InvCu1 To Tr Tk nd) (muCu1 To Tr Tk nd) (DCu1 To Tr Tk nd) (fun _ _ => rfl) (fun _ _ => rfl) (fun _ _ => rfl) (fun st X t ht => nuX_keep.trans (rX_keep ((by decide : ∀ t, t ∈ keepCu1 → t < 1000000) t ht))) rfl rfl rfl hl hs ebCu1 rfl rfl st hI hth0 h0 hthx hx (roundsCu1_2 To Tr Tk nd x0 x1)
def nuECu1_3 (To : List (Int × Int × LB × Int)) (Tr : LB) (Tk nd : Int) : List Value := [St' Tr, .int .i64 (nd)]
def roECu1_3 (To : List (Int × Int × LB × Int)) (Tr : LB) (Tk nd : Int) : List Value := [rwG reC To]
noncomputable def ECu1_3 (To : List (Int × Int × LB × Int)) (Tr : LB) (Tk nd : Int) : Cx := cx (nuX (nuECu1_3 To Tr Tk nd) (rX (roECu1_3 To Tr Tk nd) (fun _ => .bool true))) (nuX_one (nuL_one (l := nuECu1_3 To Tr Tk nd) rfl)) 1 laidE laidE_stab
theorem roundsCu1_3 (To : List (Int × Int × LB × Int)) (Tr : LB) (Tk nd : Int) (x0 : Tk = 12) (x1 : ¬ To.length = 0) (st : Nat × LB × List (Int × Int × LB × Int)) (X : Nat → Value) (hI : InvCu1 To Tr Tk nd st) : RHCu1 To Tr Tk nd (ECu1_3 To Tr Tk nd) .ret [(4, .sr 120), (5, .x 0), (6, .ifc 68 (.ag [.i .i64 (.ofNat 12), .s 35 883751524516594027940889836758751821087985845510287451484159566615753519918736505186]))] [(2, .b ⟨53, .l [.i .i64 (.ofNat 200), .sy 121, .x 1, .b false], 0, 0, 0, false, false⟩), (120, .r 2000000 26 4 false)] st X := by
  obtain ⟨tag, s, o⟩ := st
  have hI0 := hI
  obtain ⟨i0, i1, i2, i3, i4, i5, i6, it⟩ := unICu1 To Tr Tk nd tag s o hI
  rcases (show tag = 0 ∨ tag = 1 from by omega) with rfl | rfl
  · skip
    by_cases h0 : 6 ≤ (s.length : Int)
    · by_cases h1 : bt s 0 = 1
      · by_cases h2 : 200 < (bt s 4) * 256 + (bt s 5)
        · exfalso; have hce := cu_end (rck12 (by omega) (by omega) (by omega)) (by decide) i1 i2 i3; have h0 := i5 rfl; rw [← hce.1, h0] at x1; simp at x1
        · by_cases h5 : (s.length : Int) < 8
          · exfalso; exact cz (rck11 (by omega) (by omega) (by omega)) (by decide) i3 (by omega)
          · by_cases h6 : (s.length : Int) < (bt s 4) * 256 + (bt s 5) + (bt s 6) + 8
            · exfalso; exact cz (rck11 (by omega) (by omega) (by omega)) (by decide) i3 (by omega)
            · by_cases h7 : bt s 1 = 0
              · exfalso; exact cz (rck10 (by omega) (by omega) (by omega) (by omega) (by omega)) (by decide) i3 (by omega)
              · exact nxCu1_p0 To Tr Tk nd s o X hI0 h0 h1 h2 h5 h6 h7
      · exfalso; exact cz (rck13 (by omega) (by omega)) (by decide) i3 (by omega)
    · by_cases h1 : (s.length : Int) = 0
      · exfalso; exact cz (rck11 (by omega) (by omega) (by omega)) (by decide) i3 (by omega)
      · by_cases h2 : bt s 0 = 1
        · exfalso; exact cz (rck11 (by omega) (by omega) (by omega)) (by decide) i3 (by omega)
        · exfalso; exact cz (rck13 (by omega) (by omega)) (by decide) i3 (by omega)
  · skip
    by_cases h0 : 6 ≤ (s.length : Int)
    · by_cases h1 : bt s 0 = 1
      · by_cases h2 : 200 < (bt s 4) * 256 + (bt s 5)
        · skip
          have := bt_lo s 0; have := bt_hi s 0
          have := bt_lo s 4; have := bt_hi s 4
          have := bt_lo s 5; have := bt_hi s 5
          have hb1 := bt_lo s 4; have hb2 := bt_lo s 5; have hb3 := bt_lo s 6; have hb4 := bt_hi s 4; have hb5 := bt_hi s 5; have hb6 := bt_hi s 6
          have hce := cu_end (m := 200) (s := s) (k := 12) (rck12 (by omega) (by omega) (by omega)) (by decide) i1 i2 i3
          have ho : ∀ a' r', (a', r') ∈ hyCu1_p14 → HOk (cx (nuX (nuCu1_1 To Tr Tk nd s o) (rX (roCu1_1 To Tr Tk nd s o) X)) (nuX_one (nuL_one (l := nuCu1_1 To Tr Tk nd s o) rfl)) 1 laidE laidE_stab) a' r' := by
            unfold hyCu1_p14
            exact hc (kRn (denX rfl)) <|
             hc (kBytesB (bs := ([] : LB)) .nil (denX rfl)) <|
             hc (lnV rfl rfl (by omega)) <|
             hc (gecT rfl (by omega)) <|
             hc (ixC rfl rfl (by omega)) <|
             hc (eqcT rfl (by omega)) <|
             hc (ixC rfl rfl (by omega)) <|
             hc (kConvF (isX rfl) tu3 (denX rfl) (fI64 (by omega) (by omega))) <|
             hc (kShlM 8 256 rfl (isX rfl) (isZ (m := 8) rfl) (denX rfl) rfl (by decide) (by omega) (fI64 (by omega) (by omega))) <|
             hc (ixC rfl rfl (by omega)) <|
             hc (kConvF (isX rfl) tu3 (denX rfl) (fI64 (by omega) (by omega))) <|
             hc (adX rfl rfl rfl (by omega)) <|
             hc (gtcT rfl (by omega)) <|
             hnil
          exact lLCu1_1 To Tr Tk nd s o (tb := tbCu1_p14) (L := LCu1_p14) rfl (AllOk.lp2 ((tabkOk _ _).hyps ho) (by omega) fi25_at fi25_body (lfCons (.inr ⟨⟨rfl, rfl⟩, cfA25, cfAs1x1_0 (l := lf23) (h := lh23) (q := (0, .b true)) rfl rfl (by kernel_rfl) (th0 := []) (sg0 := []) (thNil) (by kernel_rfl) (thx := []) (thNil) (by kernel_rfl)⟩) lfNil)) (lpOk_one lfNil) rfl (thXe (v := St' s) (u := St' Tr) rfl rfl (congrArg (fun l => St' l) hce.2.1) (thXv (v := .int .i64 (nd)) rfl rfl (thXe (v := rwG reC o) (u := rwG reC To) rfl rfl (congrArg (rwG reC) hce.1) (thNil)))) runCu1_p14
        · by_cases h5 : (s.length : Int) < 8
          · exfalso; exact cz (rck11 (by omega) (by omega) (by omega)) (by decide) i3 (by omega)
          · by_cases h6 : (s.length : Int) < (bt s 4) * 256 + (bt s 5) + (bt s 6) + 8
            · exfalso; exact cz (rck11 (by omega) (by omega) (by omega)) (by decide) i3 (by omega)
            · by_cases h7 : bt s 1 = 0
              · exfalso; exact cz (rck10 (by omega) (by omega) (by omega) (by omega) (by omega)) (by decide) i3 (by omega)
              · exact nxCu1_p9 To Tr Tk nd s o X hI0 h0 h1 h2 h5 h6 h7
      · exfalso; exact cz (rck13 (by omega) (by omega)) (by decide) i3 (by omega)
    · by_cases h1 : (s.length : Int) = 0
      · exfalso; exact cz (rck11 (by omega) (by omega) (by omega)) (by decide) i3 (by omega)
      · by_cases h2 : bt s 0 = 1
        · exfalso; exact cz (rck11 (by omega) (by omega) (by omega)) (by decide) i3 (by omega)
        · exfalso; exact cz (rck13 (by omega) (by omega)) (by decide) i3 (by omega)
theorem lfOkCu1_3 {l : LF} {h : LH} (To : List (Int × Int × LB × Int)) (Tr : LB) (Tk nd : Int) (x0 : Tk = 12) (x1 : ¬ To.length = 0) (st : Nat × LB × List (Int × Int × LB × Int)) (hI : InvCu1 To Tr Tk nd st) (hl : l.hp = some h) (hs : lfSame l h 38 keepCu1 .ret 1 120 180 = true) {th0 : LA} {sg0 : List (Nat × Nat)} (hth0 : ∀ X, ThOk (cx nu one 1 laidE laidE_stab) (DCu1 To Tr Tk nd st X) th0) (h0 : startOk l h 38 120 122 th0 sg0 (epCu1 st) (hpCu1 st) = true) {thx : LA} (hthx : ThOk (ECu1_3 To Tr Tk nd) (cx nu one 1 laidE laidE_stab) thx) (hx : exitOk l h 38 120 180 thx [(4, .sr 120), (5, .x 0), (6, .ifc 68 (.ag [.i .i64 (.ofNat 12), .s 35 883751524516594027940889836758751821087985845510287451484159566615753519918736505186]))] [(2, .b ⟨53, .l [.i .i64 (.ofNat 200), .sy 121, .x 1, .b false], 0, 0, 0, false, false⟩), (120, .r 2000000 26 4 false)] = true) : LfOk (cx nu one 1 laidE laidE_stab) bodyCu1 l :=
  lfOkX (E := ECu1_3 To Tr Tk nd) (InvCu1 To Tr Tk nd) (muCu1 To Tr Tk nd) (DCu1 To Tr Tk nd) (fun _ _ => rfl) (fun _ _ => rfl) (fun _ _ => rfl) (fun st X t ht => nuX_keep.trans (rX_keep ((by decide : ∀ t, t ∈ keepCu1 → t < 1000000) t ht))) rfl rfl rfl hl hs ebCu1 rfl rfl st hI hth0 h0 hthx hx (roundsCu1_3 To Tr Tk nd x0 x1)
def nuECu1_4 (To : List (Int × Int × LB × Int)) (Tr : LB) (Tk nd : Int) : List Value := [St' Tr, .int .i64 (nd)]
def roECu1_4 (To : List (Int × Int × LB × Int)) (Tr : LB) (Tk nd : Int) : List Value := []
noncomputable def ECu1_4 (To : List (Int × Int × LB × Int)) (Tr : LB) (Tk nd : Int) : Cx := cx (nuX (nuECu1_4 To Tr Tk nd) (rX (roECu1_4 To Tr Tk nd) (fun _ => .bool true))) (nuX_one (nuL_one (l := nuECu1_4 To Tr Tk nd) rfl)) 1 laidE laidE_stab
theorem roundsCu1_4 (To : List (Int × Int × LB × Int)) (Tr : LB) (Tk nd : Int) (x0 : Tk = 13) (x1 : To.length = 0) (st : Nat × LB × List (Int × Int × LB × Int)) (X : Nat → Value) (hI : InvCu1 To Tr Tk nd st) : RHCu1 To Tr Tk nd (ECu1_4 To Tr Tk nd) .ret [(4, .nils), (5, .x 0), (6, .ifc 68 (.ag [.i .i64 (.ofNat 13), .s 35 883751524516594027940889836758751821087985845510287451484159566615753519918736505186]))] [(2, .b ⟨53, .l [.i .i64 (.ofNat 200), .sy 121, .x 1, .b false], 0, 0, 0, false, false⟩)] st X := by
  obtain ⟨tag, s, o⟩ := st
  have hI0 := hI
  obtain ⟨i0, i1, i2, i3, i4, i5, i6, it⟩ := unICu1 To Tr Tk nd tag s o hI
  rcases (show tag = 0 ∨ tag = 1 from by omega) with rfl | rfl
  · skip
    by_cases h0 : 6 ≤ (s.length : Int)
    · by_cases h1 : bt s 0 = 1
      · by_cases h2 : 200 < (bt s 4) * 256 + (bt s 5)
        · exfalso; exact cz (rck12 (by omega) (by omega) (by omega)) (by decide) i3 (by omega)
        · by_cases h5 : (s.length : Int) < 8
          · exfalso; exact cz (rck11 (by omega) (by omega) (by omega)) (by decide) i3 (by omega)
          · by_cases h6 : (s.length : Int) < (bt s 4) * 256 + (bt s 5) + (bt s 6) + 8
            · exfalso; exact cz (rck11 (by omega) (by omega) (by omega)) (by decide) i3 (by omega)
            · by_cases h7 : bt s 1 = 0
              · exfalso; exact cz (rck10 (by omega) (by omega) (by omega) (by omega) (by omega)) (by decide) i3 (by omega)
              · exact nxCu1_p0 To Tr Tk nd s o X hI0 h0 h1 h2 h5 h6 h7
      · skip
        have := bt_lo s 0; have := bt_hi s 0
        have hb1 := bt_lo s 4; have hb2 := bt_lo s 5; have hb3 := bt_lo s 6; have hb4 := bt_hi s 4; have hb5 := bt_hi s 5; have hb6 := bt_hi s 6
        have hce := cu_end (m := 200) (s := s) (k := 13) (rck13 (by omega) (by omega)) (by decide) i1 i2 i3
        have ho : ∀ a' r', (a', r') ∈ hyCu1_p4 → HOk (cx (nuX (nuCu1_0 To Tr Tk nd s o) (rX (roCu1_0 To Tr Tk nd s o) X)) (nuX_one (nuL_one (l := nuCu1_0 To Tr Tk nd s o) rfl)) 1 laidE laidE_stab) a' r' := by
          unfold hyCu1_p4
          exact hc (kRn (denX rfl)) <|
           hc (kBytesB (bs := ([] : LB)) .nil (denX rfl)) <|
           hc (lnV rfl rfl (by omega)) <|
           hc (gecT rfl (by omega)) <|
           hc (ixC rfl rfl (by omega)) <|
           hc (eqcF rfl (by omega)) <|
           hc (kNeS (isX rfl) (isSx (l := ([] : LB)) 0 0 rfl) (bnT (nilF (by omega)))) <|
           hc (necT rfl (by omega)) <|
           hnil
        exact lLCu1_0 To Tr Tk nd s o (tb := tbCu1_p4) (L := LCu1_p4) rfl (AllOk.lp2 ((tabkOk _ _).hyps ho) (by omega) fi25_at fi25_body (lfCons (.inr ⟨⟨rfl, rfl⟩, cfA25, cfAs1x0_0 (l := lf16) (h := lh16) (q := (0, .b true)) rfl rfl (by kernel_rfl) (th0 := []) (sg0 := []) (thNil) (by kernel_rfl) (thx := []) (thNil) (by kernel_rfl)⟩) lfNil)) (lpOk_one lfNil) rfl (thXe (v := St' s) (u := St' Tr) rfl rfl (congrArg (fun l => St' l) hce.2.1) (thXv (v := .int .i64 (nd)) rfl rfl (thNil))) runCu1_p4
    · by_cases h1 : (s.length : Int) = 0
      · exfalso; exact cz (rck11 (by omega) (by omega) (by omega)) (by decide) i3 (by omega)
      · by_cases h2 : bt s 0 = 1
        · exfalso; exact cz (rck11 (by omega) (by omega) (by omega)) (by decide) i3 (by omega)
        · skip
          have := bt_lo s 0; have := bt_hi s 0
          have hb1 := bt_lo s 4; have hb2 := bt_lo s 5; have hb3 := bt_lo s 6; have hb4 := bt_hi s 4; have hb5 := bt_hi s 5; have hb6 := bt_hi s 6
          have hce := cu_end (m := 200) (s := s) (k := 13) (rck13 (by omega) (by omega)) (by decide) i1 i2 i3
          have ho : ∀ a' r', (a', r') ∈ hyCu1_p3 → HOk (cx (nuX (nuCu1_0 To Tr Tk nd s o) (rX (roCu1_0 To Tr Tk nd s o) X)) (nuX_one (nuL_one (l := nuCu1_0 To Tr Tk nd s o) rfl)) 1 laidE laidE_stab) a' r' := by
            unfold hyCu1_p3
            exact hc (kRn (denX rfl)) <|
             hc (kBytesB (bs := ([] : LB)) .nil (denX rfl)) <|
             hc (lnV rfl rfl (by omega)) <|
             hc (gecF rfl (by omega)) <|
             hc (kNeS (isX rfl) (isSx (l := ([] : LB)) 0 0 rfl) (bnT (nilF (by omega)))) <|
             hc (ixC rfl rfl (by omega)) <|
             hc (necT rfl (by omega)) <|
             hnil
          exact lLCu1_0 To Tr Tk nd s o (tb := tbCu1_p3) (L := LCu1_p3) rfl (AllOk.lp2 ((tabkOk _ _).hyps ho) (by omega) fi25_at fi25_body (lfCons (.inr ⟨⟨rfl, rfl⟩, cfA25, cfAs1x0_0 (l := lf15) (h := lh15) (q := (0, .b true)) rfl rfl (by kernel_rfl) (th0 := []) (sg0 := []) (thNil) (by kernel_rfl) (thx := []) (thNil) (by kernel_rfl)⟩) lfNil)) (lpOk_one lfNil) rfl (thXe (v := St' s) (u := St' Tr) rfl rfl (congrArg (fun l => St' l) hce.2.1) (thXv (v := .int .i64 (nd)) rfl rfl (thNil))) runCu1_p3
  · skip
    by_cases h0 : 6 ≤ (s.length : Int)
    · by_cases h1 : bt s 0 = 1
      · by_cases h2 : 200 < (bt s 4) * 256 + (bt s 5)
        · exfalso; exact cz (rck12 (by omega) (by omega) (by omega)) (by decide) i3 (by omega)
        · by_cases h5 : (s.length : Int) < 8
          · exfalso; exact cz (rck11 (by omega) (by omega) (by omega)) (by decide) i3 (by omega)
          · by_cases h6 : (s.length : Int) < (bt s 4) * 256 + (bt s 5) + (bt s 6) + 8
            · exfalso; exact cz (rck11 (by omega) (by omega) (by omega)) (by decide) i3 (by omega)
            · by_cases h7 : bt s 1 = 0
              · exfalso; exact cz (rck10 (by omega) (by omega) (by omega) (by omega) (by omega)) (by decide) i3 (by omega)
              · exact nxCu1_p9 To Tr Tk nd s o X hI0 h0 h1 h2 h5 h6 h7
      · exfalso; have hce := cu_end (rck13 (by omega) (by omega)) (by decide) i1 i2 i3; have h0 := i6 rfl; rw [hce.1] at h0; omega
    · by_cases h1 : (s.length : Int) = 0
      · exfalso; exact cz (rck11 (by omega) (by omega) (by omega)) (by decide) i3 (by omega)
      · by_cases h2 : bt s 0 = 1
        · exfalso; exact cz (rck11 (by omega) (by omega) (by omega)) (by decide) i3 (by omega)
        · exfalso; have hce := cu_end (rck13 (by omega) (by omega)) (by decide) i1 i2 i3; have h0 := i6 rfl; rw [hce.1] at h0; omega
theorem lfOkCu1_4 {l : LF} {h : LH} (To : List (Int × Int × LB × Int)) (Tr : LB) (Tk nd : Int) (x0 : Tk = 13) (x1 : To.length = 0) (st : Nat × LB × List (Int × Int × LB × Int)) (hI : InvCu1 To Tr Tk nd st) (hl : l.hp = some h) (hs : lfSame l h 38 keepCu1 .ret 1 120 180 = true) {th0 : LA} {sg0 : List (Nat × Nat)} (hth0 : ∀ X, ThOk (cx nu one 1 laidE laidE_stab) (DCu1 To Tr Tk nd st X) th0) (h0 : startOk l h 38 120 122 th0 sg0 (epCu1 st) (hpCu1 st) = true) {thx : LA} (hthx : ThOk (ECu1_4 To Tr Tk nd) (cx nu one 1 laidE laidE_stab) thx) (hx : exitOk l h 38 120 180 thx [(4, .nils), (5, .x 0), (6, .ifc 68 (.ag [.i .i64 (.ofNat 13), .s 35 883751524516594027940889836758751821087985845510287451484159566615753519918736505186]))] [(2, .b ⟨53, .l [.i .i64 (.ofNat 200), .sy 121, .x 1, .b false], 0, 0, 0, false, false⟩)] = true) : LfOk (cx nu one 1 laidE laidE_stab) bodyCu1 l :=
  lfOkX (E := ECu1_4 To Tr Tk nd) (InvCu1 To Tr Tk nd) (muCu1 To Tr Tk nd) (DCu1 To Tr Tk nd) (fun _ _ => rfl) (fun _ _ => rfl) (fun _ _ => rfl) (fun st X t ht => nuX_keep.trans (rX_keep ((by decide : ∀ t, t ∈ keepCu1 → t < 1000000) t ht))) rfl rfl rfl hl hs ebCu1 rfl rfl st hI hth0 h0 hthx hx (roundsCu1_4 To Tr Tk nd x0 x1)
def nuECu1_5 (To : List (Int × Int × LB × Int)) (Tr : LB) (Tk nd : Int) : List Value := [St' Tr, .int .i64 (nd)]
def roECu1_5 (To : List (Int × Int × LB × Int)) (Tr : LB) (Tk nd : Int) : List Value := [rwG reC To]
noncomputable def ECu1_5 (To : List (Int × Int × LB × Int)) (Tr : LB) (Tk nd : Int) : Cx := cx (nuX (nuECu1_5 To Tr Tk nd) (rX (roECu1_5 To Tr Tk nd) (fun _ => .bool true))) (nuX_one (nuL_one (l := nuECu1_5 To Tr Tk nd) rfl)) 1 laidE laidE_stab
theorem roundsCu1_5 (To : List (Int × Int × LB × Int)) (Tr : LB) (Tk nd : Int) (x0 : Tk = 13) (x1 : ¬ To.length = 0) (st : Nat × LB × List (Int × Int × LB × Int)) (X : Nat → Value) (hI : InvCu1 To Tr Tk nd st) : RHCu1 To Tr Tk nd (ECu1_5 To Tr Tk nd) .ret [(4, .sr 120), (5, .x 0), (6, .ifc 68 (.ag [.i .i64 (.ofNat 13), .s 35 883751524516594027940889836758751821087985845510287451484159566615753519918736505186]))] [(2, .b ⟨53, .l [.i .i64 (.ofNat 200), .sy 121, .x 1, .b false], 0, 0, 0, false, false⟩), (120, .r 2000000 26 4 false)] st X := by
  obtain ⟨tag, s, o⟩ := st
  have hI0 := hI
  obtain ⟨i0, i1, i2, i3, i4, i5, i6, it⟩ := unICu1 To Tr Tk nd tag s o hI
  rcases (show tag = 0 ∨ tag = 1 from by omega) with rfl | rfl
  · skip
    by_cases h0 : 6 ≤ (s.length : Int)
    · by_cases h1 : bt s 0 = 1
      · by_cases h2 : 200 < (bt s 4) * 256 + (bt s 5)
        · exfalso; exact cz (rck12 (by omega) (by omega) (by omega)) (by decide) i3 (by omega)
        · by_cases h5 : (s.length : Int) < 8
          · exfalso; exact cz (rck11 (by omega) (by omega) (by omega)) (by decide) i3 (by omega)
          · by_cases h6 : (s.length : Int) < (bt s 4) * 256 + (bt s 5) + (bt s 6) + 8
            · exfalso; exact cz (rck11 (by omega) (by omega) (by omega)) (by decide) i3 (by omega)
            · by_cases h7 : bt s 1 = 0
              · exfalso; exact cz (rck10 (by omega) (by omega) (by omega) (by omega) (by omega)) (by decide) i3 (by omega)
              · exact nxCu1_p0 To Tr Tk nd s o X hI0 h0 h1 h2 h5 h6 h7
      · exfalso; have hce := cu_end (rck13 (by omega) (by omega)) (by decide) i1 i2 i3; have h0 := i5 rfl; rw [← hce.1, h0] at x1; simp at x1
    · by_cases h1 : (s.length : Int) = 0
      · exfalso; exact cz (rck11 (by omega) (by omega) (by omega)) (by decide) i3 (by omega)
      · by_cases h2 : bt s 0 = 1
        · exfalso; exact cz (rck11 (by omega) (by omega) (by omega)) (by decide) i3 (by omega)
        · exfalso; have hce := cu_end (rck13 (by omega) (by omega)) (by decide) i1 i2 i3; have h0 := i5 rfl; rw [← hce.1, h0] at x1; simp at x1
  · skip
    by_cases h0 : 6 ≤ (s.length : Int)
    · by_cases h1 : bt s 0 = 1
      · by_cases h2 : 200 < (bt s 4) * 256 + (bt s 5)
        · exfalso; exact cz (rck12 (by omega) (by omega) (by omega)) (by decide) i3 (by omega)
        · by_cases h5 : (s.length : Int) < 8
          · exfalso; exact cz (rck11 (by omega) (by omega) (by omega)) (by decide) i3 (by omega)
          · by_cases h6 : (s.length : Int) < (bt s 4) * 256 + (bt s 5) + (bt s 6) + 8
            · exfalso; exact cz (rck11 (by omega) (by omega) (by omega)) (by decide) i3 (by omega)
            · by_cases h7 : bt s 1 = 0
              · exfalso; exact cz (rck10 (by omega) (by omega) (by omega) (by omega) (by omega)) (by decide) i3 (by omega)
              · exact nxCu1_p9 To Tr Tk nd s o X hI0 h0 h1 h2 h5 h6 h7
      · skip
        have := bt_lo s 0; have := bt_hi s 0
        have hb1 := bt_lo s 4; have hb2 := bt_lo s 5; have hb3 := bt_lo s 6; have hb4 := bt_hi s 4; have hb5 := bt_hi s 5; have hb6 := bt_hi s 6
        have hce := cu_end (m := 200) (s := s) (k := 13) (rck13 (by omega) (by omega)) (by decide) i1 i2 i3
        have ho : ∀ a' r', (a', r') ∈ hyCu1_p13 → HOk (cx (nuX (nuCu1_1 To Tr Tk nd s o) (rX (roCu1_1 To Tr Tk nd s o) X)) (nuX_one (nuL_one (l := nuCu1_1 To Tr Tk nd s o) rfl)) 1 laidE laidE_stab) a' r' := by
          unfold hyCu1_p13
          exact hc (kRn (denX rfl)) <|
           hc (kBytesB (bs := ([] : LB)) .nil (denX rfl)) <|
           hc (lnV rfl rfl (by omega)) <|
           hc (gecT rfl (by omega)) <|
           hc (ixC rfl rfl (by omega)) <|
           hc (eqcF rfl (by omega)) <|
           hc (kNeS (isX rfl) (isSx (l := ([] : LB)) 0 0 rfl) (bnT (nilF (by omega)))) <|
           hc (necT rfl (by omega)) <|
           hnil
        exact lLCu1_1 To Tr Tk nd s o (tb := tbCu1_p13) (L := LCu1_p13) rfl (AllOk.lp2 ((tabkOk _ _).hyps ho) (by omega) fi25_at fi25_body (lfCons (.inr ⟨⟨rfl, rfl⟩, cfA25, cfAs1x0_0 (l := lf22) (h := lh22) (q := (0, .b true)) rfl rfl (by kernel_rfl) (th0 := []) (sg0 := []) (thNil) (by kernel_rfl) (thx := []) (thNil) (by kernel_rfl)⟩) lfNil)) (lpOk_one lfNil) rfl (thXe (v := St' s) (u := St' Tr) rfl rfl (congrArg (fun l => St' l) hce.2.1) (thXv (v := .int .i64 (nd)) rfl rfl (thXe (v := rwG reC o) (u := rwG reC To) rfl rfl (congrArg (rwG reC) hce.1) (thNil)))) runCu1_p13
    · by_cases h1 : (s.length : Int) = 0
      · exfalso; exact cz (rck11 (by omega) (by omega) (by omega)) (by decide) i3 (by omega)
      · by_cases h2 : bt s 0 = 1
        · exfalso; exact cz (rck11 (by omega) (by omega) (by omega)) (by decide) i3 (by omega)
        · skip
          have := bt_lo s 0; have := bt_hi s 0
          have hb1 := bt_lo s 4; have hb2 := bt_lo s 5; have hb3 := bt_lo s 6; have hb4 := bt_hi s 4; have hb5 := bt_hi s 5; have hb6 := bt_hi s 6
          have hce := cu_end (m := 200) (s := s) (k := 13) (rck13 (by omega) (by omega)) (by decide) i1 i2 i3
          have ho : ∀ a' r', (a', r') ∈ hyCu1_p12 → HOk (cx (nuX (nuCu1_1 To Tr Tk nd s o) (rX (roCu1_1 To Tr Tk nd s o) X)) (nuX_one (nuL_one (l := nuCu1_1 To Tr Tk nd s o) rfl)) 1 laidE laidE_stab) a' r' := by
            unfold hyCu1_p12
            exact hc (kRn (denX rfl)) <|
             hc (kBytesB (bs := ([] : LB)) .nil (denX rfl)) <|
             hc (lnV rfl rfl (by omega)) <|
             hc (gecF rfl (by omega)) <|
             hc (kNeS (isX rfl) (isSx (l := ([] : LB)) 0 0 rfl) (bnT (nilF (by omega)))) <|
             hc (ixC rfl rfl (by omega)) <|
             hc (necT rfl (by omega)) <|
             hnil
          exact lLCu1_1 To Tr Tk nd s o (tb := tbCu1_p12) (L := LCu1_p12) rfl (AllOk.lp2 ((tabkOk _ _).hyps ho) (by omega) fi25_at fi25_body (lfCons (.inr ⟨⟨rfl, rfl⟩, cfA25, cfAs1x0_0 (l := lf21) (h := lh21) (q := (0, .b true)) rfl rfl (by kernel_rfl) (th0 := []) (sg0 := []) (thNil) (by kernel_rfl) (thx := []) (thNil) (by kernel_rfl)⟩) lfNil)) (lpOk_one lfNil) rfl (thXe (v := St' s) (u := St' Tr) rfl rfl (congrArg (fun l => St' l) hce.2.1) (thXv (v := .int .i64 (nd)) rfl rfl (thXe (v := rwG reC o) (u := rwG reC To) rfl rfl (congrArg (rwG reC) hce.1) (thNil)))) runCu1_p12
theorem lfOkCu1_5 {l : LF} {h : LH} (To : List (Int × Int × LB × Int)) (Tr : LB) (Tk nd : Int) (x0 : Tk = 13) (x1 : ¬ To.length = 0) (st : Nat × LB × List (Int × Int × LB × Int)) (hI : InvCu1 To Tr Tk nd st) (hl : l.hp = some h) (hs : lfSame l h 38 keepCu1 .ret 1 120 180 = true) {th0 : LA} {sg0 : List (Nat × Nat)} (hth0 : ∀ X, ThOk (cx nu one 1 laidE laidE_stab) (DCu1 To Tr Tk nd st X) th0) (h0 : startOk l h 38 120 122 th0 sg0 (epCu1 st) (hpCu1 st) = true) {thx : LA} (hthx : ThOk (ECu1_5 To Tr Tk nd) (cx nu one 1 laidE laidE_stab) thx) (hx : exitOk l h 38 120 180 thx [(4, .sr 120), (5, .x 0), (6, .ifc 68 (.ag [.i .i64 (.ofNat 13), .s 35 883751524516594027940889836758751821087985845510287451484159566615753519918736505186]))] [(2, .b ⟨53, .l [.i .i64 (.ofNat 200), .sy 121, .x 1, .b false], 0, 0, 0, false, false⟩), (120, .r 2000000 26 4 false)] = true) : LfOk (cx nu one 1 laidE laidE_stab) bodyCu1 l :=
  lfOkX (E := ECu1_5 To Tr Tk nd) (InvCu1 To Tr Tk nd) (muCu1 To Tr Tk nd) (DCu1 To Tr Tk nd) (fun _ _ => rfl) (fun _ _ => rfl) (fun _ _ => rfl) (fun st X t ht => nuX_keep.trans (rX_keep ((by decide : ∀ t, t ∈ keepCu1 → t < 1000000) t ht))) rfl rfl rfl hl hs ebCu1 rfl rfl st hI hth0 h0 hthx hx (roundsCu1_5 To Tr Tk nd x0 x1)
end Go.Proofs.YtlfmfmegnenohaaDoor.cutterStops
