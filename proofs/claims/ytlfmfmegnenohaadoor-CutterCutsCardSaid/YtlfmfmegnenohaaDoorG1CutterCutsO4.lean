/- A part of the proof: an interpreter of the model's own code on partly known states, and that what it answers is what the program answers. No condition of its own. -/
import Derived.Test.YtlfmfmegnenohaaDoorG1CutterCutsO3
set_option maxRecDepth 100000
set_option linter.unusedVariables false
set_option linter.unusedSimpArgs false
set_option maxHeartbeats 4000000
namespace Go.Proofs.YtlfmfmegnenohaaDoor.cutterCuts
open Go Go.AX Go.Proofs Go.Proofs.YtlfmfmegnenohaaDoor
variable {nu : Nat → Value} {one : ∀ i, i < 1000000 → (nu i).oneCell' = true} {E' : Cx} {x' : Ex} {e' : LA} {h' : LE}
noncomputable def fi19 : FI := (tabk.fn.get 19).getD default
theorem fi19_at : tabk.fn.get 19 = some fi19 := by kernel_rfl
theorem fi19_body : fi19.body = some (Tryd.f19.body.getD .skip) := by kernel_rfl
theorem fiB19 : fi19.body.isSome = true := by rw [fi19_body]; rfl
theorem cfA19 : (loopsOf (Tryd.f19.body.getD .skip)).all (fun b => !(keyEq (Go.AX.keyOf b) 8888888)) = true := by kernel_rfl
noncomputable def bodyCu0 : Code := loopNo (Tryd.f19.body.getD .skip) 0
theorem keyCu0 : oneKey (loopsOf (Tryd.f19.body.getD .skip)) 2 0 0 = true := by kernel_rfl
def keepCu0 : List Nat := []
def epCu0_0 : LA := [(0, .p 20 0), (1, .x 0), (7, .nils)]
def hpCu0_0 : LE := [(20, .b ⟨53, .l [.i .i64 (.ofNat 65535), .sy 121, .x 1, .b false], 0, 0, 0, false, false⟩)]
def nuCu0_0 (To : List (Int × Int × LB × Int)) (Tr : LB) (Tk nd : Int) (s : LB) (o : List (Int × Int × LB × Int)) : List Value := [St' s, .int .i64 (nd), St' ([] : LB), .int .i64 ((s.length : Int)), .int .u8 (bt s 0), .int .u8 (bt s 4), .int .i64 ((bt s 4)), .int .i64 ((bt s 4) * 256), .int .u8 (bt s 5), .int .i64 ((bt s 5)), .int .i64 ((bt s 4) * 256 + (bt s 5)), .int .i64 ((bt s 4) * 256 + 8), .int .i64 ((bt s 4) * 256 + (bt s 5) + 8), .int .u8 (bt s 6), .int .i64 ((bt s 6)), .int .i64 ((bt s 4) * 256 + (bt s 5) + (bt s 6) + 8), .int .u8 (bt s 1), .int .i64 ((bt s 1)), .int .u8 (bt s 2), .int .i64 ((bt s 2)), .int .i64 ((bt s 2) * 256), .int .u8 (bt s 3), .int .i64 ((bt s 3)), .int .i64 ((bt s 2) * 256 + (bt s 3)), .int .i64 ((bt s 4) * 256 + (bt s 5) + 8), St' (rcC s), St' (List.drop (Int.toNat ((bt s 4) * 256 + (bt s 5) + (bt s 6) + 8)) s), St' ([] : LB), .int .i64 ((s.length : Int)), St' ([] : LB), .int .i64 ((s.length : Int)), .int .u8 (bt s 0), St' ([] : LB), .int .i64 ((s.length : Int)), .int .u8 (bt s 0), St' ([] : LB), .int .i64 ((s.length : Int)), .int .u8 (bt s 0), St' ([] : LB), .int .i64 ((s.length : Int)), .int .u8 (bt s 0), .int .u8 (bt s 4), .int .i64 ((bt s 4)), .int .i64 ((bt s 4) * 256), .int .u8 (bt s 5), .int .i64 ((bt s 5)), .int .i64 ((bt s 4) * 256 + (bt s 5)), St' ([] : LB), .int .i64 ((s.length : Int)), .int .u8 (bt s 0), .int .u8 (bt s 4), .int .i64 ((bt s 4)), .int .i64 ((bt s 4) * 256), .int .u8 (bt s 5), .int .i64 ((bt s 5)), .int .i64 ((bt s 4) * 256 + (bt s 5)), .int .i64 ((bt s 4) * 256 + 8), .int .i64 ((bt s 4) * 256 + (bt s 5) + 8), .int .u8 (bt s 6), .int .i64 ((bt s 6)), .int .i64 ((bt s 4) * 256 + (bt s 5) + (bt s 6) + 8), St' ([] : LB), .int .i64 ((s.length : Int)), .int .u8 (bt s 0), .int .u8 (bt s 4), .int .i64 ((bt s 4)), .int .i64 ((bt s 4) * 256), .int .u8 (bt s 5), .int .i64 ((bt s 5)), .int .i64 ((bt s 4) * 256 + (bt s 5)), .int .i64 ((bt s 4) * 256 + 8), .int .i64 ((bt s 4) * 256 + (bt s 5) + 8), .int .u8 (bt s 6), .int .i64 ((bt s 6)), .int .i64 ((bt s 4) * 256 + (bt s 5) + (bt s 6) + 8), .int .u8 (bt s 1)]
def roCu0_0 (To : List (Int × Int × LB × Int)) (Tr : LB) (Tk nd : Int) (s : LB) (o : List (Int × Int × LB × Int)) : List Value := [rwS ([] : List LB), rwG reC (([] : List (Int × Int × LB × Int)) ++ [((bt s 1), (bt s 2) * 256 + (bt s 3), (rcC s), (bt s 6))]), rwS ([] : List LB), rwS ([] : List LB), rwS ([] : List LB), rwS ([] : List LB), rwS ([] : List LB), rwS ([] : List LB), rwS ([] : List LB)]
def epCu0_1 : LA := [(0, .p 20 0), (1, .x 0), (7, .sr 120)]
def hpCu0_1 : LE := [(20, .b ⟨53, .l [.i .i64 (.ofNat 65535), .sy 121, .x 1, .b false], 0, 0, 0, false, false⟩), (120, .r 2000000 26 4 false)]
def nuCu0_1 (To : List (Int × Int × LB × Int)) (Tr : LB) (Tk nd : Int) (s : LB) (o : List (Int × Int × LB × Int)) : List Value := [St' s, .int .i64 (nd), St' ([] : LB), .int .i64 ((s.length : Int)), .int .u8 (bt s 0), .int .u8 (bt s 4), .int .i64 ((bt s 4)), .int .i64 ((bt s 4) * 256), .int .u8 (bt s 5), .int .i64 ((bt s 5)), .int .i64 ((bt s 4) * 256 + (bt s 5)), .int .i64 ((bt s 4) * 256 + 8), .int .i64 ((bt s 4) * 256 + (bt s 5) + 8), .int .u8 (bt s 6), .int .i64 ((bt s 6)), .int .i64 ((bt s 4) * 256 + (bt s 5) + (bt s 6) + 8), .int .u8 (bt s 1), .int .i64 ((bt s 1)), .int .u8 (bt s 2), .int .i64 ((bt s 2)), .int .i64 ((bt s 2) * 256), .int .u8 (bt s 3), .int .i64 ((bt s 3)), .int .i64 ((bt s 2) * 256 + (bt s 3)), .int .i64 ((bt s 4) * 256 + (bt s 5) + 8), St' (rcC s), St' (List.drop (Int.toNat ((bt s 4) * 256 + (bt s 5) + (bt s 6) + 8)) s), St' ([] : LB), .int .i64 ((s.length : Int)), St' ([] : LB), .int .i64 ((s.length : Int)), .int .u8 (bt s 0), St' ([] : LB), .int .i64 ((s.length : Int)), .int .u8 (bt s 0), St' ([] : LB), .int .i64 ((s.length : Int)), .int .u8 (bt s 0), St' ([] : LB), .int .i64 ((s.length : Int)), .int .u8 (bt s 0), .int .u8 (bt s 4), .int .i64 ((bt s 4)), .int .i64 ((bt s 4) * 256), .int .u8 (bt s 5), .int .i64 ((bt s 5)), .int .i64 ((bt s 4) * 256 + (bt s 5)), St' ([] : LB), .int .i64 ((s.length : Int)), .int .u8 (bt s 0), .int .u8 (bt s 4), .int .i64 ((bt s 4)), .int .i64 ((bt s 4) * 256), .int .u8 (bt s 5), .int .i64 ((bt s 5)), .int .i64 ((bt s 4) * 256 + (bt s 5)), .int .i64 ((bt s 4) * 256 + 8), .int .i64 ((bt s 4) * 256 + (bt s 5) + 8), .int .u8 (bt s 6), .int .i64 ((bt s 6)), .int .i64 ((bt s 4) * 256 + (bt s 5) + (bt s 6) + 8), St' ([] : LB), .int .i64 ((s.length : Int)), .int .u8 (bt s 0), .int .u8 (bt s 4), .int .i64 ((bt s 4)), .int .i64 ((bt s 4) * 256), .int .u8 (bt s 5), .int .i64 ((bt s 5)), .int .i64 ((bt s 4) * 256 + (bt s 5)), .int .i64 ((bt s 4) * 256 + 8), .int .i64 ((bt s 4) * 256 + (bt s 5) + 8), .int .u8 (bt s 6), .int .i64 ((bt s 6)), .int .i64 ((bt s 4) * 256 + (bt s 5) + (bt s 6) + 8), .int .u8 (bt s 1)]
def roCu0_1 (To : List (Int × Int × LB × Int)) (Tr : LB) (Tk nd : Int) (s : LB) (o : List (Int × Int × LB × Int)) : List Value := [rwG reC o, rwS ([] : List LB), rwG reC (o ++ [((bt s 1), (bt s 2) * 256 + (bt s 3), (rcC s), (bt s 6))]), rwS ([] : List LB), rwS ([] : List LB), rwS ([] : List LB), rwS ([] : List LB), rwS ([] : List LB), rwS ([] : List LB), rwS ([] : List LB)]
def epCu0 (st : Nat × LB × List (Int × Int × LB × Int)) : LA := if st.1 = 0 then epCu0_0 else epCu0_1
def hpCu0 (st : Nat × LB × List (Int × Int × LB × Int)) : LE := if st.1 = 0 then hpCu0_0 else hpCu0_1
def nuCu0 (To : List (Int × Int × LB × Int)) (Tr : LB) (Tk nd : Int) (st : Nat × LB × List (Int × Int × LB × Int)) : List Value := if st.1 = 0 then nuCu0_0 To Tr Tk nd (st.2.1) (st.2.2) else nuCu0_1 To Tr Tk nd (st.2.1) (st.2.2)
def roCu0 (To : List (Int × Int × LB × Int)) (Tr : LB) (Tk nd : Int) (st : Nat × LB × List (Int × Int × LB × Int)) : List Value := if st.1 = 0 then roCu0_0 To Tr Tk nd (st.2.1) (st.2.2) else roCu0_1 To Tr Tk nd (st.2.1) (st.2.2)
theorem onCu0 (To : List (Int × Int × LB × Int)) (Tr : LB) (Tk nd : Int) (st : Nat × LB × List (Int × Int × LB × Int)) : ∀ j, (nuL (nuCu0 To Tr Tk nd st) j).oneCell' = true := by
  intro j
  unfold nuCu0
  by_cases g0 : st.1 = 0
  · rw [if_pos g0]; exact nuL_one (l := nuCu0_0 To Tr Tk nd (st.2.1) (st.2.2)) rfl j
  rw [if_neg g0]
  exact nuL_one (l := nuCu0_1 To Tr Tk nd (st.2.1) (st.2.2)) rfl j
theorem ebCu0 (st : Nat × LB × List (Int × Int × LB × Int)) : (lfB (epCu0 st) && lfC keepCu0) = true := by
  unfold epCu0
  by_cases g0 : st.1 = 0
  · rw [if_pos g0]; rfl
  rw [if_neg g0]
  rfl
noncomputable def DCu0 (To : List (Int × Int × LB × Int)) (Tr : LB) (Tk nd : Int) (st : Nat × LB × List (Int × Int × LB × Int)) (X : Nat → Value) : Cx := cx (nuX (nuCu0 To Tr Tk nd st) (rX (roCu0 To Tr Tk nd st) X)) (nuX_one (onCu0 To Tr Tk nd st)) 1 laidE laidE_stab
def InvCu0 (To : List (Int × Int × LB × Int)) (Tr : LB) (Tk nd : Int) (st : Nat × LB × List (Int × Int × LB × Int)) : Prop := ((st.2.1).length ≤ 100000) ∧ ((st.2.2) ++ (cutS (65535) (st.2.1)).1 = To) ∧ ((cutS (65535) (st.2.1)).2.1 = Tr) ∧ ((cutS (65535) (st.2.1)).2.2 = Tk) ∧ (8 * (st.2.2).length + (st.2.1).length ≤ 100000) ∧ ((st.1) = 0 → (st.2.2) = []) ∧ ((st.1) = 1 → 1 ≤ (st.2.2).length) ∧ ((st.1) < 2)
abbrev CjCu0 (To : List (Int × Int × LB × Int)) (Tr : LB) (Tk nd : Int) (tag : Nat) (s : LB) (o : List (Int × Int × LB × Int)) : Prop := (s.length ≤ 100000) ∧ (o ++ (cutS (65535) s).1 = To) ∧ ((cutS (65535) s).2.1 = Tr) ∧ ((cutS (65535) s).2.2 = Tk) ∧ (8 * o.length + s.length ≤ 100000) ∧ (tag = 0 → o = []) ∧ (tag = 1 → 1 ≤ o.length) ∧ (tag < 2)
theorem mkICu0 (To : List (Int × Int × LB × Int)) (Tr : LB) (Tk nd : Int) (tag : Nat) (s : LB) (o : List (Int × Int × LB × Int)) (h : CjCu0 To Tr Tk nd tag s o) : InvCu0 To Tr Tk nd (tag, s, o) := h
theorem unICu0 (To : List (Int × Int × LB × Int)) (Tr : LB) (Tk nd : Int) (tag : Nat) (s : LB) (o : List (Int × Int × LB × Int)) (h : InvCu0 To Tr Tk nd (tag, s, o)) : (s.length ≤ 100000) ∧ (o ++ (cutS (65535) s).1 = To) ∧ ((cutS (65535) s).2.1 = Tr) ∧ ((cutS (65535) s).2.2 = Tk) ∧ (8 * o.length + s.length ≤ 100000) ∧ (tag = 0 → o = []) ∧ (tag = 1 → 1 ≤ o.length) ∧ (tag < 2) := h
def muCu0 (To : List (Int × Int × LB × Int)) (Tr : LB) (Tk nd : Int) (st : Nat × LB × List (Int × Int × LB × Int)) : Nat := (st.2.1).length
abbrev RHCu0 (To : List (Int × Int × LB × Int)) (Tr : LB) (Tk nd : Int) (E' : Cx) (ex' : Ex) (epx' : LA) (hpx' : LE) (st : Nat × LB × List (Int × Int × LB × Int)) (X : Nat → Value) : Prop := RoundH E' bodyCu0 keepCu0 38 ex' 1 120 122 180 epCu0 hpCu0 epx' hpx' (InvCu0 To Tr Tk nd) (muCu0 To Tr Tk nd) (DCu0 To Tr Tk nd) st X
theorem sLCu0_0 (To : List (Int × Int × LB × Int)) (Tr : LB) (Tk nd : Int) (s : LB) (o : List (Int × Int × LB × Int)) {X : Nat → Value} {tb : Tab} {L : List LF} (y : Nat × LB × List (Int × Int × LB × Int)) {th : LA} {sg : List (Nat × Nat)} (hall : AllOk (cx (nuX (nuCu0_0 To Tr Tk nd s o) (rX (roCu0_0 To Tr Tk nd s o) X)) (nuX_one (nuL_one (l := nuCu0_0 To Tr Tk nd s o) rfl)) 1 laidE laidE_stab) tb) (hlp : LpOk (cx (nuX (nuCu0_0 To Tr Tk nd s o) (rX (roCu0_0 To Tr Tk nd s o) X)) (nuX_one (nuL_one (l := nuCu0_0 To Tr Tk nd s o) rfl)) 1 laidE laidE_stab) L bodyCu0) (hng : tb.ng = 1) (hy : InvCu0 To Tr Tk nd y) (lt : muCu0 To Tr Tk nd y < muCu0 To Tr Tk nd (0, s, o)) (ht : ThOk (cx (nuX (nuCu0_0 To Tr Tk nd s o) (rX (roCu0_0 To Tr Tk nd s o) X)) (nuX_one (nuL_one (l := nuCu0_0 To Tr Tk nd s o) rfl)) 1 laidE laidE_stab) (DCu0 To Tr Tk nd y X) th) (run : okRdH (code tb 4000 L bodyCu0 (envOf (headOf epCu0_0 keepCu0) 38) ⟨lhSet hpCu0_0 .leaf, 122, 0, 0⟩) .normal keepCu0 38 180 th sg 120 122 (epCu0 y) (hpCu0 y) = true) : RHCu0 To Tr Tk nd E' x' e' h' (0, s, o) X :=
  RoundH.next (tb := tb) (L := L) (f := 4000) y hall hlp hng hy lt ht run
theorem lLCu0_0 (To : List (Int × Int × LB × Int)) (Tr : LB) (Tk nd : Int) (s : LB) (o : List (Int × Int × LB × Int)) {X : Nat → Value} {tb : Tab} {L : List LF} {th : LA} {sg : List (Nat × Nat)} (hne : exB x' .normal = false) (hall : AllOk (cx (nuX (nuCu0_0 To Tr Tk nd s o) (rX (roCu0_0 To Tr Tk nd s o) X)) (nuX_one (nuL_one (l := nuCu0_0 To Tr Tk nd s o) rfl)) 1 laidE laidE_stab) tb) (hlp : LpOk (cx (nuX (nuCu0_0 To Tr Tk nd s o) (rX (roCu0_0 To Tr Tk nd s o) X)) (nuX_one (nuL_one (l := nuCu0_0 To Tr Tk nd s o) rfl)) 1 laidE laidE_stab) L bodyCu0) (hng : tb.ng = 1) (ht : ThOk (cx (nuX (nuCu0_0 To Tr Tk nd s o) (rX (roCu0_0 To Tr Tk nd s o) X)) (nuX_one (nuL_one (l := nuCu0_0 To Tr Tk nd s o) rfl)) 1 laidE laidE_stab) E' th) (run : okRdH (code tb 4000 L bodyCu0 (envOf (headOf epCu0_0 keepCu0) 38) ⟨lhSet hpCu0_0 .leaf, 122, 0, 0⟩) x' keepCu0 38 180 th sg 120 180 e' h' = true) : RHCu0 To Tr Tk nd E' x' e' h' (0, s, o) X :=
  RoundH.leave (tb := tb) (L := L) (f := 4000) hall hlp hng hne ht run
noncomputable abbrev RNCu0_0 (h : LK) (x : Ex) (th : LA) (sg : List (Nat × Nat)) (m : Nat) (ep : LA) (hp : LE) : Bool := okRdH (code (tbl h) 4000 [] bodyCu0 (envOf (headOf epCu0_0 keepCu0) 38) ⟨lhSet hpCu0_0 .leaf, 122, 0, 0⟩) x keepCu0 38 180 th sg 120 m ep hp
theorem stCu0_0 (To : List (Int × Int × LB × Int)) (Tr : LB) (Tk nd : Int) (s : LB) (o : List (Int × Int × LB × Int)) {X : Nat → Value} {h : LK} (y : Nat × LB × List (Int × Int × LB × Int)) {th : LA} {sg : List (Nat × Nat)} (ho : ∀ a' r', (a', r') ∈ h → HOk (cx (nuX (nuCu0_0 To Tr Tk nd s o) (rX (roCu0_0 To Tr Tk nd s o) X)) (nuX_one (nuL_one (l := nuCu0_0 To Tr Tk nd s o) rfl)) 1 laidE laidE_stab) a' r') (hy : InvCu0 To Tr Tk nd y) (lt : muCu0 To Tr Tk nd y < muCu0 To Tr Tk nd (0, s, o)) (ht : ThOk (cx (nuX (nuCu0_0 To Tr Tk nd s o) (rX (roCu0_0 To Tr Tk nd s o) X)) (nuX_one (nuL_one (l := nuCu0_0 To Tr Tk nd s o) rfl)) 1 laidE laidE_stab) (DCu0 To Tr Tk nd y X) th) (run : RNCu0_0 h .normal th sg 122 (epCu0 y) (hpCu0 y) = true) : RHCu0 To Tr Tk nd E' x' e' h' (0, s, o) X :=
  RoundH.next (tb := tbl h) (L := []) (f := 4000) y ((tabkOk _ _).hyps ho) (LpOk.nil _) rfl hy lt ht run
theorem lvCu0_0 (To : List (Int × Int × LB × Int)) (Tr : LB) (Tk nd : Int) (s : LB) (o : List (Int × Int × LB × Int)) {X : Nat → Value} {h : LK} {th : LA} {sg : List (Nat × Nat)} (hne : exB x' .normal = false) (ho : ∀ a' r', (a', r') ∈ h → HOk (cx (nuX (nuCu0_0 To Tr Tk nd s o) (rX (roCu0_0 To Tr Tk nd s o) X)) (nuX_one (nuL_one (l := nuCu0_0 To Tr Tk nd s o) rfl)) 1 laidE laidE_stab) a' r') (ht : ThOk (cx (nuX (nuCu0_0 To Tr Tk nd s o) (rX (roCu0_0 To Tr Tk nd s o) X)) (nuX_one (nuL_one (l := nuCu0_0 To Tr Tk nd s o) rfl)) 1 laidE laidE_stab) E' th) (run : RNCu0_0 h x' th sg 180 e' h' = true) : RHCu0 To Tr Tk nd E' x' e' h' (0, s, o) X :=
  RoundH.leave (tb := tbl h) (L := []) (f := 4000) ((tabkOk _ _).hyps ho) (LpOk.nil _) rfl hne ht run
theorem sLCu0_1 (To : List (Int × Int × LB × Int)) (Tr : LB) (Tk nd : Int) (s : LB) (o : List (Int × Int × LB × Int)) {X : Nat → Value} {tb : Tab} {L : List LF} (y : Nat × LB × List (Int × Int × LB × Int)) {th : LA} {sg : List (Nat × Nat)} (hall : AllOk (cx (nuX (nuCu0_1 To Tr Tk nd s o) (rX (roCu0_1 To Tr Tk nd s o) X)) (nuX_one (nuL_one (l := nuCu0_1 To Tr Tk nd s o) rfl)) 1 laidE laidE_stab) tb) (hlp : LpOk (cx (nuX (nuCu0_1 To Tr Tk nd s o) (rX (roCu0_1 To Tr Tk nd s o) X)) (nuX_one (nuL_one (l := nuCu0_1 To Tr Tk nd s o) rfl)) 1 laidE laidE_stab) L bodyCu0) (hng : tb.ng = 1) (hy : InvCu0 To Tr Tk nd y) (lt : muCu0 To Tr Tk nd y < muCu0 To Tr Tk nd (1, s, o)) (ht : ThOk (cx (nuX (nuCu0_1 To Tr Tk nd s o) (rX (roCu0_1 To Tr Tk nd s o) X)) (nuX_one (nuL_one (l := nuCu0_1 To Tr Tk nd s o) rfl)) 1 laidE laidE_stab) (DCu0 To Tr Tk nd y X) th) (run : okRdH (code tb 4000 L bodyCu0 (envOf (headOf epCu0_1 keepCu0) 38) ⟨lhSet hpCu0_1 .leaf, 122, 0, 0⟩) .normal keepCu0 38 180 th sg 120 122 (epCu0 y) (hpCu0 y) = true) : RHCu0 To Tr Tk nd E' x' e' h' (1, s, o) X :=
  RoundH.next (tb := tb) (L := L) (f := 4000) y hall hlp hng hy lt ht run
theorem lLCu0_1 (To : List (Int × Int × LB × Int)) (Tr : LB) (Tk nd : Int) (s : LB) (o : List (Int × Int × LB × Int)) {X : Nat → Value} {tb : Tab} {L : List LF} {th : LA} {sg : List (Nat × Nat)} (hne : exB x' .normal = false) (hall : AllOk (cx (nuX (nuCu0_1 To Tr Tk nd s o) (rX (roCu0_1 To Tr Tk nd s o) X)) (nuX_one (nuL_one (l := nuCu0_1 To Tr Tk nd s o) rfl)) 1 laidE laidE_stab) tb) (hlp : LpOk (cx (nuX (nuCu0_1 To Tr Tk nd s o) (rX (roCu0_1 To Tr Tk nd s o) X)) (nuX_one (nuL_one (l := nuCu0_1 To Tr Tk nd s o) rfl)) 1 laidE laidE_stab) L bodyCu0) (hng : tb.ng = 1) (ht : ThOk (cx (nuX (nuCu0_1 To Tr Tk nd s o) (rX (roCu0_1 To Tr Tk nd s o) X)) (nuX_one (nuL_one (l := nuCu0_1 To Tr Tk nd s o) rfl)) 1 laidE laidE_stab) E' th) (run : okRdH (code tb 4000 L bodyCu0 (envOf (headOf epCu0_1 keepCu0) 38) ⟨lhSet hpCu0_1 .leaf, 122, 0, 0⟩) x' keepCu0 38 180 th sg 120 180 e' h' = true) : RHCu0 To Tr Tk nd E' x' e' h' (1, s, o) X :=
  RoundH.leave (tb := tb) (L := L) (f := 4000) hall hlp hng hne ht run
noncomputable abbrev RNCu0_1 (h : LK) (x : Ex) (th : LA) (sg : List (Nat × Nat)) (m : Nat) (ep : LA) (hp : LE) : Bool := okRdH (code (tbl h) 4000 [] bodyCu0 (envOf (headOf epCu0_1 keepCu0) 38) ⟨lhSet hpCu0_1 .leaf, 122, 0, 0⟩) x keepCu0 38 180 th sg 120 m ep hp
theorem stCu0_1 (To : List (Int × Int × LB × Int)) (Tr : LB) (Tk nd : Int) (s : LB) (o : List (Int × Int × LB × Int)) {X : Nat → Value} {h : LK} (y : Nat × LB × List (Int × Int × LB × Int)) {th : LA} {sg : List (Nat × Nat)} (ho : ∀ a' r', (a', r') ∈ h → HOk (cx (nuX (nuCu0_1 To Tr Tk nd s o) (rX (roCu0_1 To Tr Tk nd s o) X)) (nuX_one (nuL_one (l := nuCu0_1 To Tr Tk nd s o) rfl)) 1 laidE laidE_stab) a' r') (hy : InvCu0 To Tr Tk nd y) (lt : muCu0 To Tr Tk nd y < muCu0 To Tr Tk nd (1, s, o)) (ht : ThOk (cx (nuX (nuCu0_1 To Tr Tk nd s o) (rX (roCu0_1 To Tr Tk nd s o) X)) (nuX_one (nuL_one (l := nuCu0_1 To Tr Tk nd s o) rfl)) 1 laidE laidE_stab) (DCu0 To Tr Tk nd y X) th) (run : RNCu0_1 h .normal th sg 122 (epCu0 y) (hpCu0 y) = true) : RHCu0 To Tr Tk nd E' x' e' h' (1, s, o) X :=
  RoundH.next (tb := tbl h) (L := []) (f := 4000) y ((tabkOk _ _).hyps ho) (LpOk.nil _) rfl hy lt ht run
theorem lvCu0_1 (To : List (Int × Int × LB × Int)) (Tr : LB) (Tk nd : Int) (s : LB) (o : List (Int × Int × LB × Int)) {X : Nat → Value} {h : LK} {th : LA} {sg : List (Nat × Nat)} (hne : exB x' .normal = false) (ho : ∀ a' r', (a', r') ∈ h → HOk (cx (nuX (nuCu0_1 To Tr Tk nd s o) (rX (roCu0_1 To Tr Tk nd s o) X)) (nuX_one (nuL_one (l := nuCu0_1 To Tr Tk nd s o) rfl)) 1 laidE laidE_stab) a' r') (ht : ThOk (cx (nuX (nuCu0_1 To Tr Tk nd s o) (rX (roCu0_1 To Tr Tk nd s o) X)) (nuX_one (nuL_one (l := nuCu0_1 To Tr Tk nd s o) rfl)) 1 laidE laidE_stab) E' th) (run : RNCu0_1 h x' th sg 180 e' h' = true) : RHCu0 To Tr Tk nd E' x' e' h' (1, s, o) X :=
  RoundH.leave (tb := tbl h) (L := []) (f := 4000) ((tabkOk _ _).hyps ho) (LpOk.nil _) rfl hne ht run
def hyCu0_p0 : LK := [(.rn, .x 2000000), (.bytes [], .x 2), (.len (.x 0), .x 3), (.bin .geq (.x 3) (.i .i64 (.ofNat 6)), .b true), (.idx (.x 0) (.i .i64 (.ofNat 0)), .x 4), (.bin .eql (.x 4) (.i .u8 (.ofNat 1)), .b true), (.idx (.x 0) (.i .i64 (.ofNat 4)), .x 5), (.conv 3 (.x 5), .x 6), (.bin .shl (.x 6) (.i .u64 (.ofNat 8)), .x 7), (.idx (.x 0) (.i .i64 (.ofNat 5)), .x 8), (.conv 3 (.x 8), .x 9), (.bin .add (.x 7) (.x 9), .x 10), (.bin .gtr (.x 10) (.i .i64 (.ofNat 65535)), .b false), (.bin .neq (.x 0) (.s 0 0), .b true), (.bin .neq (.x 4) (.i .u8 (.ofNat 1)), .b false), (.bin .lss (.x 3) (.i .i64 (.ofNat 8)), .b false), (.bin .add (.i .i64 (.ofNat 8)) (.x 7), .x 11), (.bin .add (.x 11) (.x 9), .x 12), (.idx (.x 0) (.i .i64 (.ofNat 6)), .x 13), (.conv 3 (.x 13), .x 14), (.bin .add (.x 12) (.x 14), .x 15), (.bin .lss (.x 3) (.x 15), .b false), (.idx (.x 0) (.i .i64 (.ofNat 1)), .x 16), (.bin .eql (.x 16) (.i .u8 (.ofNat 0)), .b false), (.conv 3 (.x 16), .x 17), (.idx (.x 0) (.i .i64 (.ofNat 2)), .x 18), (.conv 3 (.x 18), .x 19), (.bin .shl (.x 19) (.i .u64 (.ofNat 8)), .x 20), (.idx (.x 0) (.i .i64 (.ofNat 3)), .x 21), (.conv 3 (.x 21), .x 22), (.bin .or (.x 20) (.x 22), .x 23), (.bin .sub (.x 15) (.x 14), .x 24), (.sub (.x 0) (some (.i .i64 (.ofNat 8))) (some (.x 24)), .x 25), (.sub (.x 0) (some (.x 15)) none, .x 26), (.ra (.x 2000000) [.x 17, .x 23, .x 25, .x 14], .x 2000001), (.rf (.x 2000001) 4 40, .b true)]
theorem runCu0_p0 : RNCu0_0 hyCu0_p0 .normal [(0, .x 26), (1, .x 1), (2000000, .x 2000001)] [(120, 128), (121, 121)] 122 epCu0_1 hpCu0_1 = true := by kernel_rfl
theorem nxCu0_p0 (To : List (Int × Int × LB × Int)) (Tr : LB) (Tk nd : Int) (s : LB) (o : List (Int × Int × LB × Int)) (X : Nat → Value) (hI : InvCu0 To Tr Tk nd (0, s, o)) (h0 : 6 ≤ (s.length : Int)) (h1 : bt s 0 = 1) (h5 : ¬ ((s.length : Int) < 8)) (h6 : ¬ ((s.length : Int) < (bt s 4) * 256 + (bt s 5) + (bt s 6) + 8)) (h7 : ¬ (bt s 1 = 0)) : RHCu0 To Tr Tk nd E' x' e' h' (0, s, o) X := by
  obtain ⟨i0, i1, i2, i3, i4, i5, i6, it⟩ := unICu0 To Tr Tk nd 0 s o hI
  have := bt_lo s 0; have := bt_hi s 0
  have := bt_lo s 4; have := bt_hi s 4
  have := bt_lo s 5; have := bt_hi s 5
  have := bt_lo s 6; have := bt_hi s 6
  have := bt_lo s 1; have := bt_hi s 1
  have := bt_lo s 2; have := bt_hi s 2
  have := bt_lo s 3; have := bt_hi s 3
  have := rcC_len (s := s) (by omega)
  have := lenDrop (l := s) (P := (bt s 4) * 256 + (bt s 5) + (bt s 6) + 8) (by omega) (by omega)
  have hb1 := bt_lo s 4; have hb2 := bt_lo s 5; have hb3 := bt_lo s 6; have hb4 := bt_hi s 4; have hb5 := bt_hi s 5; have hb6 := bt_hi s 6
  have hcu := cu_rec (m := 65535) (s := s) (rest := (List.drop (Int.toNat ((bt s 4) * 256 + (bt s 5) + (bt s 6) + 8)) s)) (o := []) (To := To) (Tr := Tr) (Tk := Tk) (rck00 (by omega) (by omega) (by omega) (by omega) (by omega)) (by congr 2; unfold rsz; omega) (by rw [i5 rfl] at i1; exact i1) i2 i3
  refine stCu0_0 To Tr Tk nd s o (h := hyCu0_p0) (1, (List.drop (Int.toNat ((bt s 4) * 256 + (bt s 5) + (bt s 6) + 8)) s), (([] : List (Int × Int × LB × Int)) ++ [((bt s 1), (bt s 2) * 256 + (bt s 3), (rcC s), (bt s 6))])) ?_ (mkICu0 To Tr Tk nd 1 (List.drop (Int.toNat ((bt s 4) * 256 + (bt s 5) + (bt s 6) + 8)) s) (([] : List (Int × Int × LB × Int)) ++ [((bt s 1), (bt s 2) * 256 + (bt s 3), (rcC s), (bt s 6))]) ⟨by first | omega | (rw [List.length_drop]; omega), hcu.1, hcu.2.1, hcu.2.2, by simp only [List.length_append, List.length_cons, List.length_nil, List.length_drop]; omega, fun h => by omega, fun _ => by simp, by omega⟩) (by show ((List.drop (Int.toNat ((bt s 4) * 256 + (bt s 5) + (bt s 6) + 8)) s)).length < s.length; rw [List.length_drop]; omega) (thXv (v := St' (List.drop (Int.toNat ((bt s 4) * 256 + (bt s 5) + (bt s 6) + 8)) s)) rfl rfl (thXv (v := .int .i64 (nd)) rfl rfl (thXv (v := rwG reC (([] : List (Int × Int × LB × Int)) ++ [((bt s 1), (bt s 2) * 256 + (bt s 3), (rcC s), (bt s 6))])) rfl rfl (thNil)))) runCu0_p0
  unfold hyCu0_p0
  exact hc (kRn (denX rfl)) <|
   hc (kBytesB (bs := ([] : LB)) .nil (denX rfl)) <|
   hc (lnV rfl rfl (by omega)) <|
   hc (gecT rfl (by omega)) <|
   hc (ixC rfl rfl (by omega)) <|
   hc (eqcT rfl (by omega)) <|
   hc (ixC rfl rfl (by omega)) <|
   hc (kConvF (isX rfl) tu3 (denX rfl) (fI64 (by omega) (by omega))) <|
   hc (kShlM 8 256 rfl (isX rfl) (isZ (m := 8) rfl) (denX rfl) rfl (by decide) (by omega) (fI64 (by omega) (by omega))) <|
   hc (ixC rfl rfl (by omega)) <|
   hc (kConvF (isX rfl) tu3 (denX rfl) (fI64 (by omega) (by omega))) <|
   hc (adX rfl rfl rfl (by omega)) <|
   hc (gtcF rfl (by omega)) <|
   hc (kNeS (isX rfl) (isSx (l := ([] : LB)) 0 0 rfl) (bnT (nilF (by omega)))) <|
   hc (necF rfl (by omega)) <|
   hc (ltcF rfl (by omega)) <|
   hc (kAdd (isZ (m := 8) rfl) (isX rfl) (denX rfl) (by omega) (fI64 (by omega) (by omega))) <|
   hc (adX rfl rfl rfl (by omega)) <|
   hc (ixC rfl rfl (by omega)) <|
   hc (kConvF (isX rfl) tu3 (denX rfl) (fI64 (by omega) (by omega))) <|
   hc (adX rfl rfl rfl (by omega)) <|
   hc (ltF rfl rfl (by omega)) <|
   hc (ixC rfl rfl (by omega)) <|
   hc (eqcF rfl (by omega)) <|
   hc (kConvF (isX rfl) tu3 (denX rfl) (fI64 (by omega) (by omega))) <|
   hc (ixC rfl rfl (by omega)) <|
   hc (kConvF (isX rfl) tu3 (denX rfl) (fI64 (by omega) (by omega))) <|
   hc (kShlM 8 256 rfl (isX rfl) (isZ (m := 8) rfl) (denX rfl) rfl (by decide) (by omega) (fI64 (by omega) (by omega))) <|
   hc (ixC rfl rfl (by omega)) <|
   hc (kConvF (isX rfl) tu3 (denX rfl) (fI64 (by omega) (by omega))) <|
   hc (kOrM 8 256 rfl (isX rfl) (isX rfl) (denX rfl) (by omega) (by omega) (fI64 (by omega) (by omega)) (fI64 (by omega) (by omega)) (by omega) (by omega) (by omega) (fI64 (by omega) (by omega))) <|
   hc (sbX rfl rfl rfl (by omega)) <|
   hc (kMid (P := 8) (Q := (bt s 4) * 256 + (bt s 5) + 8) (isX rfl) (.inr ⟨_, _, rfl, (isZ (m := 8) rfl)⟩) (.inr ⟨_, _, rfl, (isX rfl)⟩) (by omega) (by omega) (by omega) (denX (congrArg (fun l => St' l) (rcC_mid (by omega) (by omega))))) <|
   hc (drV rfl rfl rfl (by omega)) <|
   hc (kRaG (f := reC) (l := ([] : List (Int × Int × LB × Int))) (a := ((bt s 1), (bt s 2) * 256 + (bt s 3), (rcC s), (bt s 6))) (isX rfl) (isL4 (isX rfl) (isX rfl) (isX rfl) (isX rfl)) (denX rfl)) <|
   hc (kRfG reC_len (isX rfl) (by first | (rw [List.length_append]; omega) | (first | omega | (simp <;> omega))) (by first | (rw [List.length_append]; omega) | (first | omega | (simp <;> omega)))) <|
   hnil
def hyCu0_p1 : LK := [(.rn, .x 2000002), (.bytes [], .x 27), (.len (.x 0), .x 28), (.bin .geq (.x 28) (.i .i64 (.ofNat 6)), .b false), (.bin .neq (.x 0) (.s 0 0), .b false), (.bin .lss (.x 28) (.i .i64 (.ofNat 8)), .b true)]
theorem runCu0_p1 : RNCu0_0 hyCu0_p1 .ret [(0, .x 0), (1, .x 1)] [(121, 121)] 180 [(4, .nils), (5, .x 0), (6, .ni)] [(20, .b ⟨53, .l [.i .i64 (.ofNat 65535), .sy 121, .x 1, .b false], 0, 0, 0, false, false⟩)] = true := by kernel_rfl
def hyCu0_p2 : LK := [(.rn, .x 2000003), (.bytes [], .x 29), (.len (.x 0), .x 30), (.bin .geq (.x 30) (.i .i64 (.ofNat 6)), .b false), (.bin .neq (.x 0) (.s 0 0), .b true), (.idx (.x 0) (.i .i64 (.ofNat 0)), .x 31), (.bin .neq (.x 31) (.i .u8 (.ofNat 1)), .b false), (.bin .lss (.x 30) (.i .i64 (.ofNat 8)), .b true)]
theorem runCu0_p2 : RNCu0_0 hyCu0_p2 .ret [(0, .x 0), (1, .x 1)] [(121, 121)] 180 [(4, .nils), (5, .x 0), (6, .ni)] [(20, .b ⟨53, .l [.i .i64 (.ofNat 65535), .sy 121, .x 1, .b false], 0, 0, 0, false, false⟩)] = true := by kernel_rfl
def hyCu0_p3 : LK := [(.rn, .x 2000004), (.bytes [], .x 32), (.len (.x 0), .x 33), (.bin .geq (.x 33) (.i .i64 (.ofNat 6)), .b false), (.bin .neq (.x 0) (.s 0 0), .b true), (.idx (.x 0) (.i .i64 (.ofNat 0)), .x 34), (.bin .neq (.x 34) (.i .u8 (.ofNat 1)), .b true)]
def lh37 : LH := ⟨1, 151, 161, [(126, .b ⟨29, .l [.i .i64 (.ofNat 0)], 0, 0, 0, false, false⟩)], [(126, .b ⟨29, .l [.i .i64 (.ofNat 13)], 0, 0, 0, false, false⟩)]⟩
def lf37 : LF := ⟨8888888, 0, [(0, .ifc 68 (.ag [.i .i64 (.ofNat 13), .s 27 45430407375676916831998826942035274374409028507990266741766889569])), (1, .ifc 66 (.p 126 0))], [], .normal, [(0, .b true)], some lh37⟩
noncomputable def tbCu0_p3 : Tab := addLps ((tbl hyCu0_p3)) 25 fi25 [lf37]
def LCu0_p3 : List LF := []
def hyCu0_p4 : LK := [(.rn, .x 2000005), (.bytes [], .x 35), (.len (.x 0), .x 36), (.bin .geq (.x 36) (.i .i64 (.ofNat 6)), .b true), (.idx (.x 0) (.i .i64 (.ofNat 0)), .x 37), (.bin .eql (.x 37) (.i .u8 (.ofNat 1)), .b false), (.bin .neq (.x 0) (.s 0 0), .b true), (.bin .neq (.x 37) (.i .u8 (.ofNat 1)), .b true)]
def lh38 : LH := ⟨1, 151, 161, [(126, .b ⟨29, .l [.i .i64 (.ofNat 0)], 0, 0, 0, false, false⟩)], [(126, .b ⟨29, .l [.i .i64 (.ofNat 13)], 0, 0, 0, false, false⟩)]⟩
def lf38 : LF := ⟨8888888, 0, [(0, .ifc 68 (.ag [.i .i64 (.ofNat 13), .s 27 45430407375676916831998826942035274374409028507990266741766889569])), (1, .ifc 66 (.p 126 0))], [], .normal, [(0, .b true)], some lh38⟩
noncomputable def tbCu0_p4 : Tab := addLps ((tbl hyCu0_p4)) 25 fi25 [lf38]
def LCu0_p4 : List LF := []
def hyCu0_p5 : LK := [(.rn, .x 2000006), (.bytes [], .x 38), (.len (.x 0), .x 39), (.bin .geq (.x 39) (.i .i64 (.ofNat 6)), .b true), (.idx (.x 0) (.i .i64 (.ofNat 0)), .x 40), (.bin .eql (.x 40) (.i .u8 (.ofNat 1)), .b true), (.idx (.x 0) (.i .i64 (.ofNat 4)), .x 41), (.conv 3 (.x 41), .x 42), (.bin .shl (.x 42) (.i .u64 (.ofNat 8)), .x 43), (.idx (.x 0) (.i .i64 (.ofNat 5)), .x 44), (.conv 3 (.x 44), .x 45), (.bin .add (.x 43) (.x 45), .x 46), (.bin .gtr (.x 46) (.i .i64 (.ofNat 65535)), .b false), (.bin .neq (.x 0) (.s 0 0), .b true), (.bin .neq (.x 40) (.i .u8 (.ofNat 1)), .b false), (.bin .lss (.x 39) (.i .i64 (.ofNat 8)), .b true)]
theorem runCu0_p5 : RNCu0_0 hyCu0_p5 .ret [(0, .x 0), (1, .x 1)] [(121, 121)] 180 [(4, .nils), (5, .x 0), (6, .ni)] [(20, .b ⟨53, .l [.i .i64 (.ofNat 65535), .sy 121, .x 1, .b false], 0, 0, 0, false, false⟩)] = true := by kernel_rfl
def hyCu0_p6 : LK := [(.rn, .x 2000007), (.bytes [], .x 47), (.len (.x 0), .x 48), (.bin .geq (.x 48) (.i .i64 (.ofNat 6)), .b true), (.idx (.x 0) (.i .i64 (.ofNat 0)), .x 49), (.bin .eql (.x 49) (.i .u8 (.ofNat 1)), .b true), (.idx (.x 0) (.i .i64 (.ofNat 4)), .x 50), (.conv 3 (.x 50), .x 51), (.bin .shl (.x 51) (.i .u64 (.ofNat 8)), .x 52), (.idx (.x 0) (.i .i64 (.ofNat 5)), .x 53), (.conv 3 (.x 53), .x 54), (.bin .add (.x 52) (.x 54), .x 55), (.bin .gtr (.x 55) (.i .i64 (.ofNat 65535)), .b false), (.bin .neq (.x 0) (.s 0 0), .b true), (.bin .neq (.x 49) (.i .u8 (.ofNat 1)), .b false), (.bin .lss (.x 48) (.i .i64 (.ofNat 8)), .b false), (.bin .add (.i .i64 (.ofNat 8)) (.x 52), .x 56), (.bin .add (.x 56) (.x 54), .x 57), (.idx (.x 0) (.i .i64 (.ofNat 6)), .x 58), (.conv 3 (.x 58), .x 59), (.bin .add (.x 57) (.x 59), .x 60), (.bin .lss (.x 48) (.x 60), .b true)]
theorem runCu0_p6 : RNCu0_0 hyCu0_p6 .ret [(0, .x 0), (1, .x 1)] [(121, 121)] 180 [(4, .nils), (5, .x 0), (6, .ni)] [(20, .b ⟨53, .l [.i .i64 (.ofNat 65535), .sy 121, .x 1, .b false], 0, 0, 0, false, false⟩)] = true := by kernel_rfl
def hyCu0_p7 : LK := [(.rn, .x 2000008), (.bytes [], .x 61), (.len (.x 0), .x 62), (.bin .geq (.x 62) (.i .i64 (.ofNat 6)), .b true), (.idx (.x 0) (.i .i64 (.ofNat 0)), .x 63), (.bin .eql (.x 63) (.i .u8 (.ofNat 1)), .b true), (.idx (.x 0) (.i .i64 (.ofNat 4)), .x 64), (.conv 3 (.x 64), .x 65), (.bin .shl (.x 65) (.i .u64 (.ofNat 8)), .x 66), (.idx (.x 0) (.i .i64 (.ofNat 5)), .x 67), (.conv 3 (.x 67), .x 68), (.bin .add (.x 66) (.x 68), .x 69), (.bin .gtr (.x 69) (.i .i64 (.ofNat 65535)), .b false), (.bin .neq (.x 0) (.s 0 0), .b true), (.bin .neq (.x 63) (.i .u8 (.ofNat 1)), .b false), (.bin .lss (.x 62) (.i .i64 (.ofNat 8)), .b false), (.bin .add (.i .i64 (.ofNat 8)) (.x 66), .x 70), (.bin .add (.x 70) (.x 68), .x 71), (.idx (.x 0) (.i .i64 (.ofNat 6)), .x 72), (.conv 3 (.x 72), .x 73), (.bin .add (.x 71) (.x 73), .x 74), (.bin .lss (.x 62) (.x 74), .b false), (.idx (.x 0) (.i .i64 (.ofNat 1)), .x 75), (.bin .eql (.x 75) (.i .u8 (.ofNat 0)), .b true)]
def lh39 : LH := ⟨1, 151, 161, [(125, .b ⟨29, .l [.i .i64 (.ofNat 0)], 0, 0, 0, false, false⟩)], [(125, .b ⟨29, .l [.i .i64 (.ofNat 10)], 0, 0, 0, false, false⟩)]⟩
def lf39 : LF := ⟨8888888, 0, [(0, .ifc 68 (.ag [.i .i64 (.ofNat 10), .s 18 4192413596494156358521667725059818226065505])), (1, .ifc 66 (.p 125 0))], [], .normal, [(0, .b true)], some lh39⟩
noncomputable def tbCu0_p7 : Tab := addLps ((tbl hyCu0_p7)) 25 fi25 [lf39]
def LCu0_p7 : List LF := []
def hyCu0_p8 : LK := [(.rn, .x 2000001), (.bytes [], .x 2), (.len (.x 0), .x 3), (.bin .geq (.x 3) (.i .i64 (.ofNat 6)), .b true), (.idx (.x 0) (.i .i64 (.ofNat 0)), .x 4), (.bin .eql (.x 4) (.i .u8 (.ofNat 1)), .b true), (.idx (.x 0) (.i .i64 (.ofNat 4)), .x 5), (.conv 3 (.x 5), .x 6), (.bin .shl (.x 6) (.i .u64 (.ofNat 8)), .x 7), (.idx (.x 0) (.i .i64 (.ofNat 5)), .x 8), (.conv 3 (.x 8), .x 9), (.bin .add (.x 7) (.x 9), .x 10), (.bin .gtr (.x 10) (.i .i64 (.ofNat 65535)), .b false), (.bin .neq (.x 0) (.s 0 0), .b true), (.bin .neq (.x 4) (.i .u8 (.ofNat 1)), .b false), (.bin .lss (.x 3) (.i .i64 (.ofNat 8)), .b false), (.bin .add (.i .i64 (.ofNat 8)) (.x 7), .x 11), (.bin .add (.x 11) (.x 9), .x 12), (.idx (.x 0) (.i .i64 (.ofNat 6)), .x 13), (.conv 3 (.x 13), .x 14), (.bin .add (.x 12) (.x 14), .x 15), (.bin .lss (.x 3) (.x 15), .b false), (.idx (.x 0) (.i .i64 (.ofNat 1)), .x 16), (.bin .eql (.x 16) (.i .u8 (.ofNat 0)), .b false), (.conv 3 (.x 16), .x 17), (.idx (.x 0) (.i .i64 (.ofNat 2)), .x 18), (.conv 3 (.x 18), .x 19), (.bin .shl (.x 19) (.i .u64 (.ofNat 8)), .x 20), (.idx (.x 0) (.i .i64 (.ofNat 3)), .x 21), (.conv 3 (.x 21), .x 22), (.bin .or (.x 20) (.x 22), .x 23), (.bin .sub (.x 15) (.x 14), .x 24), (.sub (.x 0) (some (.i .i64 (.ofNat 8))) (some (.x 24)), .x 25), (.sub (.x 0) (some (.x 15)) none, .x 26), (.ra (.x 2000000) [.x 17, .x 23, .x 25, .x 14], .x 2000002), (.rf (.x 2000002) 4 40, .b true)]
theorem runCu0_p8 : RNCu0_1 hyCu0_p8 .normal [(0, .x 26), (1, .x 1), (2000000, .x 2000002)] [(120, 128), (121, 121)] 122 epCu0_1 hpCu0_1 = true := by kernel_rfl
theorem nxCu0_p8 (To : List (Int × Int × LB × Int)) (Tr : LB) (Tk nd : Int) (s : LB) (o : List (Int × Int × LB × Int)) (X : Nat → Value) (hI : InvCu0 To Tr Tk nd (1, s, o)) (h0 : 6 ≤ (s.length : Int)) (h1 : bt s 0 = 1) (h5 : ¬ ((s.length : Int) < 8)) (h6 : ¬ ((s.length : Int) < (bt s 4) * 256 + (bt s 5) + (bt s 6) + 8)) (h7 : ¬ (bt s 1 = 0)) : RHCu0 To Tr Tk nd E' x' e' h' (1, s, o) X := by
  obtain ⟨i0, i1, i2, i3, i4, i5, i6, it⟩ := unICu0 To Tr Tk nd 1 s o hI
  have := bt_lo s 0; have := bt_hi s 0
  have := bt_lo s 4; have := bt_hi s 4
  have := bt_lo s 5; have := bt_hi s 5
  have := bt_lo s 6; have := bt_hi s 6
  have := bt_lo s 1; have := bt_hi s 1
  have := bt_lo s 2; have := bt_hi s 2
  have := bt_lo s 3; have := bt_hi s 3
  have := rcC_len (s := s) (by omega)
  have := lenDrop (l := s) (P := (bt s 4) * 256 + (bt s 5) + (bt s 6) + 8) (by omega) (by omega)
  have hb1 := bt_lo s 4; have hb2 := bt_lo s 5; have hb3 := bt_lo s 6; have hb4 := bt_hi s 4; have hb5 := bt_hi s 5; have hb6 := bt_hi s 6
  have hcu := cu_rec (m := 65535) (s := s) (rest := (List.drop (Int.toNat ((bt s 4) * 256 + (bt s 5) + (bt s 6) + 8)) s)) (To := To) (Tr := Tr) (Tk := Tk) (rck00 (by omega) (by omega) (by omega) (by omega) (by omega)) (by congr 2; unfold rsz; omega) i1 i2 i3
  refine stCu0_1 To Tr Tk nd s o (h := hyCu0_p8) (1, (List.drop (Int.toNat ((bt s 4) * 256 + (bt s 5) + (bt s 6) + 8)) s), (o ++ [((bt s 1), (bt s 2) * 256 + (bt s 3), (rcC s), (bt s 6))])) ?_ (mkICu0 To Tr Tk nd 1 (List.drop (Int.toNat ((bt s 4) * 256 + (bt s 5) + (bt s 6) + 8)) s) (o ++ [((bt s 1), (bt s 2) * 256 + (bt s 3), (rcC s), (bt s 6))]) ⟨by first | omega | (rw [List.length_drop]; omega), hcu.1, hcu.2.1, hcu.2.2, by simp only [List.length_append, List.length_cons, List.length_nil, List.length_drop]; omega, fun h => by omega, fun _ => by simp, by omega⟩) (by show ((List.drop (Int.toNat ((bt s 4) * 256 + (bt s 5) + (bt s 6) + 8)) s)).length < s.length; rw [List.length_drop]; omega) (thXv (v := St' (List.drop (Int.toNat ((bt s 4) * 256 + (bt s 5) + (bt s 6) + 8)) s)) rfl rfl (thXv (v := .int .i64 (nd)) rfl rfl (thXv (v := rwG reC (o ++ [((bt s 1), (bt s 2) * 256 + (bt s 3), (rcC s), (bt s 6))])) rfl rfl (thNil)))) runCu0_p8
  unfold hyCu0_p8
  exact hc (kRn (denX rfl)) <|
   hc (kBytesB (bs := ([] : LB)) .nil (denX rfl)) <|
   hc (lnV rfl rfl (by omega)) <|
   hc (gecT rfl (by omega)) <|
   hc (ixC rfl rfl (by omega)) <|
   hc (eqcT rfl (by omega)) <|
   hc (ixC rfl rfl (by omega)) <|
   hc (kConvF (isX rfl) tu3 (denX rfl) (fI64 (by omega) (by omega))) <|
   hc (kShlM 8 256 rfl (isX rfl) (isZ (m := 8) rfl) (denX rfl) rfl (by decide) (by omega) (fI64 (by omega) (by omega))) <|
   hc (ixC rfl rfl (by omega)) <|
   hc (kConvF (isX rfl) tu3 (denX rfl) (fI64 (by omega) (by omega))) <|
   hc (adX rfl rfl rfl (by omega)) <|
   hc (gtcF rfl (by omega)) <|
   hc (kNeS (isX rfl) (isSx (l := ([] : LB)) 0 0 rfl) (bnT (nilF (by omega)))) <|
   hc (necF rfl (by omega)) <|
   hc (ltcF rfl (by omega)) <|
   hc (kAdd (isZ (m := 8) rfl) (isX rfl) (denX rfl) (by omega) (fI64 (by omega) (by omega))) <|
   hc (adX rfl rfl rfl (by omega)) <|
   hc (ixC rfl rfl (by omega)) <|
   hc (kConvF (isX rfl) tu3 (denX rfl) (fI64 (by omega) (by omega))) <|
   hc (adX rfl rfl rfl (by omega)) <|
   hc (ltF rfl rfl (by omega)) <|
   hc (ixC rfl rfl (by omega)) <|
   hc (eqcF rfl (by omega)) <|
   hc (kConvF (isX rfl) tu3 (denX rfl) (fI64 (by omega) (by omega))) <|
   hc (ixC rfl rfl (by omega)) <|
   hc (kConvF (isX rfl) tu3 (denX rfl) (fI64 (by omega) (by omega))) <|
   hc (kShlM 8 256 rfl (isX rfl) (isZ (m := 8) rfl) (denX rfl) rfl (by decide) (by omega) (fI64 (by omega) (by omega))) <|
   hc (ixC rfl rfl (by omega)) <|
   hc (kConvF (isX rfl) tu3 (denX rfl) (fI64 (by omega) (by omega))) <|
   hc (kOrM 8 256 rfl (isX rfl) (isX rfl) (denX rfl) (by omega) (by omega) (fI64 (by omega) (by omega)) (fI64 (by omega) (by omega)) (by omega) (by omega) (by omega) (fI64 (by omega) (by omega))) <|
   hc (sbX rfl rfl rfl (by omega)) <|
   hc (kMid (P := 8) (Q := (bt s 4) * 256 + (bt s 5) + 8) (isX rfl) (.inr ⟨_, _, rfl, (isZ (m := 8) rfl)⟩) (.inr ⟨_, _, rfl, (isX rfl)⟩) (by omega) (by omega) (by omega) (denX (congrArg (fun l => St' l) (rcC_mid (by omega) (by omega))))) <|
   hc (drV rfl rfl rfl (by omega)) <|
   hc (kRaG (f := reC) (l := o) (a := ((bt s 1), (bt s 2) * 256 + (bt s 3), (rcC s), (bt s 6))) (isX rfl) (isL4 (isX rfl) (isX rfl) (isX rfl) (isX rfl)) (denX rfl)) <|
   hc (kRfG reC_len (isX rfl) (by first | (rw [List.length_append]; omega) | (first | omega | (simp <;> omega))) (by first | (rw [List.length_append]; omega) | (first | omega | (simp <;> omega)))) <|
   hnil
def hyCu0_p9 : LK := [(.rn, .x 2000003), (.bytes [], .x 27), (.len (.x 0), .x 28), (.bin .geq (.x 28) (.i .i64 (.ofNat 6)), .b false), (.bin .neq (.x 0) (.s 0 0), .b false), (.bin .lss (.x 28) (.i .i64 (.ofNat 8)), .b true)]
theorem runCu0_p9 : RNCu0_1 hyCu0_p9 .ret [(0, .x 0), (1, .x 1), (2000000, .x 2000000)] [(120, 120), (121, 121)] 180 [(4, .sr 120), (5, .x 0), (6, .ni)] [(20, .b ⟨53, .l [.i .i64 (.ofNat 65535), .sy 121, .x 1, .b false], 0, 0, 0, false, false⟩), (120, .r 2000000 26 4 false)] = true := by kernel_rfl
def hyCu0_p10 : LK := [(.rn, .x 2000004), (.bytes [], .x 29), (.len (.x 0), .x 30), (.bin .geq (.x 30) (.i .i64 (.ofNat 6)), .b false), (.bin .neq (.x 0) (.s 0 0), .b true), (.idx (.x 0) (.i .i64 (.ofNat 0)), .x 31), (.bin .neq (.x 31) (.i .u8 (.ofNat 1)), .b false), (.bin .lss (.x 30) (.i .i64 (.ofNat 8)), .b true)]
theorem runCu0_p10 : RNCu0_1 hyCu0_p10 .ret [(0, .x 0), (1, .x 1), (2000000, .x 2000000)] [(120, 120), (121, 121)] 180 [(4, .sr 120), (5, .x 0), (6, .ni)] [(20, .b ⟨53, .l [.i .i64 (.ofNat 65535), .sy 121, .x 1, .b false], 0, 0, 0, false, false⟩), (120, .r 2000000 26 4 false)] = true := by kernel_rfl
def hyCu0_p11 : LK := [(.rn, .x 2000005), (.bytes [], .x 32), (.len (.x 0), .x 33), (.bin .geq (.x 33) (.i .i64 (.ofNat 6)), .b false), (.bin .neq (.x 0) (.s 0 0), .b true), (.idx (.x 0) (.i .i64 (.ofNat 0)), .x 34), (.bin .neq (.x 34) (.i .u8 (.ofNat 1)), .b true)]
def lh41 : LH := ⟨1, 151, 161, [(126, .b ⟨29, .l [.i .i64 (.ofNat 0)], 0, 0, 0, false, false⟩)], [(126, .b ⟨29, .l [.i .i64 (.ofNat 13)], 0, 0, 0, false, false⟩)]⟩
def lf41 : LF := ⟨8888888, 0, [(0, .ifc 68 (.ag [.i .i64 (.ofNat 13), .s 27 45430407375676916831998826942035274374409028507990266741766889569])), (1, .ifc 66 (.p 126 0))], [], .normal, [(0, .b true)], some lh41⟩
noncomputable def tbCu0_p11 : Tab := addLps ((tbl hyCu0_p11)) 25 fi25 [lf41]
def LCu0_p11 : List LF := []
def hyCu0_p12 : LK := [(.rn, .x 2000006), (.bytes [], .x 35), (.len (.x 0), .x 36), (.bin .geq (.x 36) (.i .i64 (.ofNat 6)), .b true), (.idx (.x 0) (.i .i64 (.ofNat 0)), .x 37), (.bin .eql (.x 37) (.i .u8 (.ofNat 1)), .b false), (.bin .neq (.x 0) (.s 0 0), .b true), (.bin .neq (.x 37) (.i .u8 (.ofNat 1)), .b true)]
def lh42 : LH := ⟨1, 151, 161, [(126, .b ⟨29, .l [.i .i64 (.ofNat 0)], 0, 0, 0, false, false⟩)], [(126, .b ⟨29, .l [.i .i64 (.ofNat 13)], 0, 0, 0, false, false⟩)]⟩
def lf42 : LF := ⟨8888888, 0, [(0, .ifc 68 (.ag [.i .i64 (.ofNat 13), .s 27 45430407375676916831998826942035274374409028507990266741766889569])), (1, .ifc 66 (.p 126 0))], [], .normal, [(0, .b true)], some lh42⟩
noncomputable def tbCu0_p12 : Tab := addLps ((tbl hyCu0_p12)) 25 fi25 [lf42]
def LCu0_p12 : List LF := []
def hyCu0_p13 : LK := [(.rn, .x 2000007), (.bytes [], .x 38), (.len (.x 0), .x 39), (.bin .geq (.x 39) (.i .i64 (.ofNat 6)), .b true), (.idx (.x 0) (.i .i64 (.ofNat 0)), .x 40), (.bin .eql (.x 40) (.i .u8 (.ofNat 1)), .b true), (.idx (.x 0) (.i .i64 (.ofNat 4)), .x 41), (.conv 3 (.x 41), .x 42), (.bin .shl (.x 42) (.i .u64 (.ofNat 8)), .x 43), (.idx (.x 0) (.i .i64 (.ofNat 5)), .x 44), (.conv 3 (.x 44), .x 45), (.bin .add (.x 43) (.x 45), .x 46), (.bin .gtr (.x 46) (.i .i64 (.ofNat 65535)), .b false), (.bin .neq (.x 0) (.s 0 0), .b true), (.bin .neq (.x 40) (.i .u8 (.ofNat 1)), .b false), (.bin .lss (.x 39) (.i .i64 (.ofNat 8)), .b true)]
theorem runCu0_p13 : RNCu0_1 hyCu0_p13 .ret [(0, .x 0), (1, .x 1), (2000000, .x 2000000)] [(120, 120), (121, 121)] 180 [(4, .sr 120), (5, .x 0), (6, .ni)] [(20, .b ⟨53, .l [.i .i64 (.ofNat 65535), .sy 121, .x 1, .b false], 0, 0, 0, false, false⟩), (120, .r 2000000 26 4 false)] = true := by kernel_rfl
def hyCu0_p14 : LK := [(.rn, .x 2000008), (.bytes [], .x 47), (.len (.x 0), .x 48), (.bin .geq (.x 48) (.i .i64 (.ofNat 6)), .b true), (.idx (.x 0) (.i .i64 (.ofNat 0)), .x 49), (.bin .eql (.x 49) (.i .u8 (.ofNat 1)), .b true), (.idx (.x 0) (.i .i64 (.ofNat 4)), .x 50), (.conv 3 (.x 50), .x 51), (.bin .shl (.x 51) (.i .u64 (.ofNat 8)), .x 52), (.idx (.x 0) (.i .i64 (.ofNat 5)), .x 53), (.conv 3 (.x 53), .x 54), (.bin .add (.x 52) (.x 54), .x 55), (.bin .gtr (.x 55) (.i .i64 (.ofNat 65535)), .b false), (.bin .neq (.x 0) (.s 0 0), .b true), (.bin .neq (.x 49) (.i .u8 (.ofNat 1)), .b false), (.bin .lss (.x 48) (.i .i64 (.ofNat 8)), .b false), (.bin .add (.i .i64 (.ofNat 8)) (.x 52), .x 56), (.bin .add (.x 56) (.x 54), .x 57), (.idx (.x 0) (.i .i64 (.ofNat 6)), .x 58), (.conv 3 (.x 58), .x 59), (.bin .add (.x 57) (.x 59), .x 60), (.bin .lss (.x 48) (.x 60), .b true)]
theorem runCu0_p14 : RNCu0_1 hyCu0_p14 .ret [(0, .x 0), (1, .x 1), (2000000, .x 2000000)] [(120, 120), (121, 121)] 180 [(4, .sr 120), (5, .x 0), (6, .ni)] [(20, .b ⟨53, .l [.i .i64 (.ofNat 65535), .sy 121, .x 1, .b false], 0, 0, 0, false, false⟩), (120, .r 2000000 26 4 false)] = true := by kernel_rfl
def hyCu0_p15 : LK := [(.rn, .x 2000009), (.bytes [], .x 61), (.len (.x 0), .x 62), (.bin .geq (.x 62) (.i .i64 (.ofNat 6)), .b true), (.idx (.x 0) (.i .i64 (.ofNat 0)), .x 63), (.bin .eql (.x 63) (.i .u8 (.ofNat 1)), .b true), (.idx (.x 0) (.i .i64 (.ofNat 4)), .x 64), (.conv 3 (.x 64), .x 65), (.bin .shl (.x 65) (.i .u64 (.ofNat 8)), .x 66), (.idx (.x 0) (.i .i64 (.ofNat 5)), .x 67), (.conv 3 (.x 67), .x 68), (.bin .add (.x 66) (.x 68), .x 69), (.bin .gtr (.x 69) (.i .i64 (.ofNat 65535)), .b false), (.bin .neq (.x 0) (.s 0 0), .b true), (.bin .neq (.x 63) (.i .u8 (.ofNat 1)), .b false), (.bin .lss (.x 62) (.i .i64 (.ofNat 8)), .b false), (.bin .add (.i .i64 (.ofNat 8)) (.x 66), .x 70), (.bin .add (.x 70) (.x 68), .x 71), (.idx (.x 0) (.i .i64 (.ofNat 6)), .x 72), (.conv 3 (.x 72), .x 73), (.bin .add (.x 71) (.x 73), .x 74), (.bin .lss (.x 62) (.x 74), .b false), (.idx (.x 0) (.i .i64 (.ofNat 1)), .x 75), (.bin .eql (.x 75) (.i .u8 (.ofNat 0)), .b true)]
def lh43 : LH := ⟨1, 151, 161, [(125, .b ⟨29, .l [.i .i64 (.ofNat 0)], 0, 0, 0, false, false⟩)], [(125, .b ⟨29, .l [.i .i64 (.ofNat 10)], 0, 0, 0, false, false⟩)]⟩
def lf43 : LF := ⟨8888888, 0, [(0, .ifc 68 (.ag [.i .i64 (.ofNat 10), .s 18 4192413596494156358521667725059818226065505])), (1, .ifc 66 (.p 125 0))], [], .normal, [(0, .b true)], some lh43⟩
noncomputable def tbCu0_p15 : Tab := addLps ((tbl hyCu0_p15)) 25 fi25 [lf43]
def LCu0_p15 : List LF := []
def nuECu0_0 (To : List (Int × Int × LB × Int)) (Tr : LB) (Tk nd : Int) : List Value := [St' Tr, .int .i64 (nd)]
def roECu0_0 (To : List (Int × Int × LB × Int)) (Tr : LB) (Tk nd : Int) : List Value := []
noncomputable def ECu0_0 (To : List (Int × Int × LB × Int)) (Tr : LB) (Tk nd : Int) : Cx := cx (nuX (nuECu0_0 To Tr Tk nd) (rX (roECu0_0 To Tr Tk nd) (fun _ => .bool true))) (nuX_one (nuL_one (l := nuECu0_0 To Tr Tk nd) rfl)) 1 laidE laidE_stab
theorem roundsCu0_0 (To : List (Int × Int × LB × Int)) (Tr : LB) (Tk nd : Int) (x0 : Tk = 11) (x1 : To.length = 0) (st : Nat × LB × List (Int × Int × LB × Int)) (X : Nat → Value) (hI : InvCu0 To Tr Tk nd st) : RHCu0 To Tr Tk nd (ECu0_0 To Tr Tk nd) .ret [(4, .nils), (5, .x 0), (6, .ni)] [(20, .b ⟨53, .l [.i .i64 (.ofNat 65535), .sy 121, .x 1, .b false], 0, 0, 0, false, false⟩)] st X := by
  obtain ⟨tag, s, o⟩ := st
  have hI0 := hI
  obtain ⟨i0, i1, i2, i3, i4, i5, i6, it⟩ := unICu0 To Tr Tk nd tag s o hI
  rcases (show tag = 0 ∨ tag = 1 from by omega) with rfl | rfl
  · skip
    by_cases h0 : 6 ≤ (s.length : Int)
    · by_cases h1 : bt s 0 = 1
      · by_cases h5 : (s.length : Int) < 8
        · skip
          have := bt_lo s 0; have := bt_hi s 0
          have := bt_lo s 4; have := bt_hi s 4
          have := bt_lo s 5; have := bt_hi s 5
          have hb1 := bt_lo s 4; have hb2 := bt_lo s 5; have hb3 := bt_lo s 6; have hb4 := bt_hi s 4; have hb5 := bt_hi s 5; have hb6 := bt_hi s 6
          have hce := cu_end (m := 65535) (s := s) (k := 11) (rck11 (by omega) (by omega) (by omega)) (by decide) i1 i2 i3
          refine lvCu0_0 To Tr Tk nd s o (h := hyCu0_p5) rfl ?_ (thXe (v := St' s) (u := St' Tr) rfl rfl (congrArg (fun l => St' l) hce.2.1) (thXv (v := .int .i64 (nd)) rfl rfl (thNil))) runCu0_p5
          unfold hyCu0_p5
          exact hc (kRn (denX rfl)) <|
           hc (kBytesB (bs := ([] : LB)) .nil (denX rfl)) <|
           hc (lnV rfl rfl (by omega)) <|
           hc (gecT rfl (by omega)) <|
           hc (ixC rfl rfl (by omega)) <|
           hc (eqcT rfl (by omega)) <|
           hc (ixC rfl rfl (by omega)) <|
           hc (kConvF (isX rfl) tu3 (denX rfl) (fI64 (by omega) (by omega))) <|
           hc (kShlM 8 256 rfl (isX rfl) (isZ (m := 8) rfl) (denX rfl) rfl (by decide) (by omega) (fI64 (by omega) (by omega))) <|
           hc (ixC rfl rfl (by omega)) <|
           hc (kConvF (isX rfl) tu3 (denX rfl) (fI64 (by omega) (by omega))) <|
           hc (adX rfl rfl rfl (by omega)) <|
           hc (gtcF rfl (by omega)) <|
           hc (kNeS (isX rfl) (isSx (l := ([] : LB)) 0 0 rfl) (bnT (nilF (by omega)))) <|
           hc (necF rfl (by omega)) <|
           hc (ltcT rfl (by omega)) <|
           hnil
        · by_cases h6 : (s.length : Int) < (bt s 4) * 256 + (bt s 5) + (bt s 6) + 8
          · skip
            have := bt_lo s 0; have := bt_hi s 0
            have := bt_lo s 4; have := bt_hi s 4
            have := bt_lo s 5; have := bt_hi s 5
            have := bt_lo s 6; have := bt_hi s 6
            have hb1 := bt_lo s 4; have hb2 := bt_lo s 5; have hb3 := bt_lo s 6; have hb4 := bt_hi s 4; have hb5 := bt_hi s 5; have hb6 := bt_hi s 6
            have hce := cu_end (m := 65535) (s := s) (k := 11) (rck11 (by omega) (by omega) (by omega)) (by decide) i1 i2 i3
            refine lvCu0_0 To Tr Tk nd s o (h := hyCu0_p6) rfl ?_ (thXe (v := St' s) (u := St' Tr) rfl rfl (congrArg (fun l => St' l) hce.2.1) (thXv (v := .int .i64 (nd)) rfl rfl (thNil))) runCu0_p6
            unfold hyCu0_p6
            exact hc (kRn (denX rfl)) <|
             hc (kBytesB (bs := ([] : LB)) .nil (denX rfl)) <|
             hc (lnV rfl rfl (by omega)) <|
             hc (gecT rfl (by omega)) <|
             hc (ixC rfl rfl (by omega)) <|
             hc (eqcT rfl (by omega)) <|
             hc (ixC rfl rfl (by omega)) <|
             hc (kConvF (isX rfl) tu3 (denX rfl) (fI64 (by omega) (by omega))) <|
             hc (kShlM 8 256 rfl (isX rfl) (isZ (m := 8) rfl) (denX rfl) rfl (by decide) (by omega) (fI64 (by omega) (by omega))) <|
             hc (ixC rfl rfl (by omega)) <|
             hc (kConvF (isX rfl) tu3 (denX rfl) (fI64 (by omega) (by omega))) <|
             hc (adX rfl rfl rfl (by omega)) <|
             hc (gtcF rfl (by omega)) <|
             hc (kNeS (isX rfl) (isSx (l := ([] : LB)) 0 0 rfl) (bnT (nilF (by omega)))) <|
             hc (necF rfl (by omega)) <|
             hc (ltcF rfl (by omega)) <|
             hc (kAdd (isZ (m := 8) rfl) (isX rfl) (denX rfl) (by omega) (fI64 (by omega) (by omega))) <|
             hc (adX rfl rfl rfl (by omega)) <|
             hc (ixC rfl rfl (by omega)) <|
             hc (kConvF (isX rfl) tu3 (denX rfl) (fI64 (by omega) (by omega))) <|
             hc (adX rfl rfl rfl (by omega)) <|
             hc (ltT rfl rfl (by omega)) <|
             hnil
          · by_cases h7 : bt s 1 = 0
            · exfalso; have hb4 := bt_hi s 4; have hb5 := bt_hi s 5; exact cz (rck10 (by omega) (by omega) (by omega) (by omega) (by omega)) (by decide) i3 (by omega)
            · exact nxCu0_p0 To Tr Tk nd s o X hI0 h0 h1 h5 h6 h7
      · exfalso; have hb4 := bt_hi s 4; have hb5 := bt_hi s 5; exact cz (rck13 (by omega) (by omega)) (by decide) i3 (by omega)
    · by_cases h1 : (s.length : Int) = 0
      · skip
        have hb1 := bt_lo s 4; have hb2 := bt_lo s 5; have hb3 := bt_lo s 6; have hb4 := bt_hi s 4; have hb5 := bt_hi s 5; have hb6 := bt_hi s 6
        have hce := cu_end (m := 65535) (s := s) (k := 11) (rck11 (by omega) (by omega) (by omega)) (by decide) i1 i2 i3
        refine lvCu0_0 To Tr Tk nd s o (h := hyCu0_p1) rfl ?_ (thXe (v := St' s) (u := St' Tr) rfl rfl (congrArg (fun l => St' l) hce.2.1) (thXv (v := .int .i64 (nd)) rfl rfl (thNil))) runCu0_p1
        unfold hyCu0_p1
        exact hc (kRn (denX rfl)) <|
         hc (kBytesB (bs := ([] : LB)) .nil (denX rfl)) <|
         hc (lnV rfl rfl (by omega)) <|
         hc (gecF rfl (by omega)) <|
         hc (kNeS (isX rfl) (isSx (l := ([] : LB)) 0 0 rfl) (bnF (nilT (by omega)))) <|
         hc (ltcT rfl (by omega)) <|
         hnil
      · by_cases h2 : bt s 0 = 1
        · skip
          have := bt_lo s 0; have := bt_hi s 0
          have hb1 := bt_lo s 4; have hb2 := bt_lo s 5; have hb3 := bt_lo s 6; have hb4 := bt_hi s 4; have hb5 := bt_hi s 5; have hb6 := bt_hi s 6
          have hce := cu_end (m := 65535) (s := s) (k := 11) (rck11 (by omega) (by omega) (by omega)) (by decide) i1 i2 i3
          refine lvCu0_0 To Tr Tk nd s o (h := hyCu0_p2) rfl ?_ (thXe (v := St' s) (u := St' Tr) rfl rfl (congrArg (fun l => St' l) hce.2.1) (thXv (v := .int .i64 (nd)) rfl rfl (thNil))) runCu0_p2
          unfold hyCu0_p2
          exact hc (kRn (denX rfl)) <|
           hc (kBytesB (bs := ([] : LB)) .nil (denX rfl)) <|
           hc (lnV rfl rfl (by omega)) <|
           hc (gecF rfl (by omega)) <|
           hc (kNeS (isX rfl) (isSx (l := ([] : LB)) 0 0 rfl) (bnT (nilF (by omega)))) <|
           hc (ixC rfl rfl (by omega)) <|
           hc (necF rfl (by omega)) <|
           hc (ltcT rfl (by omega)) <|
           hnil
        · exfalso; have hb4 := bt_hi s 4; have hb5 := bt_hi s 5; exact cz (rck13 (by omega) (by omega)) (by decide) i3 (by omega)
  · skip
    by_cases h0 : 6 ≤ (s.length : Int)
    · by_cases h1 : bt s 0 = 1
      · by_cases h5 : (s.length : Int) < 8
        · exfalso; have hb4 := bt_hi s 4; have hb5 := bt_hi s 5; have hce := cu_end (rck11 (by omega) (by omega) (by omega)) (by decide) i1 i2 i3; have h0 := i6 rfl; rw [hce.1] at h0; omega
        · by_cases h6 : (s.length : Int) < (bt s 4) * 256 + (bt s 5) + (bt s 6) + 8
          · exfalso; have hb4 := bt_hi s 4; have hb5 := bt_hi s 5; have hce := cu_end (rck11 (by omega) (by omega) (by omega)) (by decide) i1 i2 i3; have h0 := i6 rfl; rw [hce.1] at h0; omega
          · by_cases h7 : bt s 1 = 0
            · exfalso; have hb4 := bt_hi s 4; have hb5 := bt_hi s 5; exact cz (rck10 (by omega) (by omega) (by omega) (by omega) (by omega)) (by decide) i3 (by omega)
            · exact nxCu0_p8 To Tr Tk nd s o X hI0 h0 h1 h5 h6 h7
      · exfalso; have hb4 := bt_hi s 4; have hb5 := bt_hi s 5; exact cz (rck13 (by omega) (by omega)) (by decide) i3 (by omega)
    · by_cases h1 : (s.length : Int) = 0
      · exfalso; have hb4 := bt_hi s 4; have hb5 := bt_hi s 5; have hce := cu_end (rck11 (by omega) (by omega) (by omega)) (by decide) i1 i2 i3; have h0 := i6 rfl; rw [hce.1] at h0; omega
      · by_cases h2 : bt s 0 = 1
        · exfalso; have hb4 := bt_hi s 4; have hb5 := bt_hi s 5; have hce := cu_end (rck11 (by omega) (by omega) (by omega)) (by decide) i1 i2 i3; have h0 := i6 rfl; rw [hce.1] at h0; omega
        · exfalso; have hb4 := bt_hi s 4; have hb5 := bt_hi s 5; exact cz (rck13 (by omega) (by omega)) (by decide) i3 (by omega)
theorem lfOkCu0_0 {l : LF} {h : LH} (To : List (Int × Int × LB × Int)) (Tr : LB) (Tk nd : Int) (x0 : Tk = 11) (x1 : To.length = 0) (st : Nat × LB × List (Int × Int × LB × Int)) (hI : InvCu0 To Tr Tk nd st) (hl : l.hp = some h) (hs : lfSame l h 38 keepCu0 .ret 1 120 180 = true) {th0 : LA} {sg0 : List (Nat × Nat)} (hth0 : ∀ X, ThOk (cx nu one 1 laidE laidE_stab) (DCu0 To Tr Tk nd st X) th0) (h0 : startOk l h 38 120 122 th0 sg0 (epCu0 st) (hpCu0 st) = true) {thx : LA} (hthx : ThOk (ECu0_0 To Tr Tk nd) (cx nu one 1 laidE laidE_stab) thx) (hx : exitOk l h 38 120 180 thx [(4, .nils), (5, .x 0), (6, .ni)] [(20, .b ⟨53, .l [.i .i64 (.ofNat 65535), .sy 121, .x 1, .b false], 0, 0, 0, false, false⟩)] = true) : LfOk (cx nu one 1 laidE laidE_stab) bodyCu0 l :=
  lfOkX (E := ECu0_0 To Tr Tk nd) (InvCu0 To Tr Tk nd) (muCu0 To Tr Tk nd) (DCu0 To Tr Tk nd) (fun _ _ => rfl) (fun _ _ => rfl) (fun _ _ => rfl) (fun st X t ht => nuX_keep.trans (rX_keep ((by decide : ∀ t, t ∈ keepCu0 → t < 1000000) t ht))) rfl rfl rfl hl hs ebCu0 rfl rfl st hI hth0 h0 hthx hx (roundsCu0_0 To Tr Tk nd x0 x1)
def nuECu0_1 (To : List (Int × Int × LB × Int)) (Tr : LB) (Tk nd : Int) : List Value := [St' Tr, .int .i64 (nd)]
def roECu0_1 (To : List (Int × Int × LB × Int)) (Tr : LB) (Tk nd : Int) : List Value := [rwG reC To]
noncomputable def ECu0_1 (To : List (Int × Int × LB × Int)) (Tr : LB) (Tk nd : Int) : Cx := cx (nuX (nuECu0_1 To Tr Tk nd) (rX (roECu0_1 To Tr Tk nd) (fun _ => .bool true))) (nuX_one (nuL_one (l := nuECu0_1 To Tr Tk nd) rfl)) 1 laidE laidE_stab
theorem roundsCu0_1 (To : List (Int × Int × LB × Int)) (Tr : LB) (Tk nd : Int) (x0 : Tk = 11) (x1 : ¬ To.length = 0) (st : Nat × LB × List (Int × Int × LB × Int)) (X : Nat → Value) (hI : InvCu0 To Tr Tk nd st) : RHCu0 To Tr Tk nd (ECu0_1 To Tr Tk nd) .ret [(4, .sr 120), (5, .x 0), (6, .ni)] [(20, .b ⟨53, .l [.i .i64 (.ofNat 65535), .sy 121, .x 1, .b false], 0, 0, 0, false, false⟩), (120, .r 2000000 26 4 false)] st X := by
  obtain ⟨tag, s, o⟩ := st
  have hI0 := hI
  obtain ⟨i0, i1, i2, i3, i4, i5, i6, it⟩ := unICu0 To Tr Tk nd tag s o hI
  rcases (show tag = 0 ∨ tag = 1 from by omega) with rfl | rfl
  · skip
    by_cases h0 : 6 ≤ (s.length : Int)
    · by_cases h1 : bt s 0 = 1
      · by_cases h5 : (s.length : Int) < 8
        · exfalso; have hb4 := bt_hi s 4; have hb5 := bt_hi s 5; have hce := cu_end (rck11 (by omega) (by omega) (by omega)) (by decide) i1 i2 i3; have h0 := i5 rfl; rw [← hce.1, h0] at x1; simp at x1
        · by_cases h6 : (s.length : Int) < (bt s 4) * 256 + (bt s 5) + (bt s 6) + 8
          · exfalso; have hb4 := bt_hi s 4; have hb5 := bt_hi s 5; have hce := cu_end (rck11 (by omega) (by omega) (by omega)) (by decide) i1 i2 i3; have h0 := i5 rfl; rw [← hce.1, h0] at x1; simp at x1
          · by_cases h7 : bt s 1 = 0
            · exfalso; have hb4 := bt_hi s 4; have hb5 := bt_hi s 5; exact cz (rck10 (by omega) (by omega) (by omega) (by omega) (by omega)) (by decide) i3 (by omega)
            · exact nxCu0_p0 To Tr Tk nd s o X hI0 h0 h1 h5 h6 h7
      · exfalso; have hb4 := bt_hi s 4; have hb5 := bt_hi s 5; exact cz (rck13 (by omega) (by omega)) (by decide) i3 (by omega)
    · by_cases h1 : (s.length : Int) = 0
      · exfalso; have hb4 := bt_hi s 4; have hb5 := bt_hi s 5; have hce := cu_end (rck11 (by omega) (by omega) (by omega)) (by decide) i1 i2 i3; have h0 := i5 rfl; rw [← hce.1, h0] at x1; simp at x1
      · by_cases h2 : bt s 0 = 1
        · exfalso; have hb4 := bt_hi s 4; have hb5 := bt_hi s 5; have hce := cu_end (rck11 (by omega) (by omega) (by omega)) (by decide) i1 i2 i3; have h0 := i5 rfl; rw [← hce.1, h0] at x1; simp at x1
        · exfalso; have hb4 := bt_hi s 4; have hb5 := bt_hi s 5; exact cz (rck13 (by omega) (by omega)) (by decide) i3 (by omega)
  · skip
    by_cases h0 : 6 ≤ (s.length : Int)
    · by_cases h1 : bt s 0 = 1
      · by_cases h5 : (s.length : Int) < 8
        · skip
          have := bt_lo s 0; have := bt_hi s 0
          have := bt_lo s 4; have := bt_hi s 4
          have := bt_lo s 5; have := bt_hi s 5
          have hb1 := bt_lo s 4; have hb2 := bt_lo s 5; have hb3 := bt_lo s 6; have hb4 := bt_hi s 4; have hb5 := bt_hi s 5; have hb6 := bt_hi s 6
          have hce := cu_end (m := 65535) (s := s) (k := 11) (rck11 (by omega) (by omega) (by omega)) (by decide) i1 i2 i3
          refine lvCu0_1 To Tr Tk nd s o (h := hyCu0_p13) rfl ?_ (thXe (v := St' s) (u := St' Tr) rfl rfl (congrArg (fun l => St' l) hce.2.1) (thXv (v := .int .i64 (nd)) rfl rfl (thXe (v := rwG reC o) (u := rwG reC To) rfl rfl (congrArg (rwG reC) hce.1) (thNil)))) runCu0_p13
          unfold hyCu0_p13
          exact hc (kRn (denX rfl)) <|
           hc (kBytesB (bs := ([] : LB)) .nil (denX rfl)) <|
           hc (lnV rfl rfl (by omega)) <|
           hc (gecT rfl (by omega)) <|
           hc (ixC rfl rfl (by omega)) <|
           hc (eqcT rfl (by omega)) <|
           hc (ixC rfl rfl (by omega)) <|
           hc (kConvF (isX rfl) tu3 (denX rfl) (fI64 (by omega) (by omega))) <|
           hc (kShlM 8 256 rfl (isX rfl) (isZ (m := 8) rfl) (denX rfl) rfl (by decide) (by omega) (fI64 (by omega) (by omega))) <|
           hc (ixC rfl rfl (by omega)) <|
           hc (kConvF (isX rfl) tu3 (denX rfl) (fI64 (by omega) (by omega))) <|
           hc (adX rfl rfl rfl (by omega)) <|
           hc (gtcF rfl (by omega)) <|
           hc (kNeS (isX rfl) (isSx (l := ([] : LB)) 0 0 rfl) (bnT (nilF (by omega)))) <|
           hc (necF rfl (by omega)) <|
           hc (ltcT rfl (by omega)) <|
           hnil
        · by_cases h6 : (s.length : Int) < (bt s 4) * 256 + (bt s 5) + (bt s 6) + 8
          · skip
            have := bt_lo s 0; have := bt_hi s 0
            have := bt_lo s 4; have := bt_hi s 4
            have := bt_lo s 5; have := bt_hi s 5
            have := bt_lo s 6; have := bt_hi s 6
            have hb1 := bt_lo s 4; have hb2 := bt_lo s 5; have hb3 := bt_lo s 6; have hb4 := bt_hi s 4; have hb5 := bt_hi s 5; have hb6 := bt_hi s 6
            have hce := cu_end (m := 65535) (s := s) (k := 11) (rck11 (by omega) (by omega) (by omega)) (by decide) i1 i2 i3
            refine lvCu0_1 To Tr Tk nd s o (h := hyCu0_p14) rfl ?_ (thXe (v := St' s) (u := St' Tr) rfl rfl (congrArg (fun l => St' l) hce.2.1) (thXv (v := .int .i64 (nd)) rfl rfl (thXe (v := rwG reC o) (u := rwG reC To) rfl rfl (congrArg (rwG reC) hce.1) (thNil)))) runCu0_p14
            unfold hyCu0_p14
            exact hc (kRn (denX rfl)) <|
             hc (kBytesB (bs := ([] : LB)) .nil (denX rfl)) <|
             hc (lnV rfl rfl (by omega)) <|
             hc (gecT rfl (by omega)) <|
             hc (ixC rfl rfl (by omega)) <|
             hc (eqcT rfl (by omega)) <|
             hc (ixC rfl rfl (by omega)) <|
             hc (kConvF (isX rfl) tu3 (denX rfl) (fI64 (by omega) (by omega))) <|
             hc (kShlM 8 256 rfl (isX rfl) (isZ (m := 8) rfl) (denX rfl) rfl (by decide) (by omega) (fI64 (by omega) (by omega))) <|
             hc (ixC rfl rfl (by omega)) <|
             hc (kConvF (isX rfl) tu3 (denX rfl) (fI64 (by omega) (by omega))) <|
             hc (adX rfl rfl rfl (by omega)) <|
             hc (gtcF rfl (by omega)) <|
             hc (kNeS (isX rfl) (isSx (l := ([] : LB)) 0 0 rfl) (bnT (nilF (by omega)))) <|
             hc (necF rfl (by omega)) <|
             hc (ltcF rfl (by omega)) <|
             hc (kAdd (isZ (m := 8) rfl) (isX rfl) (denX rfl) (by omega) (fI64 (by omega) (by omega))) <|
             hc (adX rfl rfl rfl (by omega)) <|
             hc (ixC rfl rfl (by omega)) <|
             hc (kConvF (isX rfl) tu3 (denX rfl) (fI64 (by omega) (by omega))) <|
             hc (adX rfl rfl rfl (by omega)) <|
             hc (ltT rfl rfl (by omega)) <|
             hnil
          · by_cases h7 : bt s 1 = 0
            · exfalso; have hb4 := bt_hi s 4; have hb5 := bt_hi s 5; exact cz (rck10 (by omega) (by omega) (by omega) (by omega) (by omega)) (by decide) i3 (by omega)
            · exact nxCu0_p8 To Tr Tk nd s o X hI0 h0 h1 h5 h6 h7
      · exfalso; have hb4 := bt_hi s 4; have hb5 := bt_hi s 5; exact cz (rck13 (by omega) (by omega)) (by decide) i3 (by omega)
    · by_cases h1 : (s.length : Int) = 0
      · skip
        have hb1 := bt_lo s 4; have hb2 := bt_lo s 5; have hb3 := bt_lo s 6; have hb4 := bt_hi s 4; have hb5 := bt_hi s 5; have hb6 := bt_hi s 6
        have hce := cu_end (m := 65535) (s := s) (k := 11) (rck11 (by omega) (by omega) (by omega)) (by decide) i1 i2 i3
        refine lvCu0_1 To Tr Tk nd s o (h := hyCu0_p9) rfl ?_ (thXe (v := St' s) (u := St' Tr) rfl rfl (congrArg (fun l => St' l) hce.2.1) (thXv (v := .int .i64 (nd)) rfl rfl (thXe (v := rwG reC o) (u := rwG reC To) rfl rfl (congrArg (rwG reC) hce.1) (thNil)))) runCu0_p9
        unfold hyCu0_p9
        exact hc (kRn (denX rfl)) <|
         hc (kBytesB (bs := ([] : LB)) .nil (denX rfl)) <|
         hc (lnV rfl rfl (by omega)) <|
         hc (gecF rfl (by omega)) <|
         hc (kNeS (isX rfl) (isSx (l := ([] : LB)) 0 0 rfl) (bnF (nilT (by omega)))) <|
         hc (ltcT rfl (by omega)) <|
         hnil
      · by_cases h2 : bt s 0 = 1
        · skip
          have := bt_lo s 0; have := bt_hi s 0
          have hb1 := bt_lo s 4; have hb2 := bt_lo s 5; have hb3 := bt_lo s 6; have hb4 := bt_hi s 4; have hb5 := bt_hi s 5; have hb6 := bt_hi s 6
          have hce := cu_end (m := 65535) (s := s) (k := 11) (rck11 (by omega) (by omega) (by omega)) (by decide) i1 i2 i3
          refine lvCu0_1 To Tr Tk nd s o (h := hyCu0_p10) rfl ?_ (thXe (v := St' s) (u := St' Tr) rfl rfl (congrArg (fun l => St' l) hce.2.1) (thXv (v := .int .i64 (nd)) rfl rfl (thXe (v := rwG reC o) (u := rwG reC To) rfl rfl (congrArg (rwG reC) hce.1) (thNil)))) runCu0_p10
          unfold hyCu0_p10
          exact hc (kRn (denX rfl)) <|
           hc (kBytesB (bs := ([] : LB)) .nil (denX rfl)) <|
           hc (lnV rfl rfl (by omega)) <|
           hc (gecF rfl (by omega)) <|
           hc (kNeS (isX rfl) (isSx (l := ([] : LB)) 0 0 rfl) (bnT (nilF (by omega)))) <|
           hc (ixC rfl rfl (by omega)) <|
           hc (necF rfl (by omega)) <|
           hc (ltcT rfl (by omega)) <|
           hnil
        · exfalso; have hb4 := bt_hi s 4; have hb5 := bt_hi s 5; exact cz (rck13 (by omega) (by omega)) (by decide) i3 (by omega)
theorem lfOkCu0_1 {l : LF} {h : LH} (To : List (Int × Int × LB × Int)) (Tr : LB) (Tk nd : Int) (x0 : Tk = 11) (x1 : ¬ To.length = 0) (st : Nat × LB × List (Int × Int × LB × Int)) (hI : InvCu0 To Tr Tk nd st) (hl : l.hp = some h) (hs : lfSame l h 38 keepCu0 .ret 1 120 180 = true) {th0 : LA} {sg0 : List (Nat × Nat)} (hth0 : ∀ X, ThOk (cx nu one 1 laidE laidE_stab) (DCu0 To Tr Tk nd st X) th0) (h0 : startOk l h 38 120 122 th0 sg0 (epCu0 st) (hpCu0 st) = true) {thx : LA} (hthx : ThOk (ECu0_1 To Tr Tk nd) (cx nu one 1 laidE laidE_stab) thx) (hx : exitOk l h 38 120 180 thx [(4, .sr 120), (5, .x 0), (6, .ni)] [(20, .b ⟨53, .l [.i .i64 (.ofNat 65535), .sy 121, .x 1, .b false], 0, 0, 0, false, false⟩), (120, .r 2000000 26 4 false)] = true) : LfOk (cx nu one 1 laidE laidE_stab) bodyCu0 l :=
  lfOkX (E := ECu0_1 To Tr Tk nd) (InvCu0 To Tr Tk nd) (muCu0 To Tr Tk nd) (DCu0 To Tr Tk nd) (fun _ _ => rfl) (fun _ _ => rfl) (fun _ _ => rfl) (fun st X t ht => nuX_keep.trans (rX_keep ((by decide : ∀ t, t ∈ keepCu0 → t < 1000000) t ht))) rfl rfl rfl hl hs ebCu0 rfl rfl st hI hth0 h0 hthx hx (roundsCu0_1 To Tr Tk nd x0 x1)
end Go.Proofs.YtlfmfmegnenohaaDoor.cutterCuts
