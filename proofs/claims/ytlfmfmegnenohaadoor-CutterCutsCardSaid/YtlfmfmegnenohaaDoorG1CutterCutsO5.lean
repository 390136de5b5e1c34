/- A part of the proof: an interpreter of the model's own code on partly known states, and that what it answers is what the program answers. No condition of its own. -/
import Derived.Test.YtlfmfmegnenohaaDoorG1CutterCutsO4
set_option maxRecDepth 100000
set_option linter.unusedVariables false
set_option linter.unusedSimpArgs false
set_option maxHeartbeats 4000000
namespace Go.Proofs.YtlfmfmegnenohaaDoor.cutterCuts
open Go Go.AX Go.Proofs Go.Proofs.YtlfmfmegnenohaaDoor
variable {nu : Nat → Value} {one : ∀ i, i < 1000000 → (nu i).oneCell' = true} {E' : Cx} {x' : Ex} {e' : LA} {h' : LE}
noncomputable def bodyCuFd0 : Code := loopNo (Tryd.f19.body.getD .skip) 0
theorem keyCuFd0 : oneKey (loopsOf (Tryd.f19.body.getD .skip)) 2 0 0 = true := by kernel_rfl
def keepCuFd0 : List Nat := []
def epCuFd0_0 : LA := [(0, .p 302 0), (1, .x 0), (7, .nils)]
def hpCuFd0_0 : LE := [(302, .b ⟨53, .l [.i .i64 (.ofNat 65535), .sy 321, .x 1, .b false], 0, 0, 0, false, false⟩)]
def nuCuFd0_0 (To : List (Int × Int × LB × Int)) (Tr : LB) (Tk nd : Int) (s : LB) (o : List (Int × Int × LB × Int)) : List Value := [St' s, .int .i64 (nd), St' ([] : LB), .int .i64 ((s.length : Int)), .int .u8 (bt s 0), .int .u8 (bt s 4), .int .i64 ((bt s 4)), .int .i64 ((bt s 4) * 256), .int .u8 (bt s 5), .int .i64 ((bt s 5)), .int .i64 ((bt s 4) * 256 + (bt s 5)), .int .i64 ((bt s 4) * 256 + 8), .int .i64 ((bt s 4) * 256 + (bt s 5) + 8), .int .u8 (bt s 6), .int .i64 ((bt s 6)), .int .i64 ((bt s 4) * 256 + (bt s 5) + (bt s 6) + 8), .int .u8 (bt s 1), .int .i64 ((bt s 1)), .int .u8 (bt s 2), .int .i64 ((bt s 2)), .int .i64 ((bt s 2) * 256), .int .u8 (bt s 3), .int .i64 ((bt s 3)), .int .i64 ((bt s 2) * 256 + (bt s 3)), .int .i64 ((bt s 4) * 256 + (bt s 5) + 8), St' (rcC s), St' (List.drop (Int.toNat ((bt s 4) * 256 + (bt s 5) + (bt s 6) + 8)) s), St' ([] : LB), .int .i64 ((s.length : Int)), St' ([] : LB), .int .i64 ((s.length : Int)), .int .u8 (bt s 0), St' ([] : LB), .int .i64 ((s.length : Int)), .int .u8 (bt s 0), St' ([] : LB), .int .i64 ((s.length : Int)), .int .u8 (bt s 0), St' ([] : LB), .int .i64 ((s.length : Int)), .int .u8 (bt s 0), .int .u8 (bt s 4), .int .i64 ((bt s 4)), .int .i64 ((bt s 4) * 256), .int .u8 (bt s 5), .int .i64 ((bt s 5)), .int .i64 ((bt s 4) * 256 + (bt s 5)), St' ([] : LB), .int .i64 ((s.length : Int)), .int .u8 (bt s 0), .int .u8 (bt s 4), .int .i64 ((bt s 4)), .int .i64 ((bt s 4) * 256), .int .u8 (bt s 5), .int .i64 ((bt s 5)), .int .i64 ((bt s 4) * 256 + (bt s 5)), .int .i64 ((bt s 4) * 256 + 8), .int .i64 ((bt s 4) * 256 + (bt s 5) + 8), .int .u8 (bt s 6), .int .i64 ((bt s 6)), .int .i64 ((bt s 4) * 256 + (bt s 5) + (bt s 6) + 8), St' ([] : LB), .int .i64 ((s.length : Int)), .int .u8 (bt s 0), .int .u8 (bt s 4), .int .i64 ((bt s 4)), .int .i64 ((bt s 4) * 256), .int .u8 (bt s 5), .int .i64 ((bt s 5)), .int .i64 ((bt s 4) * 256 + (bt s 5)), .int .i64 ((bt s 4) * 256 + 8), .int .i64 ((bt s 4) * 256 + (bt s 5) + 8), .int .u8 (bt s 6), .int .i64 ((bt s 6)), .int .i64 ((bt s 4) * 256 + (bt s 5) + (bt s 6) + 8), .int .u8 (bt s 1)]
def roCuFd0_0 (To : List (Int × Int × LB × Int)) (Tr : LB) (Tk nd : Int) (s : LB) (o : List (Int × Int × LB × Int)) : List Value := [rwS ([] : List LB), rwG reC (([] : List (Int × Int × LB × Int)) ++ [((bt s 1), (bt s 2) * 256 + (bt s 3), (rcC s), (bt s 6))]), rwS ([] : List LB), rwS ([] : List LB), rwS ([] : List LB), rwS ([] : List LB), rwS ([] : List LB), rwS ([] : List LB), rwS ([] : List LB)]
def epCuFd0_1 : LA := [(0, .p 302 0), (1, .x 0), (7, .sr 320)]
def hpCuFd0_1 : LE := [(302, .b ⟨53, .l [.i .i64 (.ofNat 65535), .sy 321, .x 1, .b false], 0, 0, 0, false, false⟩), (320, .r 2000000 26 4 false)]
def nuCuFd0_1 (To : List (Int × Int × LB × Int)) (Tr : LB) (Tk nd : Int) (s : LB) (o : List (Int × Int × LB × Int)) : List Value := [St' s, .int .i64 (nd), St' ([] : LB), .int .i64 ((s.length : Int)), .int .u8 (bt s 0), .int .u8 (bt s 4), .int .i64 ((bt s 4)), .int .i64 ((bt s 4) * 256), .int .u8 (bt s 5), .int .i64 ((bt s 5)), .int .i64 ((bt s 4) * 256 + (bt s 5)), .int .i64 ((bt s 4) * 256 + 8), .int .i64 ((bt s 4) * 256 + (bt s 5) + 8), .int .u8 (bt s 6), .int .i64 ((bt s 6)), .int .i64 ((bt s 4) * 256 + (bt s 5) + (bt s 6) + 8), .int .u8 (bt s 1), .int .i64 ((bt s 1)), .int .u8 (bt s 2), .int .i64 ((bt s 2)), .int .i64 ((bt s 2) * 256), .int .u8 (bt s 3), .int .i64 ((bt s 3)), .int .i64 ((bt s 2) * 256 + (bt s 3)), .int .i64 ((bt s 4) * 256 + (bt s 5) + 8), St' (rcC s), St' (List.drop (Int.toNat ((bt s 4) * 256 + (bt s 5) + (bt s 6) + 8)) s), St' ([] : LB), .int .i64 ((s.length : Int)), St' ([] : LB), .int .i64 ((s.length : Int)), .int .u8 (bt s 0), St' ([] : LB), .int .i64 ((s.length : Int)), .int .u8 (bt s 0), St' ([] : LB), .int .i64 ((s.length : Int)), .int .u8 (bt s 0), St' ([] : LB), .int .i64 ((s.length : Int)), .int .u8 (bt s 0), .int .u8 (bt s 4), .int .i64 ((bt s 4)), .int .i64 ((bt s 4) * 256), .int .u8 (bt s 5), .int .i64 ((bt s 5)), .int .i64 ((bt s 4) * 256 + (bt s 5)), St' ([] : LB), .int .i64 ((s.length : Int)), .int .u8 (bt s 0), .int .u8 (bt s 4), .int .i64 ((bt s 4)), .int .i64 ((bt s 4) * 256), .int .u8 (bt s 5), .int .i64 ((bt s 5)), .int .i64 ((bt s 4) * 256 + (bt s 5)), .int .i64 ((bt s 4) * 256 + 8), .int .i64 ((bt s 4) * 256 + (bt s 5) + 8), .int .u8 (bt s 6), .int .i64 ((bt s 6)), .int .i64 ((bt s 4) * 256 + (bt s 5) + (bt s 6) + 8), St' ([] : LB), .int .i64 ((s.length : Int)), .int .u8 (bt s 0), .int .u8 (bt s 4), .int .i64 ((bt s 4)), .int .i64 ((bt s 4) * 256), .int .u8 (bt s 5), .int .i64 ((bt s 5)), .int .i64 ((bt s 4) * 256 + (bt s 5)), .int .i64 ((bt s 4) * 256 + 8), .int .i64 ((bt s 4) * 256 + (bt s 5) + 8), .int .u8 (bt s 6), .int .i64 ((bt s 6)), .int .i64 ((bt s 4) * 256 + (bt s 5) + (bt s 6) + 8), .int .u8 (bt s 1)]
def roCuFd0_1 (To : List (Int × Int × LB × Int)) (Tr : LB) (Tk nd : Int) (s : LB) (o : List (Int × Int × LB × Int)) : List Value := [rwG reC o, rwS ([] : List LB), rwG reC (o ++ [((bt s 1), (bt s 2) * 256 + (bt s 3), (rcC s), (bt s 6))]), rwS ([] : List LB), rwS ([] : List LB), rwS ([] : List LB), rwS ([] : List LB), rwS ([] : List LB), rwS ([] : List LB), rwS ([] : List LB)]
def epCuFd0 (st : Nat × LB × List (Int × Int × LB × Int)) : LA := if st.1 = 0 then epCuFd0_0 else epCuFd0_1
def hpCuFd0 (st : Nat × LB × List (Int × Int × LB × Int)) : LE := if st.1 = 0 then hpCuFd0_0 else hpCuFd0_1
def nuCuFd0 (To : List (Int × Int × LB × Int)) (Tr : LB) (Tk nd : Int) (st : Nat × LB × List (Int × Int × LB × Int)) : List Value := if st.1 = 0 then nuCuFd0_0 To Tr Tk nd (st.2.1) (st.2.2) else nuCuFd0_1 To Tr Tk nd (st.2.1) (st.2.2)
def roCuFd0 (To : List (Int × Int × LB × Int)) (Tr : LB) (Tk nd : Int) (st : Nat × LB × List (Int × Int × LB × Int)) : List Value := if st.1 = 0 then roCuFd0_0 To Tr Tk nd (st.2.1) (st.2.2) else roCuFd0_1 To Tr Tk nd (st.2.1) (st.2.2)
theorem onCuFd0 (To : List (Int × Int × LB × Int)) (Tr : LB) (Tk nd : Int) (st : Nat × LB × List (Int × Int × LB × Int)) : ∀ j, (nuL (nuCuFd0 To Tr Tk nd st) j).oneCell' = true := by
  intro j
  unfold nuCuFd0
  by_cases g0 : st.1 = 0
  · rw [if_pos g0]; exact nuL_one (l := nuCuFd0_0 To Tr Tk nd (st.2.1) (st.2.2)) rfl j
  rw [if_neg g0]
  exact nuL_one (l := nuCuFd0_1 To Tr Tk nd (st.2.1) (st.2.2)) rfl j
theorem ebCuFd0 (st : Nat × LB × List (Int × Int × LB × Int)) : (lfB (epCuFd0 st) && lfC keepCuFd0) = true := by
  unfold epCuFd0
  by_cases g0 : st.1 = 0
  · rw [if_pos g0]; rfl
  rw [if_neg g0]
  rfl
noncomputable def DCuFd0 (To : List (Int × Int × LB × Int)) (Tr : LB) (Tk nd : Int) (st : Nat × LB × List (Int × Int × LB × Int)) (X : Nat → Value) : Cx := cx (nuX (nuCuFd0 To Tr Tk nd st) (rX (roCuFd0 To Tr Tk nd st) X)) (nuX_one (onCuFd0 To Tr Tk nd st)) 1 laidE laidE_stab
def InvCuFd0 (To : List (Int × Int × LB × Int)) (Tr : LB) (Tk nd : Int) (st : Nat × LB × List (Int × Int × LB × Int)) : Prop := ((st.2.1).length ≤ 100000) ∧ ((st.2.2) ++ (cutS (65535) (st.2.1)).1 = To) ∧ ((cutS (65535) (st.2.1)).2.1 = Tr) ∧ ((cutS (65535) (st.2.1)).2.2 = Tk) ∧ (8 * (st.2.2).length + (st.2.1).length ≤ 100000) ∧ ((st.1) = 0 → (st.2.2) = []) ∧ ((st.1) = 1 → 1 ≤ (st.2.2).length) ∧ ((st.1) < 2)
abbrev CjCuFd0 (To : List (Int × Int × LB × Int)) (Tr : LB) (Tk nd : Int) (tag : Nat) (s : LB) (o : List (Int × Int × LB × Int)) : Prop := (s.length ≤ 100000) ∧ (o ++ (cutS (65535) s).1 = To) ∧ ((cutS (65535) s).2.1 = Tr) ∧ ((cutS (65535) s).2.2 = Tk) ∧ (8 * o.length + s.length ≤ 100000) ∧ (tag = 0 → o = []) ∧ (tag = 1 → 1 ≤ o.length) ∧ (tag < 2)
theorem mkICuFd0 (To : List (Int × Int × LB × Int)) (Tr : LB) (Tk nd : Int) (tag : Nat) (s : LB) (o : List (Int × Int × LB × Int)) (h : CjCuFd0 To Tr Tk nd tag s o) : InvCuFd0 To Tr Tk nd (tag, s, o) := h
theorem unICuFd0 (To : List (Int × Int × LB × Int)) (Tr : LB) (Tk nd : Int) (tag : Nat) (s : LB) (o : List (Int × Int × LB × Int)) (h : InvCuFd0 To Tr Tk nd (tag, s, o)) : (s.length ≤ 100000) ∧ (o ++ (cutS (65535) s).1 = To) ∧ ((cutS (65535) s).2.1 = Tr) ∧ ((cutS (65535) s).2.2 = Tk) ∧ (8 * o.length + s.length ≤ 100000) ∧ (tag = 0 → o = []) ∧ (tag = 1 → 1 ≤ o.length) ∧ (tag < 2) := h
def muCuFd0 (To : List (Int × Int × LB × Int)) (Tr : LB) (Tk nd : Int) (st : Nat × LB × List (Int × Int × LB × Int)) : Nat := (st.2.1).length
abbrev RHCuFd0 (To : List (Int × Int × LB × Int)) (Tr : LB) (Tk nd : Int) (E' : Cx) (ex' : Ex) (epx' : LA) (hpx' : LE) (st : Nat × LB × List (Int × Int × LB × Int)) (X : Nat → Value) : Prop := RoundH E' bodyCuFd0 keepCuFd0 38 ex' 1 320 322 380 epCuFd0 hpCuFd0 epx' hpx' (InvCuFd0 To Tr Tk nd) (muCuFd0 To Tr Tk nd) (DCuFd0 To Tr Tk nd) st X
theorem sLCuFd0_0 (To : List (Int × Int × LB × Int)) (Tr : LB) (Tk nd : Int) (s : LB) (o : List (Int × Int × LB × Int)) {X : Nat → Value} {tb : Tab} {L : List LF} (y : Nat × LB × List (Int × Int × LB × Int)) {th : LA} {sg : List (Nat × Nat)} (hall : AllOk (cx (nuX (nuCuFd0_0 To Tr Tk nd s o) (rX (roCuFd0_0 To Tr Tk nd s o) X)) (nuX_one (nuL_one (l := nuCuFd0_0 To Tr Tk nd s o) rfl)) 1 laidE laidE_stab) tb) (hlp : LpOk (cx (nuX (nuCuFd0_0 To Tr Tk nd s o) (rX (roCuFd0_0 To Tr Tk nd s o) X)) (nuX_one (nuL_one (l := nuCuFd0_0 To Tr Tk nd s o) rfl)) 1 laidE laidE_stab) L bodyCuFd0) (hng : tb.ng = 1) (hy : InvCuFd0 To Tr Tk nd y) (lt : muCuFd0 To Tr Tk nd y < muCuFd0 To Tr Tk nd (0, s, o)) (ht : ThOk (cx (nuX (nuCuFd0_0 To Tr Tk nd s o) (rX (roCuFd0_0 To Tr Tk nd s o) X)) (nuX_one (nuL_one (l := nuCuFd0_0 To Tr Tk nd s o) rfl)) 1 laidE laidE_stab) (DCuFd0 To Tr Tk nd y X) th) (run : okRdH (code tb 4000 L bodyCuFd0 (envOf (headOf epCuFd0_0 keepCuFd0) 38) ⟨lhSet hpCuFd0_0 .leaf, 322, 0, 0⟩) .normal keepCuFd0 38 380 th sg 320 322 (epCuFd0 y) (hpCuFd0 y) = true) : RHCuFd0 To Tr Tk nd E' x' e' h' (0, s, o) X :=
  RoundH.next (tb := tb) (L := L) (f := 4000) y hall hlp hng hy lt ht run
theorem lLCuFd0_0 (To : List (Int × Int × LB × Int)) (Tr : LB) (Tk nd : Int) (s : LB) (o : List (Int × Int × LB × Int)) {X : Nat → Value} {tb : Tab} {L : List LF} {th : LA} {sg : List (Nat × Nat)} (hne : exB x' .normal = false) (hall : AllOk (cx (nuX (nuCuFd0_0 To Tr Tk nd s o) (rX (roCuFd0_0 To Tr Tk nd s o) X)) (nuX_one (nuL_one (l := nuCuFd0_0 To Tr Tk nd s o) rfl)) 1 laidE laidE_stab) tb) (hlp : LpOk (cx (nuX (nuCuFd0_0 To Tr Tk nd s o) (rX (roCuFd0_0 To Tr Tk nd s o) X)) (nuX_one (nuL_one (l := nuCuFd0_0 To Tr Tk nd s o) rfl)) 1 laidE laidE_stab) L bodyCuFd0) (hng : tb.ng = 1) (ht : ThOk (cx (nuX (nuCuFd0_0 To Tr Tk nd s o) (rX (roCuFd0_0 To Tr Tk nd s o) X)) (nuX_one (nuL_one (l := nuCuFd0_0 To Tr Tk nd s o) rfl)) 1 laidE laidE_stab) E' th) (run : okRdH (code tb 4000 L bodyCuFd0 (envOf (headOf epCuFd0_0 keepCuFd0) 38) ⟨lhSet hpCuFd0_0 .leaf, 322, 0, 0⟩) x' keepCuFd0 38 380 th sg 320 380 e' h' = true) : RHCuFd0 To Tr Tk nd E' x' e' h' (0, s, o) X :=
  RoundH.leave (tb := tb) (L := L) (f := 4000) hall hlp hng hne ht run
noncomputable abbrev RNCuFd0_0 (h : LK) (x : Ex) (th : LA) (sg : List (Nat × Nat)) (m : Nat) (ep : LA) (hp : LE) : Bool := okRdH (code (tbl h) 4000 [] bodyCuFd0 (envOf (headOf epCuFd0_0 keepCuFd0) 38) ⟨lhSet hpCuFd0_0 .leaf, 322, 0, 0⟩) x keepCuFd0 38 380 th sg 320 m ep hp
theorem stCuFd0_0 (To : List (Int × Int × LB × Int)) (Tr : LB) (Tk nd : Int) (s : LB) (o : List (Int × Int × LB × Int)) {X : Nat → Value} {h : LK} (y : Nat × LB × List (Int × Int × LB × Int)) {th : LA} {sg : List (Nat × Nat)} (ho : ∀ a' r', (a', r') ∈ h → HOk (cx (nuX (nuCuFd0_0 To Tr Tk nd s o) (rX (roCuFd0_0 To Tr Tk nd s o) X)) (nuX_one (nuL_one (l := nuCuFd0_0 To Tr Tk nd s o) rfl)) 1 laidE laidE_stab) a' r') (hy : InvCuFd0 To Tr Tk nd y) (lt : muCuFd0 To Tr Tk nd y < muCuFd0 To Tr Tk nd (0, s, o)) (ht : ThOk (cx (nuX (nuCuFd0_0 To Tr Tk nd s o) (rX (roCuFd0_0 To Tr Tk nd s o) X)) (nuX_one (nuL_one (l := nuCuFd0_0 To Tr Tk nd s o) rfl)) 1 laidE laidE_stab) (DCuFd0 To Tr Tk nd y X) th) (run : RNCuFd0_0 h .normal th sg 322 (epCuFd0 y) (hpCuFd0 y) = true) : RHCuFd0 To Tr Tk nd E' x' e' h' (0, s, o) X :=
  RoundH.next (tb := tbl h) (L := []) (f := 4000) y ((tabkOk _ _).hyps ho) (LpOk.nil _) rfl hy lt ht run
theorem lvCuFd0_0 (To : List (Int × Int × LB × Int)) (Tr : LB) (Tk nd : Int) (s : LB) (o : List (Int × Int × LB × Int)) {X : Nat → Value} {h : LK} {th : LA} {sg : List (Nat × Nat)} (hne : exB x' .normal = false) (ho : ∀ a' r', (a', r') ∈ h → HOk (cx (nuX (nuCuFd0_0 To Tr Tk nd s o) (rX (roCuFd0_0 To Tr Tk nd s o) X)) (nuX_one (nuL_one (l := nuCuFd0_0 To Tr Tk nd s o) rfl)) 1 laidE laidE_stab) a' r') (ht : ThOk (cx (nuX (nuCuFd0_0 To Tr Tk nd s o) (rX (roCuFd0_0 To Tr Tk nd s o) X)) (nuX_one (nuL_one (l := nuCuFd0_0 To Tr Tk nd s o) rfl)) 1 laidE laidE_stab) E' th) (run : RNCuFd0_0 h x' th sg 380 e' h' = true) : RHCuFd0 To Tr Tk nd E' x' e' h' (0, s, o) X :=
  RoundH.leave (tb := tbl h) (L := []) (f := 4000) ((tabkOk _ _).hyps ho) (LpOk.nil _) rfl hne ht run
theorem sLCuFd0_1 (To : List (Int × Int × LB × Int)) (Tr : LB) (Tk nd : Int) (s : LB) (o : List (Int × Int × LB × Int)) {X : Nat → Value} {tb : Tab} {L : List LF} (y : Nat × LB × List (Int × Int × LB × Int)) {th : LA} {sg : List (Nat × Nat)} (hall : AllOk (cx (nuX (nuCuFd0_1 To Tr Tk nd s o) (rX (roCuFd0_1 To Tr Tk nd s o) X)) (nuX_one (nuL_one (l := nuCuFd0_1 To Tr Tk nd s o) rfl)) 1 laidE laidE_stab) tb) (hlp : LpOk (cx (nuX (nuCuFd0_1 To Tr Tk nd s o) (rX (roCuFd0_1 To Tr Tk nd s o) X)) (nuX_one (nuL_one (l := nuCuFd0_1 To Tr Tk nd s o) rfl)) 1 laidE laidE_stab) L bodyCuFd0) (hng : tb.ng = 1) (hy : InvCuFd0 To Tr Tk nd y) (lt : muCuFd0 To Tr Tk nd y < muCuFd0 To Tr Tk nd (1, s, o)) (ht : ThOk (cx (nuX (nuCuFd0_1 To Tr Tk nd s o) (rX (roCuFd0_1 To Tr Tk nd s o) X)) (nuX_one (nuL_one (l := nuCuFd0_1 To Tr Tk nd s o) rfl)) 1 laidE laidE_stab) (DCuFd0 To Tr Tk nd y X) th) (run : okRdH (code tb 4000 L bodyCuFd0 (envOf (headOf epCuFd0_1 keepCuFd0) 38) ⟨lhSet hpCuFd0_1 .leaf, 322, 0, 0⟩) .normal keepCuFd0 38 380 th sg 320 322 (epCuFd0 y) (hpCuFd0 y) = true) : RHCuFd0 To Tr Tk nd E' x' e' h' (1, s, o) X :=
  RoundH.next (tb := tb) (L := L) (f := 4000) y hall hlp hng hy lt ht run
theorem lLCuFd0_1 (To : List (Int × Int × LB × Int)) (Tr : LB) (Tk nd : Int) (s : LB) (o : List (Int × Int × LB × Int)) {X : Nat → Value} {tb : Tab} {L : List LF} {th : LA} {sg : List (Nat × Nat)} (hne : exB x' .normal = false) (hall : AllOk (cx (nuX (nuCuFd0_1 To Tr Tk nd s o) (rX (roCuFd0_1 To Tr Tk nd s o) X)) (nuX_one (nuL_one (l := nuCuFd0_1 To Tr Tk nd s o) rfl)) 1 laidE laidE_stab) tb) (hlp : LpOk (cx (nuX (nuCuFd0_1 To Tr Tk nd s o) (rX (roCuFd0_1 To Tr Tk nd s o) X)) (nuX_one (nuL_one (l := nuCuFd0_1 To Tr Tk nd s o) rfl)) 1 laidE laidE_stab) L bodyCuFd0) (hng : tb.ng = 1) (ht : ThOk (cx (nuX (nuCuFd0_1 To Tr Tk nd s o) (rX (roCuFd0_1 To Tr Tk nd s o) X)) (nuX_one (nuL_one (l := nuCuFd0_1 To Tr Tk nd s o) rfl)) 1 laidE laidE_stab) E' th) (run : okRdH (code tb 4000 L bodyCuFd0 (envOf (headOf epCuFd0_1 keepCuFd0) 38) ⟨lhSet hpCuFd0_1 .leaf, 322, 0, 0⟩) x' keepCuFd0 38 380 th sg 320 380 e' h' = true) : RHCuFd0 To Tr Tk nd E' x' e' h' (1, s, o) X :=
  RoundH.leave (tb := tb) (L := L) (f := 4000) hall hlp hng hne ht run
noncomputable abbrev RNCuFd0_1 (h : LK) (x : Ex) (th : LA) (sg : List (Nat × Nat)) (m : Nat) (ep : LA) (hp : LE) : Bool := okRdH (code (tbl h) 4000 [] bodyCuFd0 (envOf (headOf epCuFd0_1 keepCuFd0) 38) ⟨lhSet hpCuFd0_1 .leaf, 322, 0, 0⟩) x keepCuFd0 38 380 th sg 320 m ep hp
theorem stCuFd0_1 (To : List (Int × Int × LB × Int)) (Tr : LB) (Tk nd : Int) (s : LB) (o : List (Int × Int × LB × Int)) {X : Nat → Value} {h : LK} (y : Nat × LB × List (Int × Int × LB × Int)) {th : LA} {sg : List (Nat × Nat)} (ho : ∀ a' r', (a', r') ∈ h → HOk (cx (nuX (nuCuFd0_1 To Tr Tk nd s o) (rX (roCuFd0_1 To Tr Tk nd s o) X)) (nuX_one (nuL_one (l := nuCuFd0_1 To Tr Tk nd s o) rfl)) 1 laidE laidE_stab) a' r') (hy : InvCuFd0 To Tr Tk nd y) (lt : muCuFd0 To Tr Tk nd y < muCuFd0 To Tr Tk nd (1, s, o)) (ht : ThOk (cx (nuX (nuCuFd0_1 To Tr Tk nd s o) (rX (roCuFd0_1 To Tr Tk nd s o) X)) (nuX_one (nuL_one (l := nuCuFd0_1 To Tr Tk nd s o) rfl)) 1 laidE laidE_stab) (DCuFd0 To Tr Tk nd y X) th) (run : RNCuFd0_1 h .normal th sg 322 (epCuFd0 y) (hpCuFd0 y) = true) : RHCuFd0 To Tr Tk nd E' x' e' h' (1, s, o) X :=
  RoundH.next (tb := tbl h) (L := []) (f := 4000) y ((tabkOk _ _).hyps ho) (LpOk.nil _) rfl hy lt ht run
theorem lvCuFd0_1 (To : List (Int × Int × LB × Int)) (Tr : LB) (Tk nd : Int) (s : LB) (o : List (Int × Int × LB × Int)) {X : Nat → Value} {h : LK} {th : LA} {sg : List (Nat × Nat)} (hne : exB x' .normal = false) (ho : ∀ a' r', (a', r') ∈ h → HOk (cx (nuX (nuCuFd0_1 To Tr Tk nd s o) (rX (roCuFd0_1 To Tr Tk nd s o) X)) (nuX_one (nuL_one (l := nuCuFd0_1 To Tr Tk nd s o) rfl)) 1 laidE laidE_stab) a' r') (ht : ThOk (cx (nuX (nuCuFd0_1 To Tr Tk nd s o) (rX (roCuFd0_1 To Tr Tk nd s o) X)) (nuX_one (nuL_one (l := nuCuFd0_1 To Tr Tk nd s o) rfl)) 1 laidE laidE_stab) E' th) (run : RNCuFd0_1 h x' th sg 380 e' h' = true) : RHCuFd0 To Tr Tk nd E' x' e' h' (1, s, o) X :=
  RoundH.leave (tb := tbl h) (L := []) (f := 4000) ((tabkOk _ _).hyps ho) (LpOk.nil _) rfl hne ht run
def hyCuFd0_p0 : LK := [(.rn, .x 2000000), (.bytes [], .x 2), (.len (.x 0), .x 3), (.bin .geq (.x 3) (.i .i64 (.ofNat 6)), .b true), (.idx (.x 0) (.i .i64 (.ofNat 0)), .x 4), (.bin .eql (.x 4) (.i .u8 (.ofNat 1)), .b true), (.idx (.x 0) (.i .i64 (.ofNat 4)), .x 5), (.conv 3 (.x 5), .x 6), (.bin .shl (.x 6) (.i .u64 (.ofNat 8)), .x 7), (.idx (.x 0) (.i .i64 (.ofNat 5)), .x 8), (.conv 3 (.x 8), .x 9), (.bin .add (.x 7) (.x 9), .x 10), (.bin .gtr (.x 10) (.i .i64 (.ofNat 65535)), .b false), (.bin .neq (.x 0) (.s 0 0), .b true), (.bin .neq (.x 4) (.i .u8 (.ofNat 1)), .b false), (.bin .lss (.x 3) (.i .i64 (.ofNat 8)), .b false), (.bin .add (.i .i64 (.ofNat 8)) (.x 7), .x 11), (.bin .add (.x 11) (.x 9), .x 12), (.idx (.x 0) (.i .i64 (.ofNat 6)), .x 13), (.conv 3 (.x 13), .x 14), (.bin .add (.x 12) (.x 14), .x 15), (.bin .lss (.x 3) (.x 15), .b false), (.idx (.x 0) (.i .i64 (.ofNat 1)), .x 16), (.bin .eql (.x 16) (.i .u8 (.ofNat 0)), .b false), (.conv 3 (.x 16), .x 17), (.idx (.x 0) (.i .i64 (.ofNat 2)), .x 18), (.conv 3 (.x 18), .x 19), (.bin .shl (.x 19) (.i .u64 (.ofNat 8)), .x 20), (.idx (.x 0) (.i .i64 (.ofNat 3)), .x 21), (.conv 3 (.x 21), .x 22), (.bin .or (.x 20) (.x 22), .x 23), (.bin .sub (.x 15) (.x 14), .x 24), (.sub (.x 0) (some (.i .i64 (.ofNat 8))) (some (.x 24)), .x 25), (.sub (.x 0) (some (.x 15)) none, .x 26), (.ra (.x 2000000) [.x 17, .x 23, .x 25, .x 14], .x 2000001), (.rf (.x 2000001) 4 40, .b true)]
theorem runCuFd0_p0 : RNCuFd0_0 hyCuFd0_p0 .normal [(0, .x 26), (1, .x 1), (2000000, .x 2000001)] [(320, 328), (321, 321)] 322 epCuFd0_1 hpCuFd0_1 = true := by kernel_rfl
theorem nxCuFd0_p0 (To : List (Int × Int × LB × Int)) (Tr : LB) (Tk nd : Int) (s : LB) (o : List (Int × Int × LB × Int)) (X : Nat → Value) (hI : InvCuFd0 To Tr Tk nd (0, s, o)) (h0 : 6 ≤ (s.length : Int)) (h1 : bt s 0 = 1) (h5 : ¬ ((s.length : Int) < 8)) (h6 : ¬ ((s.length : Int) < (bt s 4) * 256 + (bt s 5) + (bt s 6) + 8)) (h7 : ¬ (bt s 1 = 0)) : RHCuFd0 To Tr Tk nd E' x' e' h' (0, s, o) X := by
  obtain ⟨i0, i1, i2, i3, i4, i5, i6, it⟩ := unICuFd0 To Tr Tk nd 0 s o hI
  have := bt_lo s 0; have := bt_hi s 0
  have := bt_lo s 4; have := bt_hi s 4
  have := bt_lo s 5; have := bt_hi s 5
  have := bt_lo s 6; have := bt_hi s 6
  have := bt_lo s 1; have := bt_hi s 1
  have := bt_lo s 2; have := bt_hi s 2
  have := bt_lo s 3; have := bt_hi s 3
  have := rcC_len (s := s) (by omega)
  have := lenDrop (l := s) (P := (bt s 4) * 256 + (bt s 5) + (bt s 6) + 8) (by omega) (by omega)
  have hb1 := bt_lo s 4; have hb2 := bt_lo s 5; have hb3 := bt_lo s 6; have hb4 := bt_hi s 4; have hb5 := bt_hi s 5; have hb6 := bt_hi s 6
  have hcu := cu_rec (m := 65535) (s := s) (rest := (List.drop (Int.toNat ((bt s 4) * 256 + (bt s 5) + (bt s 6) + 8)) s)) (o := []) (To := To) (Tr := Tr) (Tk := Tk) (rck00 (by omega) (by omega) (by omega) (by omega) (by omega)) (by congr 2; unfold rsz; omega) (by rw [i5 rfl] at i1; exact i1) i2 i3
  refine stCuFd0_0 To Tr Tk nd s o (h := hyCuFd0_p0) (1, (List.drop (Int.toNat ((bt s 4) * 256 + (bt s 5) + (bt s 6) + 8)) s), (([] : List (Int × Int × LB × Int)) ++ [((bt s 1), (bt s 2) * 256 + (bt s 3), (rcC s), (bt s 6))])) ?_ (mkICuFd0 To Tr Tk nd 1 (List.drop (Int.toNat ((bt s 4) * 256 + (bt s 5) + (bt s 6) + 8)) s) (([] : List (Int × Int × LB × Int)) ++ [((bt s 1), (bt s 2) * 256 + (bt s 3), (rcC s), (bt s 6))]) ⟨by first | omega | (rw [List.length_drop]; omega), hcu.1, hcu.2.1, hcu.2.2, by simp only [List.length_append, List.length_cons, List.length_nil, List.length_drop]; omega, fun h => by omega, fun _ => by simp, by omega⟩) (by show ((List.drop (Int.toNat ((bt s 4) * 256 + (bt s 5) + (bt s 6) + 8)) s)).length < s.length; rw [List.length_drop]; omega) (thXv (v := St' (List.drop (Int.toNat ((bt s 4) * 256 + (bt s 5) + (bt s 6) + 8)) s)) rfl rfl (thXv (v := .int .i64 (nd)) rfl rfl (thXv (v := rwG reC (([] : List (Int × Int × LB × Int)) ++ [((bt s 1), (bt s 2) * 256 + (bt s 3), (rcC s), (bt s 6))])) rfl rfl (thNil)))) runCuFd0_p0
  unfold hyCuFd0_p0
  exact hc (kRn (denX rfl)) <|
   hc (kBytesB (bs := ([] : LB)) .nil (denX rfl)) <|
   hc (lnV rfl rfl (by omega)) <|
   hc (gecT rfl (by omega)) <|
   hc (ixC rfl rfl (by omega)) <|
   hc (eqcT rfl (by omega)) <|
   hc (ixC rfl rfl (by omega)) <|
   hc (kConvF (isX rfl) tu3 (denX rfl) (fI64 (by omega) (by omega))) <|
   hc (kShlM 8 256 rfl (isX rfl) (isZ (m := 8) rfl) (denX rfl) rfl (by decide) (by omega) (fI64 (by omega) (by omega))) <|
   hc (ixC rfl rfl (by omega)) <|
   hc (kConvF (isX rfl) tu3 (denX rfl) (fI64 (by omega) (by omega))) <|
   hc (adX rfl rfl rfl (by omega)) <|
   hc (gtcF rfl (by omega)) <|
   hc (kNeS (isX rfl) (isSx (l := ([] : LB)) 0 0 rfl) (bnT (nilF (by omega)))) <|
   hc (necF rfl (by omega)) <|
   hc (ltcF rfl (by omega)) <|
   hc (kAdd (isZ (m := 8) rfl) (isX rfl) (denX rfl) (by omega) (fI64 (by omega) (by omega))) <|
   hc (adX rfl rfl rfl (by omega)) <|
   hc (ixC rfl rfl (by omega)) <|
   hc (kConvF (isX rfl) tu3 (denX rfl) (fI64 (by omega) (by omega))) <|
   hc (adX rfl rfl rfl (by omega)) <|
   hc (ltF rfl rfl (by omega)) <|
   hc (ixC rfl rfl (by omega)) <|
   hc (eqcF rfl (by omega)) <|
   hc (kConvF (isX rfl) tu3 (denX rfl) (fI64 (by omega) (by omega))) <|
   hc (ixC rfl rfl (by omega)) <|
   hc (kConvF (isX rfl) tu3 (denX rfl) (fI64 (by omega) (by omega))) <|
   hc (kShlM 8 256 rfl (isX rfl) (isZ (m := 8) rfl) (denX rfl) rfl (by decide) (by omega) (fI64 (by omega) (by omega))) <|
   hc (ixC rfl rfl (by omega)) <|
   hc (kConvF (isX rfl) tu3 (denX rfl) (fI64 (by omega) (by omega))) <|
   hc (kOrM 8 256 rfl (isX rfl) (isX rfl) (denX rfl) (by omega) (by omega) (fI64 (by omega) (by omega)) (fI64 (by omega) (by omega)) (by omega) (by omega) (by omega) (fI64 (by omega) (by omega))) <|
   hc (sbX rfl rfl rfl (by omega)) <|
   hc (kMid (P := 8) (Q := (bt s 4) * 256 + (bt s 5) + 8) (isX rfl) (.inr ⟨_, _, rfl, (isZ (m := 8) rfl)⟩) (.inr ⟨_, _, rfl, (isX rfl)⟩) (by omega) (by omega) (by omega) (denX (congrArg (fun l => St' l) (rcC_mid (by omega) (by omega))))) <|
   hc (drV rfl rfl rfl (by omega)) <|
   hc (kRaG (f := reC) (l := ([] : List (Int × Int × LB × Int))) (a := ((bt s 1), (bt s 2) * 256 + (bt s 3), (rcC s), (bt s 6))) (isX rfl) (isL4 (isX rfl) (isX rfl) (isX rfl) (isX rfl)) (denX rfl)) <|
   hc (kRfG reC_len (isX rfl) (by first | (rw [List.length_append]; omega) | (first | omega | (simp <;> omega))) (by first | (rw [List.length_append]; omega) | (first | omega | (simp <;> omega)))) <|
   hnil
def hyCuFd0_p1 : LK := [(.rn, .x 2000002), (.bytes [], .x 27), (.len (.x 0), .x 28), (.bin .geq (.x 28) (.i .i64 (.ofNat 6)), .b false), (.bin .neq (.x 0) (.s 0 0), .b false), (.bin .lss (.x 28) (.i .i64 (.ofNat 8)), .b true)]
theorem runCuFd0_p1 : RNCuFd0_0 hyCuFd0_p1 .ret [(0, .x 0), (1, .x 1)] [(321, 321)] 380 [(4, .nils), (5, .x 0), (6, .ni)] [(302, .b ⟨53, .l [.i .i64 (.ofNat 65535), .sy 321, .x 1, .b false], 0, 0, 0, false, false⟩)] = true := by kernel_rfl
def hyCuFd0_p2 : LK := [(.rn, .x 2000003), (.bytes [], .x 29), (.len (.x 0), .x 30), (.bin .geq (.x 30) (.i .i64 (.ofNat 6)), .b false), (.bin .neq (.x 0) (.s 0 0), .b true), (.idx (.x 0) (.i .i64 (.ofNat 0)), .x 31), (.bin .neq (.x 31) (.i .u8 (.ofNat 1)), .b false), (.bin .lss (.x 30) (.i .i64 (.ofNat 8)), .b true)]
theorem runCuFd0_p2 : RNCuFd0_0 hyCuFd0_p2 .ret [(0, .x 0), (1, .x 1)] [(321, 321)] 380 [(4, .nils), (5, .x 0), (6, .ni)] [(302, .b ⟨53, .l [.i .i64 (.ofNat 65535), .sy 321, .x 1, .b false], 0, 0, 0, false, false⟩)] = true := by kernel_rfl
def hyCuFd0_p3 : LK := [(.rn, .x 2000004), (.bytes [], .x 32), (.len (.x 0), .x 33), (.bin .geq (.x 33) (.i .i64 (.ofNat 6)), .b false), (.bin .neq (.x 0) (.s 0 0), .b true), (.idx (.x 0) (.i .i64 (.ofNat 0)), .x 34), (.bin .neq (.x 34) (.i .u8 (.ofNat 1)), .b true)]
def lh1 : LH := ⟨1, 351, 361, [(326, .b ⟨29, .l [.i .i64 (.ofNat 0)], 0, 0, 0, false, false⟩)], [(326, .b ⟨29, .l [.i .i64 (.ofNat 13)], 0, 0, 0, false, false⟩)]⟩
def lf1 : LF := ⟨8888888, 0, [(0, .ifc 68 (.ag [.i .i64 (.ofNat 13), .s 27 45430407375676916831998826942035274374409028507990266741766889569])), (1, .ifc 66 (.p 326 0))], [], .normal, [(0, .b true)], some lh1⟩
noncomputable def tbCuFd0_p3 : Tab := addLps ((tbl hyCuFd0_p3)) 25 fi25 [lf1]
def LCuFd0_p3 : List LF := []
def hyCuFd0_p4 : LK := [(.rn, .x 2000005), (.bytes [], .x 35), (.len (.x 0), .x 36), (.bin .geq (.x 36) (.i .i64 (.ofNat 6)), .b true), (.idx (.x 0) (.i .i64 (.ofNat 0)), .x 37), (.bin .eql (.x 37) (.i .u8 (.ofNat 1)), .b false), (.bin .neq (.x 0) (.s 0 0), .b true), (.bin .neq (.x 37) (.i .u8 (.ofNat 1)), .b true)]
def lh2 : LH := ⟨1, 351, 361, [(326, .b ⟨29, .l [.i .i64 (.ofNat 0)], 0, 0, 0, false, false⟩)], [(326, .b ⟨29, .l [.i .i64 (.ofNat 13)], 0, 0, 0, false, false⟩)]⟩
def lf2 : LF := ⟨8888888, 0, [(0, .ifc 68 (.ag [.i .i64 (.ofNat 13), .s 27 45430407375676916831998826942035274374409028507990266741766889569])), (1, .ifc 66 (.p 326 0))], [], .normal, [(0, .b true)], some lh2⟩
noncomputable def tbCuFd0_p4 : Tab := addLps ((tbl hyCuFd0_p4)) 25 fi25 [lf2]
def LCuFd0_p4 : List LF := []
def hyCuFd0_p5 : LK := [(.rn, .x 2000006), (.bytes [], .x 38), (.len (.x 0), .x 39), (.bin .geq (.x 39) (.i .i64 (.ofNat 6)), .b true), (.idx (.x 0) (.i .i64 (.ofNat 0)), .x 40), (.bin .eql (.x 40) (.i .u8 (.ofNat 1)), .b true), (.idx (.x 0) (.i .i64 (.ofNat 4)), .x 41), (.conv 3 (.x 41), .x 42), (.bin .shl (.x 42) (.i .u64 (.ofNat 8)), .x 43), (.idx (.x 0) (.i .i64 (.ofNat 5)), .x 44), (.conv 3 (.x 44), .x 45), (.bin .add (.x 43) (.x 45), .x 46), (.bin .gtr (.x 46) (.i .i64 (.ofNat 65535)), .b false), (.bin .neq (.x 0) (.s 0 0), .b true), (.bin .neq (.x 40) (.i .u8 (.ofNat 1)), .b false), (.bin .lss (.x 39) (.i .i64 (.ofNat 8)), .b true)]
theorem runCuFd0_p5 : RNCuFd0_0 hyCuFd0_p5 .ret [(0, .x 0), (1, .x 1)] [(321, 321)] 380 [(4, .nils), (5, .x 0), (6, .ni)] [(302, .b ⟨53, .l [.i .i64 (.ofNat 65535), .sy 321, .x 1, .b false], 0, 0, 0, false, false⟩)] = true := by kernel_rfl
def hyCuFd0_p6 : LK := [(.rn, .x 2000007), (.bytes [], .x 47), (.len (.x 0), .x 48), (.bin .geq (.x 48) (.i .i64 (.ofNat 6)), .b true), (.idx (.x 0) (.i .i64 (.ofNat 0)), .x 49), (.bin .eql (.x 49) (.i .u8 (.ofNat 1)), .b true), (.idx (.x 0) (.i .i64 (.ofNat 4)), .x 50), (.conv 3 (.x 50), .x 51), (.bin .shl (.x 51) (.i .u64 (.ofNat 8)), .x 52), (.idx (.x 0) (.i .i64 (.ofNat 5)), .x 53), (.conv 3 (.x 53), .x 54), (.bin .add (.x 52) (.x 54), .x 55), (.bin .gtr (.x 55) (.i .i64 (.ofNat 65535)), .b false), (.bin .neq (.x 0) (.s 0 0), .b true), (.bin .neq (.x 49) (.i .u8 (.ofNat 1)), .b false), (.bin .lss (.x 48) (.i .i64 (.ofNat 8)), .b false), (.bin .add (.i .i64 (.ofNat 8)) (.x 52), .x 56), (.bin .add (.x 56) (.x 54), .x 57), (.idx (.x 0) (.i .i64 (.ofNat 6)), .x 58), (.conv 3 (.x 58), .x 59), (.bin .add (.x 57) (.x 59), .x 60), (.bin .lss (.x 48) (.x 60), .b true)]
theorem runCuFd0_p6 : RNCuFd0_0 hyCuFd0_p6 .ret [(0, .x 0), (1, .x 1)] [(321, 321)] 380 [(4, .nils), (5, .x 0), (6, .ni)] [(302, .b ⟨53, .l [.i .i64 (.ofNat 65535), .sy 321, .x 1, .b false], 0, 0, 0, false, false⟩)] = true := by kernel_rfl
def hyCuFd0_p7 : LK := [(.rn, .x 2000008), (.bytes [], .x 61), (.len (.x 0), .x 62), (.bin .geq (.x 62) (.i .i64 (.ofNat 6)), .b true), (.idx (.x 0) (.i .i64 (.ofNat 0)), .x 63), (.bin .eql (.x 63) (.i .u8 (.ofNat 1)), .b true), (.idx (.x 0) (.i .i64 (.ofNat 4)), .x 64), (.conv 3 (.x 64), .x 65), (.bin .shl (.x 65) (.i .u64 (.ofNat 8)), .x 66), (.idx (.x 0) (.i .i64 (.ofNat 5)), .x 67), (.conv 3 (.x 67), .x 68), (.bin .add (.x 66) (.x 68), .x 69), (.bin .gtr (.x 69) (.i .i64 (.ofNat 65535)), .b false), (.bin .neq (.x 0) (.s 0 0), .b true), (.bin .neq (.x 63) (.i .u8 (.ofNat 1)), .b false), (.bin .lss (.x 62) (.i .i64 (.ofNat 8)), .b false), (.bin .add (.i .i64 (.ofNat 8)) (.x 66), .x 70), (.bin .add (.x 70) (.x 68), .x 71), (.idx (.x 0) (.i .i64 (.ofNat 6)), .x 72), (.conv 3 (.x 72), .x 73), (.bin .add (.x 71) (.x 73), .x 74), (.bin .lss (.x 62) (.x 74), .b false), (.idx (.x 0) (.i .i64 (.ofNat 1)), .x 75), (.bin .eql (.x 75) (.i .u8 (.ofNat 0)), .b true)]
def lh3 : LH := ⟨1, 351, 361, [(325, .b ⟨29, .l [.i .i64 (.ofNat 0)], 0, 0, 0, false, false⟩)], [(325, .b ⟨29, .l [.i .i64 (.ofNat 10)], 0, 0, 0, false, false⟩)]⟩
def lf3 : LF := ⟨8888888, 0, [(0, .ifc 68 (.ag [.i .i64 (.ofNat 10), .s 18 4192413596494156358521667725059818226065505])), (1, .ifc 66 (.p 325 0))], [], .normal, [(0, .b true)], some lh3⟩
noncomputable def tbCuFd0_p7 : Tab := addLps ((tbl hyCuFd0_p7)) 25 fi25 [lf3]
def LCuFd0_p7 : List LF := []
def hyCuFd0_p8 : LK := [(.rn, .x 2000001), (.bytes [], .x 2), (.len (.x 0), .x 3), (.bin .geq (.x 3) (.i .i64 (.ofNat 6)), .b true), (.idx (.x 0) (.i .i64 (.ofNat 0)), .x 4), (.bin .eql (.x 4) (.i .u8 (.ofNat 1)), .b true), (.idx (.x 0) (.i .i64 (.ofNat 4)), .x 5), (.conv 3 (.x 5), .x 6), (.bin .shl (.x 6) (.i .u64 (.ofNat 8)), .x 7), (.idx (.x 0) (.i .i64 (.ofNat 5)), .x 8), (.conv 3 (.x 8), .x 9), (.bin .add (.x 7) (.x 9), .x 10), (.bin .gtr (.x 10) (.i .i64 (.ofNat 65535)), .b false), (.bin .neq (.x 0) (.s 0 0), .b true), (.bin .neq (.x 4) (.i .u8 (.ofNat 1)), .b false), (.bin .lss (.x 3) (.i .i64 (.ofNat 8)), .b false), (.bin .add (.i .i64 (.ofNat 8)) (.x 7), .x 11), (.bin .add (.x 11) (.x 9), .x 12), (.idx (.x 0) (.i .i64 (.ofNat 6)), .x 13), (.conv 3 (.x 13), .x 14), (.bin .add (.x 12) (.x 14), .x 15), (.bin .lss (.x 3) (.x 15), .b false), (.idx (.x 0) (.i .i64 (.ofNat 1)), .x 16), (.bin .eql (.x 16) (.i .u8 (.ofNat 0)), .b false), (.conv 3 (.x 16), .x 17), (.idx (.x 0) (.i .i64 (.ofNat 2)), .x 18), (.conv 3 (.x 18), .x 19), (.bin .shl (.x 19) (.i .u64 (.ofNat 8)), .x 20), (.idx (.x 0) (.i .i64 (.ofNat 3)), .x 21), (.conv 3 (.x 21), .x 22), (.bin .or (.x 20) (.x 22), .x 23), (.bin .sub (.x 15) (.x 14), .x 24), (.sub (.x 0) (some (.i .i64 (.ofNat 8))) (some (.x 24)), .x 25), (.sub (.x 0) (some (.x 15)) none, .x 26), (.ra (.x 2000000) [.x 17, .x 23, .x 25, .x 14], .x 2000002), (.rf (.x 2000002) 4 40, .b true)]
theorem runCuFd0_p8 : RNCuFd0_1 hyCuFd0_p8 .normal [(0, .x 26), (1, .x 1), (2000000, .x 2000002)] [(320, 328), (321, 321)] 322 epCuFd0_1 hpCuFd0_1 = true := by kernel_rfl
theorem nxCuFd0_p8 (To : List (Int × Int × LB × Int)) (Tr : LB) (Tk nd : Int) (s : LB) (o : List (Int × Int × LB × Int)) (X : Nat → Value) (hI : InvCuFd0 To Tr Tk nd (1, s, o)) (h0 : 6 ≤ (s.length : Int)) (h1 : bt s 0 = 1) (h5 : ¬ ((s.length : Int) < 8)) (h6 : ¬ ((s.length : Int) < (bt s 4) * 256 + (bt s 5) + (bt s 6) + 8)) (h7 : ¬ (bt s 1 = 0)) : RHCuFd0 To Tr Tk nd E' x' e' h' (1, s, o) X := by
  obtain ⟨i0, i1, i2, i3, i4, i5, i6, it⟩ := unICuFd0 To Tr Tk nd 1 s o hI
  have := bt_lo s 0; have := bt_hi s 0
  have := bt_lo s 4; have := bt_hi s 4
  have := bt_lo s 5; have := bt_hi s 5
  have := bt_lo s 6; have := bt_hi s 6
  have := bt_lo s 1; have := bt_hi s 1
  have := bt_lo s 2; have := bt_hi s 2
  have := bt_lo s 3; have := bt_hi s 3
  have := rcC_len (s := s) (by omega)
  have := lenDrop (l := s) (P := (bt s 4) * 256 + (bt s 5) + (bt s 6) + 8) (by omega) (by omega)
  have hb1 := bt_lo s 4; have hb2 := bt_lo s 5; have hb3 := bt_lo s 6; have hb4 := bt_hi s 4; have hb5 := bt_hi s 5; have hb6 := bt_hi s 6
  have hcu := cu_rec (m := 65535) (s := s) (rest := (List.drop (Int.toNat ((bt s 4) * 256 + (bt s 5) + (bt s 6) + 8)) s)) (To := To) (Tr := Tr) (Tk := Tk) (rck00 (by omega) (by omega) (by omega) (by omega) (by omega)) (by congr 2; unfold rsz; omega) i1 i2 i3
  refine stCuFd0_1 To Tr Tk nd s o (h := hyCuFd0_p8) (1, (List.drop (Int.toNat ((bt s 4) * 256 + (bt s 5) + (bt s 6) + 8)) s), (o ++ [((bt s 1), (bt s 2) * 256 + (bt s 3), (rcC s), (bt s 6))])) ?_ (mkICuFd0 To Tr Tk nd 1 (List.drop (Int.toNat ((bt s 4) * 256 + (bt s 5) + (bt s 6) + 8)) s) (o ++ [((bt s 1), (bt s 2) * 256 + (bt s 3), (rcC s), (bt s 6))]) ⟨by first | omega | (rw [List.length_drop]; omega), hcu.1, hcu.2.1, hcu.2.2, by simp only [List.length_append, List.length_cons, List.length_nil, List.length_drop]; omega, fun h => by omega, fun _ => by simp, by omega⟩) (by show ((List.drop (Int.toNat ((bt s 4) * 256 + (bt s 5) + (bt s 6) + 8)) s)).length < s.length; rw [List.length_drop]; omega) (thXv (v := St' (List.drop (Int.toNat ((bt s 4) * 256 + (bt s 5) + (bt s 6) + 8)) s)) rfl rfl (thXv (v := .int .i64 (nd)) rfl rfl (thXv (v := rwG reC (o ++ [((bt s 1), (bt s 2) * 256 + (bt s 3), (rcC s), (bt s 6))])) rfl rfl (thNil)))) runCuFd0_p8
  unfold hyCuFd0_p8
  exact hc (kRn (denX rfl)) <|
   hc (kBytesB (bs := ([] : LB)) .nil (denX rfl)) <|
   hc (lnV rfl rfl (by omega)) <|
   hc (gecT rfl (by omega)) <|
   hc (ixC rfl rfl (by omega)) <|
   hc (eqcT rfl (by omega)) <|
   hc (ixC rfl rfl (by omega)) <|
   hc (kConvF (isX rfl) tu3 (denX rfl) (fI64 (by omega) (by omega))) <|
   hc (kShlM 8 256 rfl (isX rfl) (isZ (m := 8) rfl) (denX rfl) rfl (by decide) (by omega) (fI64 (by omega) (by omega))) <|
   hc (ixC rfl rfl (by omega)) <|
   hc (kConvF (isX rfl) tu3 (denX rfl) (fI64 (by omega) (by omega))) <|
   hc (adX rfl rfl rfl (by omega)) <|
   hc (gtcF rfl (by omega)) <|
   hc (kNeS (isX rfl) (isSx (l := ([] : LB)) 0 0 rfl) (bnT (nilF (by omega)))) <|
   hc (necF rfl (by omega)) <|
   hc (ltcF rfl (by omega)) <|
   hc (kAdd (isZ (m := 8) rfl) (isX rfl) (denX rfl) (by omega) (fI64 (by omega) (by omega))) <|
   hc (adX rfl rfl rfl (by omega)) <|
   hc (ixC rfl rfl (by omega)) <|
   hc (kConvF (isX rfl) tu3 (denX rfl) (fI64 (by omega) (by omega))) <|
   hc (adX rfl rfl rfl (by omega)) <|
   hc (ltF rfl rfl (by omega)) <|
   hc (ixC rfl rfl (by omega)) <|
   hc (eqcF rfl (by omega)) <|
   hc (kConvF (isX rfl) tu3 (denX rfl) (fI64 (by omega) (by omega))) <|
   hc (ixC rfl rfl (by omega)) <|
   hc (kConvF (isX rfl) tu3 (denX rfl) (fI64 (by omega) (by omega))) <|
   hc (kShlM 8 256 rfl (isX rfl) (isZ (m := 8) rfl) (denX rfl) rfl (by decide) (by omega) (fI64 (by omega) (by omega))) <|
   hc (ixC rfl rfl (by omega)) <|
   hc (kConvF (isX rfl) tu3 (denX rfl) (fI64 (by omega) (by omega))) <|
   hc (kOrM 8 256 rfl (isX rfl) (isX rfl) (denX rfl) (by omega) (by omega) (fI64 (by omega) (by omega)) (fI64 (by omega) (by omega)) (by omega) (by omega) (by omega) (fI64 (by omega) (by omega))) <|
   hc (sbX rfl rfl rfl (by omega)) <|
   hc (kMid (P := 8) (Q := (bt s 4) * 256 + (bt s 5) + 8) (isX rfl) (.inr ⟨_, _, rfl, (isZ (m := 8) rfl)⟩) (.inr ⟨_, _, rfl, (isX rfl)⟩) (by omega) (by omega) (by omega) (denX (congrArg (fun l => St' l) (rcC_mid (by omega) (by omega))))) <|
   hc (drV rfl rfl rfl (by omega)) <|
   hc (kRaG (f := reC) (l := o) (a := ((bt s 1), (bt s 2) * 256 + (bt s 3), (rcC s), (bt s 6))) (isX rfl) (isL4 (isX rfl) (isX rfl) (isX rfl) (isX rfl)) (denX rfl)) <|
   hc (kRfG reC_len (isX rfl) (by first | (rw [List.length_append]; omega) | (first | omega | (simp <;> omega))) (by first | (rw [List.length_append]; omega) | (first | omega | (simp <;> omega)))) <|
   hnil
def hyCuFd0_p9 : LK := [(.rn, .x 2000003), (.bytes [], .x 27), (.len (.x 0), .x 28), (.bin .geq (.x 28) (.i .i64 (.ofNat 6)), .b false), (.bin .neq (.x 0) (.s 0 0), .b false), (.bin .lss (.x 28) (.i .i64 (.ofNat 8)), .b true)]
theorem runCuFd0_p9 : RNCuFd0_1 hyCuFd0_p9 .ret [(0, .x 0), (1, .x 1), (2000000, .x 2000000)] [(320, 320), (321, 321)] 380 [(4, .sr 320), (5, .x 0), (6, .ni)] [(302, .b ⟨53, .l [.i .i64 (.ofNat 65535), .sy 321, .x 1, .b false], 0, 0, 0, false, false⟩), (320, .r 2000000 26 4 false)] = true := by kernel_rfl
def hyCuFd0_p10 : LK := [(.rn, .x 2000004), (.bytes [], .x 29), (.len (.x 0), .x 30), (.bin .geq (.x 30) (.i .i64 (.ofNat 6)), .b false), (.bin .neq (.x 0) (.s 0 0), .b true), (.idx (.x 0) (.i .i64 (.ofNat 0)), .x 31), (.bin .neq (.x 31) (.i .u8 (.ofNat 1)), .b false), (.bin .lss (.x 30) (.i .i64 (.ofNat 8)), .b true)]
theorem runCuFd0_p10 : RNCuFd0_1 hyCuFd0_p10 .ret [(0, .x 0), (1, .x 1), (2000000, .x 2000000)] [(320, 320), (321, 321)] 380 [(4, .sr 320), (5, .x 0), (6, .ni)] [(302, .b ⟨53, .l [.i .i64 (.ofNat 65535), .sy 321, .x 1, .b false], 0, 0, 0, false, false⟩), (320, .r 2000000 26 4 false)] = true := by kernel_rfl
def hyCuFd0_p11 : LK := [(.rn, .x 2000005), (.bytes [], .x 32), (.len (.x 0), .x 33), (.bin .geq (.x 33) (.i .i64 (.ofNat 6)), .b false), (.bin .neq (.x 0) (.s 0 0), .b true), (.idx (.x 0) (.i .i64 (.ofNat 0)), .x 34), (.bin .neq (.x 34) (.i .u8 (.ofNat 1)), .b true)]
def lh5 : LH := ⟨1, 351, 361, [(326, .b ⟨29, .l [.i .i64 (.ofNat 0)], 0, 0, 0, false, false⟩)], [(326, .b ⟨29, .l [.i .i64 (.ofNat 13)], 0, 0, 0, false, false⟩)]⟩
def lf5 : LF := ⟨8888888, 0, [(0, .ifc 68 (.ag [.i .i64 (.ofNat 13), .s 27 45430407375676916831998826942035274374409028507990266741766889569])), (1, .ifc 66 (.p 326 0))], [], .normal, [(0, .b true)], some lh5⟩
noncomputable def tbCuFd0_p11 : Tab := addLps ((tbl hyCuFd0_p11)) 25 fi25 [lf5]
def LCuFd0_p11 : List LF := []
def hyCuFd0_p12 : LK := [(.rn, .x 2000006), (.bytes [], .x 35), (.len (.x 0), .x 36), (.bin .geq (.x 36) (.i .i64 (.ofNat 6)), .b true), (.idx (.x 0) (.i .i64 (.ofNat 0)), .x 37), (.bin .eql (.x 37) (.i .u8 (.ofNat 1)), .b false), (.bin .neq (.x 0) (.s 0 0), .b true), (.bin .neq (.x 37) (.i .u8 (.ofNat 1)), .b true)]
def lh6 : LH := ⟨1, 351, 361, [(326, .b ⟨29, .l [.i .i64 (.ofNat 0)], 0, 0, 0, false, false⟩)], [(326, .b ⟨29, .l [.i .i64 (.ofNat 13)], 0, 0, 0, false, false⟩)]⟩
def lf6 : LF := ⟨8888888, 0, [(0, .ifc 68 (.ag [.i .i64 (.ofNat 13), .s 27 45430407375676916831998826942035274374409028507990266741766889569])), (1, .ifc 66 (.p 326 0))], [], .normal, [(0, .b true)], some lh6⟩
noncomputable def tbCuFd0_p12 : Tab := addLps ((tbl hyCuFd0_p12)) 25 fi25 [lf6]
def LCuFd0_p12 : List LF := []
def hyCuFd0_p13 : LK := [(.rn, .x 2000007), (.bytes [], .x 38), (.len (.x 0), .x 39), (.bin .geq (.x 39) (.i .i64 (.ofNat 6)), .b true), (.idx (.x 0) (.i .i64 (.ofNat 0)), .x 40), (.bin .eql (.x 40) (.i .u8 (.ofNat 1)), .b true), (.idx (.x 0) (.i .i64 (.ofNat 4)), .x 41), (.conv 3 (.x 41), .x 42), (.bin .shl (.x 42) (.i .u64 (.ofNat 8)), .x 43), (.idx (.x 0) (.i .i64 (.ofNat 5)), .x 44), (.conv 3 (.x 44), .x 45), (.bin .add (.x 43) (.x 45), .x 46), (.bin .gtr (.x 46) (.i .i64 (.ofNat 65535)), .b false), (.bin .neq (.x 0) (.s 0 0), .b true), (.bin .neq (.x 40) (.i .u8 (.ofNat 1)), .b false), (.bin .lss (.x 39) (.i .i64 (.ofNat 8)), .b true)]
theorem runCuFd0_p13 : RNCuFd0_1 hyCuFd0_p13 .ret [(0, .x 0), (1, .x 1), (2000000, .x 2000000)] [(320, 320), (321, 321)] 380 [(4, .sr 320), (5, .x 0), (6, .ni)] [(302, .b ⟨53, .l [.i .i64 (.ofNat 65535), .sy 321, .x 1, .b false], 0, 0, 0, false, false⟩), (320, .r 2000000 26 4 false)] = true := by kernel_rfl
def hyCuFd0_p14 : LK := [(.rn, .x 2000008), (.bytes [], .x 47), (.len (.x 0), .x 48), (.bin .geq (.x 48) (.i .i64 (.ofNat 6)), .b true), (.idx (.x 0) (.i .i64 (.ofNat 0)), .x 49), (.bin .eql (.x 49) (.i .u8 (.ofNat 1)), .b true), (.idx (.x 0) (.i .i64 (.ofNat 4)), .x 50), (.conv 3 (.x 50), .x 51), (.bin .shl (.x 51) (.i .u64 (.ofNat 8)), .x 52), (.idx (.x 0) (.i .i64 (.ofNat 5)), .x 53), (.conv 3 (.x 53), .x 54), (.bin .add (.x 52) (.x 54), .x 55), (.bin .gtr (.x 55) (.i .i64 (.ofNat 65535)), .b false), (.bin .neq (.x 0) (.s 0 0), .b true), (.bin .neq (.x 49) (.i .u8 (.ofNat 1)), .b false), (.bin .lss (.x 48) (.i .i64 (.ofNat 8)), .b false), (.bin .add (.i .i64 (.ofNat 8)) (.x 52), .x 56), (.bin .add (.x 56) (.x 54), .x 57), (.idx (.x 0) (.i .i64 (.ofNat 6)), .x 58), (.conv 3 (.x 58), .x 59), (.bin .add (.x 57) (.x 59), .x 60), (.bin .lss (.x 48) (.x 60), .b true)]
theorem runCuFd0_p14 : RNCuFd0_1 hyCuFd0_p14 .ret [(0, .x 0), (1, .x 1), (2000000, .x 2000000)] [(320, 320), (321, 321)] 380 [(4, .sr 320), (5, .x 0), (6, .ni)] [(302, .b ⟨53, .l [.i .i64 (.ofNat 65535), .sy 321, .x 1, .b false], 0, 0, 0, false, false⟩), (320, .r 2000000 26 4 false)] = true := by kernel_rfl
def hyCuFd0_p15 : LK := [(.rn, .x 2000009), (.bytes [], .x 61), (.len (.x 0), .x 62), (.bin .geq (.x 62) (.i .i64 (.ofNat 6)), .b true), (.idx (.x 0) (.i .i64 (.ofNat 0)), .x 63), (.bin .eql (.x 63) (.i .u8 (.ofNat 1)), .b true), (.idx (.x 0) (.i .i64 (.ofNat 4)), .x 64), (.conv 3 (.x 64), .x 65), (.bin .shl (.x 65) (.i .u64 (.ofNat 8)), .x 66), (.idx (.x 0) (.i .i64 (.ofNat 5)), .x 67), (.conv 3 (.x 67), .x 68), (.bin .add (.x 66) (.x 68), .x 69), (.bin .gtr (.x 69) (.i .i64 (.ofNat 65535)), .b false), (.bin .neq (.x 0) (.s 0 0), .b true), (.bin .neq (.x 63) (.i .u8 (.ofNat 1)), .b false), (.bin .lss (.x 62) (.i .i64 (.ofNat 8)), .b false), (.bin .add (.i .i64 (.ofNat 8)) (.x 66), .x 70), (.bin .add (.x 70) (.x 68), .x 71), (.idx (.x 0) (.i .i64 (.ofNat 6)), .x 72), (.conv 3 (.x 72), .x 73), (.bin .add (.x 71) (.x 73), .x 74), (.bin .lss (.x 62) (.x 74), .b false), (.idx (.x 0) (.i .i64 (.ofNat 1)), .x 75), (.bin .eql (.x 75) (.i .u8 (.ofNat 0)), .b true)]
def lh7 : LH := ⟨1, 351, 361, [(325, .b ⟨29, .l [.i .i64 (.ofNat 0)], 0, 0, 0, false, false⟩)], [(325, .b ⟨29, .l [.i .i64 (.ofNat 10)], 0, 0, 0, false, false⟩)]⟩
def lf7 : LF := ⟨8888888, 0, [(0, .ifc 68 (.ag [.i .i64 (.ofNat 10), .s 18 4192413596494156358521667725059818226065505])), (1, .ifc 66 (.p 325 0))], [], .normal, [(0, .b true)], some lh7⟩
noncomputable def tbCuFd0_p15 : Tab := addLps ((tbl hyCuFd0_p15)) 25 fi25 [lf7]
def LCuFd0_p15 : List LF := []
def nuECuFd0_0 (To : List (Int × Int × LB × Int)) (Tr : LB) (Tk nd : Int) : List Value := [St' Tr, .int .i64 (nd)]
def roECuFd0_0 (To : List (Int × Int × LB × Int)) (Tr : LB) (Tk nd : Int) : List Value := []
noncomputable def ECuFd0_0 (To : List (Int × Int × LB × Int)) (Tr : LB) (Tk nd : Int) : Cx := cx (nuX (nuECuFd0_0 To Tr Tk nd) (rX (roECuFd0_0 To Tr Tk nd) (fun _ => .bool true))) (nuX_one (nuL_one (l := nuECuFd0_0 To Tr Tk nd) rfl)) 1 laidE laidE_stab
theorem roundsCuFd0_0 (To : List (Int × Int × LB × Int)) (Tr : LB) (Tk nd : Int) (x0 : Tk = 11) (x1 : To.length = 0) (st : Nat × LB × List (Int × Int × LB × Int)) (X : Nat → Value) (hI : InvCuFd0 To Tr Tk nd st) : RHCuFd0 To Tr Tk nd (ECuFd0_0 To Tr Tk nd) .ret [(4, .nils), (5, .x 0), (6, .ni)] [(302, .b ⟨53, .l [.i .i64 (.ofNat 65535), .sy 321, .x 1, .b false], 0, 0, 0, false, false⟩)] st X := by
  obtain ⟨tag, s, o⟩ := st
  have hI0 := hI
  obtain ⟨i0, i1, i2, i3, i4, i5, i6, it⟩ := unICuFd0 To Tr Tk nd tag s o hI
  rcases (show tag = 0 ∨ tag = 1 from by omega) with rfl | rfl
  · skip
    by_cases h0 : 6 ≤ (s.length : Int)
    · by_cases h1 : bt s 0 = 1
      · by_cases h5 : (s.length : Int) < 8
        · skip
          have := bt_lo s 0; have := bt_hi s 0
          have := bt_lo s 4; have := bt_hi s 4
          have := bt_lo s 5; have := bt_hi s 5
          have hb1 := bt_lo s 4; have hb2 := bt_lo s 5; have hb3 := bt_lo s 6; have hb4 := bt_hi s 4; have hb5 := bt_hi s 5; have hb6 := bt_hi s 6
          have hce := cu_end (m := 65535) (s := s) (k := 11) (rck11 (by omega) (by omega) (by omega)) (by decide) i1 i2 i3
          refine lvCuFd0_0 To Tr Tk nd s o (h := hyCuFd0_p5) rfl ?_ (thXe (v := St' s) (u := St' Tr) rfl rfl (congrArg (fun l => St' l) hce.2.1) (thXv (v := .int .i64 (nd)) rfl rfl (thNil))) runCuFd0_p5
          unfold hyCuFd0_p5
          exact hc (kRn (denX rfl)) <|
           hc (kBytesB (bs := ([] : LB)) .nil (denX rfl)) <|
           hc (lnV rfl rfl (by omega)) <|
           hc (gecT rfl (by omega)) <|
           hc (ixC rfl rfl (by omega)) <|
           hc (eqcT rfl (by omega)) <|
           hc (ixC rfl rfl (by omega)) <|
           hc (kConvF (isX rfl) tu3 (denX rfl) (fI64 (by omega) (by omega))) <|
           hc (kShlM 8 256 rfl (isX rfl) (isZ (m := 8) rfl) (denX rfl) rfl (by decide) (by omega) (fI64 (by omega) (by omega))) <|
           hc (ixC rfl rfl (by omega)) <|
           hc (kConvF (isX rfl) tu3 (denX rfl) (fI64 (by omega) (by omega))) <|
           hc (adX rfl rfl rfl (by omega)) <|
           hc (gtcF rfl (by omega)) <|
           hc (kNeS (isX rfl) (isSx (l := ([] : LB)) 0 0 rfl) (bnT (nilF (by omega)))) <|
           hc (necF rfl (by omega)) <|
           hc (ltcT rfl (by omega)) <|
           hnil
        · by_cases h6 : (s.length : Int) < (bt s 4) * 256 + (bt s 5) + (bt s 6) + 8
          · skip
            have := bt_lo s 0; have := bt_hi s 0
            have := bt_lo s 4; have := bt_hi s 4
            have := bt_lo s 5; have := bt_hi s 5
            have := bt_lo s 6; have := bt_hi s 6
            have hb1 := bt_lo s 4; have hb2 := bt_lo s 5; have hb3 := bt_lo s 6; have hb4 := bt_hi s 4; have hb5 := bt_hi s 5; have hb6 := bt_hi s 6
            have hce := cu_end (m := 65535) (s := s) (k := 11) (rck11 (by omega) (by omega) (by omega)) (by decide) i1 i2 i3
            refine lvCuFd0_0 To Tr Tk nd s o (h := hyCuFd0_p6) rfl ?_ (thXe (v := St' s) (u := St' Tr) rfl rfl (congrArg (fun l => St' l) hce.2.1) (thXv (v := .int .i64 (nd)) rfl rfl (thNil))) runCuFd0_p6
            unfold hyCuFd0_p6
            exact hc (kRn (denX rfl)) <|
             hc (kBytesB (bs := ([] : LB)) .nil (denX rfl)) <|
             hc (lnV rfl rfl (by omega)) <|
             hc (gecT rfl (by omega)) <|
             hc (ixC rfl rfl (by omega)) <|
             hc (eqcT rfl (by omega)) <|
             hc (ixC rfl rfl (by omega)) <|
             hc (kConvF (isX rfl) tu3 (denX rfl) (fI64 (by omega) (by omega))) <|
             hc (kShlM 8 256 rfl (isX rfl) (isZ (m := 8) rfl) (denX rfl) rfl (by decide) (by omega) (fI64 (by omega) (by omega))) <|
             hc (ixC rfl rfl (by omega)) <|
             hc (kConvF (isX rfl) tu3 (denX rfl) (fI64 (by omega) (by omega))) <|
             hc (adX rfl rfl rfl (by omega)) <|
             hc (gtcF rfl (by omega)) <|
             hc (kNeS (isX rfl) (isSx (l := ([] : LB)) 0 0 rfl) (bnT (nilF (by omega)))) <|
             hc (necF rfl (by omega)) <|
             hc (ltcF rfl (by omega)) <|
             hc (kAdd (isZ (m := 8) rfl) (isX rfl) (denX rfl) (by omega) (fI64 (by omega) (by omega))) <|
             hc (adX rfl rfl rfl (by omega)) <|
             hc (ixC rfl rfl (by omega)) <|
             hc (kConvF (isX rfl) tu3 (denX rfl) (fI64 (by omega) (by omega))) <|
             hc (adX rfl rfl rfl (by omega)) <|
             hc (ltT rfl rfl (by omega)) <|
             hnil
          · by_cases h7 : bt s 1 = 0
            · exfalso; have hb4 := bt_hi s 4; have hb5 := bt_hi s 5; exact cz (rck10 (by omega) (by omega) (by omega) (by omega) (by omega)) (by decide) i3 (by omega)
            · exact nxCuFd0_p0 To Tr Tk nd s o X hI0 h0 h1 h5 h6 h7
      · exfalso; have hb4 := bt_hi s 4; have hb5 := bt_hi s 5; exact cz (rck13 (by omega) (by omega)) (by decide) i3 (by omega)
    · by_cases h1 : (s.length : Int) = 0
      · skip
        have hb1 := bt_lo s 4; have hb2 := bt_lo s 5; have hb3 := bt_lo s 6; have hb4 := bt_hi s 4; have hb5 := bt_hi s 5; have hb6 := bt_hi s 6
        have hce := cu_end (m := 65535) (s := s) (k := 11) (rck11 (by omega) (by omega) (by omega)) (by decide) i1 i2 i3
        refine lvCuFd0_0 To Tr Tk nd s o (h := hyCuFd0_p1) rfl ?_ (thXe (v := St' s) (u := St' Tr) rfl rfl (congrArg (fun l => St' l) hce.2.1) (thXv (v := .int .i64 (nd)) rfl rfl (thNil))) runCuFd0_p1
        unfold hyCuFd0_p1
        exact hc (kRn (denX rfl)) <|
         hc (kBytesB (bs := ([] : LB)) .nil (denX rfl)) <|
         hc (lnV rfl rfl (by omega)) <|
         hc (gecF rfl (by omega)) <|
         hc (kNeS (isX rfl) (isSx (l := ([] : LB)) 0 0 rfl) (bnF (nilT (by omega)))) <|
         hc (ltcT rfl (by omega)) <|
         hnil
      · by_cases h2 : bt s 0 = 1
        · skip
          have := bt_lo s 0; have := bt_hi s 0
          have hb1 := bt_lo s 4; have hb2 := bt_lo s 5; have hb3 := bt_lo s 6; have hb4 := bt_hi s 4; have hb5 := bt_hi s 5; have hb6 := bt_hi s 6
          have hce := cu_end (m := 65535) (s := s) (k := 11) (rck11 (by omega) (by omega) (by omega)) (by decide) i1 i2 i3
          refine lvCuFd0_0 To Tr Tk nd s o (h := hyCuFd0_p2) rfl ?_ (thXe (v := St' s) (u := St' Tr) rfl rfl (congrArg (fun l => St' l) hce.2.1) (thXv (v := .int .i64 (nd)) rfl rfl (thNil))) runCuFd0_p2
          unfold hyCuFd0_p2
          exact hc (kRn (denX rfl)) <|
           hc (kBytesB (bs := ([] : LB)) .nil (denX rfl)) <|
           hc (lnV rfl rfl (by omega)) <|
           hc (gecF rfl (by omega)) <|
           hc (kNeS (isX rfl) (isSx (l := ([] : LB)) 0 0 rfl) (bnT (nilF (by omega)))) <|
           hc (ixC rfl rfl (by omega)) <|
           hc (necF rfl (by omega)) <|
           hc (ltcT rfl (by omega)) <|
           hnil
        · exfalso; have hb4 := bt_hi s 4; have hb5 := bt_hi s 5; exact cz (rck13 (by omega) (by omega)) (by decide) i3 (by omega)
  · skip
    by_cases h0 : 6 ≤ (s.length : Int)
    · by_cases h1 : bt s 0 = 1
      · by_cases h5 : (s.length : Int) < 8
        · exfalso; have hb4 := bt_hi s 4; have hb5 := bt_hi s 5; have hce := cu_end (rck11 (by omega) (by omega) (by omega)) (by decide) i1 i2 i3; have h0 := i6 rfl; rw [hce.1] at h0; omega
        · by_cases h6 : (s.length : Int) < (bt s 4) * 256 + (bt s 5) + (bt s 6) + 8
          · exfalso; have hb4 := bt_hi s 4; have hb5 := bt_hi s 5; have hce := cu_end (rck11 (by omega) (by omega) (by omega)) (by decide) i1 i2 i3; have h0 := i6 rfl; rw [hce.1] at h0; omega
          · by_cases h7 : bt s 1 = 0
            · exfalso; have hb4 := bt_hi s 4; have hb5 := bt_hi s 5; exact cz (rck10 (by omega) (by omega) (by omega) (by omega) (by omega)) (by decide) i3 (by omega)
            · exact nxCuFd0_p8 To Tr Tk nd s o X hI0 h0 h1 h5 h6 h7
      · exfalso; have hb4 := bt_hi s 4; have hb5 := bt_hi s 5; exact cz (rck13 (by omega) (by omega)) (by decide) i3 (by omega)
    · by_cases h1 : (s.length : Int) = 0
      · exfalso; have hb4 := bt_hi s 4; have hb5 := bt_hi s 5; have hce := cu_end (rck11 (by omega) (by omega) (by omega)) (by decide) i1 i2 i3; have h0 := i6 rfl; rw [hce.1] at h0; omega
      · by_cases h2 : bt s 0 = 1
        · exfalso; have hb4 := bt_hi s 4; have hb5 := bt_hi s 5; have hce := cu_end (rck11 (by omega) (by omega) (by omega)) (by decide) i1 i2 i3; have h0 := i6 rfl; rw [hce.1] at h0; omega
        · exfalso; have hb4 := bt_hi s 4; have hb5 := bt_hi s 5; exact cz (rck13 (by omega) (by omega)) (by decide) i3 (by omega)
theorem lfOkCuFd0_0 {l : LF} {h : LH} (To : List (Int × Int × LB × Int)) (Tr : LB) (Tk nd : Int) (x0 : Tk = 11) (x1 : To.length = 0) (st : Nat × LB × List (Int × Int × LB × Int)) (hI : InvCuFd0 To Tr Tk nd st) (hl : l.hp = some h) (hs : lfSame l h 38 keepCuFd0 .ret 1 320 380 = true) {th0 : LA} {sg0 : List (Nat × Nat)} (hth0 : ∀ X, ThOk (cx nu one 1 laidE laidE_stab) (DCuFd0 To Tr Tk nd st X) th0) (h0 : startOk l h 38 320 322 th0 sg0 (epCuFd0 st) (hpCuFd0 st) = true) {thx : LA} (hthx : ThOk (ECuFd0_0 To Tr Tk nd) (cx nu one 1 laidE laidE_stab) thx) (hx : exitOk l h 38 320 380 thx [(4, .nils), (5, .x 0), (6, .ni)] [(302, .b ⟨53, .l [.i .i64 (.ofNat 65535), .sy 321, .x 1, .b false], 0, 0, 0, false, false⟩)] = true) : LfOk (cx nu one 1 laidE laidE_stab) bodyCuFd0 l :=
  lfOkX (E := ECuFd0_0 To Tr Tk nd) (InvCuFd0 To Tr Tk nd) (muCuFd0 To Tr Tk nd) (DCuFd0 To Tr Tk nd) (fun _ _ => rfl) (fun _ _ => rfl) (fun _ _ => rfl) (fun st X t ht => nuX_keep.trans (rX_keep ((by decide : ∀ t, t ∈ keepCuFd0 → t < 1000000) t ht))) rfl rfl rfl hl hs ebCuFd0 rfl rfl st hI hth0 h0 hthx hx (roundsCuFd0_0 To Tr Tk nd x0 x1)
def nuECuFd0_1 (To : List (Int × Int × LB × Int)) (Tr : LB) (Tk nd : Int) : List Value := [St' Tr, .int .i64 (nd)]
def roECuFd0_1 (To : List (Int × Int × LB × Int)) (Tr : LB) (Tk nd : Int) : List Value := [rwG reC To]
noncomputable def ECuFd0_1 (To : List (Int × Int × LB × Int)) (Tr : LB) (Tk nd : Int) : Cx := cx (nuX (nuECuFd0_1 To Tr Tk nd) (rX (roECuFd0_1 To Tr Tk nd) (fun _ => .bool true))) (nuX_one (nuL_one (l := nuECuFd0_1 To Tr Tk nd) rfl)) 1 laidE laidE_stab
theorem roundsCuFd0_1 (To : List (Int × Int × LB × Int)) (Tr : LB) (Tk nd : Int) (x0 : Tk = 11) (x1 : ¬ To.length = 0) (st : Nat × LB × List (Int × Int × LB × Int)) (X : Nat → Value) (hI : InvCuFd0 To Tr Tk nd st) : RHCuFd0 To Tr Tk nd (ECuFd0_1 To Tr Tk nd) .ret [(4, .sr 320), (5, .x 0), (6, .ni)] [(302, .b ⟨53, .l [.i .i64 (.ofNat 65535), .sy 321, .x 1, .b false], 0, 0, 0, false, false⟩), (320, .r 2000000 26 4 false)] st X := by
  obtain ⟨tag, s, o⟩ := st
  have hI0 := hI
  obtain ⟨i0, i1, i2, i3, i4, i5, i6, it⟩ := unICuFd0 To Tr Tk nd tag s o hI
  rcases (show tag = 0 ∨ tag = 1 from by omega) with rfl | rfl
  · skip
    by_cases h0 : 6 ≤ (s.length : Int)
    · by_cases h1 : bt s 0 = 1
      · by_cases h5 : (s.length : Int) < 8
        · exfalso; have hb4 := bt_hi s 4; have hb5 := bt_hi s 5; have hce := cu_end (rck11 (by omega) (by omega) (by omega)) (by decide) i1 i2 i3; have h0 := i5 rfl; rw [← hce.1, h0] at x1; simp at x1
        · by_cases h6 : (s.length : Int) < (bt s 4) * 256 + (bt s 5) + (bt s 6) + 8
          · exfalso; have hb4 := bt_hi s 4; have hb5 := bt_hi s 5; have hce := cu_end (rck11 (by omega) (by omega) (by omega)) (by decide) i1 i2 i3; have h0 := i5 rfl; rw [← hce.1, h0] at x1; simp at x1
          · by_cases h7 : bt s 1 = 0
            · exfalso; have hb4 := bt_hi s 4; have hb5 := bt_hi s 5; exact cz (rck10 (by omega) (by omega) (by omega) (by omega) (by omega)) (by decide) i3 (by omega)
            · exact nxCuFd0_p0 To Tr Tk nd s o X hI0 h0 h1 h5 h6 h7
      · exfalso; have hb4 := bt_hi s 4; have hb5 := bt_hi s 5; exact cz (rck13 (by omega) (by omega)) (by decide) i3 (by omega)
    · by_cases h1 : (s.length : Int) = 0
      · exfalso; have hb4 := bt_hi s 4; have hb5 := bt_hi s 5; have hce := cu_end (rck11 (by omega) (by omega) (by omega)) (by decide) i1 i2 i3; have h0 := i5 rfl; rw [← hce.1, h0] at x1; simp at x1
      · by_cases h2 : bt s 0 = 1
        · exfalso; have hb4 := bt_hi s 4; have hb5 := bt_hi s 5; have hce := cu_end (rck11 (by omega) (by omega) (by omega)) (by decide) i1 i2 i3; have h0 := i5 rfl; rw [← hce.1, h0] at x1; simp at x1
        · exfalso; have hb4 := bt_hi s 4; have hb5 := bt_hi s 5; exact cz (rck13 (by omega) (by omega)) (by decide) i3 (by omega)
  · skip
    by_cases h0 : 6 ≤ (s.length : Int)
    · by_cases h1 : bt s 0 = 1
      · by_cases h5 : (s.length : Int) < 8
        · skip
          have := bt_lo s 0; have := bt_hi s 0
          have := bt_lo s 4; have := bt_hi s 4
          have := bt_lo s 5; have := bt_hi s 5
          have hb1 := bt_lo s 4; have hb2 := bt_lo s 5; have hb3 := bt_lo s 6; have hb4 := bt_hi s 4; have hb5 := bt_hi s 5; have hb6 := bt_hi s 6
          have hce := cu_end (m := 65535) (s := s) (k := 11) (rck11 (by omega) (by omega) (by omega)) (by decide) i1 i2 i3
          refine lvCuFd0_1 To Tr Tk nd s o (h := hyCuFd0_p13) rfl ?_ (thXe (v := St' s) (u := St' Tr) rfl rfl (congrArg (fun l => St' l) hce.2.1) (thXv (v := .int .i64 (nd)) rfl rfl (thXe (v := rwG reC o) (u := rwG reC To) rfl rfl (congrArg (rwG reC) hce.1) (thNil)))) runCuFd0_p13
          unfold hyCuFd0_p13
          exact hc (kRn (denX rfl)) <|
           hc (kBytesB (bs := ([] : LB)) .nil (denX rfl)) <|
           hc (lnV rfl rfl (by omega)) <|
           hc (gecT rfl (by omega)) <|
           hc (ixC rfl rfl (by omega)) <|
           hc (eqcT rfl (by omega)) <|
           hc (ixC rfl rfl (by omega)) <|
           hc (kConvF (isX rfl) tu3 (denX rfl) (fI64 (by omega) (by omega))) <|
           hc (kShlM 8 256 rfl (isX rfl) (isZ (m := 8) rfl) (denX rfl) rfl (by decide) (by omega) (fI64 (by omega) (by omega))) <|
           hc (ixC rfl rfl (by omega)) <|
           hc (kConvF (isX rfl) tu3 (denX rfl) (fI64 (by omega) (by omega))) <|
           hc (adX rfl rfl rfl (by omega)) <|
           hc (gtcF rfl (by omega)) <|
           hc (kNeS (isX rfl) (isSx (l := ([] : LB)) 0 0 rfl) (bnT (nilF (by omega)))) <|
           hc (necF rfl (by omega)) <|
           hc (ltcT rfl (by omega)) <|
           hnil
        · by_cases h6 : (s.length : Int) < (bt s 4) * 256 + (bt s 5) + (bt s 6) + 8
          · skip
            have := bt_lo s 0; have := bt_hi s 0
            have := bt_lo s 4; have := bt_hi s 4
            have := bt_lo s 5; have := bt_hi s 5
            have := bt_lo s 6; have := bt_hi s 6
            have hb1 := bt_lo s 4; have hb2 := bt_lo s 5; have hb3 := bt_lo s 6; have hb4 := bt_hi s 4; have hb5 := bt_hi s 5; have hb6 := bt_hi s 6
            have hce := cu_end (m := 65535) (s := s) (k := 11) (rck11 (by omega) (by omega) (by omega)) (by decide) i1 i2 i3
            refine lvCuFd0_1 To Tr Tk nd s o (h := hyCuFd0_p14) rfl ?_ (thXe (v := St' s) (u := St' Tr) rfl rfl (congrArg (fun l => St' l) hce.2.1) (thXv (v := .int .i64 (nd)) rfl rfl (thXe (v := rwG reC o) (u := rwG reC To) rfl rfl (congrArg (rwG reC) hce.1) (thNil)))) runCuFd0_p14
            unfold hyCuFd0_p14
            exact hc (kRn (denX rfl)) <|
             hc (kBytesB (bs := ([] : LB)) .nil (denX rfl)) <|
             hc (lnV rfl rfl (by omega)) <|
             hc (gecT rfl (by omega)) <|
             hc (ixC rfl rfl (by omega)) <|
             hc (eqcT rfl (by omega)) <|
             hc (ixC rfl rfl (by omega)) <|
             hc (kConvF (isX rfl) tu3 (denX rfl) (fI64 (by omega) (by omega))) <|
             hc (kShlM 8 256 rfl (isX rfl) (isZ (m := 8) rfl) (denX rfl) rfl (by decide) (by omega) (fI64 (by omega) (by omega))) <|
             hc (ixC rfl rfl (by omega)) <|
             hc (kConvF (isX rfl) tu3 (denX rfl) (fI64 (by omega) (by omega))) <|
             hc (adX rfl rfl rfl (by omega)) <|
             hc (gtcF rfl (by omega)) <|
             hc (kNeS (isX rfl) (isSx (l := ([] : LB)) 0 0 rfl) (bnT (nilF (by omega)))) <|
             hc (necF rfl (by omega)) <|
             hc (ltcF rfl (by omega)) <|
             hc (kAdd (isZ (m := 8) rfl) (isX rfl) (denX rfl) (by omega) (fI64 (by omega) (by omega))) <|
             hc (adX rfl rfl rfl (by omega)) <|
             hc (ixC rfl rfl (by omega)) <|
             hc (kConvF (isX rfl) tu3 (denX rfl) (fI64 (by omega) (by omega))) <|
             hc (adX rfl rfl rfl (by omega)) <|
             hc (ltT rfl rfl (by omega)) <|
             hnil
          · by_cases h7 : bt s 1 = 0
            · exfalso; have hb4 := bt_hi s 4; have hb5 := bt_hi s 5; exact cz (rck10 (by omega) (by omega) (by omega) (by omega) (by omega)) (by decide) i3 (by omega)
            · exact nxCuFd0_p8 To Tr Tk nd s o X hI0 h0 h1 h5 h6 h7
      · exfalso; have hb4 := bt_hi s 4; have hb5 := bt_hi s 5; exact cz (rck13 (by omega) (by omega)) (by decide) i3 (by omega)
    · by_cases h1 : (s.length : Int) = 0
      · skip
        have hb1 := bt_lo s 4; have hb2 := bt_lo s 5; have hb3 := bt_lo s 6; have hb4 := bt_hi s 4; have hb5 := bt_hi s 5; have hb6 := bt_hi s 6
        have hce := cu_end (m := 65535) (s := s) (k := 11) (rck11 (by omega) (by omega) (by omega)) (by decide) i1 i2 i3
        refine lvCuFd0_1 To Tr Tk nd s o (h := hyCuFd0_p9) rfl ?_ (thXe (v := St' s) (u := St' Tr) rfl rfl (congrArg (fun l => St' l) hce.2.1) (thXv (v := .int .i64 (nd)) rfl rfl (thXe (v := rwG reC o) (u := rwG reC To) rfl rfl (congrArg (rwG reC) hce.1) (thNil)))) runCuFd0_p9
        unfold hyCuFd0_p9
        exact hc (kRn (denX rfl)) <|
         hc (kBytesB (bs := ([] : LB)) .nil (denX rfl)) <|
         hc (lnV rfl rfl (by omega)) <|
         hc (gecF rfl (by omega)) <|
         hc (kNeS (isX rfl) (isSx (l := ([] : LB)) 0 0 rfl) (bnF (nilT (by omega)))) <|
         hc (ltcT rfl (by omega)) <|
         hnil
      · by_cases h2 : bt s 0 = 1
        · skip
          have := bt_lo s 0; have := bt_hi s 0
          have hb1 := bt_lo s 4; have hb2 := bt_lo s 5; have hb3 := bt_lo s 6; have hb4 := bt_hi s 4; have hb5 := bt_hi s 5; have hb6 := bt_hi s 6
          have hce := cu_end (m := 65535) (s := s) (k := 11) (rck11 (by omega) (by omega) (by omega)) (by decide) i1 i2 i3
          refine lvCuFd0_1 To Tr Tk nd s o (h := hyCuFd0_p10) rfl ?_ (thXe (v := St' s) (u := St' Tr) rfl rfl (congrArg (fun l => St' l) hce.2.1) (thXv (v := .int .i64 (nd)) rfl rfl (thXe (v := rwG reC o) (u := rwG reC To) rfl rfl (congrArg (rwG reC) hce.1) (thNil)))) runCuFd0_p10
          unfold hyCuFd0_p10
          exact hc (kRn (denX rfl)) <|
           hc (kBytesB (bs := ([] : LB)) .nil (denX rfl)) <|
           hc (lnV rfl rfl (by omega)) <|
           hc (gecF rfl (by omega)) <|
           hc (kNeS (isX rfl) (isSx (l := ([] : LB)) 0 0 rfl) (bnT (nilF (by omega)))) <|
           hc (ixC rfl rfl (by omega)) <|
           hc (necF rfl (by omega)) <|
           hc (ltcT rfl (by omega)) <|
           hnil
        · exfalso; have hb4 := bt_hi s 4; have hb5 := bt_hi s 5; exact cz (rck13 (by omega) (by omega)) (by decide) i3 (by omega)
theorem lfOkCuFd0_1 {l : LF} {h : LH} (To : List (Int × Int × LB × Int)) (Tr : LB) (Tk nd : Int) (x0 : Tk = 11) (x1 : ¬ To.length = 0) (st : Nat × LB × List (Int × Int × LB × Int)) (hI : InvCuFd0 To Tr Tk nd st) (hl : l.hp = some h) (hs : lfSame l h 38 keepCuFd0 .ret 1 320 380 = true) {th0 : LA} {sg0 : List (Nat × Nat)} (hth0 : ∀ X, ThOk (cx nu one 1 laidE laidE_stab) (DCuFd0 To Tr Tk nd st X) th0) (h0 : startOk l h 38 320 322 th0 sg0 (epCuFd0 st) (hpCuFd0 st) = true) {thx : LA} (hthx : ThOk (ECuFd0_1 To Tr Tk nd) (cx nu one 1 laidE laidE_stab) thx) (hx : exitOk l h 38 320 380 thx [(4, .sr 320), (5, .x 0), (6, .ni)] [(302, .b ⟨53, .l [.i .i64 (.ofNat 65535), .sy 321, .x 1, .b false], 0, 0, 0, false, false⟩), (320, .r 2000000 26 4 false)] = true) : LfOk (cx nu one 1 laidE laidE_stab) bodyCuFd0 l :=
  lfOkX (E := ECuFd0_1 To Tr Tk nd) (InvCuFd0 To Tr Tk nd) (muCuFd0 To Tr Tk nd) (DCuFd0 To Tr Tk nd) (fun _ _ => rfl) (fun _ _ => rfl) (fun _ _ => rfl) (fun st X t ht => nuX_keep.trans (rX_keep ((by decide : ∀ t, t ∈ keepCuFd0 → t < 1000000) t ht))) rfl rfl rfl hl hs ebCuFd0 rfl rfl st hI hth0 h0 hthx hx (roundsCuFd0_1 To Tr Tk nd x0 x1)
end Go.Proofs.YtlfmfmegnenohaaDoor.cutterCuts
