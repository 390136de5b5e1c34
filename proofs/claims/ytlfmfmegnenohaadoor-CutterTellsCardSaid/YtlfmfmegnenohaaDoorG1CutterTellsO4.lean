/- A part of the proof: an interpreter of the model's own code on partly known states, and that what it answers is what the program answers. No condition of its own. -/
import Derived.Test.YtlfmfmegnenohaaDoorG1CutterTellsO3
set_option maxRecDepth 100000
set_option linter.unusedVariables false
set_option linter.unusedSimpArgs false
set_option maxHeartbeats 4000000
namespace Go.Proofs.YtlfmfmegnenohaaDoor.cutterTells
open Go Go.AX Go.Proofs Go.Proofs.YtlfmfmegnenohaaDoor
variable {nu : Nat → Value} {one : ∀ i, i < 1000000 → (nu i).oneCell' = true} {E' : Cx} {x' : Ex} {e' : LA} {h' : LE}
noncomputable def fi19 : FI := (tabk.fn.get 19).getD default
theorem fi19_at : tabk.fn.get 19 = some fi19 := by kernel_rfl
theorem fi19_body : fi19.body = some (Tryd.f19.body.getD .skip) := by kernel_rfl
theorem fiB19 : fi19.body.isSome = true := by rw [fi19_body]; rfl
theorem cfA19 : (loopsOf (Tryd.f19.body.getD .skip)).all (fun b => !(keyEq (Go.AX.keyOf b) 8888888)) = true := by kernel_rfl
noncomputable def bodyCu : Code := loopNo (Tryd.f19.body.getD .skip) 0
theorem keyCu : oneKey (loopsOf (Tryd.f19.body.getD .skip)) 2 0 0 = true := by kernel_rfl
def keepCu : List Nat := []
def epCu_0 : LA := [(0, .p 2 0), (1, .x 0), (7, .nils)]
def hpCu_0 : LE := [(2, .b ⟨53, .l [.x 1, .und, .und, .b false], 0, 0, 0, false, false⟩)]
def nuCu_0 (To : List (Int × Int × LB × Int)) (Tr : LB) (Tk m : Int) (s : LB) (o : List (Int × Int × LB × Int)) : List Value := [St' s, .int .i64 (m), St' ([] : LB), .int .i64 ((s.length : Int)), .int .u8 (bt s 0), .int .u8 (bt s 4), .int .i64 ((bt s 4)), .int .i64 ((bt s 4) * 256), .int .u8 (bt s 5), .int .i64 ((bt s 5)), .int .i64 ((bt s 4) * 256 + (bt s 5)), .int .i64 ((bt s 4) * 256 + 8), .int .i64 ((bt s 4) * 256 + (bt s 5) + 8), .int .u8 (bt s 6), .int .i64 ((bt s 6)), .int .i64 ((bt s 4) * 256 + (bt s 5) + (bt s 6) + 8), .int .u8 (bt s 1), .int .i64 ((bt s 1)), .int .u8 (bt s 2), .int .i64 ((bt s 2)), .int .i64 ((bt s 2) * 256), .int .u8 (bt s 3), .int .i64 ((bt s 3)), .int .i64 ((bt s 2) * 256 + (bt s 3)), .int .i64 ((bt s 4) * 256 + (bt s 5) + 8), St' (rcC s), St' (List.drop (Int.toNat ((bt s 4) * 256 + (bt s 5) + (bt s 6) + 8)) s), St' ([] : LB), .int .i64 ((s.length : Int)), St' ([] : LB), .int .i64 ((s.length : Int)), .int .u8 (bt s 0), St' ([] : LB), .int .i64 ((s.length : Int)), .int .u8 (bt s 0), St' ([] : LB), .int .i64 ((s.length : Int)), .int .u8 (bt s 0), St' ([] : LB), .int .i64 ((s.length : Int)), .int .u8 (bt s 0), .int .u8 (bt s 4), .int .i64 ((bt s 4)), .int .i64 ((bt s 4) * 256), .int .u8 (bt s 5), .int .i64 ((bt s 5)), .int .i64 ((bt s 4) * 256 + (bt s 5)), St' ([] : LB), .int .i64 ((s.length : Int)), .int .u8 (bt s 0), .int .u8 (bt s 4), .int .i64 ((bt s 4)), .int .i64 ((bt s 4) * 256), .int .u8 (bt s 5), .int .i64 ((bt s 5)), .int .i64 ((bt s 4) * 256 + (bt s 5)), St' ([] : LB), .int .i64 ((s.length : Int)), .int .u8 (bt s 0), .int .u8 (bt s 4), .int .i64 ((bt s 4)), .int .i64 ((bt s 4) * 256), .int .u8 (bt s 5), .int .i64 ((bt s 5)), .int .i64 ((bt s 4) * 256 + (bt s 5)), .int .i64 ((bt s 4) * 256 + 8), .int .i64 ((bt s 4) * 256 + (bt s 5) + 8), .int .u8 (bt s 6), .int .i64 ((bt s 6)), .int .i64 ((bt s 4) * 256 + (bt s 5) + (bt s 6) + 8), St' ([] : LB), .int .i64 ((s.length : Int)), .int .u8 (bt s 0), .int .u8 (bt s 4), .int .i64 ((bt s 4)), .int .i64 ((bt s 4) * 256), .int .u8 (bt s 5), .int .i64 ((bt s 5)), .int .i64 ((bt s 4) * 256 + (bt s 5)), .int .i64 ((bt s 4) * 256 + 8), .int .i64 ((bt s 4) * 256 + (bt s 5) + 8), .int .u8 (bt s 6), .int .i64 ((bt s 6)), .int .i64 ((bt s 4) * 256 + (bt s 5) + (bt s 6) + 8), .int .u8 (bt s 1)]
def roCu_0 (To : List (Int × Int × LB × Int)) (Tr : LB) (Tk m : Int) (s : LB) (o : List (Int × Int × LB × Int)) : List Value := [rwS ([] : List LB), rwG reC (([] : List (Int × Int × LB × Int)) ++ [((bt s 1), (bt s 2) * 256 + (bt s 3), (rcC s), (bt s 6))]), rwS ([] : List LB), rwS ([] : List LB), rwS ([] : List LB), rwS ([] : List LB), rwS ([] : List LB), rwS ([] : List LB), rwS ([] : List LB), rwS ([] : List LB)]
def epCu_1 : LA := [(0, .p 2 0), (1, .x 0), (7, .sr 40)]
def hpCu_1 : LE := [(2, .b ⟨53, .l [.x 1, .und, .und, .b false], 0, 0, 0, false, false⟩), (40, .r 2000000 26 4 false)]
def nuCu_1 (To : List (Int × Int × LB × Int)) (Tr : LB) (Tk m : Int) (s : LB) (o : List (Int × Int × LB × Int)) : List Value := [St' s, .int .i64 (m), St' ([] : LB), .int .i64 ((s.length : Int)), .int .u8 (bt s 0), .int .u8 (bt s 4), .int .i64 ((bt s 4)), .int .i64 ((bt s 4) * 256), .int .u8 (bt s 5), .int .i64 ((bt s 5)), .int .i64 ((bt s 4) * 256 + (bt s 5)), .int .i64 ((bt s 4) * 256 + 8), .int .i64 ((bt s 4) * 256 + (bt s 5) + 8), .int .u8 (bt s 6), .int .i64 ((bt s 6)), .int .i64 ((bt s 4) * 256 + (bt s 5) + (bt s 6) + 8), .int .u8 (bt s 1), .int .i64 ((bt s 1)), .int .u8 (bt s 2), .int .i64 ((bt s 2)), .int .i64 ((bt s 2) * 256), .int .u8 (bt s 3), .int .i64 ((bt s 3)), .int .i64 ((bt s 2) * 256 + (bt s 3)), .int .i64 ((bt s 4) * 256 + (bt s 5) + 8), St' (rcC s), St' (List.drop (Int.toNat ((bt s 4) * 256 + (bt s 5) + (bt s 6) + 8)) s), St' ([] : LB), .int .i64 ((s.length : Int)), St' ([] : LB), .int .i64 ((s.length : Int)), .int .u8 (bt s 0), St' ([] : LB), .int .i64 ((s.length : Int)), .int .u8 (bt s 0), St' ([] : LB), .int .i64 ((s.length : Int)), .int .u8 (bt s 0), St' ([] : LB), .int .i64 ((s.length : Int)), .int .u8 (bt s 0), .int .u8 (bt s 4), .int .i64 ((bt s 4)), .int .i64 ((bt s 4) * 256), .int .u8 (bt s 5), .int .i64 ((bt s 5)), .int .i64 ((bt s 4) * 256 + (bt s 5)), St' ([] : LB), .int .i64 ((s.length : Int)), .int .u8 (bt s 0), .int .u8 (bt s 4), .int .i64 ((bt s 4)), .int .i64 ((bt s 4) * 256), .int .u8 (bt s 5), .int .i64 ((bt s 5)), .int .i64 ((bt s 4) * 256 + (bt s 5)), St' ([] : LB), .int .i64 ((s.length : Int)), .int .u8 (bt s 0), .int .u8 (bt s 4), .int .i64 ((bt s 4)), .int .i64 ((bt s 4) * 256), .int .u8 (bt s 5), .int .i64 ((bt s 5)), .int .i64 ((bt s 4) * 256 + (bt s 5)), .int .i64 ((bt s 4) * 256 + 8), .int .i64 ((bt s 4) * 256 + (bt s 5) + 8), .int .u8 (bt s 6), .int .i64 ((bt s 6)), .int .i64 ((bt s 4) * 256 + (bt s 5) + (bt s 6) + 8), St' ([] : LB), .int .i64 ((s.length : Int)), .int .u8 (bt s 0), .int .u8 (bt s 4), .int .i64 ((bt s 4)), .int .i64 ((bt s 4) * 256), .int .u8 (bt s 5), .int .i64 ((bt s 5)), .int .i64 ((bt s 4) * 256 + (bt s 5)), .int .i64 ((bt s 4) * 256 + 8), .int .i64 ((bt s 4) * 256 + (bt s 5) + 8), .int .u8 (bt s 6), .int .i64 ((bt s 6)), .int .i64 ((bt s 4) * 256 + (bt s 5) + (bt s 6) + 8), .int .u8 (bt s 1)]
def roCu_1 (To : List (Int × Int × LB × Int)) (Tr : LB) (Tk m : Int) (s : LB) (o : List (Int × Int × LB × Int)) : List Value := [rwG reC o, rwS ([] : List LB), rwG reC (o ++ [((bt s 1), (bt s 2) * 256 + (bt s 3), (rcC s), (bt s 6))]), rwS ([] : List LB), rwS ([] : List LB), rwS ([] : List LB), rwS ([] : List LB), rwS ([] : List LB), rwS ([] : List LB), rwS ([] : List LB), rwS ([] : List LB)]
def epCu (st : Nat × LB × List (Int × Int × LB × Int)) : LA := if st.1 = 0 then epCu_0 else epCu_1
def hpCu (st : Nat × LB × List (Int × Int × LB × Int)) : LE := if st.1 = 0 then hpCu_0 else hpCu_1
def nuCu (To : List (Int × Int × LB × Int)) (Tr : LB) (Tk m : Int) (st : Nat × LB × List (Int × Int × LB × Int)) : List Value := if st.1 = 0 then nuCu_0 To Tr Tk m (st.2.1) (st.2.2) else nuCu_1 To Tr Tk m (st.2.1) (st.2.2)
def roCu (To : List (Int × Int × LB × Int)) (Tr : LB) (Tk m : Int) (st : Nat × LB × List (Int × Int × LB × Int)) : List Value := if st.1 = 0 then roCu_0 To Tr Tk m (st.2.1) (st.2.2) else roCu_1 To Tr Tk m (st.2.1) (st.2.2)
theorem onCu (To : List (Int × Int × LB × Int)) (Tr : LB) (Tk m : Int) (st : Nat × LB × List (Int × Int × LB × Int)) : ∀ j, (nuL (nuCu To Tr Tk m st) j).oneCell' = true := by
  intro j
  unfold nuCu
  by_cases g0 : st.1 = 0
  · rw [if_pos g0]; exact nuL_one (l := nuCu_0 To Tr Tk m (st.2.1) (st.2.2)) rfl j
  rw [if_neg g0]
  exact nuL_one (l := nuCu_1 To Tr Tk m (st.2.1) (st.2.2)) rfl j
theorem ebCu (st : Nat × LB × List (Int × Int × LB × Int)) : (lfB (epCu st) && lfC keepCu) = true := by
  unfold epCu
  by_cases g0 : st.1 = 0
  · rw [if_pos g0]; rfl
  rw [if_neg g0]
  rfl
noncomputable def DCu (To : List (Int × Int × LB × Int)) (Tr : LB) (Tk m : Int) (st : Nat × LB × List (Int × Int × LB × Int)) (X : Nat → Value) : Cx := cx (nuX (nuCu To Tr Tk m st) (rX (roCu To Tr Tk m st) X)) (nuX_one (onCu To Tr Tk m st)) 1 laidE laidE_stab
def InvCu (To : List (Int × Int × LB × Int)) (Tr : LB) (Tk m : Int) (st : Nat × LB × List (Int × Int × LB × Int)) : Prop := ((st.2.1).length ≤ 100000) ∧ ((st.2.2) ++ (cutS m (st.2.1)).1 = To) ∧ ((cutS m (st.2.1)).2.1 = Tr) ∧ ((cutS m (st.2.1)).2.2 = Tk) ∧ (8 * (st.2.2).length + (st.2.1).length ≤ 100000) ∧ ((st.1) = 0 → (st.2.2) = []) ∧ ((st.1) = 1 → 1 ≤ (st.2.2).length) ∧ ((st.1) < 2)
abbrev CjCu (To : List (Int × Int × LB × Int)) (Tr : LB) (Tk m : Int) (tag : Nat) (s : LB) (o : List (Int × Int × LB × Int)) : Prop := (s.length ≤ 100000) ∧ (o ++ (cutS m s).1 = To) ∧ ((cutS m s).2.1 = Tr) ∧ ((cutS m s).2.2 = Tk) ∧ (8 * o.length + s.length ≤ 100000) ∧ (tag = 0 → o = []) ∧ (tag = 1 → 1 ≤ o.length) ∧ (tag < 2)
theorem mkICu (To : List (Int × Int × LB × Int)) (Tr : LB) (Tk m : Int) (tag : Nat) (s : LB) (o : List (Int × Int × LB × Int)) (h : CjCu To Tr Tk m tag s o) : InvCu To Tr Tk m (tag, s, o) := h
theorem unICu (To : List (Int × Int × LB × Int)) (Tr : LB) (Tk m : Int) (tag : Nat) (s : LB) (o : List (Int × Int × LB × Int)) (h : InvCu To Tr Tk m (tag, s, o)) : (s.length ≤ 100000) ∧ (o ++ (cutS m s).1 = To) ∧ ((cutS m s).2.1 = Tr) ∧ ((cutS m s).2.2 = Tk) ∧ (8 * o.length + s.length ≤ 100000) ∧ (tag = 0 → o = []) ∧ (tag = 1 → 1 ≤ o.length) ∧ (tag < 2) := h
def muCu (To : List (Int × Int × LB × Int)) (Tr : LB) (Tk m : Int) (st : Nat × LB × List (Int × Int × LB × Int)) : Nat := (st.2.1).length
abbrev RHCu (To : List (Int × Int × LB × Int)) (Tr : LB) (Tk m : Int) (E' : Cx) (ex' : Ex) (epx' : LA) (hpx' : LE) (st : Nat × LB × List (Int × Int × LB × Int)) (X : Nat → Value) : Prop := RoundH E' bodyCu keepCu 38 ex' 1 40 42 100 epCu hpCu epx' hpx' (InvCu To Tr Tk m) (muCu To Tr Tk m) (DCu To Tr Tk m) st X
theorem sLCu_0 (To : List (Int × Int × LB × Int)) (Tr : LB) (Tk m : Int) (s : LB) (o : List (Int × Int × LB × Int)) {X : Nat → Value} {tb : Tab} {L : List LF} (y : Nat × LB × List (Int × Int × LB × Int)) {th : LA} {sg : List (Nat × Nat)} (hall : AllOk (cx (nuX (nuCu_0 To Tr Tk m s o) (rX (roCu_0 To Tr Tk m s o) X)) (nuX_one (nuL_one (l := nuCu_0 To Tr Tk m s o) rfl)) 1 laidE laidE_stab) tb) (hlp : LpOk (cx (nuX (nuCu_0 To Tr Tk m s o) (rX (roCu_0 To Tr Tk m s o) X)) (nuX_one (nuL_one (l := nuCu_0 To Tr Tk m s o) rfl)) 1 laidE laidE_stab) L bodyCu) (hng : tb.ng = 1) (hy : InvCu To Tr Tk m y) (lt : muCu To Tr Tk m y < muCu To Tr Tk m (0, s, o)) (ht : ThOk (cx (nuX (nuCu_0 To Tr Tk m s o) (rX (roCu_0 To Tr Tk m s o) X)) (nuX_one (nuL_one (l := nuCu_0 To Tr Tk m s o) rfl)) 1 laidE laidE_stab) (DCu To Tr Tk m y X) th) (run : okRdH (code tb 4000 L bodyCu (envOf (headOf epCu_0 keepCu) 38) ⟨lhSet hpCu_0 .leaf, 42, 0, 0⟩) .normal keepCu 38 100 th sg 40 42 (epCu y) (hpCu y) = true) : RHCu To Tr Tk m E' x' e' h' (0, s, o) X :=
  RoundH.next (tb := tb) (L := L) (f := 4000) y hall hlp hng hy lt ht run
theorem lLCu_0 (To : List (Int × Int × LB × Int)) (Tr : LB) (Tk m : Int) (s : LB) (o : List (Int × Int × LB × Int)) {X : Nat → Value} {tb : Tab} {L : List LF} {th : LA} {sg : List (Nat × Nat)} (hne : exB x' .normal = false) (hall : AllOk (cx (nuX (nuCu_0 To Tr Tk m s o) (rX (roCu_0 To Tr Tk m s o) X)) (nuX_one (nuL_one (l := nuCu_0 To Tr Tk m s o) rfl)) 1 laidE laidE_stab) tb) (hlp : LpOk (cx (nuX (nuCu_0 To Tr Tk m s o) (rX (roCu_0 To Tr Tk m s o) X)) (nuX_one (nuL_one (l := nuCu_0 To Tr Tk m s o) rfl)) 1 laidE laidE_stab) L bodyCu) (hng : tb.ng = 1) (ht : ThOk (cx (nuX (nuCu_0 To Tr Tk m s o) (rX (roCu_0 To Tr Tk m s o) X)) (nuX_one (nuL_one (l := nuCu_0 To Tr Tk m s o) rfl)) 1 laidE laidE_stab) E' th) (run : okRdH (code tb 4000 L bodyCu (envOf (headOf epCu_0 keepCu) 38) ⟨lhSet hpCu_0 .leaf, 42, 0, 0⟩) x' keepCu 38 100 th sg 40 100 e' h' = true) : RHCu To Tr Tk m E' x' e' h' (0, s, o) X :=
  RoundH.leave (tb := tb) (L := L) (f := 4000) hall hlp hng hne ht run
noncomputable abbrev RNCu_0 (h : LK) (x : Ex) (th : LA) (sg : List (Nat × Nat)) (m : Nat) (ep : LA) (hp : LE) : Bool := okRdH (code (tbl h) 4000 [] bodyCu (envOf (headOf epCu_0 keepCu) 38) ⟨lhSet hpCu_0 .leaf, 42, 0, 0⟩) x keepCu 38 100 th sg 40 m ep hp
theorem stCu_0 (To : List (Int × Int × LB × Int)) (Tr : LB) (Tk m : Int) (s : LB) (o : List (Int × Int × LB × Int)) {X : Nat → Value} {h : LK} (y : Nat × LB × List (Int × Int × LB × Int)) {th : LA} {sg : List (Nat × Nat)} (ho : ∀ a' r', (a', r') ∈ h → HOk (cx (nuX (nuCu_0 To Tr Tk m s o) (rX (roCu_0 To Tr Tk m s o) X)) (nuX_one (nuL_one (l := nuCu_0 To Tr Tk m s o) rfl)) 1 laidE laidE_stab) a' r') (hy : InvCu To Tr Tk m y) (lt : muCu To Tr Tk m y < muCu To Tr Tk m (0, s, o)) (ht : ThOk (cx (nuX (nuCu_0 To Tr Tk m s o) (rX (roCu_0 To Tr Tk m s o) X)) (nuX_one (nuL_one (l := nuCu_0 To Tr Tk m s o) rfl)) 1 laidE laidE_stab) (DCu To Tr Tk m y X) th) (run : RNCu_0 h .normal th sg 42 (epCu y) (hpCu y) = true) : RHCu To Tr Tk m E' x' e' h' (0, s, o) X :=
  RoundH.next (tb := tbl h) (L := []) (f := 4000) y ((tabkOk _ _).hyps ho) (LpOk.nil _) rfl hy lt ht run
theorem lvCu_0 (To : List (Int × Int × LB × Int)) (Tr : LB) (Tk m : Int) (s : LB) (o : List (Int × Int × LB × Int)) {X : Nat → Value} {h : LK} {th : LA} {sg : List (Nat × Nat)} (hne : exB x' .normal = false) (ho : ∀ a' r', (a', r') ∈ h → HOk (cx (nuX (nuCu_0 To Tr Tk m s o) (rX (roCu_0 To Tr Tk m s o) X)) (nuX_one (nuL_one (l := nuCu_0 To Tr Tk m s o) rfl)) 1 laidE laidE_stab) a' r') (ht : ThOk (cx (nuX (nuCu_0 To Tr Tk m s o) (rX (roCu_0 To Tr Tk m s o) X)) (nuX_one (nuL_one (l := nuCu_0 To Tr Tk m s o) rfl)) 1 laidE laidE_stab) E' th) (run : RNCu_0 h x' th sg 100 e' h' = true) : RHCu To Tr Tk m E' x' e' h' (0, s, o) X :=
  RoundH.leave (tb := tbl h) (L := []) (f := 4000) ((tabkOk _ _).hyps ho) (LpOk.nil _) rfl hne ht run
theorem sLCu_1 (To : List (Int × Int × LB × Int)) (Tr : LB) (Tk m : Int) (s : LB) (o : List (Int × Int × LB × Int)) {X : Nat → Value} {tb : Tab} {L : List LF} (y : Nat × LB × List (Int × Int × LB × Int)) {th : LA} {sg : List (Nat × Nat)} (hall : AllOk (cx (nuX (nuCu_1 To Tr Tk m s o) (rX (roCu_1 To Tr Tk m s o) X)) (nuX_one (nuL_one (l := nuCu_1 To Tr Tk m s o) rfl)) 1 laidE laidE_stab) tb) (hlp : LpOk (cx (nuX (nuCu_1 To Tr Tk m s o) (rX (roCu_1 To Tr Tk m s o) X)) (nuX_one (nuL_one (l := nuCu_1 To Tr Tk m s o) rfl)) 1 laidE laidE_stab) L bodyCu) (hng : tb.ng = 1) (hy : InvCu To Tr Tk m y) (lt : muCu To Tr Tk m y < muCu To Tr Tk m (1, s, o)) (ht : ThOk (cx (nuX (nuCu_1 To Tr Tk m s o) (rX (roCu_1 To Tr Tk m s o) X)) (nuX_one (nuL_one (l := nuCu_1 To Tr Tk m s o) rfl)) 1 laidE laidE_stab) (DCu To Tr Tk m y X) th) (run : okRdH (code tb 4000 L bodyCu (envOf (headOf epCu_1 keepCu) 38) ⟨lhSet hpCu_1 .leaf, 42, 0, 0⟩) .normal keepCu 38 100 th sg 40 42 (epCu y) (hpCu y) = true) : RHCu To Tr Tk m E' x' e' h' (1, s, o) X :=
  RoundH.next (tb := tb) (L := L) (f := 4000) y hall hlp hng hy lt ht run
theorem lLCu_1 (To : List (Int × Int × LB × Int)) (Tr : LB) (Tk m : Int) (s : LB) (o : List (Int × Int × LB × Int)) {X : Nat → Value} {tb : Tab} {L : List LF} {th : LA} {sg : List (Nat × Nat)} (hne : exB x' .normal = false) (hall : AllOk (cx (nuX (nuCu_1 To Tr Tk m s o) (rX (roCu_1 To Tr Tk m s o) X)) (nuX_one (nuL_one (l := nuCu_1 To Tr Tk m s o) rfl)) 1 laidE laidE_stab) tb) (hlp : LpOk (cx (nuX (nuCu_1 To Tr Tk m s o) (rX (roCu_1 To Tr Tk m s o) X)) (nuX_one (nuL_one (l := nuCu_1 To Tr Tk m s o) rfl)) 1 laidE laidE_stab) L bodyCu) (hng : tb.ng = 1) (ht : ThOk (cx (nuX (nuCu_1 To Tr Tk m s o) (rX (roCu_1 To Tr Tk m s o) X)) (nuX_one (nuL_one (l := nuCu_1 To Tr Tk m s o) rfl)) 1 laidE laidE_stab) E' th) (run : okRdH (code tb 4000 L bodyCu (envOf (headOf epCu_1 keepCu) 38) ⟨lhSet hpCu_1 .leaf, 42, 0, 0⟩) x' keepCu 38 100 th sg 40 100 e' h' = true) : RHCu To Tr Tk m E' x' e' h' (1, s, o) X :=
  RoundH.leave (tb := tb) (L := L) (f := 4000) hall hlp hng hne ht run
noncomputable abbrev RNCu_1 (h : LK) (x : Ex) (th : LA) (sg : List (Nat × Nat)) (m : Nat) (ep : LA) (hp : LE) : Bool := okRdH (code (tbl h) 4000 [] bodyCu (envOf (headOf epCu_1 keepCu) 38) ⟨lhSet hpCu_1 .leaf, 42, 0, 0⟩) x keepCu 38 100 th sg 40 m ep hp
theorem stCu_1 (To : List (Int × Int × LB × Int)) (Tr : LB) (Tk m : Int) (s : LB) (o : List (Int × Int × LB × Int)) {X : Nat → Value} {h : LK} (y : Nat × LB × List (Int × Int × LB × Int)) {th : LA} {sg : List (Nat × Nat)} (ho : ∀ a' r', (a', r') ∈ h → HOk (cx (nuX (nuCu_1 To Tr Tk m s o) (rX (roCu_1 To Tr Tk m s o) X)) (nuX_one (nuL_one (l := nuCu_1 To Tr Tk m s o) rfl)) 1 laidE laidE_stab) a' r') (hy : InvCu To Tr Tk m y) (lt : muCu To Tr Tk m y < muCu To Tr Tk m (1, s, o)) (ht : ThOk (cx (nuX (nuCu_1 To Tr Tk m s o) (rX (roCu_1 To Tr Tk m s o) X)) (nuX_one (nuL_one (l := nuCu_1 To Tr Tk m s o) rfl)) 1 laidE laidE_stab) (DCu To Tr Tk m y X) th) (run : RNCu_1 h .normal th sg 42 (epCu y) (hpCu y) = true) : RHCu To Tr Tk m E' x' e' h' (1, s, o) X :=
  RoundH.next (tb := tbl h) (L := []) (f := 4000) y ((tabkOk _ _).hyps ho) (LpOk.nil _) rfl hy lt ht run
theorem lvCu_1 (To : List (Int × Int × LB × Int)) (Tr : LB) (Tk m : Int) (s : LB) (o : List (Int × Int × LB × Int)) {X : Nat → Value} {h : LK} {th : LA} {sg : List (Nat × Nat)} (hne : exB x' .normal = false) (ho : ∀ a' r', (a', r') ∈ h → HOk (cx (nuX (nuCu_1 To Tr Tk m s o) (rX (roCu_1 To Tr Tk m s o) X)) (nuX_one (nuL_one (l := nuCu_1 To Tr Tk m s o) rfl)) 1 laidE laidE_stab) a' r') (ht : ThOk (cx (nuX (nuCu_1 To Tr Tk m s o) (rX (roCu_1 To Tr Tk m s o) X)) (nuX_one (nuL_one (l := nuCu_1 To Tr Tk m s o) rfl)) 1 laidE laidE_stab) E' th) (run : RNCu_1 h x' th sg 100 e' h' = true) : RHCu To Tr Tk m E' x' e' h' (1, s, o) X :=
  RoundH.leave (tb := tbl h) (L := []) (f := 4000) ((tabkOk _ _).hyps ho) (LpOk.nil _) rfl hne ht run
def hyCu_p0 : LK := [(.rn, .x 2000000), (.bytes [], .x 2), (.len (.x 0), .x 3), (.bin .geq (.x 3) (.i .i64 (.ofNat 6)), .b true), (.idx (.x 0) (.i .i64 (.ofNat 0)), .x 4), (.bin .eql (.x 4) (.i .u8 (.ofNat 1)), .b true), (.idx (.x 0) (.i .i64 (.ofNat 4)), .x 5), (.conv 3 (.x 5), .x 6), (.bin .shl (.x 6) (.i .u64 (.ofNat 8)), .x 7), (.idx (.x 0) (.i .i64 (.ofNat 5)), .x 8), (.conv 3 (.x 8), .x 9), (.bin .add (.x 7) (.x 9), .x 10), (.bin .gtr (.x 10) (.x 1), .b false), (.bin .neq (.x 0) (.s 0 0), .b true), (.bin .neq (.x 4) (.i .u8 (.ofNat 1)), .b false), (.bin .lss (.x 3) (.i .i64 (.ofNat 8)), .b false), (.bin .add (.i .i64 (.ofNat 8)) (.x 7), .x 11), (.bin .add (.x 11) (.x 9), .x 12), (.idx (.x 0) (.i .i64 (.ofNat 6)), .x 13), (.conv 3 (.x 13), .x 14), (.bin .add (.x 12) (.x 14), .x 15), (.bin .lss (.x 3) (.x 15), .b false), (.idx (.x 0) (.i .i64 (.ofNat 1)), .x 16), (.bin .eql (.x 16) (.i .u8 (.ofNat 0)), .b false), (.conv 3 (.x 16), .x 17), (.idx (.x 0) (.i .i64 (.ofNat 2)), .x 18), (.conv 3 (.x 18), .x 19), (.bin .shl (.x 19) (.i .u64 (.ofNat 8)), .x 20), (.idx (.x 0) (.i .i64 (.ofNat 3)), .x 21), (.conv 3 (.x 21), .x 22), (.bin .or (.x 20) (.x 22), .x 23), (.bin .sub (.x 15) (.x 14), .x 24), (.sub (.x 0) (some (.i .i64 (.ofNat 8))) (some (.x 24)), .x 25), (.sub (.x 0) (some (.x 15)) none, .x 26), (.ra (.x 2000000) [.x 17, .x 23, .x 25, .x 14], .x 2000001), (.rf (.x 2000001) 4 40, .b true)]
theorem runCu_p0 : RNCu_0 hyCu_p0 .normal [(0, .x 26), (1, .x 1), (2000000, .x 2000001)] [(40, 48)] 42 epCu_1 hpCu_1 = true := by kernel_rfl
theorem nxCu_p0 (To : List (Int × Int × LB × Int)) (Tr : LB) (Tk m : Int) (s : LB) (o : List (Int × Int × LB × Int)) (X : Nat → Value) (hI : InvCu To Tr Tk m (0, s, o)) (h0 : 6 ≤ (s.length : Int)) (h1 : bt s 0 = 1) (h2 : ¬ (m < (bt s 4) * 256 + (bt s 5))) (h5 : ¬ ((s.length : Int) < 8)) (h6 : ¬ ((s.length : Int) < (bt s 4) * 256 + (bt s 5) + (bt s 6) + 8)) (h7 : ¬ (bt s 1 = 0)) : RHCu To Tr Tk m E' x' e' h' (0, s, o) X := by
  obtain ⟨i0, i1, i2, i3, i4, i5, i6, it⟩ := unICu To Tr Tk m 0 s o hI
  have := bt_lo s 0; have := bt_hi s 0
  have := bt_lo s 4; have := bt_hi s 4
  have := bt_lo s 5; have := bt_hi s 5
  have := bt_lo s 6; have := bt_hi s 6
  have := bt_lo s 1; have := bt_hi s 1
  have := bt_lo s 2; have := bt_hi s 2
  have := bt_lo s 3; have := bt_hi s 3
  have := rcC_len (s := s) (by omega)
  have := lenDrop (l := s) (P := (bt s 4) * 256 + (bt s 5) + (bt s 6) + 8) (by omega) (by omega)
  have hb1 := bt_lo s 4; have hb2 := bt_lo s 5; have hb3 := bt_lo s 6; have hb4 := bt_hi s 4; have hb5 := bt_hi s 5; have hb6 := bt_hi s 6
  have hcu := cu_rec (m := m) (s := s) (rest := (List.drop (Int.toNat ((bt s 4) * 256 + (bt s 5) + (bt s 6) + 8)) s)) (o := []) (To := To) (Tr := Tr) (Tk := Tk) (rck00 (by omega) (by omega) (by omega) (by omega) (by omega)) (by congr 2; unfold rsz; omega) (by rw [i5 rfl] at i1; exact i1) i2 i3
  refine stCu_0 To Tr Tk m s o (h := hyCu_p0) (1, (List.drop (Int.toNat ((bt s 4) * 256 + (bt s 5) + (bt s 6) + 8)) s), (([] : List (Int × Int × LB × Int)) ++ [((bt s 1), (bt s 2) * 256 + (bt s 3), (rcC s), (bt s 6))])) ?_ (mkICu To Tr Tk m 1 (List.drop (Int.toNat ((bt s 4) * 256 + (bt s 5) + (bt s 6) + 8)) s) (([] : List (Int × Int × LB × Int)) ++ [((bt s 1), (bt s 2) * 256 + (bt s 3), (rcC s), (bt s 6))]) ⟨by first | omega | (rw [List.length_drop]; omega), hcu.1, hcu.2.1, hcu.2.2, by simp only [List.length_append, List.length_cons, List.length_nil, List.length_drop]; omega, fun h => by omega, fun _ => by simp, by omega⟩) (by show ((List.drop (Int.toNat ((bt s 4) * 256 + (bt s 5) + (bt s 6) + 8)) s)).length < s.length; rw [List.length_drop]; omega) (thXv (v := St' (List.drop (Int.toNat ((bt s 4) * 256 + (bt s 5) + (bt s 6) + 8)) s)) rfl rfl (thXv (v := .int .i64 (m)) rfl rfl (thXv (v := rwG reC (([] : List (Int × Int × LB × Int)) ++ [((bt s 1), (bt s 2) * 256 + (bt s 3), (rcC s), (bt s 6))])) rfl rfl (thNil)))) runCu_p0
  unfold hyCu_p0
  exact hc (kRn (denX rfl)) <|
   hc (kBytesB (bs := ([] : LB)) .nil (denX rfl)) <|
   hc (lnV rfl rfl (by omega)) <|
   hc (gecT rfl (by omega)) <|
   hc (ixC rfl rfl (by omega)) <|
   hc (eqcT rfl (by omega)) <|
   hc (ixC rfl rfl (by omega)) <|
   hc (kConvF (isX rfl) tu3 (denX rfl) (fI64 (by omega) (by omega))) <|
   hc (kShlM 8 256 rfl (isX rfl) (isZ (m := 8) rfl) (denX rfl) rfl (by decide) (by omega) (fI64 (by omega) (by omega))) <|
   hc (ixC rfl rfl (by omega)) <|
   hc (kConvF (isX rfl) tu3 (denX rfl) (fI64 (by omega) (by omega))) <|
   hc (adX rfl rfl rfl (by omega)) <|
   hc (gtF rfl rfl (by omega)) <|
   hc (kNeS (isX rfl) (isSx (l := ([] : LB)) 0 0 rfl) (bnT (nilF (by omega)))) <|
   hc (necF rfl (by omega)) <|
   hc (ltcF rfl (by omega)) <|
   hc (kAdd (isZ (m := 8) rfl) (isX rfl) (denX rfl) (by omega) (fI64 (by omega) (by omega))) <|
   hc (adX rfl rfl rfl (by omega)) <|
   hc (ixC rfl rfl (by omega)) <|
   hc (kConvF (isX rfl) tu3 (denX rfl) (fI64 (by omega) (by omega))) <|
   hc (adX rfl rfl rfl (by omega)) <|
   hc (ltF rfl rfl (by omega)) <|
   hc (ixC rfl rfl (by omega)) <|
   hc (eqcF rfl (by omega)) <|
   hc (kConvF (isX rfl) tu3 (denX rfl) (fI64 (by omega) (by omega))) <|
   hc (ixC rfl rfl (by omega)) <|
   hc (kConvF (isX rfl) tu3 (denX rfl) (fI64 (by omega) (by omega))) <|
   hc (kShlM 8 256 rfl (isX rfl) (isZ (m := 8) rfl) (denX rfl) rfl (by decide) (by omega) (fI64 (by omega) (by omega))) <|
   hc (ixC rfl rfl (by omega)) <|
   hc (kConvF (isX rfl) tu3 (denX rfl) (fI64 (by omega) (by omega))) <|
   hc (kOrM 8 256 rfl (isX rfl) (isX rfl) (denX rfl) (by omega) (by omega) (fI64 (by omega) (by omega)) (fI64 (by omega) (by omega)) (by omega) (by omega) (by omega) (fI64 (by omega) (by omega))) <|
   hc (sbX rfl rfl rfl (by omega)) <|
   hc (kMid (P := 8) (Q := (bt s 4) * 256 + (bt s 5) + 8) (isX rfl) (.inr ⟨_, _, rfl, (isZ (m := 8) rfl)⟩) (.inr ⟨_, _, rfl, (isX rfl)⟩) (by omega) (by omega) (by omega) (denX (congrArg (fun l => St' l) (rcC_mid (by omega) (by omega))))) <|
   hc (drV rfl rfl rfl (by omega)) <|
   hc (kRaG (f := reC) (l := ([] : List (Int × Int × LB × Int))) (a := ((bt s 1), (bt s 2) * 256 + (bt s 3), (rcC s), (bt s 6))) (isX rfl) (isL4 (isX rfl) (isX rfl) (isX rfl) (isX rfl)) (denX rfl)) <|
   hc (kRfG reC_len (isX rfl) (by first | (rw [List.length_append]; omega) | (first | omega | (simp <;> omega))) (by first | (rw [List.length_append]; omega) | (first | omega | (simp <;> omega)))) <|
   hnil
def hyCu_p1 : LK := [(.rn, .x 2000002), (.bytes [], .x 27), (.len (.x 0), .x 28), (.bin .geq (.x 28) (.i .i64 (.ofNat 6)), .b false), (.bin .neq (.x 0) (.s 0 0), .b false), (.bin .lss (.x 28) (.i .i64 (.ofNat 8)), .b true)]
theorem runCu_p1 : RNCu_0 hyCu_p1 .ret [(0, .x 0), (1, .x 1)] [] 100 [(4, .nils), (5, .x 0), (6, .ni)] [(2, .b ⟨53, .l [.x 1, .und, .und, .b false], 0, 0, 0, false, false⟩)] = true := by kernel_rfl
def hyCu_p2 : LK := [(.rn, .x 2000003), (.bytes [], .x 29), (.len (.x 0), .x 30), (.bin .geq (.x 30) (.i .i64 (.ofNat 6)), .b false), (.bin .neq (.x 0) (.s 0 0), .b true), (.idx (.x 0) (.i .i64 (.ofNat 0)), .x 31), (.bin .neq (.x 31) (.i .u8 (.ofNat 1)), .b false), (.bin .lss (.x 30) (.i .i64 (.ofNat 8)), .b true)]
theorem runCu_p2 : RNCu_0 hyCu_p2 .ret [(0, .x 0), (1, .x 1)] [] 100 [(4, .nils), (5, .x 0), (6, .ni)] [(2, .b ⟨53, .l [.x 1, .und, .und, .b false], 0, 0, 0, false, false⟩)] = true := by kernel_rfl
def hyCu_p3 : LK := [(.rn, .x 2000004), (.bytes [], .x 32), (.len (.x 0), .x 33), (.bin .geq (.x 33) (.i .i64 (.ofNat 6)), .b false), (.bin .neq (.x 0) (.s 0 0), .b true), (.idx (.x 0) (.i .i64 (.ofNat 0)), .x 34), (.bin .neq (.x 34) (.i .u8 (.ofNat 1)), .b true)]
def lh1 : LH := ⟨1, 71, 81, [(46, .b ⟨29, .l [.i .i64 (.ofNat 0)], 0, 0, 0, false, false⟩)], [(46, .b ⟨29, .l [.i .i64 (.ofNat 13)], 0, 0, 0, false, false⟩)]⟩
def lf1 : LF := ⟨8888888, 0, [(0, .ifc 68 (.ag [.i .i64 (.ofNat 13), .s 27 45430407375676916831998826942035274374409028507990266741766889569])), (1, .ifc 66 (.p 46 0))], [], .normal, [(0, .b true)], some lh1⟩
noncomputable def tbCu_p3 : Tab := addLps ((tbl hyCu_p3)) 25 fi25 [lf1]
def LCu_p3 : List LF := []
theorem runCu_p3 : okRdH (code tbCu_p3 4000 LCu_p3 bodyCu (envOf (headOf epCu_0 keepCu) 38) ⟨lhSet hpCu_0 .leaf, 42, 0, 0⟩) .ret keepCu 38 100 [(0, .x 0), (1, .x 1), (2, .i .i64 (.ofNat 13))] [] 40 100 [(4, .nils), (5, .x 0), (6, .ifc 68 (.ag [.x 2, .s 35 883751524516594027940889836758751821087985845510287451484159566615753519918736505186]))] [(2, .b ⟨53, .l [.x 1, .und, .und, .b false], 0, 0, 0, false, false⟩)] = true := by kernel_rfl
def hyCu_p4 : LK := [(.rn, .x 2000005), (.bytes [], .x 35), (.len (.x 0), .x 36), (.bin .geq (.x 36) (.i .i64 (.ofNat 6)), .b true), (.idx (.x 0) (.i .i64 (.ofNat 0)), .x 37), (.bin .eql (.x 37) (.i .u8 (.ofNat 1)), .b false), (.bin .neq (.x 0) (.s 0 0), .b true), (.bin .neq (.x 37) (.i .u8 (.ofNat 1)), .b true)]
def lh2 : LH := ⟨1, 71, 81, [(46, .b ⟨29, .l [.i .i64 (.ofNat 0)], 0, 0, 0, false, false⟩)], [(46, .b ⟨29, .l [.i .i64 (.ofNat 13)], 0, 0, 0, false, false⟩)]⟩
def lf2 : LF := ⟨8888888, 0, [(0, .ifc 68 (.ag [.i .i64 (.ofNat 13), .s 27 45430407375676916831998826942035274374409028507990266741766889569])), (1, .ifc 66 (.p 46 0))], [], .normal, [(0, .b true)], some lh2⟩
noncomputable def tbCu_p4 : Tab := addLps ((tbl hyCu_p4)) 25 fi25 [lf2]
def LCu_p4 : List LF := []
theorem runCu_p4 : okRdH (code tbCu_p4 4000 LCu_p4 bodyCu (envOf (headOf epCu_0 keepCu) 38) ⟨lhSet hpCu_0 .leaf, 42, 0, 0⟩) .ret keepCu 38 100 [(0, .x 0), (1, .x 1), (2, .i .i64 (.ofNat 13))] [] 40 100 [(4, .nils), (5, .x 0), (6, .ifc 68 (.ag [.x 2, .s 35 883751524516594027940889836758751821087985845510287451484159566615753519918736505186]))] [(2, .b ⟨53, .l [.x 1, .und, .und, .b false], 0, 0, 0, false, false⟩)] = true := by kernel_rfl
def hyCu_p5 : LK := [(.rn, .x 2000006), (.bytes [], .x 38), (.len (.x 0), .x 39), (.bin .geq (.x 39) (.i .i64 (.ofNat 6)), .b true), (.idx (.x 0) (.i .i64 (.ofNat 0)), .x 40), (.bin .eql (.x 40) (.i .u8 (.ofNat 1)), .b true), (.idx (.x 0) (.i .i64 (.ofNat 4)), .x 41), (.conv 3 (.x 41), .x 42), (.bin .shl (.x 42) (.i .u64 (.ofNat 8)), .x 43), (.idx (.x 0) (.i .i64 (.ofNat 5)), .x 44), (.conv 3 (.x 44), .x 45), (.bin .add (.x 43) (.x 45), .x 46), (.bin .gtr (.x 46) (.x 1), .b true)]
def lh3 : LH := ⟨1, 71, 81, [(44, .b ⟨29, .l [.i .i64 (.ofNat 0)], 0, 0, 0, false, false⟩)], [(44, .b ⟨29, .l [.i .i64 (.ofNat 12)], 0, 0, 0, false, false⟩)]⟩
def lf3 : LF := ⟨8888888, 0, [(0, .ifc 29 (.i .i64 (.ofNat 12))), (1, .ifc 66 (.p 44 0))], [], .normal, [(0, .b true)], some lh3⟩
noncomputable def tbCu_p5 : Tab := addLps ((tbl hyCu_p5)) 25 fi25 [lf3]
def LCu_p5 : List LF := []
theorem runCu_p5 : okRdH (code tbCu_p5 4000 LCu_p5 bodyCu (envOf (headOf epCu_0 keepCu) 38) ⟨lhSet hpCu_0 .leaf, 42, 0, 0⟩) .ret keepCu 38 100 [(0, .x 0), (1, .x 1), (2, .i .i64 (.ofNat 12))] [] 40 100 [(4, .nils), (5, .x 0), (6, .ifc 68 (.ag [.x 2, .s 35 883751524516594027940889836758751821087985845510287451484159566615753519918736505186]))] [(2, .b ⟨53, .l [.x 1, .und, .und, .b false], 0, 0, 0, false, false⟩)] = true := by kernel_rfl
def hyCu_p6 : LK := [(.rn, .x 2000007), (.bytes [], .x 47), (.len (.x 0), .x 48), (.bin .geq (.x 48) (.i .i64 (.ofNat 6)), .b true), (.idx (.x 0) (.i .i64 (.ofNat 0)), .x 49), (.bin .eql (.x 49) (.i .u8 (.ofNat 1)), .b true), (.idx (.x 0) (.i .i64 (.ofNat 4)), .x 50), (.conv 3 (.x 50), .x 51), (.bin .shl (.x 51) (.i .u64 (.ofNat 8)), .x 52), (.idx (.x 0) (.i .i64 (.ofNat 5)), .x 53), (.conv 3 (.x 53), .x 54), (.bin .add (.x 52) (.x 54), .x 55), (.bin .gtr (.x 55) (.x 1), .b false), (.bin .neq (.x 0) (.s 0 0), .b true), (.bin .neq (.x 49) (.i .u8 (.ofNat 1)), .b false), (.bin .lss (.x 48) (.i .i64 (.ofNat 8)), .b true)]
theorem runCu_p6 : RNCu_0 hyCu_p6 .ret [(0, .x 0), (1, .x 1)] [] 100 [(4, .nils), (5, .x 0), (6, .ni)] [(2, .b ⟨53, .l [.x 1, .und, .und, .b false], 0, 0, 0, false, false⟩)] = true := by kernel_rfl
def hyCu_p7 : LK := [(.rn, .x 2000008), (.bytes [], .x 56), (.len (.x 0), .x 57), (.bin .geq (.x 57) (.i .i64 (.ofNat 6)), .b true), (.idx (.x 0) (.i .i64 (.ofNat 0)), .x 58), (.bin .eql (.x 58) (.i .u8 (.ofNat 1)), .b true), (.idx (.x 0) (.i .i64 (.ofNat 4)), .x 59), (.conv 3 (.x 59), .x 60), (.bin .shl (.x 60) (.i .u64 (.ofNat 8)), .x 61), (.idx (.x 0) (.i .i64 (.ofNat 5)), .x 62), (.conv 3 (.x 62), .x 63), (.bin .add (.x 61) (.x 63), .x 64), (.bin .gtr (.x 64) (.x 1), .b false), (.bin .neq (.x 0) (.s 0 0), .b true), (.bin .neq (.x 58) (.i .u8 (.ofNat 1)), .b false), (.bin .lss (.x 57) (.i .i64 (.ofNat 8)), .b false), (.bin .add (.i .i64 (.ofNat 8)) (.x 61), .x 65), (.bin .add (.x 65) (.x 63), .x 66), (.idx (.x 0) (.i .i64 (.ofNat 6)), .x 67), (.conv 3 (.x 67), .x 68), (.bin .add (.x 66) (.x 68), .x 69), (.bin .lss (.x 57) (.x 69), .b true)]
theorem runCu_p7 : RNCu_0 hyCu_p7 .ret [(0, .x 0), (1, .x 1)] [] 100 [(4, .nils), (5, .x 0), (6, .ni)] [(2, .b ⟨53, .l [.x 1, .und, .und, .b false], 0, 0, 0, false, false⟩)] = true := by kernel_rfl
def hyCu_p8 : LK := [(.rn, .x 2000009), (.bytes [], .x 70), (.len (.x 0), .x 71), (.bin .geq (.x 71) (.i .i64 (.ofNat 6)), .b true), (.idx (.x 0) (.i .i64 (.ofNat 0)), .x 72), (.bin .eql (.x 72) (.i .u8 (.ofNat 1)), .b true), (.idx (.x 0) (.i .i64 (.ofNat 4)), .x 73), (.conv 3 (.x 73), .x 74), (.bin .shl (.x 74) (.i .u64 (.ofNat 8)), .x 75), (.idx (.x 0) (.i .i64 (.ofNat 5)), .x 76), (.conv 3 (.x 76), .x 77), (.bin .add (.x 75) (.x 77), .x 78), (.bin .gtr (.x 78) (.x 1), .b false), (.bin .neq (.x 0) (.s 0 0), .b true), (.bin .neq (.x 72) (.i .u8 (.ofNat 1)), .b false), (.bin .lss (.x 71) (.i .i64 (.ofNat 8)), .b false), (.bin .add (.i .i64 (.ofNat 8)) (.x 75), .x 79), (.bin .add (.x 79) (.x 77), .x 80), (.idx (.x 0) (.i .i64 (.ofNat 6)), .x 81), (.conv 3 (.x 81), .x 82), (.bin .add (.x 80) (.x 82), .x 83), (.bin .lss (.x 71) (.x 83), .b false), (.idx (.x 0) (.i .i64 (.ofNat 1)), .x 84), (.bin .eql (.x 84) (.i .u8 (.ofNat 0)), .b true)]
def lh5 : LH := ⟨1, 71, 81, [(45, .b ⟨29, .l [.i .i64 (.ofNat 0)], 0, 0, 0, false, false⟩)], [(45, .b ⟨29, .l [.i .i64 (.ofNat 10)], 0, 0, 0, false, false⟩)]⟩
def lf5 : LF := ⟨8888888, 0, [(0, .ifc 68 (.ag [.i .i64 (.ofNat 10), .s 18 4192413596494156358521667725059818226065505])), (1, .ifc 66 (.p 45 0))], [], .normal, [(0, .b true)], some lh5⟩
noncomputable def tbCu_p8 : Tab := addLps ((tbl hyCu_p8)) 25 fi25 [lf5]
def LCu_p8 : List LF := []
theorem runCu_p8 : okRdH (code tbCu_p8 4000 LCu_p8 bodyCu (envOf (headOf epCu_0 keepCu) 38) ⟨lhSet hpCu_0 .leaf, 42, 0, 0⟩) .ret keepCu 38 100 [(0, .x 0), (1, .x 1), (2, .i .i64 (.ofNat 10))] [] 40 100 [(4, .nils), (5, .x 0), (6, .ifc 68 (.ag [.x 2, .s 35 883751524516594027940889836758751821087985845510287451484159566615753519918736505186]))] [(2, .b ⟨53, .l [.x 1, .und, .und, .b false], 0, 0, 0, false, false⟩)] = true := by kernel_rfl
def hyCu_p9 : LK := [(.rn, .x 2000001), (.bytes [], .x 2), (.len (.x 0), .x 3), (.bin .geq (.x 3) (.i .i64 (.ofNat 6)), .b true), (.idx (.x 0) (.i .i64 (.ofNat 0)), .x 4), (.bin .eql (.x 4) (.i .u8 (.ofNat 1)), .b true), (.idx (.x 0) (.i .i64 (.ofNat 4)), .x 5), (.conv 3 (.x 5), .x 6), (.bin .shl (.x 6) (.i .u64 (.ofNat 8)), .x 7), (.idx (.x 0) (.i .i64 (.ofNat 5)), .x 8), (.conv 3 (.x 8), .x 9), (.bin .add (.x 7) (.x 9), .x 10), (.bin .gtr (.x 10) (.x 1), .b false), (.bin .neq (.x 0) (.s 0 0), .b true), (.bin .neq (.x 4) (.i .u8 (.ofNat 1)), .b false), (.bin .lss (.x 3) (.i .i64 (.ofNat 8)), .b false), (.bin .add (.i .i64 (.ofNat 8)) (.x 7), .x 11), (.bin .add (.x 11) (.x 9), .x 12), (.idx (.x 0) (.i .i64 (.ofNat 6)), .x 13), (.conv 3 (.x 13), .x 14), (.bin .add (.x 12) (.x 14), .x 15), (.bin .lss (.x 3) (.x 15), .b false), (.idx (.x 0) (.i .i64 (.ofNat 1)), .x 16), (.bin .eql (.x 16) (.i .u8 (.ofNat 0)), .b false), (.conv 3 (.x 16), .x 17), (.idx (.x 0) (.i .i64 (.ofNat 2)), .x 18), (.conv 3 (.x 18), .x 19), (.bin .shl (.x 19) (.i .u64 (.ofNat 8)), .x 20), (.idx (.x 0) (.i .i64 (.ofNat 3)), .x 21), (.conv 3 (.x 21), .x 22), (.bin .or (.x 20) (.x 22), .x 23), (.bin .sub (.x 15) (.x 14), .x 24), (.sub (.x 0) (some (.i .i64 (.ofNat 8))) (some (.x 24)), .x 25), (.sub (.x 0) (some (.x 15)) none, .x 26), (.ra (.x 2000000) [.x 17, .x 23, .x 25, .x 14], .x 2000002), (.rf (.x 2000002) 4 40, .b true)]
theorem runCu_p9 : RNCu_1 hyCu_p9 .normal [(0, .x 26), (1, .x 1), (2000000, .x 2000002)] [(40, 48)] 42 epCu_1 hpCu_1 = true := by kernel_rfl
theorem nxCu_p9 (To : List (Int × Int × LB × Int)) (Tr : LB) (Tk m : Int) (s : LB) (o : List (Int × Int × LB × Int)) (X : Nat → Value) (hI : InvCu To Tr Tk m (1, s, o)) (h0 : 6 ≤ (s.length : Int)) (h1 : bt s 0 = 1) (h2 : ¬ (m < (bt s 4) * 256 + (bt s 5))) (h5 : ¬ ((s.length : Int) < 8)) (h6 : ¬ ((s.length : Int) < (bt s 4) * 256 + (bt s 5) + (bt s 6) + 8)) (h7 : ¬ (bt s 1 = 0)) : RHCu To Tr Tk m E' x' e' h' (1, s, o) X := by
  obtain ⟨i0, i1, i2, i3, i4, i5, i6, it⟩ := unICu To Tr Tk m 1 s o hI
  have := bt_lo s 0; have := bt_hi s 0
  have := bt_lo s 4; have := bt_hi s 4
  have := bt_lo s 5; have := bt_hi s 5
  have := bt_lo s 6; have := bt_hi s 6
  have := bt_lo s 1; have := bt_hi s 1
  have := bt_lo s 2; have := bt_hi s 2
  have := bt_lo s 3; have := bt_hi s 3
  have := rcC_len (s := s) (by omega)
  have := lenDrop (l := s) (P := (bt s 4) * 256 + (bt s 5) + (bt s 6) + 8) (by omega) (by omega)
  have hb1 := bt_lo s 4; have hb2 := bt_lo s 5; have hb3 := bt_lo s 6; have hb4 := bt_hi s 4; have hb5 := bt_hi s 5; have hb6 := bt_hi s 6
  have hcu := cu_rec (m := m) (s := s) (rest := (List.drop (Int.toNat ((bt s 4) * 256 + (bt s 5) + (bt s 6) + 8)) s)) (To := To) (Tr := Tr) (Tk := Tk) (rck00 (by omega) (by omega) (by omega) (by omega) (by omega)) (by congr 2; unfold rsz; omega) i1 i2 i3
  refine stCu_1 To Tr Tk m s o (h := hyCu_p9) (1, (List.drop (Int.toNat ((bt s 4) * 256 + (bt s 5) + (bt s 6) + 8)) s), (o ++ [((bt s 1), (bt s 2) * 256 + (bt s 3), (rcC s), (bt s 6))])) ?_ (mkICu To Tr Tk m 1 (List.drop (Int.toNat ((bt s 4) * 256 + (bt s 5) + (bt s 6) + 8)) s) (o ++ [((bt s 1), (bt s 2) * 256 + (bt s 3), (rcC s), (bt s 6))]) ⟨by first | omega | (rw [List.length_drop]; omega), hcu.1, hcu.2.1, hcu.2.2, by simp only [List.length_append, List.length_cons, List.length_nil, List.length_drop]; omega, fun h => by omega, fun _ => by simp, by omega⟩) (by show ((List.drop (Int.toNat ((bt s 4) * 256 + (bt s 5) + (bt s 6) + 8)) s)).length < s.length; rw [List.length_drop]; omega) (thXv (v := St' (List.drop (Int.toNat ((bt s 4) * 256 + (bt s 5) + (bt s 6) + 8)) s)) rfl rfl (thXv (v := .int .i64 (m)) rfl rfl (thXv (v := rwG reC (o ++ [((bt s 1), (bt s 2) * 256 + (bt s 3), (rcC s), (bt s 6))])) rfl rfl (thNil)))) runCu_p9
  unfold hyCu_p9
  exact hc (kRn (denX rfl)) <|
   hc (kBytesB (bs := ([] : LB)) .nil (denX rfl)) <|
   hc (lnV rfl rfl (by omega)) <|
   hc (gecT rfl (by omega)) <|
   hc (ixC rfl rfl (by omega)) <|
   hc (eqcT rfl (by omega)) <|
   hc (ixC rfl rfl (by omega)) <|
   hc (kConvF (isX rfl) tu3 (denX rfl) (fI64 (by omega) (by omega))) <|
   hc (kShlM 8 256 rfl (isX rfl) (isZ (m := 8) rfl) (denX rfl) rfl (by decide) (by omega) (fI64 (by omega) (by omega))) <|
   hc (ixC rfl rfl (by omega)) <|
   hc (kConvF (isX rfl) tu3 (denX rfl) (fI64 (by omega) (by omega))) <|
   hc (adX rfl rfl rfl (by omega)) <|
   hc (gtF rfl rfl (by omega)) <|
   hc (kNeS (isX rfl) (isSx (l := ([] : LB)) 0 0 rfl) (bnT (nilF (by omega)))) <|
   hc (necF rfl (by omega)) <|
   hc (ltcF rfl (by omega)) <|
   hc (kAdd (isZ (m := 8) rfl) (isX rfl) (denX rfl) (by omega) (fI64 (by omega) (by omega))) <|
   hc (adX rfl rfl rfl (by omega)) <|
   hc (ixC rfl rfl (by omega)) <|
   hc (kConvF (isX rfl) tu3 (denX rfl) (fI64 (by omega) (by omega))) <|
   hc (adX rfl rfl rfl (by omega)) <|
   hc (ltF rfl rfl (by omega)) <|
   hc (ixC rfl rfl (by omega)) <|
   hc (eqcF rfl (by omega)) <|
   hc (kConvF (isX rfl) tu3 (denX rfl) (fI64 (by omega) (by omega))) <|
   hc (ixC rfl rfl (by omega)) <|
   hc (kConvF (isX rfl) tu3 (denX rfl) (fI64 (by omega) (by omega))) <|
   hc (kShlM 8 256 rfl (isX rfl) (isZ (m := 8) rfl) (denX rfl) rfl (by decide) (by omega) (fI64 (by omega) (by omega))) <|
   hc (ixC rfl rfl (by omega)) <|
   hc (kConvF (isX rfl) tu3 (denX rfl) (fI64 (by omega) (by omega))) <|
   hc (kOrM 8 256 rfl (isX rfl) (isX rfl) (denX rfl) (by omega) (by omega) (fI64 (by omega) (by omega)) (fI64 (by omega) (by omega)) (by omega) (by omega) (by omega) (fI64 (by omega) (by omega))) <|
   hc (sbX rfl rfl rfl (by omega)) <|
   hc (kMid (P := 8) (Q := (bt s 4) * 256 + (bt s 5) + 8) (isX rfl) (.inr ⟨_, _, rfl, (isZ (m := 8) rfl)⟩) (.inr ⟨_, _, rfl, (isX rfl)⟩) (by omega) (by omega) (by omega) (denX (congrArg (fun l => St' l) (rcC_mid (by omega) (by omega))))) <|
   hc (drV rfl rfl rfl (by omega)) <|
   hc (kRaG (f := reC) (l := o) (a := ((bt s 1), (bt s 2) * 256 + (bt s 3), (rcC s), (bt s 6))) (isX rfl) (isL4 (isX rfl) (isX rfl) (isX rfl) (isX rfl)) (denX rfl)) <|
   hc (kRfG reC_len (isX rfl) (by first | (rw [List.length_append]; omega) | (first | omega | (simp <;> omega))) (by first | (rw [List.length_append]; omega) | (first | omega | (simp <;> omega)))) <|
   hnil
def hyCu_p10 : LK := [(.rn, .x 2000003), (.bytes [], .x 27), (.len (.x 0), .x 28), (.bin .geq (.x 28) (.i .i64 (.ofNat 6)), .b false), (.bin .neq (.x 0) (.s 0 0), .b false), (.bin .lss (.x 28) (.i .i64 (.ofNat 8)), .b true)]
theorem runCu_p10 : RNCu_1 hyCu_p10 .ret [(0, .x 0), (1, .x 1), (2000000, .x 2000000)] [(40, 40)] 100 [(4, .sr 40), (5, .x 0), (6, .ni)] [(2, .b ⟨53, .l [.x 1, .und, .und, .b false], 0, 0, 0, false, false⟩), (40, .r 2000000 26 4 false)] = true := by kernel_rfl
def hyCu_p11 : LK := [(.rn, .x 2000004), (.bytes [], .x 29), (.len (.x 0), .x 30), (.bin .geq (.x 30) (.i .i64 (.ofNat 6)), .b false), (.bin .neq (.x 0) (.s 0 0), .b true), (.idx (.x 0) (.i .i64 (.ofNat 0)), .x 31), (.bin .neq (.x 31) (.i .u8 (.ofNat 1)), .b false), (.bin .lss (.x 30) (.i .i64 (.ofNat 8)), .b true)]
theorem runCu_p11 : RNCu_1 hyCu_p11 .ret [(0, .x 0), (1, .x 1), (2000000, .x 2000000)] [(40, 40)] 100 [(4, .sr 40), (5, .x 0), (6, .ni)] [(2, .b ⟨53, .l [.x 1, .und, .und, .b false], 0, 0, 0, false, false⟩), (40, .r 2000000 26 4 false)] = true := by kernel_rfl
def hyCu_p12 : LK := [(.rn, .x 2000005), (.bytes [], .x 32), (.len (.x 0), .x 33), (.bin .geq (.x 33) (.i .i64 (.ofNat 6)), .b false), (.bin .neq (.x 0) (.s 0 0), .b true), (.idx (.x 0) (.i .i64 (.ofNat 0)), .x 34), (.bin .neq (.x 34) (.i .u8 (.ofNat 1)), .b true)]
def lh7 : LH := ⟨1, 71, 81, [(46, .b ⟨29, .l [.i .i64 (.ofNat 0)], 0, 0, 0, false, false⟩)], [(46, .b ⟨29, .l [.i .i64 (.ofNat 13)], 0, 0, 0, false, false⟩)]⟩
def lf7 : LF := ⟨8888888, 0, [(0, .ifc 68 (.ag [.i .i64 (.ofNat 13), .s 27 45430407375676916831998826942035274374409028507990266741766889569])), (1, .ifc 66 (.p 46 0))], [], .normal, [(0, .b true)], some lh7⟩
noncomputable def tbCu_p12 : Tab := addLps ((tbl hyCu_p12)) 25 fi25 [lf7]
def LCu_p12 : List LF := []
theorem runCu_p12 : okRdH (code tbCu_p12 4000 LCu_p12 bodyCu (envOf (headOf epCu_1 keepCu) 38) ⟨lhSet hpCu_1 .leaf, 42, 0, 0⟩) .ret keepCu 38 100 [(0, .x 0), (1, .x 1), (2, .i .i64 (.ofNat 13)), (2000000, .x 2000000)] [(40, 40)] 40 100 [(4, .sr 40), (5, .x 0), (6, .ifc 68 (.ag [.x 2, .s 35 883751524516594027940889836758751821087985845510287451484159566615753519918736505186]))] [(2, .b ⟨53, .l [.x 1, .und, .und, .b false], 0, 0, 0, false, false⟩), (40, .r 2000000 26 4 false)] = true := by kernel_rfl
def hyCu_p13 : LK := [(.rn, .x 2000006), (.bytes [], .x 35), (.len (.x 0), .x 36), (.bin .geq (.x 36) (.i .i64 (.ofNat 6)), .b true), (.idx (.x 0) (.i .i64 (.ofNat 0)), .x 37), (.bin .eql (.x 37) (.i .u8 (.ofNat 1)), .b false), (.bin .neq (.x 0) (.s 0 0), .b true), (.bin .neq (.x 37) (.i .u8 (.ofNat 1)), .b true)]
def lh8 : LH := ⟨1, 71, 81, [(46, .b ⟨29, .l [.i .i64 (.ofNat 0)], 0, 0, 0, false, false⟩)], [(46, .b ⟨29, .l [.i .i64 (.ofNat 13)], 0, 0, 0, false, false⟩)]⟩
def lf8 : LF := ⟨8888888, 0, [(0, .ifc 68 (.ag [.i .i64 (.ofNat 13), .s 27 45430407375676916831998826942035274374409028507990266741766889569])), (1, .ifc 66 (.p 46 0))], [], .normal, [(0, .b true)], some lh8⟩
noncomputable def tbCu_p13 : Tab := addLps ((tbl hyCu_p13)) 25 fi25 [lf8]
def LCu_p13 : List LF := []
theorem runCu_p13 : okRdH (code tbCu_p13 4000 LCu_p13 bodyCu (envOf (headOf epCu_1 keepCu) 38) ⟨lhSet hpCu_1 .leaf, 42, 0, 0⟩) .ret keepCu 38 100 [(0, .x 0), (1, .x 1), (2, .i .i64 (.ofNat 13)), (2000000, .x 2000000)] [(40, 40)] 40 100 [(4, .sr 40), (5, .x 0), (6, .ifc 68 (.ag [.x 2, .s 35 883751524516594027940889836758751821087985845510287451484159566615753519918736505186]))] [(2, .b ⟨53, .l [.x 1, .und, .und, .b false], 0, 0, 0, false, false⟩), (40, .r 2000000 26 4 false)] = true := by kernel_rfl
def hyCu_p14 : LK := [(.rn, .x 2000007), (.bytes [], .x 38), (.len (.x 0), .x 39), (.bin .geq (.x 39) (.i .i64 (.ofNat 6)), .b true), (.idx (.x 0) (.i .i64 (.ofNat 0)), .x 40), (.bin .eql (.x 40) (.i .u8 (.ofNat 1)), .b true), (.idx (.x 0) (.i .i64 (.ofNat 4)), .x 41), (.conv 3 (.x 41), .x 42), (.bin .shl (.x 42) (.i .u64 (.ofNat 8)), .x 43), (.idx (.x 0) (.i .i64 (.ofNat 5)), .x 44), (.conv 3 (.x 44), .x 45), (.bin .add (.x 43) (.x 45), .x 46), (.bin .gtr (.x 46) (.x 1), .b true)]
def lh9 : LH := ⟨1, 71, 81, [(44, .b ⟨29, .l [.i .i64 (.ofNat 0)], 0, 0, 0, false, false⟩)], [(44, .b ⟨29, .l [.i .i64 (.ofNat 12)], 0, 0, 0, false, false⟩)]⟩
def lf9 : LF := ⟨8888888, 0, [(0, .ifc 29 (.i .i64 (.ofNat 12))), (1, .ifc 66 (.p 44 0))], [], .normal, [(0, .b true)], some lh9⟩
noncomputable def tbCu_p14 : Tab := addLps ((tbl hyCu_p14)) 25 fi25 [lf9]
def LCu_p14 : List LF := []
theorem runCu_p14 : okRdH (code tbCu_p14 4000 LCu_p14 bodyCu (envOf (headOf epCu_1 keepCu) 38) ⟨lhSet hpCu_1 .leaf, 42, 0, 0⟩) .ret keepCu 38 100 [(0, .x 0), (1, .x 1), (2, .i .i64 (.ofNat 12)), (2000000, .x 2000000)] [(40, 40)] 40 100 [(4, .sr 40), (5, .x 0), (6, .ifc 68 (.ag [.x 2, .s 35 883751524516594027940889836758751821087985845510287451484159566615753519918736505186]))] [(2, .b ⟨53, .l [.x 1, .und, .und, .b false], 0, 0, 0, false, false⟩), (40, .r 2000000 26 4 false)] = true := by kernel_rfl
def hyCu_p15 : LK := [(.rn, .x 2000008), (.bytes [], .x 47), (.len (.x 0), .x 48), (.bin .geq (.x 48) (.i .i64 (.ofNat 6)), .b true), (.idx (.x 0) (.i .i64 (.ofNat 0)), .x 49), (.bin .eql (.x 49) (.i .u8 (.ofNat 1)), .b true), (.idx (.x 0) (.i .i64 (.ofNat 4)), .x 50), (.conv 3 (.x 50), .x 51), (.bin .shl (.x 51) (.i .u64 (.ofNat 8)), .x 52), (.idx (.x 0) (.i .i64 (.ofNat 5)), .x 53), (.conv 3 (.x 53), .x 54), (.bin .add (.x 52) (.x 54), .x 55), (.bin .gtr (.x 55) (.x 1), .b false), (.bin .neq (.x 0) (.s 0 0), .b true), (.bin .neq (.x 49) (.i .u8 (.ofNat 1)), .b false), (.bin .lss (.x 48) (.i .i64 (.ofNat 8)), .b true)]
theorem runCu_p15 : RNCu_1 hyCu_p15 .ret [(0, .x 0), (1, .x 1), (2000000, .x 2000000)] [(40, 40)] 100 [(4, .sr 40), (5, .x 0), (6, .ni)] [(2, .b ⟨53, .l [.x 1, .und, .und, .b false], 0, 0, 0, false, false⟩), (40, .r 2000000 26 4 false)] = true := by kernel_rfl
def hyCu_p16 : LK := [(.rn, .x 2000009), (.bytes [], .x 56), (.len (.x 0), .x 57), (.bin .geq (.x 57) (.i .i64 (.ofNat 6)), .b true), (.idx (.x 0) (.i .i64 (.ofNat 0)), .x 58), (.bin .eql (.x 58) (.i .u8 (.ofNat 1)), .b true), (.idx (.x 0) (.i .i64 (.ofNat 4)), .x 59), (.conv 3 (.x 59), .x 60), (.bin .shl (.x 60) (.i .u64 (.ofNat 8)), .x 61), (.idx (.x 0) (.i .i64 (.ofNat 5)), .x 62), (.conv 3 (.x 62), .x 63), (.bin .add (.x 61) (.x 63), .x 64), (.bin .gtr (.x 64) (.x 1), .b false), (.bin .neq (.x 0) (.s 0 0), .b true), (.bin .neq (.x 58) (.i .u8 (.ofNat 1)), .b false), (.bin .lss (.x 57) (.i .i64 (.ofNat 8)), .b false), (.bin .add (.i .i64 (.ofNat 8)) (.x 61), .x 65), (.bin .add (.x 65) (.x 63), .x 66), (.idx (.x 0) (.i .i64 (.ofNat 6)), .x 67), (.conv 3 (.x 67), .x 68), (.bin .add (.x 66) (.x 68), .x 69), (.bin .lss (.x 57) (.x 69), .b true)]
theorem runCu_p16 : RNCu_1 hyCu_p16 .ret [(0, .x 0), (1, .x 1), (2000000, .x 2000000)] [(40, 40)] 100 [(4, .sr 40), (5, .x 0), (6, .ni)] [(2, .b ⟨53, .l [.x 1, .und, .und, .b false], 0, 0, 0, false, false⟩), (40, .r 2000000 26 4 false)] = true := by kernel_rfl
def hyCu_p17 : LK := [(.rn, .x 2000010), (.bytes [], .x 70), (.len (.x 0), .x 71), (.bin .geq (.x 71) (.i .i64 (.ofNat 6)), .b true), (.idx (.x 0) (.i .i64 (.ofNat 0)), .x 72), (.bin .eql (.x 72) (.i .u8 (.ofNat 1)), .b true), (.idx (.x 0) (.i .i64 (.ofNat 4)), .x 73), (.conv 3 (.x 73), .x 74), (.bin .shl (.x 74) (.i .u64 (.ofNat 8)), .x 75), (.idx (.x 0) (.i .i64 (.ofNat 5)), .x 76), (.conv 3 (.x 76), .x 77), (.bin .add (.x 75) (.x 77), .x 78), (.bin .gtr (.x 78) (.x 1), .b false), (.bin .neq (.x 0) (.s 0 0), .b true), (.bin .neq (.x 72) (.i .u8 (.ofNat 1)), .b false), (.bin .lss (.x 71) (.i .i64 (.ofNat 8)), .b false), (.bin .add (.i .i64 (.ofNat 8)) (.x 75), .x 79), (.bin .add (.x 79) (.x 77), .x 80), (.idx (.x 0) (.i .i64 (.ofNat 6)), .x 81), (.conv 3 (.x 81), .x 82), (.bin .add (.x 80) (.x 82), .x 83), (.bin .lss (.x 71) (.x 83), .b false), (.idx (.x 0) (.i .i64 (.ofNat 1)), .x 84), (.bin .eql (.x 84) (.i .u8 (.ofNat 0)), .b true)]
def lh11 : LH := ⟨1, 71, 81, [(45, .b ⟨29, .l [.i .i64 (.ofNat 0)], 0, 0, 0, false, false⟩)], [(45, .b ⟨29, .l [.i .i64 (.ofNat 10)], 0, 0, 0, false, false⟩)]⟩
def lf11 : LF := ⟨8888888, 0, [(0, .ifc 68 (.ag [.i .i64 (.ofNat 10), .s 18 4192413596494156358521667725059818226065505])), (1, .ifc 66 (.p 45 0))], [], .normal, [(0, .b true)], some lh11⟩
noncomputable def tbCu_p17 : Tab := addLps ((tbl hyCu_p17)) 25 fi25 [lf11]
def LCu_p17 : List LF := []
theorem runCu_p17 : okRdH (code tbCu_p17 4000 LCu_p17 bodyCu (envOf (headOf epCu_1 keepCu) 38) ⟨lhSet hpCu_1 .leaf, 42, 0, 0⟩) .ret keepCu 38 100 [(0, .x 0), (1, .x 1), (2, .i .i64 (.ofNat 10)), (2000000, .x 2000000)] [(40, 40)] 40 100 [(4, .sr 40), (5, .x 0), (6, .ifc 68 (.ag [.x 2, .s 35 883751524516594027940889836758751821087985845510287451484159566615753519918736505186]))] [(2, .b ⟨53, .l [.x 1, .und, .und, .b false], 0, 0, 0, false, false⟩), (40, .r 2000000 26 4 false)] = true := by kernel_rfl
def nuECu_0 (To : List (Int × Int × LB × Int)) (Tr : LB) (Tk m : Int) : List Value := [St' Tr, .int .i64 (m)]
def roECu_0 (To : List (Int × Int × LB × Int)) (Tr : LB) (Tk m : Int) : List Value := []
noncomputable def ECu_0 (To : List (Int × Int × LB × Int)) (Tr : LB) (Tk m : Int) : Cx := cx (nuX (nuECu_0 To Tr Tk m) (rX (roECu_0 To Tr Tk m) (fun _ => .bool true))) (nuX_one (nuL_one (l := nuECu_0 To Tr Tk m) rfl)) 1 laidE laidE_stab
theorem roundsCu_0 (To : List (Int × Int × LB × Int)) (Tr : LB) (Tk m : Int) (x0 : Tk = 11) (x1 : To.length = 0) (st : Nat × LB × List (Int × Int × LB × Int)) (X : Nat → Value) (hI : InvCu To Tr Tk m st) : RHCu To Tr Tk m (ECu_0 To Tr Tk m) .ret [(4, .nils), (5, .x 0), (6, .ni)] [(2, .b ⟨53, .l [.x 1, .und, .und, .b false], 0, 0, 0, false, false⟩)] st X := by
  obtain ⟨tag, s, o⟩ := st
  have hI0 := hI
  obtain ⟨i0, i1, i2, i3, i4, i5, i6, it⟩ := unICu To Tr Tk m tag s o hI
  rcases (show tag = 0 ∨ tag = 1 from by omega) with rfl | rfl
  · skip
    by_cases h0 : 6 ≤ (s.length : Int)
    · by_cases h1 : bt s 0 = 1
      · by_cases h2 : m < (bt s 4) * 256 + (bt s 5)
        · exfalso; exact cz (rck12 (by omega) (by omega) (by omega)) (by decide) i3 (by omega)
        · by_cases h5 : (s.length : Int) < 8
          · skip
            have := bt_lo s 0; have := bt_hi s 0
            have := bt_lo s 4; have := bt_hi s 4
            have := bt_lo s 5; have := bt_hi s 5
            have hb1 := bt_lo s 4; have hb2 := bt_lo s 5; have hb3 := bt_lo s 6; have hb4 := bt_hi s 4; have hb5 := bt_hi s 5; have hb6 := bt_hi s 6
            have hce := cu_end (m := m) (s := s) (k := 11) (rck11 (by omega) (by omega) (by omega)) (by decide) i1 i2 i3; have hk3 := hce.2.2
            refine lvCu_0 To Tr Tk m s o (h := hyCu_p6) rfl ?_ (thXe (v := St' s) (u := St' Tr) rfl rfl (congrArg (fun l => St' l) hce.2.1) (thXv (v := .int .i64 (m)) rfl rfl (thNil))) runCu_p6
            unfold hyCu_p6
            exact hc (kRn (denX rfl)) <|
             hc (kBytesB (bs := ([] : LB)) .nil (denX rfl)) <|
             hc (lnV rfl rfl (by omega)) <|
             hc (gecT rfl (by omega)) <|
             hc (ixC rfl rfl (by omega)) <|
             hc (eqcT rfl (by omega)) <|
             hc (ixC rfl rfl (by omega)) <|
             hc (kConvF (isX rfl) tu3 (denX rfl) (fI64 (by omega) (by omega))) <|
             hc (kShlM 8 256 rfl (isX rfl) (isZ (m := 8) rfl) (denX rfl) rfl (by decide) (by omega) (fI64 (by omega) (by omega))) <|
             hc (ixC rfl rfl (by omega)) <|
             hc (kConvF (isX rfl) tu3 (denX rfl) (fI64 (by omega) (by omega))) <|
             hc (adX rfl rfl rfl (by omega)) <|
             hc (gtF rfl rfl (by omega)) <|
             hc (kNeS (isX rfl) (isSx (l := ([] : LB)) 0 0 rfl) (bnT (nilF (by omega)))) <|
             hc (necF rfl (by omega)) <|
             hc (ltcT rfl (by omega)) <|
             hnil
          · by_cases h6 : (s.length : Int) < (bt s 4) * 256 + (bt s 5) + (bt s 6) + 8
            · skip
              have := bt_lo s 0; have := bt_hi s 0
              have := bt_lo s 4; have := bt_hi s 4
              have := bt_lo s 5; have := bt_hi s 5
              have := bt_lo s 6; have := bt_hi s 6
              have hb1 := bt_lo s 4; have hb2 := bt_lo s 5; have hb3 := bt_lo s 6; have hb4 := bt_hi s 4; have hb5 := bt_hi s 5; have hb6 := bt_hi s 6
              have hce := cu_end (m := m) (s := s) (k := 11) (rck11 (by omega) (by omega) (by omega)) (by decide) i1 i2 i3; have hk3 := hce.2.2
              refine lvCu_0 To Tr Tk m s o (h := hyCu_p7) rfl ?_ (thXe (v := St' s) (u := St' Tr) rfl rfl (congrArg (fun l => St' l) hce.2.1) (thXv (v := .int .i64 (m)) rfl rfl (thNil))) runCu_p7
              unfold hyCu_p7
              exact hc (kRn (denX rfl)) <|
               hc (kBytesB (bs := ([] : LB)) .nil (denX rfl)) <|
               hc (lnV rfl rfl (by omega)) <|
               hc (gecT rfl (by omega)) <|
               hc (ixC rfl rfl (by omega)) <|
               hc (eqcT rfl (by omega)) <|
               hc (ixC rfl rfl (by omega)) <|
               hc (kConvF (isX rfl) tu3 (denX rfl) (fI64 (by omega) (by omega))) <|
               hc (kShlM 8 256 rfl (isX rfl) (isZ (m := 8) rfl) (denX rfl) rfl (by decide) (by omega) (fI64 (by omega) (by omega))) <|
               hc (ixC rfl rfl (by omega)) <|
               hc (kConvF (isX rfl) tu3 (denX rfl) (fI64 (by omega) (by omega))) <|
               hc (adX rfl rfl rfl (by omega)) <|
               hc (gtF rfl rfl (by omega)) <|
               hc (kNeS (isX rfl) (isSx (l := ([] : LB)) 0 0 rfl) (bnT (nilF (by omega)))) <|
               hc (necF rfl (by omega)) <|
               hc (ltcF rfl (by omega)) <|
               hc (kAdd (isZ (m := 8) rfl) (isX rfl) (denX rfl) (by omega) (fI64 (by omega) (by omega))) <|
               hc (adX rfl rfl rfl (by omega)) <|
               hc (ixC rfl rfl (by omega)) <|
               hc (kConvF (isX rfl) tu3 (denX rfl) (fI64 (by omega) (by omega))) <|
               hc (adX rfl rfl rfl (by omega)) <|
               hc (ltT rfl rfl (by omega)) <|
               hnil
            · by_cases h7 : bt s 1 = 0
              · exfalso; exact cz (rck10 (by omega) (by omega) (by omega) (by omega) (by omega)) (by decide) i3 (by omega)
              · exact nxCu_p0 To Tr Tk m s o X hI0 h0 h1 h2 h5 h6 h7
      · exfalso; exact cz (rck13 (by omega) (by omega)) (by decide) i3 (by omega)
    · by_cases h1 : (s.length : Int) = 0
      · skip
        have hb1 := bt_lo s 4; have hb2 := bt_lo s 5; have hb3 := bt_lo s 6; have hb4 := bt_hi s 4; have hb5 := bt_hi s 5; have hb6 := bt_hi s 6
        have hce := cu_end (m := m) (s := s) (k := 11) (rck11 (by omega) (by omega) (by omega)) (by decide) i1 i2 i3; have hk3 := hce.2.2
        refine lvCu_0 To Tr Tk m s o (h := hyCu_p1) rfl ?_ (thXe (v := St' s) (u := St' Tr) rfl rfl (congrArg (fun l => St' l) hce.2.1) (thXv (v := .int .i64 (m)) rfl rfl (thNil))) runCu_p1
        unfold hyCu_p1
        exact hc (kRn (denX rfl)) <|
         hc (kBytesB (bs := ([] : LB)) .nil (denX rfl)) <|
         hc (lnV rfl rfl (by omega)) <|
         hc (gecF rfl (by omega)) <|
         hc (kNeS (isX rfl) (isSx (l := ([] : LB)) 0 0 rfl) (bnF (nilT (by omega)))) <|
         hc (ltcT rfl (by omega)) <|
         hnil
      · by_cases h2 : bt s 0 = 1
        · skip
          have := bt_lo s 0; have := bt_hi s 0
          have hb1 := bt_lo s 4; have hb2 := bt_lo s 5; have hb3 := bt_lo s 6; have hb4 := bt_hi s 4; have hb5 := bt_hi s 5; have hb6 := bt_hi s 6
          have hce := cu_end (m := m) (s := s) (k := 11) (rck11 (by omega) (by omega) (by omega)) (by decide) i1 i2 i3; have hk3 := hce.2.2
          refine lvCu_0 To Tr Tk m s o (h := hyCu_p2) rfl ?_ (thXe (v := St' s) (u := St' Tr) rfl rfl (congrArg (fun l => St' l) hce.2.1) (thXv (v := .int .i64 (m)) rfl rfl (thNil))) runCu_p2
          unfold hyCu_p2
          exact hc (kRn (denX rfl)) <|
           hc (kBytesB (bs := ([] : LB)) .nil (denX rfl)) <|
           hc (lnV rfl rfl (by omega)) <|
           hc (gecF rfl (by omega)) <|
           hc (kNeS (isX rfl) (isSx (l := ([] : LB)) 0 0 rfl) (bnT (nilF (by omega)))) <|
           hc (ixC rfl rfl (by omega)) <|
           hc (necF rfl (by omega)) <|
           hc (ltcT rfl (by omega)) <|
           hnil
        · exfalso; exact cz (rck13 (by omega) (by omega)) (by decide) i3 (by omega)
  · skip
    by_cases h0 : 6 ≤ (s.length : Int)
    · by_cases h1 : bt s 0 = 1
      · by_cases h2 : m < (bt s 4) * 256 + (bt s 5)
        · exfalso; exact cz (rck12 (by omega) (by omega) (by omega)) (by decide) i3 (by omega)
        · by_cases h5 : (s.length : Int) < 8
          · exfalso; have hce := cu_end (rck11 (by omega) (by omega) (by omega)) (by decide) i1 i2 i3; have h0 := i6 rfl; rw [hce.1] at h0; omega
          · by_cases h6 : (s.length : Int) < (bt s 4) * 256 + (bt s 5) + (bt s 6) + 8
            · exfalso; have hce := cu_end (rck11 (by omega) (by omega) (by omega)) (by decide) i1 i2 i3; have h0 := i6 rfl; rw [hce.1] at h0; omega
            · by_cases h7 : bt s 1 = 0
              · exfalso; exact cz (rck10 (by omega) (by omega) (by omega) (by omega) (by omega)) (by decide) i3 (by omega)
              · exact nxCu_p9 To Tr Tk m s o X hI0 h0 h1 h2 h5 h6 h7
      · exfalso; exact cz (rck13 (by omega) (by omega)) (by decide) i3 (by omega)
    · by_cases h1 : (s.length : Int) = 0
      · exfalso; have hce := cu_end (rck11 (by omega) (by omega) (by omega)) (by decide) i1 i2 i3; have h0 := i6 rfl; rw [hce.1] at h0; omega
      · by_cases h2 : bt s 0 = 1
        · exfalso; have hce := cu_end (rck11 (by omega) (by omega) (by omega)) (by decide) i1 i2 i3; have h0 := i6 rfl; rw [hce.1] at h0; omega
        · exfalso; exact cz (rck13 (by omega) (by omega)) (by decide) i3 (by omega)
theorem lfOkCu_0 {l : LF} {h : LH} (To : List (Int × Int × LB × Int)) (Tr : LB) (Tk m : Int) (x0 : Tk = 11) (x1 : To.length = 0) (st : Nat × LB × List (Int × Int × LB × Int)) (hI : InvCu To Tr Tk m st) (hl : l.hp = some h) (hs : lfSame l h 38 keepCu .ret 1 40 100 = true) {th0 : LA} {sg0 : List (Nat × Nat)} (hth0 : ∀ X, ThOk (cx nu one 1 laidE laidE_stab) (DCu To Tr Tk m st X) th0) (h0 : startOk l h 38 40 42 th0 sg0 (epCu st) (hpCu st) = true) {thx : LA} (hthx : ThOk (ECu_0 To Tr Tk m) (cx nu one 1 laidE laidE_stab) thx) (hx : exitOk l h 38 40 100 thx [(4, .nils), (5, .x 0), (6, .ni)] [(2, .b ⟨53, .l [.x 1, .und, .und, .b false], 0, 0, 0, false, false⟩)] = true) : LfOk (cx nu one 1 laidE laidE_stab) bodyCu l :=
  lfOkX (E := ECu_0 To Tr Tk m) (InvCu To Tr Tk m) (muCu To Tr Tk m) (DCu To Tr Tk m) (fun _ _ => rfl) (fun _ _ => rfl) (fun _ _ => rfl) (fun st X t ht => nuX_keep.trans (rX_keep ((by decide : ∀ t, t ∈ keepCu → t < 1000000) t ht))) rfl rfl rfl hl hs ebCu rfl rfl st hI hth0 h0 hthx hx (roundsCu_0 To Tr Tk m x0 x1)
def nuECu_1 (To : List (Int × Int × LB × Int)) (Tr : LB) (Tk m : Int) : List Value := [St' Tr, .int .i64 (m)]
def roECu_1 (To : List (Int × Int × LB × Int)) (Tr : LB) (Tk m : Int) : List Value := [rwG reC To]
noncomputable def ECu_1 (To : List (Int × Int × LB × Int)) (Tr : LB) (Tk m : Int) : Cx := cx (nuX (nuECu_1 To Tr Tk m) (rX (roECu_1 To Tr Tk m) (fun _ => .bool true))) (nuX_one (nuL_one (l := nuECu_1 To Tr Tk m) rfl)) 1 laidE laidE_stab
theorem roundsCu_1 (To : List (Int × Int × LB × Int)) (Tr : LB) (Tk m : Int) (x0 : Tk = 11) (x1 : ¬ To.length = 0) (st : Nat × LB × List (Int × Int × LB × Int)) (X : Nat → Value) (hI : InvCu To Tr Tk m st) : RHCu To Tr Tk m (ECu_1 To Tr Tk m) .ret [(4, .sr 40), (5, .x 0), (6, .ni)] [(2, .b ⟨53, .l [.x 1, .und, .und, .b false], 0, 0, 0, false, false⟩), (40, .r 2000000 26 4 false)] st X := by
  obtain ⟨tag, s, o⟩ := st
  have hI0 := hI
  obtain ⟨i0, i1, i2, i3, i4, i5, i6, it⟩ := unICu To Tr Tk m tag s o hI
  rcases (show tag = 0 ∨ tag = 1 from by omega) with rfl | rfl
  · skip
    by_cases h0 : 6 ≤ (s.length : Int)
    · by_cases h1 : bt s 0 = 1
      · by_cases h2 : m < (bt s 4) * 256 + (bt s 5)
        · exfalso; exact cz (rck12 (by omega) (by omega) (by omega)) (by decide) i3 (by omega)
        · by_cases h5 : (s.length : Int) < 8
          · exfalso; have hce := cu_end (rck11 (by omega) (by omega) (by omega)) (by decide) i1 i2 i3; have h0 := i5 rfl; rw [← hce.1, h0] at x1; simp at x1
          · by_cases h6 : (s.length : Int) < (bt s 4) * 256 + (bt s 5) + (bt s 6) + 8
            · exfalso; have hce := cu_end (rck11 (by omega) (by omega) (by omega)) (by decide) i1 i2 i3; have h0 := i5 rfl; rw [← hce.1, h0] at x1; simp at x1
            · by_cases h7 : bt s 1 = 0
              · exfalso; exact cz (rck10 (by omega) (by omega) (by omega) (by omega) (by omega)) (by decide) i3 (by omega)
              · exact nxCu_p0 To Tr Tk m s o X hI0 h0 h1 h2 h5 h6 h7
      · exfalso; exact cz (rck13 (by omega) (by omega)) (by decide) i3 (by omega)
    · by_cases h1 : (s.length : Int) = 0
      · exfalso; have hce := cu_end (rck11 (by omega) (by omega) (by omega)) (by decide) i1 i2 i3; have h0 := i5 rfl; rw [← hce.1, h0] at x1; simp at x1
      · by_cases h2 : bt s 0 = 1
        · exfalso; have hce := cu_end (rck11 (by omega) (by omega) (by omega)) (by decide) i1 i2 i3; have h0 := i5 rfl; rw [← hce.1, h0] at x1; simp at x1
        · exfalso; exact cz (rck13 (by omega) (by omega)) (by decide) i3 (by omega)
  · skip
    by_cases h0 : 6 ≤ (s.length : Int)
    · by_cases h1 : bt s 0 = 1
      · by_cases h2 : m < (bt s 4) * 256 + (bt s 5)
        · exfalso; exact cz (rck12 (by omega) (by omega) (by omega)) (by decide) i3 (by omega)
        · by_cases h5 : (s.length : Int) < 8
          · skip
            have := bt_lo s 0; have := bt_hi s 0
            have := bt_lo s 4; have := bt_hi s 4
            have := bt_lo s 5; have := bt_hi s 5
            have hb1 := bt_lo s 4; have hb2 := bt_lo s 5; have hb3 := bt_lo s 6; have hb4 := bt_hi s 4; have hb5 := bt_hi s 5; have hb6 := bt_hi s 6
            have hce := cu_end (m := m) (s := s) (k := 11) (rck11 (by omega) (by omega) (by omega)) (by decide) i1 i2 i3; have hk3 := hce.2.2
            refine lvCu_1 To Tr Tk m s o (h := hyCu_p15) rfl ?_ (thXe (v := St' s) (u := St' Tr) rfl rfl (congrArg (fun l => St' l) hce.2.1) (thXv (v := .int .i64 (m)) rfl rfl (thXe (v := rwG reC o) (u := rwG reC To) rfl rfl (congrArg (rwG reC) hce.1) (thNil)))) runCu_p15
            unfold hyCu_p15
            exact hc (kRn (denX rfl)) <|
             hc (kBytesB (bs := ([] : LB)) .nil (denX rfl)) <|
             hc (lnV rfl rfl (by omega)) <|
             hc (gecT rfl (by omega)) <|
             hc (ixC rfl rfl (by omega)) <|
             hc (eqcT rfl (by omega)) <|
             hc (ixC rfl rfl (by omega)) <|
             hc (kConvF (isX rfl) tu3 (denX rfl) (fI64 (by omega) (by omega))) <|
             hc (kShlM 8 256 rfl (isX rfl) (isZ (m := 8) rfl) (denX rfl) rfl (by decide) (by omega) (fI64 (by omega) (by omega))) <|
             hc (ixC rfl rfl (by omega)) <|
             hc (kConvF (isX rfl) tu3 (denX rfl) (fI64 (by omega) (by omega))) <|
             hc (adX rfl rfl rfl (by omega)) <|
             hc (gtF rfl rfl (by omega)) <|
             hc (kNeS (isX rfl) (isSx (l := ([] : LB)) 0 0 rfl) (bnT (nilF (by omega)))) <|
             hc (necF rfl (by omega)) <|
             hc (ltcT rfl (by omega)) <|
             hnil
          · by_cases h6 : (s.length : Int) < (bt s 4) * 256 + (bt s 5) + (bt s 6) + 8
            · skip
              have := bt_lo s 0; have := bt_hi s 0
              have := bt_lo s 4; have := bt_hi s 4
              have := bt_lo s 5; have := bt_hi s 5
              have := bt_lo s 6; have := bt_hi s 6
              have hb1 := bt_lo s 4; have hb2 := bt_lo s 5; have hb3 := bt_lo s 6; have hb4 := bt_hi s 4; have hb5 := bt_hi s 5; have hb6 := bt_hi s 6
              have hce := cu_end (m := m) (s := s) (k := 11) (rck11 (by omega) (by omega) (by omega)) (by decide) i1 i2 i3; have hk3 := hce.2.2
              refine lvCu_1 To Tr Tk m s o (h := hyCu_p16) rfl ?_ (thXe (v := St' s) (u := St' Tr) rfl rfl (congrArg (fun l => St' l) hce.2.1) (thXv (v := .int .i64 (m)) rfl rfl (thXe (v := rwG reC o) (u := rwG reC To) rfl rfl (congrArg (rwG reC) hce.1) (thNil)))) runCu_p16
              unfold hyCu_p16
              exact hc (kRn (denX rfl)) <|
               hc (kBytesB (bs := ([] : LB)) .nil (denX rfl)) <|
               hc (lnV rfl rfl (by omega)) <|
               hc (gecT rfl (by omega)) <|
               hc (ixC rfl rfl (by omega)) <|
               hc (eqcT rfl (by omega)) <|
               hc (ixC rfl rfl (by omega)) <|
               hc (kConvF (isX rfl) tu3 (denX rfl) (fI64 (by omega) (by omega))) <|
               hc (kShlM 8 256 rfl (isX rfl) (isZ (m := 8) rfl) (denX rfl) rfl (by decide) (by omega) (fI64 (by omega) (by omega))) <|
               hc (ixC rfl rfl (by omega)) <|
               hc (kConvF (isX rfl) tu3 (denX rfl) (fI64 (by omega) (by omega))) <|
               hc (adX rfl rfl rfl (by omega)) <|
               hc (gtF rfl rfl (by omega)) <|
               hc (kNeS (isX rfl) (isSx (l := ([] : LB)) 0 0 rfl) (bnT (nilF (by omega)))) <|
               hc (necF rfl (by omega)) <|
               hc (ltcF rfl (by omega)) <|
               hc (kAdd (isZ (m := 8) rfl) (isX rfl) (denX rfl) (by omega) (fI64 (by omega) (by omega))) <|
               hc (adX rfl rfl rfl (by omega)) <|
               hc (ixC rfl rfl (by omega)) <|
               hc (kConvF (isX rfl) tu3 (denX rfl) (fI64 (by omega) (by omega))) <|
               hc (adX rfl rfl rfl (by omega)) <|
               hc (ltT rfl rfl (by omega)) <|
               hnil
            · by_cases h7 : bt s 1 = 0
              · exfalso; exact cz (rck10 (by omega) (by omega) (by omega) (by omega) (by omega)) (by decide) i3 (by omega)
              · exact nxCu_p9 To Tr Tk m s o X hI0 h0 h1 h2 h5 h6 h7
      · exfalso; exact cz (rck13 (by omega) (by omega)) (by decide) i3 (by omega)
    · by_cases h1 : (s.length : Int) = 0
      · skip
        have hb1 := bt_lo s 4; have hb2 := bt_lo s 5; have hb3 := bt_lo s 6; have hb4 := bt_hi s 4; have hb5 := bt_hi s 5; have hb6 := bt_hi s 6
        have hce := cu_end (m := m) (s := s) (k := 11) (rck11 (by omega) (by omega) (by omega)) (by decide) i1 i2 i3; have hk3 := hce.2.2
        refine lvCu_1 To Tr Tk m s o (h := hyCu_p10) rfl ?_ (thXe (v := St' s) (u := St' Tr) rfl rfl (congrArg (fun l => St' l) hce.2.1) (thXv (v := .int .i64 (m)) rfl rfl (thXe (v := rwG reC o) (u := rwG reC To) rfl rfl (congrArg (rwG reC) hce.1) (thNil)))) runCu_p10
        unfold hyCu_p10
        exact hc (kRn (denX rfl)) <|
         hc (kBytesB (bs := ([] : LB)) .nil (denX rfl)) <|
         hc (lnV rfl rfl (by omega)) <|
         hc (gecF rfl (by omega)) <|
         hc (kNeS (isX rfl) (isSx (l := ([] : LB)) 0 0 rfl) (bnF (nilT (by omega)))) <|
         hc (ltcT rfl (by omega)) <|
         hnil
      · by_cases h2 : bt s 0 = 1
        · skip
          have := bt_lo s 0; have := bt_hi s 0
          have hb1 := bt_lo s 4; have hb2 := bt_lo s 5; have hb3 := bt_lo s 6; have hb4 := bt_hi s 4; have hb5 := bt_hi s 5; have hb6 := bt_hi s 6
          have hce := cu_end (m := m) (s := s) (k := 11) (rck11 (by omega) (by omega) (by omega)) (by decide) i1 i2 i3; have hk3 := hce.2.2
          refine lvCu_1 To Tr Tk m s o (h := hyCu_p11) rfl ?_ (thXe (v := St' s) (u := St' Tr) rfl rfl (congrArg (fun l => St' l) hce.2.1) (thXv (v := .int .i64 (m)) rfl rfl (thXe (v := rwG reC o) (u := rwG reC To) rfl rfl (congrArg (rwG reC) hce.1) (thNil)))) runCu_p11
          unfold hyCu_p11
          exact hc (kRn (denX rfl)) <|
           hc (kBytesB (bs := ([] : LB)) .nil (denX rfl)) <|
           hc (lnV rfl rfl (by omega)) <|
           hc (gecF rfl (by omega)) <|
           hc (kNeS (isX rfl) (isSx (l := ([] : LB)) 0 0 rfl) (bnT (nilF (by omega)))) <|
           hc (ixC rfl rfl (by omega)) <|
           hc (necF rfl (by omega)) <|
           hc (ltcT rfl (by omega)) <|
           hnil
        · exfalso; exact cz (rck13 (by omega) (by omega)) (by decide) i3 (by omega)
theorem lfOkCu_1 {l : LF} {h : LH} (To : List (Int × Int × LB × Int)) (Tr : LB) (Tk m : Int) (x0 : Tk = 11) (x1 : ¬ To.length = 0) (st : Nat × LB × List (Int × Int × LB × Int)) (hI : InvCu To Tr Tk m st) (hl : l.hp = some h) (hs : lfSame l h 38 keepCu .ret 1 40 100 = true) {th0 : LA} {sg0 : List (Nat × Nat)} (hth0 : ∀ X, ThOk (cx nu one 1 laidE laidE_stab) (DCu To Tr Tk m st X) th0) (h0 : startOk l h 38 40 42 th0 sg0 (epCu st) (hpCu st) = true) {thx : LA} (hthx : ThOk (ECu_1 To Tr Tk m) (cx nu one 1 laidE laidE_stab) thx) (hx : exitOk l h 38 40 100 thx [(4, .sr 40), (5, .x 0), (6, .ni)] [(2, .b ⟨53, .l [.x 1, .und, .und, .b false], 0, 0, 0, false, false⟩), (40, .r 2000000 26 4 false)] = true) : LfOk (cx nu one 1 laidE laidE_stab) bodyCu l :=
  lfOkX (E := ECu_1 To Tr Tk m) (InvCu To Tr Tk m) (muCu To Tr Tk m) (DCu To Tr Tk m) (fun _ _ => rfl) (fun _ _ => rfl) (fun _ _ => rfl) (fun st X t ht => nuX_keep.trans (rX_keep ((by decide : ∀ t, t ∈ keepCu → t < 1000000) t ht))) rfl rfl rfl hl hs ebCu rfl rfl st hI hth0 h0 hthx hx (roundsCu_1 To Tr Tk m x0 x1)
def nuECu_2 (To : List (Int × Int × LB × Int)) (Tr : LB) (Tk m : Int) : List Value := [St' Tr, .int .i64 (m), .int .i64 (Tk)]
def roECu_2 (To : List (Int × Int × LB × Int)) (Tr : LB) (Tk m : Int) : List Value := []
noncomputable def ECu_2 (To : List (Int × Int × LB × Int)) (Tr : LB) (Tk m : Int) : Cx := cx (nuX (nuECu_2 To Tr Tk m) (rX (roECu_2 To Tr Tk m) (fun _ => .bool true))) (nuX_one (nuL_one (l := nuECu_2 To Tr Tk m) rfl)) 1 laidE laidE_stab
theorem roundsCu_2 (To : List (Int × Int × LB × Int)) (Tr : LB) (Tk m : Int) (x0 : ¬ Tk = 11) (x1 : To.length = 0) (st : Nat × LB × List (Int × Int × LB × Int)) (X : Nat → Value) (hI : InvCu To Tr Tk m st) : RHCu To Tr Tk m (ECu_2 To Tr Tk m) .ret [(4, .nils), (5, .x 0), (6, .ifc 68 (.ag [.x 2, .s 35 883751524516594027940889836758751821087985845510287451484159566615753519918736505186]))] [(2, .b ⟨53, .l [.x 1, .und, .und, .b false], 0, 0, 0, false, false⟩)] st X := by
  obtain ⟨tag, s, o⟩ := st
  have hI0 := hI
  obtain ⟨i0, i1, i2, i3, i4, i5, i6, it⟩ := unICu To Tr Tk m tag s o hI
  rcases (show tag = 0 ∨ tag = 1 from by omega) with rfl | rfl
  · skip
    by_cases h0 : 6 ≤ (s.length : Int)
    · by_cases h1 : bt s 0 = 1
      · by_cases h2 : m < (bt s 4) * 256 + (bt s 5)
        · skip
          have := bt_lo s 0; have := bt_hi s 0
          have := bt_lo s 4; have := bt_hi s 4
          have := bt_lo s 5; have := bt_hi s 5
          have hb1 := bt_lo s 4; have hb2 := bt_lo s 5; have hb3 := bt_lo s 6; have hb4 := bt_hi s 4; have hb5 := bt_hi s 5; have hb6 := bt_hi s 6
          have hce := cu_end (m := m) (s := s) (k := 12) (rck12 (by omega) (by omega) (by omega)) (by decide) i1 i2 i3; have hk3 := hce.2.2
          have ho : ∀ a' r', (a', r') ∈ hyCu_p5 → HOk (cx (nuX (nuCu_0 To Tr Tk m s o) (rX (roCu_0 To Tr Tk m s o) X)) (nuX_one (nuL_one (l := nuCu_0 To Tr Tk m s o) rfl)) 1 laidE laidE_stab) a' r' := by
            unfold hyCu_p5
            exact hc (kRn (denX rfl)) <|
             hc (kBytesB (bs := ([] : LB)) .nil (denX rfl)) <|
             hc (lnV rfl rfl (by omega)) <|
             hc (gecT rfl (by omega)) <|
             hc (ixC rfl rfl (by omega)) <|
             hc (eqcT rfl (by omega)) <|
             hc (ixC rfl rfl (by omega)) <|
             hc (kConvF (isX rfl) tu3 (denX rfl) (fI64 (by omega) (by omega))) <|
             hc (kShlM 8 256 rfl (isX rfl) (isZ (m := 8) rfl) (denX rfl) rfl (by decide) (by omega) (fI64 (by omega) (by omega))) <|
             hc (ixC rfl rfl (by omega)) <|
             hc (kConvF (isX rfl) tu3 (denX rfl) (fI64 (by omega) (by omega))) <|
             hc (adX rfl rfl rfl (by omega)) <|
             hc (gtT rfl rfl (by omega)) <|
             hnil
          exact lLCu_0 To Tr Tk m s o (tb := tbCu_p5) (L := LCu_p5) rfl (AllOk.lp2 ((tabkOk _ _).hyps ho) (by omega) fi25_at fi25_body (lfCons (.inr ⟨⟨rfl, rfl⟩, cfA25, cfAsx1_0 (l := lf3) (h := lh3) (q := (0, .b true)) rfl rfl (by kernel_rfl) (th0 := []) (sg0 := []) (thNil) (by kernel_rfl) (thx := []) (thNil) (by kernel_rfl)⟩) lfNil)) (lpOk_one lfNil) rfl (thXe (v := St' s) (u := St' Tr) rfl rfl (congrArg (fun l => St' l) hce.2.1) (thXv (v := .int .i64 (m)) rfl rfl (thCons (show Is _ (.i .i64 (.ofNat 12)) (.int .i64 (Tk)) from isTo (v := .int .i64 12) (isI _ _) (congrArg (Value.int .i64) hk3)) (thNil)))) runCu_p5
        · by_cases h5 : (s.length : Int) < 8
          · exfalso; exact cz (rck11 (by omega) (by omega) (by omega)) (by decide) i3 (by omega)
          · by_cases h6 : (s.length : Int) < (bt s 4) * 256 + (bt s 5) + (bt s 6) + 8
            · exfalso; exact cz (rck11 (by omega) (by omega) (by omega)) (by decide) i3 (by omega)
            · by_cases h7 : bt s 1 = 0
              · skip
                have := bt_lo s 0; have := bt_hi s 0
                have := bt_lo s 4; have := bt_hi s 4
                have := bt_lo s 5; have := bt_hi s 5
                have := bt_lo s 6; have := bt_hi s 6
                have := bt_lo s 1; have := bt_hi s 1
                have hb1 := bt_lo s 4; have hb2 := bt_lo s 5; have hb3 := bt_lo s 6; have hb4 := bt_hi s 4; have hb5 := bt_hi s 5; have hb6 := bt_hi s 6
                have hce := cu_end (m := m) (s := s) (k := 10) (rck10 (by omega) (by omega) (by omega) (by omega) (by omega)) (by decide) i1 i2 i3; have hk3 := hce.2.2
                have ho : ∀ a' r', (a', r') ∈ hyCu_p8 → HOk (cx (nuX (nuCu_0 To Tr Tk m s o) (rX (roCu_0 To Tr Tk m s o) X)) (nuX_one (nuL_one (l := nuCu_0 To Tr Tk m s o) rfl)) 1 laidE laidE_stab) a' r' := by
                  unfold hyCu_p8
                  exact hc (kRn (denX rfl)) <|
                   hc (kBytesB (bs := ([] : LB)) .nil (denX rfl)) <|
                   hc (lnV rfl rfl (by omega)) <|
                   hc (gecT rfl (by omega)) <|
                   hc (ixC rfl rfl (by omega)) <|
                   hc (eqcT rfl (by omega)) <|
                   hc (ixC rfl rfl (by omega)) <|
                   hc (kConvF (isX rfl) tu3 (denX rfl) (fI64 (by omega) (by omega))) <|
                   hc (kShlM 8 256 rfl (isX rfl) (isZ (m := 8) rfl) (denX rfl) rfl (by decide) (by omega) (fI64 (by omega) (by omega))) <|
                   hc (ixC rfl rfl (by omega)) <|
                   hc (kConvF (isX rfl) tu3 (denX rfl) (fI64 (by omega) (by omega))) <|
                   hc (adX rfl rfl rfl (by omega)) <|
                   hc (gtF rfl rfl (by omega)) <|
                   hc (kNeS (isX rfl) (isSx (l := ([] : LB)) 0 0 rfl) (bnT (nilF (by omega)))) <|
                   hc (necF rfl (by omega)) <|
                   hc (ltcF rfl (by omega)) <|
                   hc (kAdd (isZ (m := 8) rfl) (isX rfl) (denX rfl) (by omega) (fI64 (by omega) (by omega))) <|
                   hc (adX rfl rfl rfl (by omega)) <|
                   hc (ixC rfl rfl (by omega)) <|
                   hc (kConvF (isX rfl) tu3 (denX rfl) (fI64 (by omega) (by omega))) <|
                   hc (adX rfl rfl rfl (by omega)) <|
                   hc (ltF rfl rfl (by omega)) <|
                   hc (ixC rfl rfl (by omega)) <|
                   hc (eqcT rfl (by omega)) <|
                   hnil
                exact lLCu_0 To Tr Tk m s o (tb := tbCu_p8) (L := LCu_p8) rfl (AllOk.lp2 ((tabkOk _ _).hyps ho) (by omega) fi25_at fi25_body (lfCons (.inr ⟨⟨rfl, rfl⟩, cfA25, cfAsx2_0 (l := lf5) (h := lh5) (q := (0, .b true)) rfl rfl (by kernel_rfl) (th0 := []) (sg0 := []) (thNil) (by kernel_rfl) (thx := []) (thNil) (by kernel_rfl)⟩) lfNil)) (lpOk_one lfNil) rfl (thXe (v := St' s) (u := St' Tr) rfl rfl (congrArg (fun l => St' l) hce.2.1) (thXv (v := .int .i64 (m)) rfl rfl (thCons (show Is _ (.i .i64 (.ofNat 10)) (.int .i64 (Tk)) from isTo (v := .int .i64 10) (isI _ _) (congrArg (Value.int .i64) hk3)) (thNil)))) runCu_p8
              · exact nxCu_p0 To Tr Tk m s o X hI0 h0 h1 h2 h5 h6 h7
      · skip
        have := bt_lo s 0; have := bt_hi s 0
        have hb1 := bt_lo s 4; have hb2 := bt_lo s 5; have hb3 := bt_lo s 6; have hb4 := bt_hi s 4; have hb5 := bt_hi s 5; have hb6 := bt_hi s 6
        have hce := cu_end (m := m) (s := s) (k := 13) (rck13 (by omega) (by omega)) (by decide) i1 i2 i3; have hk3 := hce.2.2
        have ho : ∀ a' r', (a', r') ∈ hyCu_p4 → HOk (cx (nuX (nuCu_0 To Tr Tk m s o) (rX (roCu_0 To Tr Tk m s o) X)) (nuX_one (nuL_one (l := nuCu_0 To Tr Tk m s o) rfl)) 1 laidE laidE_stab) a' r' := by
          unfold hyCu_p4
          exact hc (kRn (denX rfl)) <|
           hc (kBytesB (bs := ([] : LB)) .nil (denX rfl)) <|
           hc (lnV rfl rfl (by omega)) <|
           hc (gecT rfl (by omega)) <|
           hc (ixC rfl rfl (by omega)) <|
           hc (eqcF rfl (by omega)) <|
           hc (kNeS (isX rfl) (isSx (l := ([] : LB)) 0 0 rfl) (bnT (nilF (by omega)))) <|
           hc (necT rfl (by omega)) <|
           hnil
        exact lLCu_0 To Tr Tk m s o (tb := tbCu_p4) (L := LCu_p4) rfl (AllOk.lp2 ((tabkOk _ _).hyps ho) (by omega) fi25_at fi25_body (lfCons (.inr ⟨⟨rfl, rfl⟩, cfA25, cfAsx0_0 (l := lf2) (h := lh2) (q := (0, .b true)) rfl rfl (by kernel_rfl) (th0 := []) (sg0 := []) (thNil) (by kernel_rfl) (thx := []) (thNil) (by kernel_rfl)⟩) lfNil)) (lpOk_one lfNil) rfl (thXe (v := St' s) (u := St' Tr) rfl rfl (congrArg (fun l => St' l) hce.2.1) (thXv (v := .int .i64 (m)) rfl rfl (thCons (show Is _ (.i .i64 (.ofNat 13)) (.int .i64 (Tk)) from isTo (v := .int .i64 13) (isI _ _) (congrArg (Value.int .i64) hk3)) (thNil)))) runCu_p4
    · by_cases h1 : (s.length : Int) = 0
      · exfalso; exact cz (rck11 (by omega) (by omega) (by omega)) (by decide) i3 (by omega)
      · by_cases h2 : bt s 0 = 1
        · exfalso; exact cz (rck11 (by omega) (by omega) (by omega)) (by decide) i3 (by omega)
        · skip
          have := bt_lo s 0; have := bt_hi s 0
          have hb1 := bt_lo s 4; have hb2 := bt_lo s 5; have hb3 := bt_lo s 6; have hb4 := bt_hi s 4; have hb5 := bt_hi s 5; have hb6 := bt_hi s 6
          have hce := cu_end (m := m) (s := s) (k := 13) (rck13 (by omega) (by omega)) (by decide) i1 i2 i3; have hk3 := hce.2.2
          have ho : ∀ a' r', (a', r') ∈ hyCu_p3 → HOk (cx (nuX (nuCu_0 To Tr Tk m s o) (rX (roCu_0 To Tr Tk m s o) X)) (nuX_one (nuL_one (l := nuCu_0 To Tr Tk m s o) rfl)) 1 laidE laidE_stab) a' r' := by
            unfold hyCu_p3
            exact hc (kRn (denX rfl)) <|
             hc (kBytesB (bs := ([] : LB)) .nil (denX rfl)) <|
             hc (lnV rfl rfl (by omega)) <|
             hc (gecF rfl (by omega)) <|
             hc (kNeS (isX rfl) (isSx (l := ([] : LB)) 0 0 rfl) (bnT (nilF (by omega)))) <|
             hc (ixC rfl rfl (by omega)) <|
             hc (necT rfl (by omega)) <|
             hnil
          exact lLCu_0 To Tr Tk m s o (tb := tbCu_p3) (L := LCu_p3) rfl (AllOk.lp2 ((tabkOk _ _).hyps ho) (by omega) fi25_at fi25_body (lfCons (.inr ⟨⟨rfl, rfl⟩, cfA25, cfAsx0_0 (l := lf1) (h := lh1) (q := (0, .b true)) rfl rfl (by kernel_rfl) (th0 := []) (sg0 := []) (thNil) (by kernel_rfl) (thx := []) (thNil) (by kernel_rfl)⟩) lfNil)) (lpOk_one lfNil) rfl (thXe (v := St' s) (u := St' Tr) rfl rfl (congrArg (fun l => St' l) hce.2.1) (thXv (v := .int .i64 (m)) rfl rfl (thCons (show Is _ (.i .i64 (.ofNat 13)) (.int .i64 (Tk)) from isTo (v := .int .i64 13) (isI _ _) (congrArg (Value.int .i64) hk3)) (thNil)))) runCu_p3
  · skip
    by_cases h0 : 6 ≤ (s.length : Int)
    · by_cases h1 : bt s 0 = 1
      · by_cases h2 : m < (bt s 4) * 256 + (bt s 5)
        · exfalso; have hce := cu_end (rck12 (by omega) (by omega) (by omega)) (by decide) i1 i2 i3; have h0 := i6 rfl; rw [hce.1] at h0; omega
        · by_cases h5 : (s.length : Int) < 8
          · exfalso; exact cz (rck11 (by omega) (by omega) (by omega)) (by decide) i3 (by omega)
          · by_cases h6 : (s.length : Int) < (bt s 4) * 256 + (bt s 5) + (bt s 6) + 8
            · exfalso; exact cz (rck11 (by omega) (by omega) (by omega)) (by decide) i3 (by omega)
            · by_cases h7 : bt s 1 = 0
              · exfalso; have hce := cu_end (rck10 (by omega) (by omega) (by omega) (by omega) (by omega)) (by decide) i1 i2 i3; have h0 := i6 rfl; rw [hce.1] at h0; omega
              · exact nxCu_p9 To Tr Tk m s o X hI0 h0 h1 h2 h5 h6 h7
      · exfalso; have hce := cu_end (rck13 (by omega) (by omega)) (by decide) i1 i2 i3; have h0 := i6 rfl; rw [hce.1] at h0; omega
    · by_cases h1 : (s.length : Int) = 0
      · exfalso; exact cz (rck11 (by omega) (by omega) (by omega)) (by decide) i3 (by omega)
      · by_cases h2 : bt s 0 = 1
        · exfalso; exact cz (rck11 (by omega) (by omega) (by omega)) (by decide) i3 (by omega)
        · exfalso; have hce := cu_end (rck13 (by omega) (by omega)) (by decide) i1 i2 i3; have h0 := i6 rfl; rw [hce.1] at h0; omega
theorem lfOkCu_2 {l : LF} {h : LH} (To : List (Int × Int × LB × Int)) (Tr : LB) (Tk m : Int) (x0 : ¬ Tk = 11) (x1 : To.length = 0) (st : Nat × LB × List (Int × Int × LB × Int)) (hI : InvCu To Tr Tk m st) (hl : l.hp = some h) (hs : lfSame l h 38 keepCu .ret 1 40 100 = true) {th0 : LA} {sg0 : List (Nat × Nat)} (hth0 : ∀ X, ThOk (cx nu one 1 laidE laidE_stab) (DCu To Tr Tk m st X) th0) (h0 : startOk l h 38 40 42 th0 sg0 (epCu st) (hpCu st) = true) {thx : LA} (hthx : ThOk (ECu_2 To Tr Tk m) (cx nu one 1 laidE laidE_stab) thx) (hx : exitOk l h 38 40 100 thx [(4, .nils), (5, .x 0), (6, .ifc 68 (.ag [.x 2, .s 35 883751524516594027940889836758751821087985845510287451484159566615753519918736505186]))] [(2, .b ⟨53, .l [.x 1, .und, .und, .b false], 0, 0, 0, false, false⟩)] = true) : LfOk (cx nu one 1 laidE laidE_stab) bodyCu l :=
  lfOkX (E := ECu_2 To Tr Tk m) (InvCu To Tr Tk m) (muCu To Tr Tk m) (DCu To Tr Tk m) (fun _ _ => rfl) (fun _ _ => rfl) (fun _ _ => rfl) (fun st X t ht => nuX_keep.trans (rX_keep ((by decide : ∀ t, t ∈ keepCu → t < 1000000) t ht))) rfl rfl rfl hl hs ebCu rfl rfl st hI hth0 h0 hthx hx (roundsCu_2 To Tr Tk m x0 x1)
def nuECu_3 (To : List (Int × Int × LB × Int)) (Tr : LB) (Tk m : Int) : List Value := [St' Tr, .int .i64 (m), .int .i64 (Tk)]
def roECu_3 (To : List (Int × Int × LB × Int)) (Tr : LB) (Tk m : Int) : List Value := [rwG reC To]
noncomputable def ECu_3 (To : List (Int × Int × LB × Int)) (Tr : LB) (Tk m : Int) : Cx := cx (nuX (nuECu_3 To Tr Tk m) (rX (roECu_3 To Tr Tk m) (fun _ => .bool true))) (nuX_one (nuL_one (l := nuECu_3 To Tr Tk m) rfl)) 1 laidE laidE_stab
theorem roundsCu_3 (To : List (Int × Int × LB × Int)) (Tr : LB) (Tk m : Int) (x0 : ¬ Tk = 11) (x1 : ¬ To.length = 0) (st : Nat × LB × List (Int × Int × LB × Int)) (X : Nat → Value) (hI : InvCu To Tr Tk m st) : RHCu To Tr Tk m (ECu_3 To Tr Tk m) .ret [(4, .sr 40), (5, .x 0), (6, .ifc 68 (.ag [.x 2, .s 35 883751524516594027940889836758751821087985845510287451484159566615753519918736505186]))] [(2, .b ⟨53, .l [.x 1, .und, .und, .b false], 0, 0, 0, false, false⟩), (40, .r 2000000 26 4 false)] st X := by
  obtain ⟨tag, s, o⟩ := st
  have hI0 := hI
  obtain ⟨i0, i1, i2, i3, i4, i5, i6, it⟩ := unICu To Tr Tk m tag s o hI
  rcases (show tag = 0 ∨ tag = 1 from by omega) with rfl | rfl
  · skip
    by_cases h0 : 6 ≤ (s.length : Int)
    · by_cases h1 : bt s 0 = 1
      · by_cases h2 : m < (bt s 4) * 256 + (bt s 5)
        · exfalso; have hce := cu_end (rck12 (by omega) (by omega) (by omega)) (by decide) i1 i2 i3; have h0 := i5 rfl; rw [← hce.1, h0] at x1; simp at x1
        · by_cases h5 : (s.length : Int) < 8
          · exfalso; exact cz (rck11 (by omega) (by omega) (by omega)) (by decide) i3 (by omega)
          · by_cases h6 : (s.length : Int) < (bt s 4) * 256 + (bt s 5) + (bt s 6) + 8
            · exfalso; exact cz (rck11 (by omega) (by omega) (by omega)) (by decide) i3 (by omega)
            · by_cases h7 : bt s 1 = 0
              · exfalso; have hce := cu_end (rck10 (by omega) (by omega) (by omega) (by omega) (by omega)) (by decide) i1 i2 i3; have h0 := i5 rfl; rw [← hce.1, h0] at x1; simp at x1
              · exact nxCu_p0 To Tr Tk m s o X hI0 h0 h1 h2 h5 h6 h7
      · exfalso; have hce := cu_end (rck13 (by omega) (by omega)) (by decide) i1 i2 i3; have h0 := i5 rfl; rw [← hce.1, h0] at x1; simp at x1
    · by_cases h1 : (s.length : Int) = 0
      · exfalso; exact cz (rck11 (by omega) (by omega) (by omega)) (by decide) i3 (by omega)
      · by_cases h2 : bt s 0 = 1
        · exfalso; exact cz (rck11 (by omega) (by omega) (by omega)) (by decide) i3 (by omega)
        · exfalso; have hce := cu_end (rck13 (by omega) (by omega)) (by decide) i1 i2 i3; have h0 := i5 rfl; rw [← hce.1, h0] at x1; simp at x1
  · skip
    by_cases h0 : 6 ≤ (s.length : Int)
    · by_cases h1 : bt s 0 = 1
      · by_cases h2 : m < (bt s 4) * 256 + (bt s 5)
        · skip
          have := bt_lo s 0; have := bt_hi s 0
          have := bt_lo s 4; have := bt_hi s 4
          have := bt_lo s 5; have := bt_hi s 5
          have hb1 := bt_lo s 4; have hb2 := bt_lo s 5; have hb3 := bt_lo s 6; have hb4 := bt_hi s 4; have hb5 := bt_hi s 5; have hb6 := bt_hi s 6
          have hce := cu_end (m := m) (s := s) (k := 12) (rck12 (by omega) (by omega) (by omega)) (by decide) i1 i2 i3; have hk3 := hce.2.2
          have ho : ∀ a' r', (a', r') ∈ hyCu_p14 → HOk (cx (nuX (nuCu_1 To Tr Tk m s o) (rX (roCu_1 To Tr Tk m s o) X)) (nuX_one (nuL_one (l := nuCu_1 To Tr Tk m s o) rfl)) 1 laidE laidE_stab) a' r' := by
            unfold hyCu_p14
            exact hc (kRn (denX rfl)) <|
             hc (kBytesB (bs := ([] : LB)) .nil (denX rfl)) <|
             hc (lnV rfl rfl (by omega)) <|
             hc (gecT rfl (by omega)) <|
             hc (ixC rfl rfl (by omega)) <|
             hc (eqcT rfl (by omega)) <|
             hc (ixC rfl rfl (by omega)) <|
             hc (kConvF (isX rfl) tu3 (denX rfl) (fI64 (by omega) (by omega))) <|
             hc (kShlM 8 256 rfl (isX rfl) (isZ (m := 8) rfl) (denX rfl) rfl (by decide) (by omega) (fI64 (by omega) (by omega))) <|
             hc (ixC rfl rfl (by omega)) <|
             hc (kConvF (isX rfl) tu3 (denX rfl) (fI64 (by omega) (by omega))) <|
             hc (adX rfl rfl rfl (by omega)) <|
             hc (gtT rfl rfl (by omega)) <|
             hnil
          exact lLCu_1 To Tr Tk m s o (tb := tbCu_p14) (L := LCu_p14) rfl (AllOk.lp2 ((tabkOk _ _).hyps ho) (by omega) fi25_at fi25_body (lfCons (.inr ⟨⟨rfl, rfl⟩, cfA25, cfAsx1_0 (l := lf9) (h := lh9) (q := (0, .b true)) rfl rfl (by kernel_rfl) (th0 := []) (sg0 := []) (thNil) (by kernel_rfl) (thx := []) (thNil) (by kernel_rfl)⟩) lfNil)) (lpOk_one lfNil) rfl (thXe (v := St' s) (u := St' Tr) rfl rfl (congrArg (fun l => St' l) hce.2.1) (thXv (v := .int .i64 (m)) rfl rfl (thCons (show Is _ (.i .i64 (.ofNat 12)) (.int .i64 (Tk)) from isTo (v := .int .i64 12) (isI _ _) (congrArg (Value.int .i64) hk3)) (thXe (v := rwG reC o) (u := rwG reC To) rfl rfl (congrArg (rwG reC) hce.1) (thNil))))) runCu_p14
        · by_cases h5 : (s.length : Int) < 8
          · exfalso; exact cz (rck11 (by omega) (by omega) (by omega)) (by decide) i3 (by omega)
          · by_cases h6 : (s.length : Int) < (bt s 4) * 256 + (bt s 5) + (bt s 6) + 8
            · exfalso; exact cz (rck11 (by omega) (by omega) (by omega)) (by decide) i3 (by omega)
            · by_cases h7 : bt s 1 = 0
              · skip
                have := bt_lo s 0; have := bt_hi s 0
                have := bt_lo s 4; have := bt_hi s 4
                have := bt_lo s 5; have := bt_hi s 5
                have := bt_lo s 6; have := bt_hi s 6
                have := bt_lo s 1; have := bt_hi s 1
                have hb1 := bt_lo s 4; have hb2 := bt_lo s 5; have hb3 := bt_lo s 6; have hb4 := bt_hi s 4; have hb5 := bt_hi s 5; have hb6 := bt_hi s 6
                have hce := cu_end (m := m) (s := s) (k := 10) (rck10 (by omega) (by omega) (by omega) (by omega) (by omega)) (by decide) i1 i2 i3; have hk3 := hce.2.2
                have ho : ∀ a' r', (a', r') ∈ hyCu_p17 → HOk (cx (nuX (nuCu_1 To Tr Tk m s o) (rX (roCu_1 To Tr Tk m s o) X)) (nuX_one (nuL_one (l := nuCu_1 To Tr Tk m s o) rfl)) 1 laidE laidE_stab) a' r' := by
                  unfold hyCu_p17
                  exact hc (kRn (denX rfl)) <|
                   hc (kBytesB (bs := ([] : LB)) .nil (denX rfl)) <|
                   hc (lnV rfl rfl (by omega)) <|
                   hc (gecT rfl (by omega)) <|
                   hc (ixC rfl rfl (by omega)) <|
                   hc (eqcT rfl (by omega)) <|
                   hc (ixC rfl rfl (by omega)) <|
                   hc (kConvF (isX rfl) tu3 (denX rfl) (fI64 (by omega) (by omega))) <|
                   hc (kShlM 8 256 rfl (isX rfl) (isZ (m := 8) rfl) (denX rfl) rfl (by decide) (by omega) (fI64 (by omega) (by omega))) <|
                   hc (ixC rfl rfl (by omega)) <|
                   hc (kConvF (isX rfl) tu3 (denX rfl) (fI64 (by omega) (by omega))) <|
                   hc (adX rfl rfl rfl (by omega)) <|
                   hc (gtF rfl rfl (by omega)) <|
                   hc (kNeS (isX rfl) (isSx (l := ([] : LB)) 0 0 rfl) (bnT (nilF (by omega)))) <|
                   hc (necF rfl (by omega)) <|
                   hc (ltcF rfl (by omega)) <|
                   hc (kAdd (isZ (m := 8) rfl) (isX rfl) (denX rfl) (by omega) (fI64 (by omega) (by omega))) <|
                   hc (adX rfl rfl rfl (by omega)) <|
                   hc (ixC rfl rfl (by omega)) <|
                   hc (kConvF (isX rfl) tu3 (denX rfl) (fI64 (by omega) (by omega))) <|
                   hc (adX rfl rfl rfl (by omega)) <|
                   hc (ltF rfl rfl (by omega)) <|
                   hc (ixC rfl rfl (by omega)) <|
                   hc (eqcT rfl (by omega)) <|
                   hnil
                exact lLCu_1 To Tr Tk m s o (tb := tbCu_p17) (L := LCu_p17) rfl (AllOk.lp2 ((tabkOk _ _).hyps ho) (by omega) fi25_at fi25_body (lfCons (.inr ⟨⟨rfl, rfl⟩, cfA25, cfAsx2_0 (l := lf11) (h := lh11) (q := (0, .b true)) rfl rfl (by kernel_rfl) (th0 := []) (sg0 := []) (thNil) (by kernel_rfl) (thx := []) (thNil) (by kernel_rfl)⟩) lfNil)) (lpOk_one lfNil) rfl (thXe (v := St' s) (u := St' Tr) rfl rfl (congrArg (fun l => St' l) hce.2.1) (thXv (v := .int .i64 (m)) rfl rfl (thCons (show Is _ (.i .i64 (.ofNat 10)) (.int .i64 (Tk)) from isTo (v := .int .i64 10) (isI _ _) (congrArg (Value.int .i64) hk3)) (thXe (v := rwG reC o) (u := rwG reC To) rfl rfl (congrArg (rwG reC) hce.1) (thNil))))) runCu_p17
              · exact nxCu_p9 To Tr Tk m s o X hI0 h0 h1 h2 h5 h6 h7
      · skip
        have := bt_lo s 0; have := bt_hi s 0
        have hb1 := bt_lo s 4; have hb2 := bt_lo s 5; have hb3 := bt_lo s 6; have hb4 := bt_hi s 4; have hb5 := bt_hi s 5; have hb6 := bt_hi s 6
        have hce := cu_end (m := m) (s := s) (k := 13) (rck13 (by omega) (by omega)) (by decide) i1 i2 i3; have hk3 := hce.2.2
        have ho : ∀ a' r', (a', r') ∈ hyCu_p13 → HOk (cx (nuX (nuCu_1 To Tr Tk m s o) (rX (roCu_1 To Tr Tk m s o) X)) (nuX_one (nuL_one (l := nuCu_1 To Tr Tk m s o) rfl)) 1 laidE laidE_stab) a' r' := by
          unfold hyCu_p13
          exact hc (kRn (denX rfl)) <|
           hc (kBytesB (bs := ([] : LB)) .nil (denX rfl)) <|
           hc (lnV rfl rfl (by omega)) <|
           hc (gecT rfl (by omega)) <|
           hc (ixC rfl rfl (by omega)) <|
           hc (eqcF rfl (by omega)) <|
           hc (kNeS (isX rfl) (isSx (l := ([] : LB)) 0 0 rfl) (bnT (nilF (by omega)))) <|
           hc (necT rfl (by omega)) <|
           hnil
        exact lLCu_1 To Tr Tk m s o (tb := tbCu_p13) (L := LCu_p13) rfl (AllOk.lp2 ((tabkOk _ _).hyps ho) (by omega) fi25_at fi25_body (lfCons (.inr ⟨⟨rfl, rfl⟩, cfA25, cfAsx0_0 (l := lf8) (h := lh8) (q := (0, .b true)) rfl rfl (by kernel_rfl) (th0 := []) (sg0 := []) (thNil) (by kernel_rfl) (thx := []) (thNil) (by kernel_rfl)⟩) lfNil)) (lpOk_one lfNil) rfl (thXe (v := St' s) (u := St' Tr) rfl rfl (congrArg (fun l => St' l) hce.2.1) (thXv (v := .int .i64 (m)) rfl rfl (thCons (show Is _ (.i .i64 (.ofNat 13)) (.int .i64 (Tk)) from isTo (v := .int .i64 13) (isI _ _) (congrArg (Value.int .i64) hk3)) (thXe (v := rwG reC o) (u := rwG reC To) rfl rfl (congrArg (rwG reC) hce.1) (thNil))))) runCu_p13
    · by_cases h1 : (s.length : Int) = 0
      · exfalso; exact cz (rck11 (by omega) (by omega) (by omega)) (by decide) i3 (by omega)
      · by_cases h2 : bt s 0 = 1
        · exfalso; exact cz (rck11 (by omega) (by omega) (by omega)) (by decide) i3 (by omega)
        · skip
          have := bt_lo s 0; have := bt_hi s 0
          have hb1 := bt_lo s 4; have hb2 := bt_lo s 5; have hb3 := bt_lo s 6; have hb4 := bt_hi s 4; have hb5 := bt_hi s 5; have hb6 := bt_hi s 6
          have hce := cu_end (m := m) (s := s) (k := 13) (rck13 (by omega) (by omega)) (by decide) i1 i2 i3; have hk3 := hce.2.2
          have ho : ∀ a' r', (a', r') ∈ hyCu_p12 → HOk (cx (nuX (nuCu_1 To Tr Tk m s o) (rX (roCu_1 To Tr Tk m s o) X)) (nuX_one (nuL_one (l := nuCu_1 To Tr Tk m s o) rfl)) 1 laidE laidE_stab) a' r' := by
            unfold hyCu_p12
            exact hc (kRn (denX rfl)) <|
             hc (kBytesB (bs := ([] : LB)) .nil (denX rfl)) <|
             hc (lnV rfl rfl (by omega)) <|
             hc (gecF rfl (by omega)) <|
             hc (kNeS (isX rfl) (isSx (l := ([] : LB)) 0 0 rfl) (bnT (nilF (by omega)))) <|
             hc (ixC rfl rfl (by omega)) <|
             hc (necT rfl (by omega)) <|
             hnil
          exact lLCu_1 To Tr Tk m s o (tb := tbCu_p12) (L := LCu_p12) rfl (AllOk.lp2 ((tabkOk _ _).hyps ho) (by omega) fi25_at fi25_body (lfCons (.inr ⟨⟨rfl, rfl⟩, cfA25, cfAsx0_0 (l := lf7) (h := lh7) (q := (0, .b true)) rfl rfl (by kernel_rfl) (th0 := []) (sg0 := []) (thNil) (by kernel_rfl) (thx := []) (thNil) (by kernel_rfl)⟩) lfNil)) (lpOk_one lfNil) rfl (thXe (v := St' s) (u := St' Tr) rfl rfl (congrArg (fun l => St' l) hce.2.1) (thXv (v := .int .i64 (m)) rfl rfl (thCons (show Is _ (.i .i64 (.ofNat 13)) (.int .i64 (Tk)) from isTo (v := .int .i64 13) (isI _ _) (congrArg (Value.int .i64) hk3)) (thXe (v := rwG reC o) (u := rwG reC To) rfl rfl (congrArg (rwG reC) hce.1) (thNil))))) runCu_p12
theorem lfOkCu_3 {l : LF} {h : LH} (To : List (Int × Int × LB × Int)) (Tr : LB) (Tk m : Int) (x0 : ¬ Tk = 11) (x1 : ¬ To.length = 0) (st : Nat × LB × List (Int × Int × LB × Int)) (hI : InvCu To Tr Tk m st) (hl : l.hp = some h) (hs : lfSame l h 38 keepCu .ret 1 40 100 = true) {th0 : LA} {sg0 : List (Nat × Nat)} (hth0 : ∀ X, ThOk (cx nu one 1 laidE laidE_stab) (DCu To Tr Tk m st X) th0) (h0 : startOk l h 38 40 42 th0 sg0 (epCu st) (hpCu st) = true) {thx : LA} (hthx : ThOk (ECu_3 To Tr Tk m) (cx nu one 1 laidE laidE_stab) thx) (hx : exitOk l h 38 40 100 thx [(4, .sr 40), (5, .x 0), (6, .ifc 68 (.ag [.x 2, .s 35 883751524516594027940889836758751821087985845510287451484159566615753519918736505186]))] [(2, .b ⟨53, .l [.x 1, .und, .und, .b false], 0, 0, 0, false, false⟩), (40, .r 2000000 26 4 false)] = true) : LfOk (cx nu one 1 laidE laidE_stab) bodyCu l :=
  lfOkX (E := ECu_3 To Tr Tk m) (InvCu To Tr Tk m) (muCu To Tr Tk m) (DCu To Tr Tk m) (fun _ _ => rfl) (fun _ _ => rfl) (fun _ _ => rfl) (fun st X t ht => nuX_keep.trans (rX_keep ((by decide : ∀ t, t ∈ keepCu → t < 1000000) t ht))) rfl rfl rfl hl hs ebCu rfl rfl st hI hth0 h0 hthx hx (roundsCu_3 To Tr Tk m x0 x1)
end Go.Proofs.YtlfmfmegnenohaaDoor.cutterTells
