/- A part of the proof: an interpreter of the model's own code on partly known states, and that what it answers is what the program answers. No condition of its own. -/
import Derived.Test.YtlfmfmegnenohaaDoorG1CutterTellsO4
set_option maxRecDepth 100000
set_option linter.unusedVariables false
set_option linter.unusedSimpArgs false
set_option maxHeartbeats 4000000
namespace Go.Proofs.YtlfmfmegnenohaaDoor.cutterTells
open Go Go.AX Go.Proofs Go.Proofs.YtlfmfmegnenohaaDoor
variable {nu : Nat → Value} {one : ∀ i, i < 1000000 → (nu i).oneCell' = true} {E' : Cx} {x' : Ex} {e' : LA} {h' : LE}
noncomputable def bodyRl : Code := loopNo (Tryd.f15.body.getD .skip) 0
theorem keyRl : oneKey (loopsOf (Tryd.f15.body.getD .skip)) 5 0 0 = true := by kernel_rfl
def keepRl : List Nat := []
def epRl_0 : LA := [(0, .p 3 0), (6, .nils)]
def hpRl_0 : LE := [(3, .b ⟨46, .l [.x 1, .x 0, .b false], 0, 0, 0, false, false⟩)]
def nuRl_0 (To : List (Int × Int × LB × Int)) (Tr : LB) (Tk m : Int) (s : LB) (o : List (Int × Int × LB × Int)) : List Value := [St' s, .int .i64 (m), St' ([] : LB), .int .i64 ((s.length : Int)), .int .u8 (bt s 0), .int .u8 (bt s 4), .int .i64 ((bt s 4)), .int .i64 ((bt s 4) * 256), .int .u8 (bt s 5), .int .i64 ((bt s 5)), .int .i64 ((bt s 4) * 256 + (bt s 5)), .int .u8 (bt s 6), .int .i64 ((bt s 6)), .int .i64 ((bt s 4) * 256 + (bt s 5) + 8), .int .i64 ((bt s 4) * 256 + (bt s 5) + (bt s 6) + 8), .int .u8 (bt s 1), .int .i64 ((bt s 1)), .int .u8 (bt s 2), .int .i64 ((bt s 2)), .int .i64 ((bt s 2) * 256), .int .u8 (bt s 3), .int .i64 ((bt s 3)), .int .i64 ((bt s 2) * 256 + (bt s 3)), St' (rcC s), St' (List.drop (Int.toNat ((bt s 4) * 256 + (bt s 5) + (bt s 6) + 8)) s), St' ([] : LB), .int .i64 ((s.length : Int)), St' ([] : LB), .int .i64 ((s.length : Int)), .int .u8 (bt s 0), St' ([] : LB), .int .i64 ((s.length : Int)), .int .u8 (bt s 0), St' ([] : LB), .int .i64 ((s.length : Int)), .int .u8 (bt s 0), St' ([] : LB), .int .i64 ((s.length : Int)), .int .u8 (bt s 0), .int .u8 (bt s 4), .int .i64 ((bt s 4)), .int .i64 ((bt s 4) * 256), .int .u8 (bt s 5), .int .i64 ((bt s 5)), .int .i64 ((bt s 4) * 256 + (bt s 5)), St' ([] : LB), .int .i64 ((s.length : Int)), .int .u8 (bt s 0), .int .u8 (bt s 4), .int .i64 ((bt s 4)), .int .i64 ((bt s 4) * 256), .int .u8 (bt s 5), .int .i64 ((bt s 5)), .int .i64 ((bt s 4) * 256 + (bt s 5)), St' ([] : LB), .int .i64 ((s.length : Int)), .int .u8 (bt s 0), .int .u8 (bt s 4), .int .i64 ((bt s 4)), .int .i64 ((bt s 4) * 256), .int .u8 (bt s 5), .int .i64 ((bt s 5)), .int .i64 ((bt s 4) * 256 + (bt s 5)), .int .u8 (bt s 6), .int .i64 ((bt s 6)), .int .i64 ((bt s 4) * 256 + (bt s 5) + 8), .int .i64 ((bt s 4) * 256 + (bt s 5) + (bt s 6) + 8), St' ([] : LB), .int .i64 ((s.length : Int)), .int .u8 (bt s 0), .int .u8 (bt s 4), .int .i64 ((bt s 4)), .int .i64 ((bt s 4) * 256), .int .u8 (bt s 5), .int .i64 ((bt s 5)), .int .i64 ((bt s 4) * 256 + (bt s 5)), .int .u8 (bt s 6), .int .i64 ((bt s 6)), .int .i64 ((bt s 4) * 256 + (bt s 5) + 8), .int .i64 ((bt s 4) * 256 + (bt s 5) + (bt s 6) + 8), .int .u8 (bt s 1)]
def roRl_0 (To : List (Int × Int × LB × Int)) (Tr : LB) (Tk m : Int) (s : LB) (o : List (Int × Int × LB × Int)) : List Value := [rwS ([] : List LB), rwG reC (([] : List (Int × Int × LB × Int)) ++ [((bt s 1), (bt s 2) * 256 + (bt s 3), (rcC s), (bt s 6))]), rwS ([] : List LB), rwS ([] : List LB), rwS ([] : List LB), rwS ([] : List LB), rwS ([] : List LB), rwS ([] : List LB), rwS ([] : List LB), rwS ([] : List LB)]
def epRl_1 : LA := [(0, .p 3 0), (6, .sr 200)]
def hpRl_1 : LE := [(3, .b ⟨46, .l [.x 1, .x 0, .b false], 0, 0, 0, false, false⟩), (200, .r 2000000 26 4 false)]
def nuRl_1 (To : List (Int × Int × LB × Int)) (Tr : LB) (Tk m : Int) (s : LB) (o : List (Int × Int × LB × Int)) : List Value := [St' s, .int .i64 (m), St' ([] : LB), .int .i64 ((s.length : Int)), .int .u8 (bt s 0), .int .u8 (bt s 4), .int .i64 ((bt s 4)), .int .i64 ((bt s 4) * 256), .int .u8 (bt s 5), .int .i64 ((bt s 5)), .int .i64 ((bt s 4) * 256 + (bt s 5)), .int .u8 (bt s 6), .int .i64 ((bt s 6)), .int .i64 ((bt s 4) * 256 + (bt s 5) + 8), .int .i64 ((bt s 4) * 256 + (bt s 5) + (bt s 6) + 8), .int .u8 (bt s 1), .int .i64 ((bt s 1)), .int .u8 (bt s 2), .int .i64 ((bt s 2)), .int .i64 ((bt s 2) * 256), .int .u8 (bt s 3), .int .i64 ((bt s 3)), .int .i64 ((bt s 2) * 256 + (bt s 3)), St' (rcC s), St' (List.drop (Int.toNat ((bt s 4) * 256 + (bt s 5) + (bt s 6) + 8)) s), St' ([] : LB), .int .i64 ((s.length : Int)), St' ([] : LB), .int .i64 ((s.length : Int)), .int .u8 (bt s 0), St' ([] : LB), .int .i64 ((s.length : Int)), .int .u8 (bt s 0), St' ([] : LB), .int .i64 ((s.length : Int)), .int .u8 (bt s 0), St' ([] : LB), .int .i64 ((s.length : Int)), .int .u8 (bt s 0), .int .u8 (bt s 4), .int .i64 ((bt s 4)), .int .i64 ((bt s 4) * 256), .int .u8 (bt s 5), .int .i64 ((bt s 5)), .int .i64 ((bt s 4) * 256 + (bt s 5)), St' ([] : LB), .int .i64 ((s.length : Int)), .int .u8 (bt s 0), .int .u8 (bt s 4), .int .i64 ((bt s 4)), .int .i64 ((bt s 4) * 256), .int .u8 (bt s 5), .int .i64 ((bt s 5)), .int .i64 ((bt s 4) * 256 + (bt s 5)), St' ([] : LB), .int .i64 ((s.length : Int)), .int .u8 (bt s 0), .int .u8 (bt s 4), .int .i64 ((bt s 4)), .int .i64 ((bt s 4) * 256), .int .u8 (bt s 5), .int .i64 ((bt s 5)), .int .i64 ((bt s 4) * 256 + (bt s 5)), .int .u8 (bt s 6), .int .i64 ((bt s 6)), .int .i64 ((bt s 4) * 256 + (bt s 5) + 8), .int .i64 ((bt s 4) * 256 + (bt s 5) + (bt s 6) + 8), St' ([] : LB), .int .i64 ((s.length : Int)), .int .u8 (bt s 0), .int .u8 (bt s 4), .int .i64 ((bt s 4)), .int .i64 ((bt s 4) * 256), .int .u8 (bt s 5), .int .i64 ((bt s 5)), .int .i64 ((bt s 4) * 256 + (bt s 5)), .int .u8 (bt s 6), .int .i64 ((bt s 6)), .int .i64 ((bt s 4) * 256 + (bt s 5) + 8), .int .i64 ((bt s 4) * 256 + (bt s 5) + (bt s 6) + 8), .int .u8 (bt s 1)]
def roRl_1 (To : List (Int × Int × LB × Int)) (Tr : LB) (Tk m : Int) (s : LB) (o : List (Int × Int × LB × Int)) : List Value := [rwG reC o, rwS ([] : List LB), rwG reC (o ++ [((bt s 1), (bt s 2) * 256 + (bt s 3), (rcC s), (bt s 6))]), rwS ([] : List LB), rwS ([] : List LB), rwS ([] : List LB), rwS ([] : List LB), rwS ([] : List LB), rwS ([] : List LB), rwS ([] : List LB), rwS ([] : List LB)]
def epRl (st : Nat × LB × List (Int × Int × LB × Int)) : LA := if st.1 = 0 then epRl_0 else epRl_1
def hpRl (st : Nat × LB × List (Int × Int × LB × Int)) : LE := if st.1 = 0 then hpRl_0 else hpRl_1
def nuRl (To : List (Int × Int × LB × Int)) (Tr : LB) (Tk m : Int) (st : Nat × LB × List (Int × Int × LB × Int)) : List Value := if st.1 = 0 then nuRl_0 To Tr Tk m (st.2.1) (st.2.2) else nuRl_1 To Tr Tk m (st.2.1) (st.2.2)
def roRl (To : List (Int × Int × LB × Int)) (Tr : LB) (Tk m : Int) (st : Nat × LB × List (Int × Int × LB × Int)) : List Value := if st.1 = 0 then roRl_0 To Tr Tk m (st.2.1) (st.2.2) else roRl_1 To Tr Tk m (st.2.1) (st.2.2)
theorem onRl (To : List (Int × Int × LB × Int)) (Tr : LB) (Tk m : Int) (st : Nat × LB × List (Int × Int × LB × Int)) : ∀ j, (nuL (nuRl To Tr Tk m st) j).oneCell' = true := by
  intro j
  unfold nuRl
  by_cases g0 : st.1 = 0
  · rw [if_pos g0]; exact nuL_one (l := nuRl_0 To Tr Tk m (st.2.1) (st.2.2)) rfl j
  rw [if_neg g0]
  exact nuL_one (l := nuRl_1 To Tr Tk m (st.2.1) (st.2.2)) rfl j
theorem ebRl (st : Nat × LB × List (Int × Int × LB × Int)) : (lfB (epRl st) && lfC keepRl) = true := by
  unfold epRl
  by_cases g0 : st.1 = 0
  · rw [if_pos g0]; rfl
  rw [if_neg g0]
  rfl
noncomputable def DRl (To : List (Int × Int × LB × Int)) (Tr : LB) (Tk m : Int) (st : Nat × LB × List (Int × Int × LB × Int)) (X : Nat → Value) : Cx := cx (nuX (nuRl To Tr Tk m st) (rX (roRl To Tr Tk m st) X)) (nuX_one (onRl To Tr Tk m st)) 1 laidE laidE_stab
def InvRl (To : List (Int × Int × LB × Int)) (Tr : LB) (Tk m : Int) (st : Nat × LB × List (Int × Int × LB × Int)) : Prop := ((st.2.1).length ≤ 100000) ∧ ((st.2.2) ++ (cutS m (st.2.1)).1 = To) ∧ ((cutS m (st.2.1)).2.1 = Tr) ∧ ((cutS m (st.2.1)).2.2 = Tk) ∧ (8 * (st.2.2).length + (st.2.1).length ≤ 100000) ∧ ((st.1) = 0 → (st.2.2) = []) ∧ ((st.1) = 1 → 1 ≤ (st.2.2).length) ∧ ((st.1) < 2)
abbrev CjRl (To : List (Int × Int × LB × Int)) (Tr : LB) (Tk m : Int) (tag : Nat) (s : LB) (o : List (Int × Int × LB × Int)) : Prop := (s.length ≤ 100000) ∧ (o ++ (cutS m s).1 = To) ∧ ((cutS m s).2.1 = Tr) ∧ ((cutS m s).2.2 = Tk) ∧ (8 * o.length + s.length ≤ 100000) ∧ (tag = 0 → o = []) ∧ (tag = 1 → 1 ≤ o.length) ∧ (tag < 2)
theorem mkIRl (To : List (Int × Int × LB × Int)) (Tr : LB) (Tk m : Int) (tag : Nat) (s : LB) (o : List (Int × Int × LB × Int)) (h : CjRl To Tr Tk m tag s o) : InvRl To Tr Tk m (tag, s, o) := h
theorem unIRl (To : List (Int × Int × LB × Int)) (Tr : LB) (Tk m : Int) (tag : Nat) (s : LB) (o : List (Int × Int × LB × Int)) (h : InvRl To Tr Tk m (tag, s, o)) : (s.length ≤ 100000) ∧ (o ++ (cutS m s).1 = To) ∧ ((cutS m s).2.1 = Tr) ∧ ((cutS m s).2.2 = Tk) ∧ (8 * o.length + s.length ≤ 100000) ∧ (tag = 0 → o = []) ∧ (tag = 1 → 1 ≤ o.length) ∧ (tag < 2) := h
def muRl (To : List (Int × Int × LB × Int)) (Tr : LB) (Tk m : Int) (st : Nat × LB × List (Int × Int × LB × Int)) : Nat := (st.2.1).length
abbrev RHRl (To : List (Int × Int × LB × Int)) (Tr : LB) (Tk m : Int) (E' : Cx) (ex' : Ex) (epx' : LA) (hpx' : LE) (st : Nat × LB × List (Int × Int × LB × Int)) (X : Nat → Value) : Prop := RoundH E' bodyRl keepRl 87 ex' 1 200 202 260 epRl hpRl epx' hpx' (InvRl To Tr Tk m) (muRl To Tr Tk m) (DRl To Tr Tk m) st X
noncomputable abbrev RNRl_0 (h : LK) (x : Ex) (th : LA) (sg : List (Nat × Nat)) (m : Nat) (ep : LA) (hp : LE) : Bool := okRdH (code (tbl h) 4000 [] bodyRl (envOf (headOf epRl_0 keepRl) 87) ⟨lhSet hpRl_0 .leaf, 202, 0, 0⟩) x keepRl 87 260 th sg 200 m ep hp
theorem stRl_0 (To : List (Int × Int × LB × Int)) (Tr : LB) (Tk m : Int) (s : LB) (o : List (Int × Int × LB × Int)) {X : Nat → Value} {h : LK} (y : Nat × LB × List (Int × Int × LB × Int)) {th : LA} {sg : List (Nat × Nat)} (ho : ∀ a' r', (a', r') ∈ h → HOk (cx (nuX (nuRl_0 To Tr Tk m s o) (rX (roRl_0 To Tr Tk m s o) X)) (nuX_one (nuL_one (l := nuRl_0 To Tr Tk m s o) rfl)) 1 laidE laidE_stab) a' r') (hy : InvRl To Tr Tk m y) (lt : muRl To Tr Tk m y < muRl To Tr Tk m (0, s, o)) (ht : ThOk (cx (nuX (nuRl_0 To Tr Tk m s o) (rX (roRl_0 To Tr Tk m s o) X)) (nuX_one (nuL_one (l := nuRl_0 To Tr Tk m s o) rfl)) 1 laidE laidE_stab) (DRl To Tr Tk m y X) th) (run : RNRl_0 h .normal th sg 202 (epRl y) (hpRl y) = true) : RHRl To Tr Tk m E' x' e' h' (0, s, o) X :=
  RoundH.next (tb := tbl h) (L := []) (f := 4000) y ((tabkOk _ _).hyps ho) (LpOk.nil _) rfl hy lt ht run
theorem lvRl_0 (To : List (Int × Int × LB × Int)) (Tr : LB) (Tk m : Int) (s : LB) (o : List (Int × Int × LB × Int)) {X : Nat → Value} {h : LK} {th : LA} {sg : List (Nat × Nat)} (hne : exB x' .normal = false) (ho : ∀ a' r', (a', r') ∈ h → HOk (cx (nuX (nuRl_0 To Tr Tk m s o) (rX (roRl_0 To Tr Tk m s o) X)) (nuX_one (nuL_one (l := nuRl_0 To Tr Tk m s o) rfl)) 1 laidE laidE_stab) a' r') (ht : ThOk (cx (nuX (nuRl_0 To Tr Tk m s o) (rX (roRl_0 To Tr Tk m s o) X)) (nuX_one (nuL_one (l := nuRl_0 To Tr Tk m s o) rfl)) 1 laidE laidE_stab) E' th) (run : RNRl_0 h x' th sg 260 e' h' = true) : RHRl To Tr Tk m E' x' e' h' (0, s, o) X :=
  RoundH.leave (tb := tbl h) (L := []) (f := 4000) ((tabkOk _ _).hyps ho) (LpOk.nil _) rfl hne ht run
noncomputable abbrev RNRl_1 (h : LK) (x : Ex) (th : LA) (sg : List (Nat × Nat)) (m : Nat) (ep : LA) (hp : LE) : Bool := okRdH (code (tbl h) 4000 [] bodyRl (envOf (headOf epRl_1 keepRl) 87) ⟨lhSet hpRl_1 .leaf, 202, 0, 0⟩) x keepRl 87 260 th sg 200 m ep hp
theorem stRl_1 (To : List (Int × Int × LB × Int)) (Tr : LB) (Tk m : Int) (s : LB) (o : List (Int × Int × LB × Int)) {X : Nat → Value} {h : LK} (y : Nat × LB × List (Int × Int × LB × Int)) {th : LA} {sg : List (Nat × Nat)} (ho : ∀ a' r', (a', r') ∈ h → HOk (cx (nuX (nuRl_1 To Tr Tk m s o) (rX (roRl_1 To Tr Tk m s o) X)) (nuX_one (nuL_one (l := nuRl_1 To Tr Tk m s o) rfl)) 1 laidE laidE_stab) a' r') (hy : InvRl To Tr Tk m y) (lt : muRl To Tr Tk m y < muRl To Tr Tk m (1, s, o)) (ht : ThOk (cx (nuX (nuRl_1 To Tr Tk m s o) (rX (roRl_1 To Tr Tk m s o) X)) (nuX_one (nuL_one (l := nuRl_1 To Tr Tk m s o) rfl)) 1 laidE laidE_stab) (DRl To Tr Tk m y X) th) (run : RNRl_1 h .normal th sg 202 (epRl y) (hpRl y) = true) : RHRl To Tr Tk m E' x' e' h' (1, s, o) X :=
  RoundH.next (tb := tbl h) (L := []) (f := 4000) y ((tabkOk _ _).hyps ho) (LpOk.nil _) rfl hy lt ht run
theorem lvRl_1 (To : List (Int × Int × LB × Int)) (Tr : LB) (Tk m : Int) (s : LB) (o : List (Int × Int × LB × Int)) {X : Nat → Value} {h : LK} {th : LA} {sg : List (Nat × Nat)} (hne : exB x' .normal = false) (ho : ∀ a' r', (a', r') ∈ h → HOk (cx (nuX (nuRl_1 To Tr Tk m s o) (rX (roRl_1 To Tr Tk m s o) X)) (nuX_one (nuL_one (l := nuRl_1 To Tr Tk m s o) rfl)) 1 laidE laidE_stab) a' r') (ht : ThOk (cx (nuX (nuRl_1 To Tr Tk m s o) (rX (roRl_1 To Tr Tk m s o) X)) (nuX_one (nuL_one (l := nuRl_1 To Tr Tk m s o) rfl)) 1 laidE laidE_stab) E' th) (run : RNRl_1 h x' th sg 260 e' h' = true) : RHRl To Tr Tk m E' x' e' h' (1, s, o) X :=
  RoundH.leave (tb := tbl h) (L := []) (f := 4000) ((tabkOk _ _).hyps ho) (LpOk.nil _) rfl hne ht run
def hyRl_p0 : LK := [(.rn, .x 2000000), (.bytes [], .x 2), (.len (.x 0), .x 3), (.bin .geq (.x 3) (.i .i64 (.ofNat 6)), .b true), (.idx (.x 0) (.i .i64 (.ofNat 0)), .x 4), (.bin .eql (.x 4) (.i .u8 (.ofNat 1)), .b true), (.idx (.x 0) (.i .i64 (.ofNat 4)), .x 5), (.conv 3 (.x 5), .x 6), (.bin .mul (.x 6) (.i .i64 (.ofNat 256)), .x 7), (.idx (.x 0) (.i .i64 (.ofNat 5)), .x 8), (.conv 3 (.x 8), .x 9), (.bin .add (.x 7) (.x 9), .x 10), (.bin .gtr (.x 10) (.x 1), .b false), (.bin .gtr (.x 3) (.i .i64 (.ofNat 0)), .b true), (.bin .neq (.x 4) (.i .u8 (.ofNat 1)), .b false), (.bin .lss (.x 3) (.i .i64 (.ofNat 8)), .b false), (.idx (.x 0) (.i .i64 (.ofNat 6)), .x 11), (.conv 3 (.x 11), .x 12), (.bin .add (.i .i64 (.ofNat 8)) (.x 10), .x 13), (.bin .add (.x 13) (.x 12), .x 14), (.bin .lss (.x 3) (.x 14), .b false), (.idx (.x 0) (.i .i64 (.ofNat 1)), .x 15), (.bin .eql (.x 15) (.i .u8 (.ofNat 0)), .b false), (.conv 3 (.x 15), .x 16), (.idx (.x 0) (.i .i64 (.ofNat 2)), .x 17), (.conv 3 (.x 17), .x 18), (.bin .mul (.x 18) (.i .i64 (.ofNat 256)), .x 19), (.idx (.x 0) (.i .i64 (.ofNat 3)), .x 20), (.conv 3 (.x 20), .x 21), (.bin .add (.x 19) (.x 21), .x 22), (.sub (.x 0) (some (.i .i64 (.ofNat 8))) (some (.x 13)), .x 23), (.sub (.x 0) (some (.x 14)) none, .x 24), (.ra (.x 2000000) [.x 16, .x 22, .x 23, .x 12], .x 2000001), (.rf (.x 2000001) 4 40, .b true)]
theorem runRl_p0 : RNRl_0 hyRl_p0 .normal [(0, .x 24), (1, .x 1), (2000000, .x 2000001)] [(200, 205)] 202 epRl_1 hpRl_1 = true := by kernel_rfl
theorem nxRl_p0 (To : List (Int × Int × LB × Int)) (Tr : LB) (Tk m : Int) (s : LB) (o : List (Int × Int × LB × Int)) (X : Nat → Value) (hI : InvRl To Tr Tk m (0, s, o)) (h0 : 6 ≤ (s.length : Int)) (h1 : bt s 0 = 1) (h2 : ¬ (m < (bt s 4) * 256 + (bt s 5))) (h5 : ¬ ((s.length : Int) < 8)) (h6 : ¬ ((s.length : Int) < (bt s 4) * 256 + (bt s 5) + (bt s 6) + 8)) (h7 : ¬ (bt s 1 = 0)) : RHRl To Tr Tk m E' x' e' h' (0, s, o) X := by
  obtain ⟨i0, i1, i2, i3, i4, i5, i6, it⟩ := unIRl To Tr Tk m 0 s o hI
  have := bt_lo s 0; have := bt_hi s 0
  have := bt_lo s 4; have := bt_hi s 4
  have := bt_lo s 5; have := bt_hi s 5
  have := bt_lo s 6; have := bt_hi s 6
  have := bt_lo s 1; have := bt_hi s 1
  have := bt_lo s 2; have := bt_hi s 2
  have := bt_lo s 3; have := bt_hi s 3
  have := rcC_len (s := s) (by omega)
  have := lenDrop (l := s) (P := (bt s 4) * 256 + (bt s 5) + (bt s 6) + 8) (by omega) (by omega)
  have hb1 := bt_lo s 4; have hb2 := bt_lo s 5; have hb3 := bt_lo s 6; have hb4 := bt_hi s 4; have hb5 := bt_hi s 5; have hb6 := bt_hi s 6
  have hcu := cu_rec (m := m) (s := s) (rest := (List.drop (Int.toNat ((bt s 4) * 256 + (bt s 5) + (bt s 6) + 8)) s)) (o := []) (To := To) (Tr := Tr) (Tk := Tk) (rck00 (by omega) (by omega) (by omega) (by omega) (by omega)) (by congr 2; unfold rsz; omega) (by rw [i5 rfl] at i1; exact i1) i2 i3
  refine stRl_0 To Tr Tk m s o (h := hyRl_p0) (1, (List.drop (Int.toNat ((bt s 4) * 256 + (bt s 5) + (bt s 6) + 8)) s), (([] : List (Int × Int × LB × Int)) ++ [((bt s 1), (bt s 2) * 256 + (bt s 3), (rcC s), (bt s 6))])) ?_ (mkIRl To Tr Tk m 1 (List.drop (Int.toNat ((bt s 4) * 256 + (bt s 5) + (bt s 6) + 8)) s) (([] : List (Int × Int × LB × Int)) ++ [((bt s 1), (bt s 2) * 256 + (bt s 3), (rcC s), (bt s 6))]) ⟨by first | omega | (rw [List.length_drop]; omega), hcu.1, hcu.2.1, hcu.2.2, by simp only [List.length_append, List.length_cons, List.length_nil, List.length_drop]; omega, fun h => by omega, fun _ => by simp, by omega⟩) (by show ((List.drop (Int.toNat ((bt s 4) * 256 + (bt s 5) + (bt s 6) + 8)) s)).length < s.length; rw [List.length_drop]; omega) (thXv (v := St' (List.drop (Int.toNat ((bt s 4) * 256 + (bt s 5) + (bt s 6) + 8)) s)) rfl rfl (thXv (v := .int .i64 (m)) rfl rfl (thXv (v := rwG reC (([] : List (Int × Int × LB × Int)) ++ [((bt s 1), (bt s 2) * 256 + (bt s 3), (rcC s), (bt s 6))])) rfl rfl (thNil)))) runRl_p0
  unfold hyRl_p0
  exact hc (kRn (denX rfl)) <|
   hc (kBytesB (bs := ([] : LB)) .nil (denX rfl)) <|
   hc (lnV rfl rfl (by omega)) <|
   hc (gecT rfl (by omega)) <|
   hc (ixC rfl rfl (by omega)) <|
   hc (eqcT rfl (by omega)) <|
   hc (ixC rfl rfl (by omega)) <|
   hc (kConvF (isX rfl) tu3 (denX rfl) (fI64 (by omega) (by omega))) <|
   hc (kMul (isX rfl) (isZ (m := 256) rfl) (denX rfl) (by omega) (fI64 (by omega) (by omega))) <|
   hc (ixC rfl rfl (by omega)) <|
   hc (kConvF (isX rfl) tu3 (denX rfl) (fI64 (by omega) (by omega))) <|
   hc (adX rfl rfl rfl (by omega)) <|
   hc (gtF rfl rfl (by omega)) <|
   hc (gtcT rfl (by omega)) <|
   hc (necF rfl (by omega)) <|
   hc (ltcF rfl (by omega)) <|
   hc (ixC rfl rfl (by omega)) <|
   hc (kConvF (isX rfl) tu3 (denX rfl) (fI64 (by omega) (by omega))) <|
   hc (kAdd (isZ (m := 8) rfl) (isX rfl) (denX rfl) (by omega) (fI64 (by omega) (by omega))) <|
   hc (adX rfl rfl rfl (by omega)) <|
   hc (ltF rfl rfl (by omega)) <|
   hc (ixC rfl rfl (by omega)) <|
   hc (eqcF rfl (by omega)) <|
   hc (kConvF (isX rfl) tu3 (denX rfl) (fI64 (by omega) (by omega))) <|
   hc (ixC rfl rfl (by omega)) <|
   hc (kConvF (isX rfl) tu3 (denX rfl) (fI64 (by omega) (by omega))) <|
   hc (kMul (isX rfl) (isZ (m := 256) rfl) (denX rfl) (by omega) (fI64 (by omega) (by omega))) <|
   hc (ixC rfl rfl (by omega)) <|
   hc (kConvF (isX rfl) tu3 (denX rfl) (fI64 (by omega) (by omega))) <|
   hc (adX rfl rfl rfl (by omega)) <|
   hc (kMid (P := 8) (Q := (bt s 4) * 256 + (bt s 5) + 8) (isX rfl) (.inr ⟨_, _, rfl, (isZ (m := 8) rfl)⟩) (.inr ⟨_, _, rfl, (isX rfl)⟩) (by omega) (by omega) (by omega) (denX (congrArg (fun l => St' l) (rcC_mid (by omega) (by omega))))) <|
   hc (drV rfl rfl rfl (by omega)) <|
   hc (kRaG (f := reC) (l := ([] : List (Int × Int × LB × Int))) (a := ((bt s 1), (bt s 2) * 256 + (bt s 3), (rcC s), (bt s 6))) (isX rfl) (isL4 (isX rfl) (isX rfl) (isX rfl) (isX rfl)) (denX rfl)) <|
   hc (kRfG reC_len (isX rfl) (by first | (rw [List.length_append]; omega) | (first | omega | (simp <;> omega))) (by first | (rw [List.length_append]; omega) | (first | omega | (simp <;> omega)))) <|
   hnil
def hyRl_p1 : LK := [(.rn, .x 2000002), (.bytes [], .x 25), (.len (.x 0), .x 26), (.bin .geq (.x 26) (.i .i64 (.ofNat 6)), .b false), (.bin .gtr (.x 26) (.i .i64 (.ofNat 0)), .b false), (.bin .lss (.x 26) (.i .i64 (.ofNat 8)), .b true)]
theorem runRl_p1 : RNRl_0 hyRl_p1 .ret [(0, .x 0), (1, .x 1)] [] 260 [(4, .nils), (5, .i .i64 (.ofNat 0))] [(3, .b ⟨46, .l [.x 1, .x 0, .b false], 0, 0, 0, false, false⟩)] = true := by kernel_rfl
def hyRl_p2 : LK := [(.rn, .x 2000003), (.bytes [], .x 27), (.len (.x 0), .x 28), (.bin .geq (.x 28) (.i .i64 (.ofNat 6)), .b false), (.bin .gtr (.x 28) (.i .i64 (.ofNat 0)), .b true), (.idx (.x 0) (.i .i64 (.ofNat 0)), .x 29), (.bin .neq (.x 29) (.i .u8 (.ofNat 1)), .b false), (.bin .lss (.x 28) (.i .i64 (.ofNat 8)), .b true)]
theorem runRl_p2 : RNRl_0 hyRl_p2 .ret [(0, .x 0), (1, .x 1)] [] 260 [(4, .nils), (5, .i .i64 (.ofNat 0))] [(3, .b ⟨46, .l [.x 1, .x 0, .b false], 0, 0, 0, false, false⟩)] = true := by kernel_rfl
def hyRl_p3 : LK := [(.rn, .x 2000004), (.bytes [], .x 30), (.len (.x 0), .x 31), (.bin .geq (.x 31) (.i .i64 (.ofNat 6)), .b false), (.bin .gtr (.x 31) (.i .i64 (.ofNat 0)), .b true), (.idx (.x 0) (.i .i64 (.ofNat 0)), .x 32), (.bin .neq (.x 32) (.i .u8 (.ofNat 1)), .b true)]
theorem runRl_p3 : RNRl_0 hyRl_p3 .ret [(0, .x 1), (1, .i .i64 (.ofNat 13))] [] 260 [(4, .nils), (5, .x 1)] [(3, .b ⟨46, .l [.x 0, .s 0 0, .b true], 0, 0, 0, false, false⟩)] = true := by kernel_rfl
def hyRl_p4 : LK := [(.rn, .x 2000005), (.bytes [], .x 33), (.len (.x 0), .x 34), (.bin .geq (.x 34) (.i .i64 (.ofNat 6)), .b true), (.idx (.x 0) (.i .i64 (.ofNat 0)), .x 35), (.bin .eql (.x 35) (.i .u8 (.ofNat 1)), .b false), (.bin .gtr (.x 34) (.i .i64 (.ofNat 0)), .b true), (.bin .neq (.x 35) (.i .u8 (.ofNat 1)), .b true)]
theorem runRl_p4 : RNRl_0 hyRl_p4 .ret [(0, .x 1), (1, .i .i64 (.ofNat 13))] [] 260 [(4, .nils), (5, .x 1)] [(3, .b ⟨46, .l [.x 0, .s 0 0, .b true], 0, 0, 0, false, false⟩)] = true := by kernel_rfl
def hyRl_p5 : LK := [(.rn, .x 2000006), (.bytes [], .x 36), (.len (.x 0), .x 37), (.bin .geq (.x 37) (.i .i64 (.ofNat 6)), .b true), (.idx (.x 0) (.i .i64 (.ofNat 0)), .x 38), (.bin .eql (.x 38) (.i .u8 (.ofNat 1)), .b true), (.idx (.x 0) (.i .i64 (.ofNat 4)), .x 39), (.conv 3 (.x 39), .x 40), (.bin .mul (.x 40) (.i .i64 (.ofNat 256)), .x 41), (.idx (.x 0) (.i .i64 (.ofNat 5)), .x 42), (.conv 3 (.x 42), .x 43), (.bin .add (.x 41) (.x 43), .x 44), (.bin .gtr (.x 44) (.x 1), .b true)]
theorem runRl_p5 : RNRl_0 hyRl_p5 .ret [(0, .x 1), (1, .i .i64 (.ofNat 12))] [] 260 [(4, .nils), (5, .x 1)] [(3, .b ⟨46, .l [.x 0, .s 0 0, .b true], 0, 0, 0, false, false⟩)] = true := by kernel_rfl
def hyRl_p6 : LK := [(.rn, .x 2000007), (.bytes [], .x 45), (.len (.x 0), .x 46), (.bin .geq (.x 46) (.i .i64 (.ofNat 6)), .b true), (.idx (.x 0) (.i .i64 (.ofNat 0)), .x 47), (.bin .eql (.x 47) (.i .u8 (.ofNat 1)), .b true), (.idx (.x 0) (.i .i64 (.ofNat 4)), .x 48), (.conv 3 (.x 48), .x 49), (.bin .mul (.x 49) (.i .i64 (.ofNat 256)), .x 50), (.idx (.x 0) (.i .i64 (.ofNat 5)), .x 51), (.conv 3 (.x 51), .x 52), (.bin .add (.x 50) (.x 52), .x 53), (.bin .gtr (.x 53) (.x 1), .b false), (.bin .gtr (.x 46) (.i .i64 (.ofNat 0)), .b true), (.bin .neq (.x 47) (.i .u8 (.ofNat 1)), .b false), (.bin .lss (.x 46) (.i .i64 (.ofNat 8)), .b true)]
theorem runRl_p6 : RNRl_0 hyRl_p6 .ret [(0, .x 0), (1, .x 1)] [] 260 [(4, .nils), (5, .i .i64 (.ofNat 0))] [(3, .b ⟨46, .l [.x 1, .x 0, .b false], 0, 0, 0, false, false⟩)] = true := by kernel_rfl
def hyRl_p7 : LK := [(.rn, .x 2000008), (.bytes [], .x 54), (.len (.x 0), .x 55), (.bin .geq (.x 55) (.i .i64 (.ofNat 6)), .b true), (.idx (.x 0) (.i .i64 (.ofNat 0)), .x 56), (.bin .eql (.x 56) (.i .u8 (.ofNat 1)), .b true), (.idx (.x 0) (.i .i64 (.ofNat 4)), .x 57), (.conv 3 (.x 57), .x 58), (.bin .mul (.x 58) (.i .i64 (.ofNat 256)), .x 59), (.idx (.x 0) (.i .i64 (.ofNat 5)), .x 60), (.conv 3 (.x 60), .x 61), (.bin .add (.x 59) (.x 61), .x 62), (.bin .gtr (.x 62) (.x 1), .b false), (.bin .gtr (.x 55) (.i .i64 (.ofNat 0)), .b true), (.bin .neq (.x 56) (.i .u8 (.ofNat 1)), .b false), (.bin .lss (.x 55) (.i .i64 (.ofNat 8)), .b false), (.idx (.x 0) (.i .i64 (.ofNat 6)), .x 63), (.conv 3 (.x 63), .x 64), (.bin .add (.i .i64 (.ofNat 8)) (.x 62), .x 65), (.bin .add (.x 65) (.x 64), .x 66), (.bin .lss (.x 55) (.x 66), .b true)]
theorem runRl_p7 : RNRl_0 hyRl_p7 .ret [(0, .x 0), (1, .x 1)] [] 260 [(4, .nils), (5, .i .i64 (.ofNat 0))] [(3, .b ⟨46, .l [.x 1, .x 0, .b false], 0, 0, 0, false, false⟩)] = true := by kernel_rfl
def hyRl_p8 : LK := [(.rn, .x 2000009), (.bytes [], .x 67), (.len (.x 0), .x 68), (.bin .geq (.x 68) (.i .i64 (.ofNat 6)), .b true), (.idx (.x 0) (.i .i64 (.ofNat 0)), .x 69), (.bin .eql (.x 69) (.i .u8 (.ofNat 1)), .b true), (.idx (.x 0) (.i .i64 (.ofNat 4)), .x 70), (.conv 3 (.x 70), .x 71), (.bin .mul (.x 71) (.i .i64 (.ofNat 256)), .x 72), (.idx (.x 0) (.i .i64 (.ofNat 5)), .x 73), (.conv 3 (.x 73), .x 74), (.bin .add (.x 72) (.x 74), .x 75), (.bin .gtr (.x 75) (.x 1), .b false), (.bin .gtr (.x 68) (.i .i64 (.ofNat 0)), .b true), (.bin .neq (.x 69) (.i .u8 (.ofNat 1)), .b false), (.bin .lss (.x 68) (.i .i64 (.ofNat 8)), .b false), (.idx (.x 0) (.i .i64 (.ofNat 6)), .x 76), (.conv 3 (.x 76), .x 77), (.bin .add (.i .i64 (.ofNat 8)) (.x 75), .x 78), (.bin .add (.x 78) (.x 77), .x 79), (.bin .lss (.x 68) (.x 79), .b false), (.idx (.x 0) (.i .i64 (.ofNat 1)), .x 80), (.bin .eql (.x 80) (.i .u8 (.ofNat 0)), .b true)]
theorem runRl_p8 : RNRl_0 hyRl_p8 .ret [(0, .x 1), (1, .i .i64 (.ofNat 10))] [] 260 [(4, .nils), (5, .x 1)] [(3, .b ⟨46, .l [.x 0, .s 0 0, .b true], 0, 0, 0, false, false⟩)] = true := by kernel_rfl
def hyRl_p9 : LK := [(.rn, .x 2000001), (.bytes [], .x 2), (.len (.x 0), .x 3), (.bin .geq (.x 3) (.i .i64 (.ofNat 6)), .b true), (.idx (.x 0) (.i .i64 (.ofNat 0)), .x 4), (.bin .eql (.x 4) (.i .u8 (.ofNat 1)), .b true), (.idx (.x 0) (.i .i64 (.ofNat 4)), .x 5), (.conv 3 (.x 5), .x 6), (.bin .mul (.x 6) (.i .i64 (.ofNat 256)), .x 7), (.idx (.x 0) (.i .i64 (.ofNat 5)), .x 8), (.conv 3 (.x 8), .x 9), (.bin .add (.x 7) (.x 9), .x 10), (.bin .gtr (.x 10) (.x 1), .b false), (.bin .gtr (.x 3) (.i .i64 (.ofNat 0)), .b true), (.bin .neq (.x 4) (.i .u8 (.ofNat 1)), .b false), (.bin .lss (.x 3) (.i .i64 (.ofNat 8)), .b false), (.idx (.x 0) (.i .i64 (.ofNat 6)), .x 11), (.conv 3 (.x 11), .x 12), (.bin .add (.i .i64 (.ofNat 8)) (.x 10), .x 13), (.bin .add (.x 13) (.x 12), .x 14), (.bin .lss (.x 3) (.x 14), .b false), (.idx (.x 0) (.i .i64 (.ofNat 1)), .x 15), (.bin .eql (.x 15) (.i .u8 (.ofNat 0)), .b false), (.conv 3 (.x 15), .x 16), (.idx (.x 0) (.i .i64 (.ofNat 2)), .x 17), (.conv 3 (.x 17), .x 18), (.bin .mul (.x 18) (.i .i64 (.ofNat 256)), .x 19), (.idx (.x 0) (.i .i64 (.ofNat 3)), .x 20), (.conv 3 (.x 20), .x 21), (.bin .add (.x 19) (.x 21), .x 22), (.sub (.x 0) (some (.i .i64 (.ofNat 8))) (some (.x 13)), .x 23), (.sub (.x 0) (some (.x 14)) none, .x 24), (.ra (.x 2000000) [.x 16, .x 22, .x 23, .x 12], .x 2000002), (.rf (.x 2000002) 4 40, .b true)]
theorem runRl_p9 : RNRl_1 hyRl_p9 .normal [(0, .x 24), (1, .x 1), (2000000, .x 2000002)] [(200, 205)] 202 epRl_1 hpRl_1 = true := by kernel_rfl
theorem nxRl_p9 (To : List (Int × Int × LB × Int)) (Tr : LB) (Tk m : Int) (s : LB) (o : List (Int × Int × LB × Int)) (X : Nat → Value) (hI : InvRl To Tr Tk m (1, s, o)) (h0 : 6 ≤ (s.length : Int)) (h1 : bt s 0 = 1) (h2 : ¬ (m < (bt s 4) * 256 + (bt s 5))) (h5 : ¬ ((s.length : Int) < 8)) (h6 : ¬ ((s.length : Int) < (bt s 4) * 256 + (bt s 5) + (bt s 6) + 8)) (h7 : ¬ (bt s 1 = 0)) : RHRl To Tr Tk m E' x' e' h' (1, s, o) X := by
  obtain ⟨i0, i1, i2, i3, i4, i5, i6, it⟩ := unIRl To Tr Tk m 1 s o hI
  have := bt_lo s 0; have := bt_hi s 0
  have := bt_lo s 4; have := bt_hi s 4
  have := bt_lo s 5; have := bt_hi s 5
  have := bt_lo s 6; have := bt_hi s 6
  have := bt_lo s 1; have := bt_hi s 1
  have := bt_lo s 2; have := bt_hi s 2
  have := bt_lo s 3; have := bt_hi s 3
  have := rcC_len (s := s) (by omega)
  have := lenDrop (l := s) (P := (bt s 4) * 256 + (bt s 5) + (bt s 6) + 8) (by omega) (by omega)
  have hb1 := bt_lo s 4; have hb2 := bt_lo s 5; have hb3 := bt_lo s 6; have hb4 := bt_hi s 4; have hb5 := bt_hi s 5; have hb6 := bt_hi s 6
  have hcu := cu_rec (m := m) (s := s) (rest := (List.drop (Int.toNat ((bt s 4) * 256 + (bt s 5) + (bt s 6) + 8)) s)) (To := To) (Tr := Tr) (Tk := Tk) (rck00 (by omega) (by omega) (by omega) (by omega) (by omega)) (by congr 2; unfold rsz; omega) i1 i2 i3
  refine stRl_1 To Tr Tk m s o (h := hyRl_p9) (1, (List.drop (Int.toNat ((bt s 4) * 256 + (bt s 5) + (bt s 6) + 8)) s), (o ++ [((bt s 1), (bt s 2) * 256 + (bt s 3), (rcC s), (bt s 6))])) ?_ (mkIRl To Tr Tk m 1 (List.drop (Int.toNat ((bt s 4) * 256 + (bt s 5) + (bt s 6) + 8)) s) (o ++ [((bt s 1), (bt s 2) * 256 + (bt s 3), (rcC s), (bt s 6))]) ⟨by first | omega | (rw [List.length_drop]; omega), hcu.1, hcu.2.1, hcu.2.2, by simp only [List.length_append, List.length_cons, List.length_nil, List.length_drop]; omega, fun h => by omega, fun _ => by simp, by omega⟩) (by show ((List.drop (Int.toNat ((bt s 4) * 256 + (bt s 5) + (bt s 6) + 8)) s)).length < s.length; rw [List.length_drop]; omega) (thXv (v := St' (List.drop (Int.toNat ((bt s 4) * 256 + (bt s 5) + (bt s 6) + 8)) s)) rfl rfl (thXv (v := .int .i64 (m)) rfl rfl (thXv (v := rwG reC (o ++ [((bt s 1), (bt s 2) * 256 + (bt s 3), (rcC s), (bt s 6))])) rfl rfl (thNil)))) runRl_p9
  unfold hyRl_p9
  exact hc (kRn (denX rfl)) <|
   hc (kBytesB (bs := ([] : LB)) .nil (denX rfl)) <|
   hc (lnV rfl rfl (by omega)) <|
   hc (gecT rfl (by omega)) <|
   hc (ixC rfl rfl (by omega)) <|
   hc (eqcT rfl (by omega)) <|
   hc (ixC rfl rfl (by omega)) <|
   hc (kConvF (isX rfl) tu3 (denX rfl) (fI64 (by omega) (by omega))) <|
   hc (kMul (isX rfl) (isZ (m := 256) rfl) (denX rfl) (by omega) (fI64 (by omega) (by omega))) <|
   hc (ixC rfl rfl (by omega)) <|
   hc (kConvF (isX rfl) tu3 (denX rfl) (fI64 (by omega) (by omega))) <|
   hc (adX rfl rfl rfl (by omega)) <|
   hc (gtF rfl rfl (by omega)) <|
   hc (gtcT rfl (by omega)) <|
   hc (necF rfl (by omega)) <|
   hc (ltcF rfl (by omega)) <|
   hc (ixC rfl rfl (by omega)) <|
   hc (kConvF (isX rfl) tu3 (denX rfl) (fI64 (by omega) (by omega))) <|
   hc (kAdd (isZ (m := 8) rfl) (isX rfl) (denX rfl) (by omega) (fI64 (by omega) (by omega))) <|
   hc (adX rfl rfl rfl (by omega)) <|
   hc (ltF rfl rfl (by omega)) <|
   hc (ixC rfl rfl (by omega)) <|
   hc (eqcF rfl (by omega)) <|
   hc (kConvF (isX rfl) tu3 (denX rfl) (fI64 (by omega) (by omega))) <|
   hc (ixC rfl rfl (by omega)) <|
   hc (kConvF (isX rfl) tu3 (denX rfl) (fI64 (by omega) (by omega))) <|
   hc (kMul (isX rfl) (isZ (m := 256) rfl) (denX rfl) (by omega) (fI64 (by omega) (by omega))) <|
   hc (ixC rfl rfl (by omega)) <|
   hc (kConvF (isX rfl) tu3 (denX rfl) (fI64 (by omega) (by omega))) <|
   hc (adX rfl rfl rfl (by omega)) <|
   hc (kMid (P := 8) (Q := (bt s 4) * 256 + (bt s 5) + 8) (isX rfl) (.inr ⟨_, _, rfl, (isZ (m := 8) rfl)⟩) (.inr ⟨_, _, rfl, (isX rfl)⟩) (by omega) (by omega) (by omega) (denX (congrArg (fun l => St' l) (rcC_mid (by omega) (by omega))))) <|
   hc (drV rfl rfl rfl (by omega)) <|
   hc (kRaG (f := reC) (l := o) (a := ((bt s 1), (bt s 2) * 256 + (bt s 3), (rcC s), (bt s 6))) (isX rfl) (isL4 (isX rfl) (isX rfl) (isX rfl) (isX rfl)) (denX rfl)) <|
   hc (kRfG reC_len (isX rfl) (by first | (rw [List.length_append]; omega) | (first | omega | (simp <;> omega))) (by first | (rw [List.length_append]; omega) | (first | omega | (simp <;> omega)))) <|
   hnil
def hyRl_p10 : LK := [(.rn, .x 2000003), (.bytes [], .x 25), (.len (.x 0), .x 26), (.bin .geq (.x 26) (.i .i64 (.ofNat 6)), .b false), (.bin .gtr (.x 26) (.i .i64 (.ofNat 0)), .b false), (.bin .lss (.x 26) (.i .i64 (.ofNat 8)), .b true)]
theorem runRl_p10 : RNRl_1 hyRl_p10 .ret [(0, .x 0), (1, .x 1), (2000000, .x 2000000)] [(200, 200)] 260 [(4, .sr 200), (5, .i .i64 (.ofNat 0))] [(3, .b ⟨46, .l [.x 1, .x 0, .b false], 0, 0, 0, false, false⟩), (200, .r 2000000 26 4 false)] = true := by kernel_rfl
def hyRl_p11 : LK := [(.rn, .x 2000004), (.bytes [], .x 27), (.len (.x 0), .x 28), (.bin .geq (.x 28) (.i .i64 (.ofNat 6)), .b false), (.bin .gtr (.x 28) (.i .i64 (.ofNat 0)), .b true), (.idx (.x 0) (.i .i64 (.ofNat 0)), .x 29), (.bin .neq (.x 29) (.i .u8 (.ofNat 1)), .b false), (.bin .lss (.x 28) (.i .i64 (.ofNat 8)), .b true)]
theorem runRl_p11 : RNRl_1 hyRl_p11 .ret [(0, .x 0), (1, .x 1), (2000000, .x 2000000)] [(200, 200)] 260 [(4, .sr 200), (5, .i .i64 (.ofNat 0))] [(3, .b ⟨46, .l [.x 1, .x 0, .b false], 0, 0, 0, false, false⟩), (200, .r 2000000 26 4 false)] = true := by kernel_rfl
def hyRl_p12 : LK := [(.rn, .x 2000005), (.bytes [], .x 30), (.len (.x 0), .x 31), (.bin .geq (.x 31) (.i .i64 (.ofNat 6)), .b false), (.bin .gtr (.x 31) (.i .i64 (.ofNat 0)), .b true), (.idx (.x 0) (.i .i64 (.ofNat 0)), .x 32), (.bin .neq (.x 32) (.i .u8 (.ofNat 1)), .b true)]
theorem runRl_p12 : RNRl_1 hyRl_p12 .ret [(0, .x 1), (1, .i .i64 (.ofNat 13)), (2000000, .x 2000000)] [(200, 200)] 260 [(4, .sr 200), (5, .x 1)] [(3, .b ⟨46, .l [.x 0, .s 0 0, .b true], 0, 0, 0, false, false⟩), (200, .r 2000000 26 4 false)] = true := by kernel_rfl
def hyRl_p13 : LK := [(.rn, .x 2000006), (.bytes [], .x 33), (.len (.x 0), .x 34), (.bin .geq (.x 34) (.i .i64 (.ofNat 6)), .b true), (.idx (.x 0) (.i .i64 (.ofNat 0)), .x 35), (.bin .eql (.x 35) (.i .u8 (.ofNat 1)), .b false), (.bin .gtr (.x 34) (.i .i64 (.ofNat 0)), .b true), (.bin .neq (.x 35) (.i .u8 (.ofNat 1)), .b true)]
theorem runRl_p13 : RNRl_1 hyRl_p13 .ret [(0, .x 1), (1, .i .i64 (.ofNat 13)), (2000000, .x 2000000)] [(200, 200)] 260 [(4, .sr 200), (5, .x 1)] [(3, .b ⟨46, .l [.x 0, .s 0 0, .b true], 0, 0, 0, false, false⟩), (200, .r 2000000 26 4 false)] = true := by kernel_rfl
def hyRl_p14 : LK := [(.rn, .x 2000007), (.bytes [], .x 36), (.len (.x 0), .x 37), (.bin .geq (.x 37) (.i .i64 (.ofNat 6)), .b true), (.idx (.x 0) (.i .i64 (.ofNat 0)), .x 38), (.bin .eql (.x 38) (.i .u8 (.ofNat 1)), .b true), (.idx (.x 0) (.i .i64 (.ofNat 4)), .x 39), (.conv 3 (.x 39), .x 40), (.bin .mul (.x 40) (.i .i64 (.ofNat 256)), .x 41), (.idx (.x 0) (.i .i64 (.ofNat 5)), .x 42), (.conv 3 (.x 42), .x 43), (.bin .add (.x 41) (.x 43), .x 44), (.bin .gtr (.x 44) (.x 1), .b true)]
theorem runRl_p14 : RNRl_1 hyRl_p14 .ret [(0, .x 1), (1, .i .i64 (.ofNat 12)), (2000000, .x 2000000)] [(200, 200)] 260 [(4, .sr 200), (5, .x 1)] [(3, .b ⟨46, .l [.x 0, .s 0 0, .b true], 0, 0, 0, false, false⟩), (200, .r 2000000 26 4 false)] = true := by kernel_rfl
def hyRl_p15 : LK := [(.rn, .x 2000008), (.bytes [], .x 45), (.len (.x 0), .x 46), (.bin .geq (.x 46) (.i .i64 (.ofNat 6)), .b true), (.idx (.x 0) (.i .i64 (.ofNat 0)), .x 47), (.bin .eql (.x 47) (.i .u8 (.ofNat 1)), .b true), (.idx (.x 0) (.i .i64 (.ofNat 4)), .x 48), (.conv 3 (.x 48), .x 49), (.bin .mul (.x 49) (.i .i64 (.ofNat 256)), .x 50), (.idx (.x 0) (.i .i64 (.ofNat 5)), .x 51), (.conv 3 (.x 51), .x 52), (.bin .add (.x 50) (.x 52), .x 53), (.bin .gtr (.x 53) (.x 1), .b false), (.bin .gtr (.x 46) (.i .i64 (.ofNat 0)), .b true), (.bin .neq (.x 47) (.i .u8 (.ofNat 1)), .b false), (.bin .lss (.x 46) (.i .i64 (.ofNat 8)), .b true)]
theorem runRl_p15 : RNRl_1 hyRl_p15 .ret [(0, .x 0), (1, .x 1), (2000000, .x 2000000)] [(200, 200)] 260 [(4, .sr 200), (5, .i .i64 (.ofNat 0))] [(3, .b ⟨46, .l [.x 1, .x 0, .b false], 0, 0, 0, false, false⟩), (200, .r 2000000 26 4 false)] = true := by kernel_rfl
def hyRl_p16 : LK := [(.rn, .x 2000009), (.bytes [], .x 54), (.len (.x 0), .x 55), (.bin .geq (.x 55) (.i .i64 (.ofNat 6)), .b true), (.idx (.x 0) (.i .i64 (.ofNat 0)), .x 56), (.bin .eql (.x 56) (.i .u8 (.ofNat 1)), .b true), (.idx (.x 0) (.i .i64 (.ofNat 4)), .x 57), (.conv 3 (.x 57), .x 58), (.bin .mul (.x 58) (.i .i64 (.ofNat 256)), .x 59), (.idx (.x 0) (.i .i64 (.ofNat 5)), .x 60), (.conv 3 (.x 60), .x 61), (.bin .add (.x 59) (.x 61), .x 62), (.bin .gtr (.x 62) (.x 1), .b false), (.bin .gtr (.x 55) (.i .i64 (.ofNat 0)), .b true), (.bin .neq (.x 56) (.i .u8 (.ofNat 1)), .b false), (.bin .lss (.x 55) (.i .i64 (.ofNat 8)), .b false), (.idx (.x 0) (.i .i64 (.ofNat 6)), .x 63), (.conv 3 (.x 63), .x 64), (.bin .add (.i .i64 (.ofNat 8)) (.x 62), .x 65), (.bin .add (.x 65) (.x 64), .x 66), (.bin .lss (.x 55) (.x 66), .b true)]
theorem runRl_p16 : RNRl_1 hyRl_p16 .ret [(0, .x 0), (1, .x 1), (2000000, .x 2000000)] [(200, 200)] 260 [(4, .sr 200), (5, .i .i64 (.ofNat 0))] [(3, .b ⟨46, .l [.x 1, .x 0, .b false], 0, 0, 0, false, false⟩), (200, .r 2000000 26 4 false)] = true := by kernel_rfl
def hyRl_p17 : LK := [(.rn, .x 2000010), (.bytes [], .x 67), (.len (.x 0), .x 68), (.bin .geq (.x 68) (.i .i64 (.ofNat 6)), .b true), (.idx (.x 0) (.i .i64 (.ofNat 0)), .x 69), (.bin .eql (.x 69) (.i .u8 (.ofNat 1)), .b true), (.idx (.x 0) (.i .i64 (.ofNat 4)), .x 70), (.conv 3 (.x 70), .x 71), (.bin .mul (.x 71) (.i .i64 (.ofNat 256)), .x 72), (.idx (.x 0) (.i .i64 (.ofNat 5)), .x 73), (.conv 3 (.x 73), .x 74), (.bin .add (.x 72) (.x 74), .x 75), (.bin .gtr (.x 75) (.x 1), .b false), (.bin .gtr (.x 68) (.i .i64 (.ofNat 0)), .b true), (.bin .neq (.x 69) (.i .u8 (.ofNat 1)), .b false), (.bin .lss (.x 68) (.i .i64 (.ofNat 8)), .b false), (.idx (.x 0) (.i .i64 (.ofNat 6)), .x 76), (.conv 3 (.x 76), .x 77), (.bin .add (.i .i64 (.ofNat 8)) (.x 75), .x 78), (.bin .add (.x 78) (.x 77), .x 79), (.bin .lss (.x 68) (.x 79), .b false), (.idx (.x 0) (.i .i64 (.ofNat 1)), .x 80), (.bin .eql (.x 80) (.i .u8 (.ofNat 0)), .b true)]
theorem runRl_p17 : RNRl_1 hyRl_p17 .ret [(0, .x 1), (1, .i .i64 (.ofNat 10)), (2000000, .x 2000000)] [(200, 200)] 260 [(4, .sr 200), (5, .x 1)] [(3, .b ⟨46, .l [.x 0, .s 0 0, .b true], 0, 0, 0, false, false⟩), (200, .r 2000000 26 4 false)] = true := by kernel_rfl
def nuERl_0 (To : List (Int × Int × LB × Int)) (Tr : LB) (Tk m : Int) : List Value := [St' Tr, .int .i64 (m)]
def roERl_0 (To : List (Int × Int × LB × Int)) (Tr : LB) (Tk m : Int) : List Value := []
noncomputable def ERl_0 (To : List (Int × Int × LB × Int)) (Tr : LB) (Tk m : Int) : Cx := cx (nuX (nuERl_0 To Tr Tk m) (rX (roERl_0 To Tr Tk m) (fun _ => .bool true))) (nuX_one (nuL_one (l := nuERl_0 To Tr Tk m) rfl)) 1 laidE laidE_stab
theorem roundsRl_0 (To : List (Int × Int × LB × Int)) (Tr : LB) (Tk m : Int) (x0 : Tk = 11) (x1 : To.length = 0) (st : Nat × LB × List (Int × Int × LB × Int)) (X : Nat → Value) (hI : InvRl To Tr Tk m st) : RHRl To Tr Tk m (ERl_0 To Tr Tk m) .ret [(4, .nils), (5, .i .i64 (.ofNat 0))] [(3, .b ⟨46, .l [.x 1, .x 0, .b false], 0, 0, 0, false, false⟩)] st X := by
  obtain ⟨tag, s, o⟩ := st
  have hI0 := hI
  obtain ⟨i0, i1, i2, i3, i4, i5, i6, it⟩ := unIRl To Tr Tk m tag s o hI
  rcases (show tag = 0 ∨ tag = 1 from by omega) with rfl | rfl
  · skip
    by_cases h0 : 6 ≤ (s.length : Int)
    · by_cases h1 : bt s 0 = 1
      · by_cases h2 : m < (bt s 4) * 256 + (bt s 5)
        · exfalso; exact cz (rck12 (by omega) (by omega) (by omega)) (by decide) i3 (by omega)
        · by_cases h5 : (s.length : Int) < 8
          · skip
            have := bt_lo s 0; have := bt_hi s 0
            have := bt_lo s 4; have := bt_hi s 4
            have := bt_lo s 5; have := bt_hi s 5
            have hb1 := bt_lo s 4; have hb2 := bt_lo s 5; have hb3 := bt_lo s 6; have hb4 := bt_hi s 4; have hb5 := bt_hi s 5; have hb6 := bt_hi s 6
            have hce := cu_end (m := m) (s := s) (k := 11) (rck11 (by omega) (by omega) (by omega)) (by decide) i1 i2 i3; have hk3 := hce.2.2
            refine lvRl_0 To Tr Tk m s o (h := hyRl_p6) rfl ?_ (thXe (v := St' s) (u := St' Tr) rfl rfl (congrArg (fun l => St' l) hce.2.1) (thXv (v := .int .i64 (m)) rfl rfl (thNil))) runRl_p6
            unfold hyRl_p6
            exact hc (kRn (denX rfl)) <|
             hc (kBytesB (bs := ([] : LB)) .nil (denX rfl)) <|
             hc (lnV rfl rfl (by omega)) <|
             hc (gecT rfl (by omega)) <|
             hc (ixC rfl rfl (by omega)) <|
             hc (eqcT rfl (by omega)) <|
             hc (ixC rfl rfl (by omega)) <|
             hc (kConvF (isX rfl) tu3 (denX rfl) (fI64 (by omega) (by omega))) <|
             hc (kMul (isX rfl) (isZ (m := 256) rfl) (denX rfl) (by omega) (fI64 (by omega) (by omega))) <|
             hc (ixC rfl rfl (by omega)) <|
             hc (kConvF (isX rfl) tu3 (denX rfl) (fI64 (by omega) (by omega))) <|
             hc (adX rfl rfl rfl (by omega)) <|
             hc (gtF rfl rfl (by omega)) <|
             hc (gtcT rfl (by omega)) <|
             hc (necF rfl (by omega)) <|
             hc (ltcT rfl (by omega)) <|
             hnil
          · by_cases h6 : (s.length : Int) < (bt s 4) * 256 + (bt s 5) + (bt s 6) + 8
            · skip
              have := bt_lo s 0; have := bt_hi s 0
              have := bt_lo s 4; have := bt_hi s 4
              have := bt_lo s 5; have := bt_hi s 5
              have := bt_lo s 6; have := bt_hi s 6
              have hb1 := bt_lo s 4; have hb2 := bt_lo s 5; have hb3 := bt_lo s 6; have hb4 := bt_hi s 4; have hb5 := bt_hi s 5; have hb6 := bt_hi s 6
              have hce := cu_end (m := m) (s := s) (k := 11) (rck11 (by omega) (by omega) (by omega)) (by decide) i1 i2 i3; have hk3 := hce.2.2
              refine lvRl_0 To Tr Tk m s o (h := hyRl_p7) rfl ?_ (thXe (v := St' s) (u := St' Tr) rfl rfl (congrArg (fun l => St' l) hce.2.1) (thXv (v := .int .i64 (m)) rfl rfl (thNil))) runRl_p7
              unfold hyRl_p7
              exact hc (kRn (denX rfl)) <|
               hc (kBytesB (bs := ([] : LB)) .nil (denX rfl)) <|
               hc (lnV rfl rfl (by omega)) <|
               hc (gecT rfl (by omega)) <|
               hc (ixC rfl rfl (by omega)) <|
               hc (eqcT rfl (by omega)) <|
               hc (ixC rfl rfl (by omega)) <|
               hc (kConvF (isX rfl) tu3 (denX rfl) (fI64 (by omega) (by omega))) <|
               hc (kMul (isX rfl) (isZ (m := 256) rfl) (denX rfl) (by omega) (fI64 (by omega) (by omega))) <|
               hc (ixC rfl rfl (by omega)) <|
               hc (kConvF (isX rfl) tu3 (denX rfl) (fI64 (by omega) (by omega))) <|
               hc (adX rfl rfl rfl (by omega)) <|
               hc (gtF rfl rfl (by omega)) <|
               hc (gtcT rfl (by omega)) <|
               hc (necF rfl (by omega)) <|
               hc (ltcF rfl (by omega)) <|
               hc (ixC rfl rfl (by omega)) <|
               hc (kConvF (isX rfl) tu3 (denX rfl) (fI64 (by omega) (by omega))) <|
               hc (kAdd (isZ (m := 8) rfl) (isX rfl) (denX rfl) (by omega) (fI64 (by omega) (by omega))) <|
               hc (adX rfl rfl rfl (by omega)) <|
               hc (ltT rfl rfl (by omega)) <|
               hnil
            · by_cases h7 : bt s 1 = 0
              · exfalso; exact cz (rck10 (by omega) (by omega) (by omega) (by omega) (by omega)) (by decide) i3 (by omega)
              · exact nxRl_p0 To Tr Tk m s o X hI0 h0 h1 h2 h5 h6 h7
      · exfalso; exact cz (rck13 (by omega) (by omega)) (by decide) i3 (by omega)
    · by_cases h1 : 0 < (s.length : Int)
      · by_cases h2 : bt s 0 = 1
        · skip
          have := bt_lo s 0; have := bt_hi s 0
          have hb1 := bt_lo s 4; have hb2 := bt_lo s 5; have hb3 := bt_lo s 6; have hb4 := bt_hi s 4; have hb5 := bt_hi s 5; have hb6 := bt_hi s 6
          have hce := cu_end (m := m) (s := s) (k := 11) (rck11 (by omega) (by omega) (by omega)) (by decide) i1 i2 i3; have hk3 := hce.2.2
          refine lvRl_0 To Tr Tk m s o (h := hyRl_p2) rfl ?_ (thXe (v := St' s) (u := St' Tr) rfl rfl (congrArg (fun l => St' l) hce.2.1) (thXv (v := .int .i64 (m)) rfl rfl (thNil))) runRl_p2
          unfold hyRl_p2
          exact hc (kRn (denX rfl)) <|
           hc (kBytesB (bs := ([] : LB)) .nil (denX rfl)) <|
           hc (lnV rfl rfl (by omega)) <|
           hc (gecF rfl (by omega)) <|
           hc (gtcT rfl (by omega)) <|
           hc (ixC rfl rfl (by omega)) <|
           hc (necF rfl (by omega)) <|
           hc (ltcT rfl (by omega)) <|
           hnil
        · exfalso; exact cz (rck13 (by omega) (by omega)) (by decide) i3 (by omega)
      · skip
        have hb1 := bt_lo s 4; have hb2 := bt_lo s 5; have hb3 := bt_lo s 6; have hb4 := bt_hi s 4; have hb5 := bt_hi s 5; have hb6 := bt_hi s 6
        have hce := cu_end (m := m) (s := s) (k := 11) (rck11 (by omega) (by omega) (by omega)) (by decide) i1 i2 i3; have hk3 := hce.2.2
        refine lvRl_0 To Tr Tk m s o (h := hyRl_p1) rfl ?_ (thXe (v := St' s) (u := St' Tr) rfl rfl (congrArg (fun l => St' l) hce.2.1) (thXv (v := .int .i64 (m)) rfl rfl (thNil))) runRl_p1
        unfold hyRl_p1
        exact hc (kRn (denX rfl)) <|
         hc (kBytesB (bs := ([] : LB)) .nil (denX rfl)) <|
         hc (lnV rfl rfl (by omega)) <|
         hc (gecF rfl (by omega)) <|
         hc (gtcF rfl (by omega)) <|
         hc (ltcT rfl (by omega)) <|
         hnil
  · skip
    by_cases h0 : 6 ≤ (s.length : Int)
    · by_cases h1 : bt s 0 = 1
      · by_cases h2 : m < (bt s 4) * 256 + (bt s 5)
        · exfalso; exact cz (rck12 (by omega) (by omega) (by omega)) (by decide) i3 (by omega)
        · by_cases h5 : (s.length : Int) < 8
          · exfalso; have hce := cu_end (rck11 (by omega) (by omega) (by omega)) (by decide) i1 i2 i3; have h0 := i6 rfl; rw [hce.1] at h0; omega
          · by_cases h6 : (s.length : Int) < (bt s 4) * 256 + (bt s 5) + (bt s 6) + 8
            · exfalso; have hce := cu_end (rck11 (by omega) (by omega) (by omega)) (by decide) i1 i2 i3; have h0 := i6 rfl; rw [hce.1] at h0; omega
            · by_cases h7 : bt s 1 = 0
              · exfalso; exact cz (rck10 (by omega) (by omega) (by omega) (by omega) (by omega)) (by decide) i3 (by omega)
              · exact nxRl_p9 To Tr Tk m s o X hI0 h0 h1 h2 h5 h6 h7
      · exfalso; exact cz (rck13 (by omega) (by omega)) (by decide) i3 (by omega)
    · by_cases h1 : 0 < (s.length : Int)
      · by_cases h2 : bt s 0 = 1
        · exfalso; have hce := cu_end (rck11 (by omega) (by omega) (by omega)) (by decide) i1 i2 i3; have h0 := i6 rfl; rw [hce.1] at h0; omega
        · exfalso; exact cz (rck13 (by omega) (by omega)) (by decide) i3 (by omega)
      · exfalso; have hce := cu_end (rck11 (by omega) (by omega) (by omega)) (by decide) i1 i2 i3; have h0 := i6 rfl; rw [hce.1] at h0; omega
theorem lfOkRl_0 {l : LF} {h : LH} (To : List (Int × Int × LB × Int)) (Tr : LB) (Tk m : Int) (x0 : Tk = 11) (x1 : To.length = 0) (st : Nat × LB × List (Int × Int × LB × Int)) (hI : InvRl To Tr Tk m st) (hl : l.hp = some h) (hs : lfSame l h 87 keepRl .ret 1 200 260 = true) {th0 : LA} {sg0 : List (Nat × Nat)} (hth0 : ∀ X, ThOk (cx nu one 1 laidE laidE_stab) (DRl To Tr Tk m st X) th0) (h0 : startOk l h 87 200 202 th0 sg0 (epRl st) (hpRl st) = true) {thx : LA} (hthx : ThOk (ERl_0 To Tr Tk m) (cx nu one 1 laidE laidE_stab) thx) (hx : exitOk l h 87 200 260 thx [(4, .nils), (5, .i .i64 (.ofNat 0))] [(3, .b ⟨46, .l [.x 1, .x 0, .b false], 0, 0, 0, false, false⟩)] = true) : LfOk (cx nu one 1 laidE laidE_stab) bodyRl l :=
  lfOkX (E := ERl_0 To Tr Tk m) (InvRl To Tr Tk m) (muRl To Tr Tk m) (DRl To Tr Tk m) (fun _ _ => rfl) (fun _ _ => rfl) (fun _ _ => rfl) (fun st X t ht => nuX_keep.trans (rX_keep ((by decide : ∀ t, t ∈ keepRl → t < 1000000) t ht))) rfl rfl rfl hl hs ebRl rfl rfl st hI hth0 h0 hthx hx (roundsRl_0 To Tr Tk m x0 x1)
def nuERl_1 (To : List (Int × Int × LB × Int)) (Tr : LB) (Tk m : Int) : List Value := [St' Tr, .int .i64 (m)]
def roERl_1 (To : List (Int × Int × LB × Int)) (Tr : LB) (Tk m : Int) : List Value := [rwG reC To]
noncomputable def ERl_1 (To : List (Int × Int × LB × Int)) (Tr : LB) (Tk m : Int) : Cx := cx (nuX (nuERl_1 To Tr Tk m) (rX (roERl_1 To Tr Tk m) (fun _ => .bool true))) (nuX_one (nuL_one (l := nuERl_1 To Tr Tk m) rfl)) 1 laidE laidE_stab
theorem roundsRl_1 (To : List (Int × Int × LB × Int)) (Tr : LB) (Tk m : Int) (x0 : Tk = 11) (x1 : ¬ To.length = 0) (st : Nat × LB × List (Int × Int × LB × Int)) (X : Nat → Value) (hI : InvRl To Tr Tk m st) : RHRl To Tr Tk m (ERl_1 To Tr Tk m) .ret [(4, .sr 200), (5, .i .i64 (.ofNat 0))] [(3, .b ⟨46, .l [.x 1, .x 0, .b false], 0, 0, 0, false, false⟩), (200, .r 2000000 26 4 false)] st X := by
  obtain ⟨tag, s, o⟩ := st
  have hI0 := hI
  obtain ⟨i0, i1, i2, i3, i4, i5, i6, it⟩ := unIRl To Tr Tk m tag s o hI
  rcases (show tag = 0 ∨ tag = 1 from by omega) with rfl | rfl
  · skip
    by_cases h0 : 6 ≤ (s.length : Int)
    · by_cases h1 : bt s 0 = 1
      · by_cases h2 : m < (bt s 4) * 256 + (bt s 5)
        · exfalso; exact cz (rck12 (by omega) (by omega) (by omega)) (by decide) i3 (by omega)
        · by_cases h5 : (s.length : Int) < 8
          · exfalso; have hce := cu_end (rck11 (by omega) (by omega) (by omega)) (by decide) i1 i2 i3; have h0 := i5 rfl; rw [← hce.1, h0] at x1; simp at x1
          · by_cases h6 : (s.length : Int) < (bt s 4) * 256 + (bt s 5) + (bt s 6) + 8
            · exfalso; have hce := cu_end (rck11 (by omega) (by omega) (by omega)) (by decide) i1 i2 i3; have h0 := i5 rfl; rw [← hce.1, h0] at x1; simp at x1
            · by_cases h7 : bt s 1 = 0
              · exfalso; exact cz (rck10 (by omega) (by omega) (by omega) (by omega) (by omega)) (by decide) i3 (by omega)
              · exact nxRl_p0 To Tr Tk m s o X hI0 h0 h1 h2 h5 h6 h7
      · exfalso; exact cz (rck13 (by omega) (by omega)) (by decide) i3 (by omega)
    · by_cases h1 : 0 < (s.length : Int)
      · by_cases h2 : bt s 0 = 1
        · exfalso; have hce := cu_end (rck11 (by omega) (by omega) (by omega)) (by decide) i1 i2 i3; have h0 := i5 rfl; rw [← hce.1, h0] at x1; simp at x1
        · exfalso; exact cz (rck13 (by omega) (by omega)) (by decide) i3 (by omega)
      · exfalso; have hce := cu_end (rck11 (by omega) (by omega) (by omega)) (by decide) i1 i2 i3; have h0 := i5 rfl; rw [← hce.1, h0] at x1; simp at x1
  · skip
    by_cases h0 : 6 ≤ (s.length : Int)
    · by_cases h1 : bt s 0 = 1
      · by_cases h2 : m < (bt s 4) * 256 + (bt s 5)
        · exfalso; exact cz (rck12 (by omega) (by omega) (by omega)) (by decide) i3 (by omega)
        · by_cases h5 : (s.length : Int) < 8
          · skip
            have := bt_lo s 0; have := bt_hi s 0
            have := bt_lo s 4; have := bt_hi s 4
            have := bt_lo s 5; have := bt_hi s 5
            have hb1 := bt_lo s 4; have hb2 := bt_lo s 5; have hb3 := bt_lo s 6; have hb4 := bt_hi s 4; have hb5 := bt_hi s 5; have hb6 := bt_hi s 6
            have hce := cu_end (m := m) (s := s) (k := 11) (rck11 (by omega) (by omega) (by omega)) (by decide) i1 i2 i3; have hk3 := hce.2.2
            refine lvRl_1 To Tr Tk m s o (h := hyRl_p15) rfl ?_ (thXe (v := St' s) (u := St' Tr) rfl rfl (congrArg (fun l => St' l) hce.2.1) (thXv (v := .int .i64 (m)) rfl rfl (thXe (v := rwG reC o) (u := rwG reC To) rfl rfl (congrArg (rwG reC) hce.1) (thNil)))) runRl_p15
            unfold hyRl_p15
            exact hc (kRn (denX rfl)) <|
             hc (kBytesB (bs := ([] : LB)) .nil (denX rfl)) <|
             hc (lnV rfl rfl (by omega)) <|
             hc (gecT rfl (by omega)) <|
             hc (ixC rfl rfl (by omega)) <|
             hc (eqcT rfl (by omega)) <|
             hc (ixC rfl rfl (by omega)) <|
             hc (kConvF (isX rfl) tu3 (denX rfl) (fI64 (by omega) (by omega))) <|
             hc (kMul (isX rfl) (isZ (m := 256) rfl) (denX rfl) (by omega) (fI64 (by omega) (by omega))) <|
             hc (ixC rfl rfl (by omega)) <|
             hc (kConvF (isX rfl) tu3 (denX rfl) (fI64 (by omega) (by omega))) <|
             hc (adX rfl rfl rfl (by omega)) <|
             hc (gtF rfl rfl (by omega)) <|
             hc (gtcT rfl (by omega)) <|
             hc (necF rfl (by omega)) <|
             hc (ltcT rfl (by omega)) <|
             hnil
          · by_cases h6 : (s.length : Int) < (bt s 4) * 256 + (bt s 5) + (bt s 6) + 8
            · skip
              have := bt_lo s 0; have := bt_hi s 0
              have := bt_lo s 4; have := bt_hi s 4
              have := bt_lo s 5; have := bt_hi s 5
              have := bt_lo s 6; have := bt_hi s 6
              have hb1 := bt_lo s 4; have hb2 := bt_lo s 5; have hb3 := bt_lo s 6; have hb4 := bt_hi s 4; have hb5 := bt_hi s 5; have hb6 := bt_hi s 6
              have hce := cu_end (m := m) (s := s) (k := 11) (rck11 (by omega) (by omega) (by omega)) (by decide) i1 i2 i3; have hk3 := hce.2.2
              refine lvRl_1 To Tr Tk m s o (h := hyRl_p16) rfl ?_ (thXe (v := St' s) (u := St' Tr) rfl rfl (congrArg (fun l => St' l) hce.2.1) (thXv (v := .int .i64 (m)) rfl rfl (thXe (v := rwG reC o) (u := rwG reC To) rfl rfl (congrArg (rwG reC) hce.1) (thNil)))) runRl_p16
              unfold hyRl_p16
              exact hc (kRn (denX rfl)) <|
               hc (kBytesB (bs := ([] : LB)) .nil (denX rfl)) <|
               hc (lnV rfl rfl (by omega)) <|
               hc (gecT rfl (by omega)) <|
               hc (ixC rfl rfl (by omega)) <|
               hc (eqcT rfl (by omega)) <|
               hc (ixC rfl rfl (by omega)) <|
               hc (kConvF (isX rfl) tu3 (denX rfl) (fI64 (by omega) (by omega))) <|
               hc (kMul (isX rfl) (isZ (m := 256) rfl) (denX rfl) (by omega) (fI64 (by omega) (by omega))) <|
               hc (ixC rfl rfl (by omega)) <|
               hc (kConvF (isX rfl) tu3 (denX rfl) (fI64 (by omega) (by omega))) <|
               hc (adX rfl rfl rfl (by omega)) <|
               hc (gtF rfl rfl (by omega)) <|
               hc (gtcT rfl (by omega)) <|
               hc (necF rfl (by omega)) <|
               hc (ltcF rfl (by omega)) <|
               hc (ixC rfl rfl (by omega)) <|
               hc (kConvF (isX rfl) tu3 (denX rfl) (fI64 (by omega) (by omega))) <|
               hc (kAdd (isZ (m := 8) rfl) (isX rfl) (denX rfl) (by omega) (fI64 (by omega) (by omega))) <|
               hc (adX rfl rfl rfl (by omega)) <|
               hc (ltT rfl rfl (by omega)) <|
               hnil
            · by_cases h7 : bt s 1 = 0
              · exfalso; exact cz (rck10 (by omega) (by omega) (by omega) (by omega) (by omega)) (by decide) i3 (by omega)
              · exact nxRl_p9 To Tr Tk m s o X hI0 h0 h1 h2 h5 h6 h7
      · exfalso; exact cz (rck13 (by omega) (by omega)) (by decide) i3 (by omega)
    · by_cases h1 : 0 < (s.length : Int)
      · by_cases h2 : bt s 0 = 1
        · skip
          have := bt_lo s 0; have := bt_hi s 0
          have hb1 := bt_lo s 4; have hb2 := bt_lo s 5; have hb3 := bt_lo s 6; have hb4 := bt_hi s 4; have hb5 := bt_hi s 5; have hb6 := bt_hi s 6
          have hce := cu_end (m := m) (s := s) (k := 11) (rck11 (by omega) (by omega) (by omega)) (by decide) i1 i2 i3; have hk3 := hce.2.2
          refine lvRl_1 To Tr Tk m s o (h := hyRl_p11) rfl ?_ (thXe (v := St' s) (u := St' Tr) rfl rfl (congrArg (fun l => St' l) hce.2.1) (thXv (v := .int .i64 (m)) rfl rfl (thXe (v := rwG reC o) (u := rwG reC To) rfl rfl (congrArg (rwG reC) hce.1) (thNil)))) runRl_p11
          unfold hyRl_p11
          exact hc (kRn (denX rfl)) <|
           hc (kBytesB (bs := ([] : LB)) .nil (denX rfl)) <|
           hc (lnV rfl rfl (by omega)) <|
           hc (gecF rfl (by omega)) <|
           hc (gtcT rfl (by omega)) <|
           hc (ixC rfl rfl (by omega)) <|
           hc (necF rfl (by omega)) <|
           hc (ltcT rfl (by omega)) <|
           hnil
        · exfalso; exact cz (rck13 (by omega) (by omega)) (by decide) i3 (by omega)
      · skip
        have hb1 := bt_lo s 4; have hb2 := bt_lo s 5; have hb3 := bt_lo s 6; have hb4 := bt_hi s 4; have hb5 := bt_hi s 5; have hb6 := bt_hi s 6
        have hce := cu_end (m := m) (s := s) (k := 11) (rck11 (by omega) (by omega) (by omega)) (by decide) i1 i2 i3; have hk3 := hce.2.2
        refine lvRl_1 To Tr Tk m s o (h := hyRl_p10) rfl ?_ (thXe (v := St' s) (u := St' Tr) rfl rfl (congrArg (fun l => St' l) hce.2.1) (thXv (v := .int .i64 (m)) rfl rfl (thXe (v := rwG reC o) (u := rwG reC To) rfl rfl (congrArg (rwG reC) hce.1) (thNil)))) runRl_p10
        unfold hyRl_p10
        exact hc (kRn (denX rfl)) <|
         hc (kBytesB (bs := ([] : LB)) .nil (denX rfl)) <|
         hc (lnV rfl rfl (by omega)) <|
         hc (gecF rfl (by omega)) <|
         hc (gtcF rfl (by omega)) <|
         hc (ltcT rfl (by omega)) <|
         hnil
theorem lfOkRl_1 {l : LF} {h : LH} (To : List (Int × Int × LB × Int)) (Tr : LB) (Tk m : Int) (x0 : Tk = 11) (x1 : ¬ To.length = 0) (st : Nat × LB × List (Int × Int × LB × Int)) (hI : InvRl To Tr Tk m st) (hl : l.hp = some h) (hs : lfSame l h 87 keepRl .ret 1 200 260 = true) {th0 : LA} {sg0 : List (Nat × Nat)} (hth0 : ∀ X, ThOk (cx nu one 1 laidE laidE_stab) (DRl To Tr Tk m st X) th0) (h0 : startOk l h 87 200 202 th0 sg0 (epRl st) (hpRl st) = true) {thx : LA} (hthx : ThOk (ERl_1 To Tr Tk m) (cx nu one 1 laidE laidE_stab) thx) (hx : exitOk l h 87 200 260 thx [(4, .sr 200), (5, .i .i64 (.ofNat 0))] [(3, .b ⟨46, .l [.x 1, .x 0, .b false], 0, 0, 0, false, false⟩), (200, .r 2000000 26 4 false)] = true) : LfOk (cx nu one 1 laidE laidE_stab) bodyRl l :=
  lfOkX (E := ERl_1 To Tr Tk m) (InvRl To Tr Tk m) (muRl To Tr Tk m) (DRl To Tr Tk m) (fun _ _ => rfl) (fun _ _ => rfl) (fun _ _ => rfl) (fun st X t ht => nuX_keep.trans (rX_keep ((by decide : ∀ t, t ∈ keepRl → t < 1000000) t ht))) rfl rfl rfl hl hs ebRl rfl rfl st hI hth0 h0 hthx hx (roundsRl_1 To Tr Tk m x0 x1)
def nuERl_2 (To : List (Int × Int × LB × Int)) (Tr : LB) (Tk m : Int) : List Value := [.int .i64 (m), .int .i64 (Tk)]
def roERl_2 (To : List (Int × Int × LB × Int)) (Tr : LB) (Tk m : Int) : List Value := []
noncomputable def ERl_2 (To : List (Int × Int × LB × Int)) (Tr : LB) (Tk m : Int) : Cx := cx (nuX (nuERl_2 To Tr Tk m) (rX (roERl_2 To Tr Tk m) (fun _ => .bool true))) (nuX_one (nuL_one (l := nuERl_2 To Tr Tk m) rfl)) 1 laidE laidE_stab
theorem roundsRl_2 (To : List (Int × Int × LB × Int)) (Tr : LB) (Tk m : Int) (x0 : ¬ Tk = 11) (x1 : To.length = 0) (st : Nat × LB × List (Int × Int × LB × Int)) (X : Nat → Value) (hI : InvRl To Tr Tk m st) : RHRl To Tr Tk m (ERl_2 To Tr Tk m) .ret [(4, .nils), (5, .x 1)] [(3, .b ⟨46, .l [.x 0, .s 0 0, .b true], 0, 0, 0, false, false⟩)] st X := by
  obtain ⟨tag, s, o⟩ := st
  have hI0 := hI
  obtain ⟨i0, i1, i2, i3, i4, i5, i6, it⟩ := unIRl To Tr Tk m tag s o hI
  rcases (show tag = 0 ∨ tag = 1 from by omega) with rfl | rfl
  · skip
    by_cases h0 : 6 ≤ (s.length : Int)
    · by_cases h1 : bt s 0 = 1
      · by_cases h2 : m < (bt s 4) * 256 + (bt s 5)
        · skip
          have := bt_lo s 0; have := bt_hi s 0
          have := bt_lo s 4; have := bt_hi s 4
          have := bt_lo s 5; have := bt_hi s 5
          have hb1 := bt_lo s 4; have hb2 := bt_lo s 5; have hb3 := bt_lo s 6; have hb4 := bt_hi s 4; have hb5 := bt_hi s 5; have hb6 := bt_hi s 6
          have hce := cu_end (m := m) (s := s) (k := 12) (rck12 (by omega) (by omega) (by omega)) (by decide) i1 i2 i3; have hk3 := hce.2.2
          refine lvRl_0 To Tr Tk m s o (h := hyRl_p5) rfl ?_ (thXv (v := .int .i64 (m)) rfl rfl (thCons (show Is _ (.i .i64 (.ofNat 12)) (.int .i64 (Tk)) from isTo (v := .int .i64 12) (isI _ _) (congrArg (Value.int .i64) hk3)) (thNil))) runRl_p5
          unfold hyRl_p5
          exact hc (kRn (denX rfl)) <|
           hc (kBytesB (bs := ([] : LB)) .nil (denX rfl)) <|
           hc (lnV rfl rfl (by omega)) <|
           hc (gecT rfl (by omega)) <|
           hc (ixC rfl rfl (by omega)) <|
           hc (eqcT rfl (by omega)) <|
           hc (ixC rfl rfl (by omega)) <|
           hc (kConvF (isX rfl) tu3 (denX rfl) (fI64 (by omega) (by omega))) <|
           hc (kMul (isX rfl) (isZ (m := 256) rfl) (denX rfl) (by omega) (fI64 (by omega) (by omega))) <|
           hc (ixC rfl rfl (by omega)) <|
           hc (kConvF (isX rfl) tu3 (denX rfl) (fI64 (by omega) (by omega))) <|
           hc (adX rfl rfl rfl (by omega)) <|
           hc (gtT rfl rfl (by omega)) <|
           hnil
        · by_cases h5 : (s.length : Int) < 8
          · exfalso; exact cz (rck11 (by omega) (by omega) (by omega)) (by decide) i3 (by omega)
          · by_cases h6 : (s.length : Int) < (bt s 4) * 256 + (bt s 5) + (bt s 6) + 8
            · exfalso; exact cz (rck11 (by omega) (by omega) (by omega)) (by decide) i3 (by omega)
            · by_cases h7 : bt s 1 = 0
              · skip
                have := bt_lo s 0; have := bt_hi s 0
                have := bt_lo s 4; have := bt_hi s 4
                have := bt_lo s 5; have := bt_hi s 5
                have := bt_lo s 6; have := bt_hi s 6
                have := bt_lo s 1; have := bt_hi s 1
                have hb1 := bt_lo s 4; have hb2 := bt_lo s 5; have hb3 := bt_lo s 6; have hb4 := bt_hi s 4; have hb5 := bt_hi s 5; have hb6 := bt_hi s 6
                have hce := cu_end (m := m) (s := s) (k := 10) (rck10 (by omega) (by omega) (by omega) (by omega) (by omega)) (by decide) i1 i2 i3; have hk3 := hce.2.2
                refine lvRl_0 To Tr Tk m s o (h := hyRl_p8) rfl ?_ (thXv (v := .int .i64 (m)) rfl rfl (thCons (show Is _ (.i .i64 (.ofNat 10)) (.int .i64 (Tk)) from isTo (v := .int .i64 10) (isI _ _) (congrArg (Value.int .i64) hk3)) (thNil))) runRl_p8
                unfold hyRl_p8
                exact hc (kRn (denX rfl)) <|
                 hc (kBytesB (bs := ([] : LB)) .nil (denX rfl)) <|
                 hc (lnV rfl rfl (by omega)) <|
                 hc (gecT rfl (by omega)) <|
                 hc (ixC rfl rfl (by omega)) <|
                 hc (eqcT rfl (by omega)) <|
                 hc (ixC rfl rfl (by omega)) <|
                 hc (kConvF (isX rfl) tu3 (denX rfl) (fI64 (by omega) (by omega))) <|
                 hc (kMul (isX rfl) (isZ (m := 256) rfl) (denX rfl) (by omega) (fI64 (by omega) (by omega))) <|
                 hc (ixC rfl rfl (by omega)) <|
                 hc (kConvF (isX rfl) tu3 (denX rfl) (fI64 (by omega) (by omega))) <|
                 hc (adX rfl rfl rfl (by omega)) <|
                 hc (gtF rfl rfl (by omega)) <|
                 hc (gtcT rfl (by omega)) <|
                 hc (necF rfl (by omega)) <|
                 hc (ltcF rfl (by omega)) <|
                 hc (ixC rfl rfl (by omega)) <|
                 hc (kConvF (isX rfl) tu3 (denX rfl) (fI64 (by omega) (by omega))) <|
                 hc (kAdd (isZ (m := 8) rfl) (isX rfl) (denX rfl) (by omega) (fI64 (by omega) (by omega))) <|
                 hc (adX rfl rfl rfl (by omega)) <|
                 hc (ltF rfl rfl (by omega)) <|
                 hc (ixC rfl rfl (by omega)) <|
                 hc (eqcT rfl (by omega)) <|
                 hnil
              · exact nxRl_p0 To Tr Tk m s o X hI0 h0 h1 h2 h5 h6 h7
      · skip
        have := bt_lo s 0; have := bt_hi s 0
        have hb1 := bt_lo s 4; have hb2 := bt_lo s 5; have hb3 := bt_lo s 6; have hb4 := bt_hi s 4; have hb5 := bt_hi s 5; have hb6 := bt_hi s 6
        have hce := cu_end (m := m) (s := s) (k := 13) (rck13 (by omega) (by omega)) (by decide) i1 i2 i3; have hk3 := hce.2.2
        refine lvRl_0 To Tr Tk m s o (h := hyRl_p4) rfl ?_ (thXv (v := .int .i64 (m)) rfl rfl (thCons (show Is _ (.i .i64 (.ofNat 13)) (.int .i64 (Tk)) from isTo (v := .int .i64 13) (isI _ _) (congrArg (Value.int .i64) hk3)) (thNil))) runRl_p4
        unfold hyRl_p4
        exact hc (kRn (denX rfl)) <|
         hc (kBytesB (bs := ([] : LB)) .nil (denX rfl)) <|
         hc (lnV rfl rfl (by omega)) <|
         hc (gecT rfl (by omega)) <|
         hc (ixC rfl rfl (by omega)) <|
         hc (eqcF rfl (by omega)) <|
         hc (gtcT rfl (by omega)) <|
         hc (necT rfl (by omega)) <|
         hnil
    · by_cases h1 : 0 < (s.length : Int)
      · by_cases h2 : bt s 0 = 1
        · exfalso; exact cz (rck11 (by omega) (by omega) (by omega)) (by decide) i3 (by omega)
        · skip
          have := bt_lo s 0; have := bt_hi s 0
          have hb1 := bt_lo s 4; have hb2 := bt_lo s 5; have hb3 := bt_lo s 6; have hb4 := bt_hi s 4; have hb5 := bt_hi s 5; have hb6 := bt_hi s 6
          have hce := cu_end (m := m) (s := s) (k := 13) (rck13 (by omega) (by omega)) (by decide) i1 i2 i3; have hk3 := hce.2.2
          refine lvRl_0 To Tr Tk m s o (h := hyRl_p3) rfl ?_ (thXv (v := .int .i64 (m)) rfl rfl (thCons (show Is _ (.i .i64 (.ofNat 13)) (.int .i64 (Tk)) from isTo (v := .int .i64 13) (isI _ _) (congrArg (Value.int .i64) hk3)) (thNil))) runRl_p3
          unfold hyRl_p3
          exact hc (kRn (denX rfl)) <|
           hc (kBytesB (bs := ([] : LB)) .nil (denX rfl)) <|
           hc (lnV rfl rfl (by omega)) <|
           hc (gecF rfl (by omega)) <|
           hc (gtcT rfl (by omega)) <|
           hc (ixC rfl rfl (by omega)) <|
           hc (necT rfl (by omega)) <|
           hnil
      · exfalso; exact cz (rck11 (by omega) (by omega) (by omega)) (by decide) i3 (by omega)
  · skip
    by_cases h0 : 6 ≤ (s.length : Int)
    · by_cases h1 : bt s 0 = 1
      · by_cases h2 : m < (bt s 4) * 256 + (bt s 5)
        · exfalso; have hce := cu_end (rck12 (by omega) (by omega) (by omega)) (by decide) i1 i2 i3; have h0 := i6 rfl; rw [hce.1] at h0; omega
        · by_cases h5 : (s.length : Int) < 8
          · exfalso; exact cz (rck11 (by omega) (by omega) (by omega)) (by decide) i3 (by omega)
          · by_cases h6 : (s.length : Int) < (bt s 4) * 256 + (bt s 5) + (bt s 6) + 8
            · exfalso; exact cz (rck11 (by omega) (by omega) (by omega)) (by decide) i3 (by omega)
            · by_cases h7 : bt s 1 = 0
              · exfalso; have hce := cu_end (rck10 (by omega) (by omega) (by omega) (by omega) (by omega)) (by decide) i1 i2 i3; have h0 := i6 rfl; rw [hce.1] at h0; omega
              · exact nxRl_p9 To Tr Tk m s o X hI0 h0 h1 h2 h5 h6 h7
      · exfalso; have hce := cu_end (rck13 (by omega) (by omega)) (by decide) i1 i2 i3; have h0 := i6 rfl; rw [hce.1] at h0; omega
    · by_cases h1 : 0 < (s.length : Int)
      · by_cases h2 : bt s 0 = 1
        · exfalso; exact cz (rck11 (by omega) (by omega) (by omega)) (by decide) i3 (by omega)
        · exfalso; have hce := cu_end (rck13 (by omega) (by omega)) (by decide) i1 i2 i3; have h0 := i6 rfl; rw [hce.1] at h0; omega
      · exfalso; exact cz (rck11 (by omega) (by omega) (by omega)) (by decide) i3 (by omega)
theorem lfOkRl_2 {l : LF} {h : LH} (To : List (Int × Int × LB × Int)) (Tr : LB) (Tk m : Int) (x0 : ¬ Tk = 11) (x1 : To.length = 0) (st : Nat × LB × List (Int × Int × LB × Int)) (hI : InvRl To Tr Tk m st) (hl : l.hp = some h) (hs : lfSame l h 87 keepRl .ret 1 200 260 = true) {th0 : LA} {sg0 : List (Nat × Nat)} (hth0 : ∀ X, ThOk (cx nu one 1 laidE laidE_stab) (DRl To Tr Tk m st X) th0) (h0 : startOk l h 87 200 202 th0 sg0 (epRl st) (hpRl st) = true) {thx : LA} (hthx : ThOk (ERl_2 To Tr Tk m) (cx nu one 1 laidE laidE_stab) thx) (hx : exitOk l h 87 200 260 thx [(4, .nils), (5, .x 1)] [(3, .b ⟨46, .l [.x 0, .s 0 0, .b true], 0, 0, 0, false, false⟩)] = true) : LfOk (cx nu one 1 laidE laidE_stab) bodyRl l :=
  lfOkX (E := ERl_2 To Tr Tk m) (InvRl To Tr Tk m) (muRl To Tr Tk m) (DRl To Tr Tk m) (fun _ _ => rfl) (fun _ _ => rfl) (fun _ _ => rfl) (fun st X t ht => nuX_keep.trans (rX_keep ((by decide : ∀ t, t ∈ keepRl → t < 1000000) t ht))) rfl rfl rfl hl hs ebRl rfl rfl st hI hth0 h0 hthx hx (roundsRl_2 To Tr Tk m x0 x1)
def nuERl_3 (To : List (Int × Int × LB × Int)) (Tr : LB) (Tk m : Int) : List Value := [.int .i64 (m), .int .i64 (Tk)]
def roERl_3 (To : List (Int × Int × LB × Int)) (Tr : LB) (Tk m : Int) : List Value := [rwG reC To]
noncomputable def ERl_3 (To : List (Int × Int × LB × Int)) (Tr : LB) (Tk m : Int) : Cx := cx (nuX (nuERl_3 To Tr Tk m) (rX (roERl_3 To Tr Tk m) (fun _ => .bool true))) (nuX_one (nuL_one (l := nuERl_3 To Tr Tk m) rfl)) 1 laidE laidE_stab
theorem roundsRl_3 (To : List (Int × Int × LB × Int)) (Tr : LB) (Tk m : Int) (x0 : ¬ Tk = 11) (x1 : ¬ To.length = 0) (st : Nat × LB × List (Int × Int × LB × Int)) (X : Nat → Value) (hI : InvRl To Tr Tk m st) : RHRl To Tr Tk m (ERl_3 To Tr Tk m) .ret [(4, .sr 200), (5, .x 1)] [(3, .b ⟨46, .l [.x 0, .s 0 0, .b true], 0, 0, 0, false, false⟩), (200, .r 2000000 26 4 false)] st X := by
  obtain ⟨tag, s, o⟩ := st
  have hI0 := hI
  obtain ⟨i0, i1, i2, i3, i4, i5, i6, it⟩ := unIRl To Tr Tk m tag s o hI
  rcases (show tag = 0 ∨ tag = 1 from by omega) with rfl | rfl
  · skip
    by_cases h0 : 6 ≤ (s.length : Int)
    · by_cases h1 : bt s 0 = 1
      · by_cases h2 : m < (bt s 4) * 256 + (bt s 5)
        · exfalso; have hce := cu_end (rck12 (by omega) (by omega) (by omega)) (by decide) i1 i2 i3; have h0 := i5 rfl; rw [← hce.1, h0] at x1; simp at x1
        · by_cases h5 : (s.length : Int) < 8
          · exfalso; exact cz (rck11 (by omega) (by omega) (by omega)) (by decide) i3 (by omega)
          · by_cases h6 : (s.length : Int) < (bt s 4) * 256 + (bt s 5) + (bt s 6) + 8
            · exfalso; exact cz (rck11 (by omega) (by omega) (by omega)) (by decide) i3 (by omega)
            · by_cases h7 : bt s 1 = 0
              · exfalso; have hce := cu_end (rck10 (by omega) (by omega) (by omega) (by omega) (by omega)) (by decide) i1 i2 i3; have h0 := i5 rfl; rw [← hce.1, h0] at x1; simp at x1
              · exact nxRl_p0 To Tr Tk m s o X hI0 h0 h1 h2 h5 h6 h7
      · exfalso; have hce := cu_end (rck13 (by omega) (by omega)) (by decide) i1 i2 i3; have h0 := i5 rfl; rw [← hce.1, h0] at x1; simp at x1
    · by_cases h1 : 0 < (s.length : Int)
      · by_cases h2 : bt s 0 = 1
        · exfalso; exact cz (rck11 (by omega) (by omega) (by omega)) (by decide) i3 (by omega)
        · exfalso; have hce := cu_end (rck13 (by omega) (by omega)) (by decide) i1 i2 i3; have h0 := i5 rfl; rw [← hce.1, h0] at x1; simp at x1
      · exfalso; exact cz (rck11 (by omega) (by omega) (by omega)) (by decide) i3 (by omega)
  · skip
    by_cases h0 : 6 ≤ (s.length : Int)
    · by_cases h1 : bt s 0 = 1
      · by_cases h2 : m < (bt s 4) * 256 + (bt s 5)
        · skip
          have := bt_lo s 0; have := bt_hi s 0
          have := bt_lo s 4; have := bt_hi s 4
          have := bt_lo s 5; have := bt_hi s 5
          have hb1 := bt_lo s 4; have hb2 := bt_lo s 5; have hb3 := bt_lo s 6; have hb4 := bt_hi s 4; have hb5 := bt_hi s 5; have hb6 := bt_hi s 6
          have hce := cu_end (m := m) (s := s) (k := 12) (rck12 (by omega) (by omega) (by omega)) (by decide) i1 i2 i3; have hk3 := hce.2.2
          refine lvRl_1 To Tr Tk m s o (h := hyRl_p14) rfl ?_ (thXv (v := .int .i64 (m)) rfl rfl (thCons (show Is _ (.i .i64 (.ofNat 12)) (.int .i64 (Tk)) from isTo (v := .int .i64 12) (isI _ _) (congrArg (Value.int .i64) hk3)) (thXe (v := rwG reC o) (u := rwG reC To) rfl rfl (congrArg (rwG reC) hce.1) (thNil)))) runRl_p14
          unfold hyRl_p14
          exact hc (kRn (denX rfl)) <|
           hc (kBytesB (bs := ([] : LB)) .nil (denX rfl)) <|
           hc (lnV rfl rfl (by omega)) <|
           hc (gecT rfl (by omega)) <|
           hc (ixC rfl rfl (by omega)) <|
           hc (eqcT rfl (by omega)) <|
           hc (ixC rfl rfl (by omega)) <|
           hc (kConvF (isX rfl) tu3 (denX rfl) (fI64 (by omega) (by omega))) <|
           hc (kMul (isX rfl) (isZ (m := 256) rfl) (denX rfl) (by omega) (fI64 (by omega) (by omega))) <|
           hc (ixC rfl rfl (by omega)) <|
           hc (kConvF (isX rfl) tu3 (denX rfl) (fI64 (by omega) (by omega))) <|
           hc (adX rfl rfl rfl (by omega)) <|
           hc (gtT rfl rfl (by omega)) <|
           hnil
        · by_cases h5 : (s.length : Int) < 8
          · exfalso; exact cz (rck11 (by omega) (by omega) (by omega)) (by decide) i3 (by omega)
          · by_cases h6 : (s.length : Int) < (bt s 4) * 256 + (bt s 5) + (bt s 6) + 8
            · exfalso; exact cz (rck11 (by omega) (by omega) (by omega)) (by decide) i3 (by omega)
            · by_cases h7 : bt s 1 = 0
              · skip
                have := bt_lo s 0; have := bt_hi s 0
                have := bt_lo s 4; have := bt_hi s 4
                have := bt_lo s 5; have := bt_hi s 5
                have := bt_lo s 6; have := bt_hi s 6
                have := bt_lo s 1; have := bt_hi s 1
                have hb1 := bt_lo s 4; have hb2 := bt_lo s 5; have hb3 := bt_lo s 6; have hb4 := bt_hi s 4; have hb5 := bt_hi s 5; have hb6 := bt_hi s 6
                have hce := cu_end (m := m) (s := s) (k := 10) (rck10 (by omega) (by omega) (by omega) (by omega) (by omega)) (by decide) i1 i2 i3; have hk3 := hce.2.2
                refine lvRl_1 To Tr Tk m s o (h := hyRl_p17) rfl ?_ (thXv (v := .int .i64 (m)) rfl rfl (thCons (show Is _ (.i .i64 (.ofNat 10)) (.int .i64 (Tk)) from isTo (v := .int .i64 10) (isI _ _) (congrArg (Value.int .i64) hk3)) (thXe (v := rwG reC o) (u := rwG reC To) rfl rfl (congrArg (rwG reC) hce.1) (thNil)))) runRl_p17
                unfold hyRl_p17
                exact hc (kRn (denX rfl)) <|
                 hc (kBytesB (bs := ([] : LB)) .nil (denX rfl)) <|
                 hc (lnV rfl rfl (by omega)) <|
                 hc (gecT rfl (by omega)) <|
                 hc (ixC rfl rfl (by omega)) <|
                 hc (eqcT rfl (by omega)) <|
                 hc (ixC rfl rfl (by omega)) <|
                 hc (kConvF (isX rfl) tu3 (denX rfl) (fI64 (by omega) (by omega))) <|
                 hc (kMul (isX rfl) (isZ (m := 256) rfl) (denX rfl) (by omega) (fI64 (by omega) (by omega))) <|
                 hc (ixC rfl rfl (by omega)) <|
                 hc (kConvF (isX rfl) tu3 (denX rfl) (fI64 (by omega) (by omega))) <|
                 hc (adX rfl rfl rfl (by omega)) <|
                 hc (gtF rfl rfl (by omega)) <|
                 hc (gtcT rfl (by omega)) <|
                 hc (necF rfl (by omega)) <|
                 hc (ltcF rfl (by omega)) <|
                 hc (ixC rfl rfl (by omega)) <|
                 hc (kConvF (isX rfl) tu3 (denX rfl) (fI64 (by omega) (by omega))) <|
                 hc (kAdd (isZ (m := 8) rfl) (isX rfl) (denX rfl) (by omega) (fI64 (by omega) (by omega))) <|
                 hc (adX rfl rfl rfl (by omega)) <|
                 hc (ltF rfl rfl (by omega)) <|
                 hc (ixC rfl rfl (by omega)) <|
                 hc (eqcT rfl (by omega)) <|
                 hnil
              · exact nxRl_p9 To Tr Tk m s o X hI0 h0 h1 h2 h5 h6 h7
      · skip
        have := bt_lo s 0; have := bt_hi s 0
        have hb1 := bt_lo s 4; have hb2 := bt_lo s 5; have hb3 := bt_lo s 6; have hb4 := bt_hi s 4; have hb5 := bt_hi s 5; have hb6 := bt_hi s 6
        have hce := cu_end (m := m) (s := s) (k := 13) (rck13 (by omega) (by omega)) (by decide) i1 i2 i3; have hk3 := hce.2.2
        refine lvRl_1 To Tr Tk m s o (h := hyRl_p13) rfl ?_ (thXv (v := .int .i64 (m)) rfl rfl (thCons (show Is _ (.i .i64 (.ofNat 13)) (.int .i64 (Tk)) from isTo (v := .int .i64 13) (isI _ _) (congrArg (Value.int .i64) hk3)) (thXe (v := rwG reC o) (u := rwG reC To) rfl rfl (congrArg (rwG reC) hce.1) (thNil)))) runRl_p13
        unfold hyRl_p13
        exact hc (kRn (denX rfl)) <|
         hc (kBytesB (bs := ([] : LB)) .nil (denX rfl)) <|
         hc (lnV rfl rfl (by omega)) <|
         hc (gecT rfl (by omega)) <|
         hc (ixC rfl rfl (by omega)) <|
         hc (eqcF rfl (by omega)) <|
         hc (gtcT rfl (by omega)) <|
         hc (necT rfl (by omega)) <|
         hnil
    · by_cases h1 : 0 < (s.length : Int)
      · by_cases h2 : bt s 0 = 1
        · exfalso; exact cz (rck11 (by omega) (by omega) (by omega)) (by decide) i3 (by omega)
        · skip
          have := bt_lo s 0; have := bt_hi s 0
          have hb1 := bt_lo s 4; have hb2 := bt_lo s 5; have hb3 := bt_lo s 6; have hb4 := bt_hi s 4; have hb5 := bt_hi s 5; have hb6 := bt_hi s 6
          have hce := cu_end (m := m) (s := s) (k := 13) (rck13 (by omega) (by omega)) (by decide) i1 i2 i3; have hk3 := hce.2.2
          refine lvRl_1 To Tr Tk m s o (h := hyRl_p12) rfl ?_ (thXv (v := .int .i64 (m)) rfl rfl (thCons (show Is _ (.i .i64 (.ofNat 13)) (.int .i64 (Tk)) from isTo (v := .int .i64 13) (isI _ _) (congrArg (Value.int .i64) hk3)) (thXe (v := rwG reC o) (u := rwG reC To) rfl rfl (congrArg (rwG reC) hce.1) (thNil)))) runRl_p12
          unfold hyRl_p12
          exact hc (kRn (denX rfl)) <|
           hc (kBytesB (bs := ([] : LB)) .nil (denX rfl)) <|
           hc (lnV rfl rfl (by omega)) <|
           hc (gecF rfl (by omega)) <|
           hc (gtcT rfl (by omega)) <|
           hc (ixC rfl rfl (by omega)) <|
           hc (necT rfl (by omega)) <|
           hnil
      · exfalso; exact cz (rck11 (by omega) (by omega) (by omega)) (by decide) i3 (by omega)
theorem lfOkRl_3 {l : LF} {h : LH} (To : List (Int × Int × LB × Int)) (Tr : LB) (Tk m : Int) (x0 : ¬ Tk = 11) (x1 : ¬ To.length = 0) (st : Nat × LB × List (Int × Int × LB × Int)) (hI : InvRl To Tr Tk m st) (hl : l.hp = some h) (hs : lfSame l h 87 keepRl .ret 1 200 260 = true) {th0 : LA} {sg0 : List (Nat × Nat)} (hth0 : ∀ X, ThOk (cx nu one 1 laidE laidE_stab) (DRl To Tr Tk m st X) th0) (h0 : startOk l h 87 200 202 th0 sg0 (epRl st) (hpRl st) = true) {thx : LA} (hthx : ThOk (ERl_3 To Tr Tk m) (cx nu one 1 laidE laidE_stab) thx) (hx : exitOk l h 87 200 260 thx [(4, .sr 200), (5, .x 1)] [(3, .b ⟨46, .l [.x 0, .s 0 0, .b true], 0, 0, 0, false, false⟩), (200, .r 2000000 26 4 false)] = true) : LfOk (cx nu one 1 laidE laidE_stab) bodyRl l :=
  lfOkX (E := ERl_3 To Tr Tk m) (InvRl To Tr Tk m) (muRl To Tr Tk m) (DRl To Tr Tk m) (fun _ _ => rfl) (fun _ _ => rfl) (fun _ _ => rfl) (fun st X t ht => nuX_keep.trans (rX_keep ((by decide : ∀ t, t ∈ keepRl → t < 1000000) t ht))) rfl rfl rfl hl hs ebRl rfl rfl st hI hth0 h0 hthx hx (roundsRl_3 To Tr Tk m x0 x1)
end Go.Proofs.YtlfmfmegnenohaaDoor.cutterTells
