/- A part of the proof: an interpreter of the model's own code on partly known states, and that what it answers is what the program answers. No condition of its own. -/
import Derived.Test.YtobklhnepmgbmaaDoorD1FieldCasesO2
set_option maxRecDepth 100000
set_option linter.unusedVariables false
set_option linter.unusedSimpArgs false
set_option maxHeartbeats 4000000
namespace Go.Proofs.YtobklhnepmgbmaaDoor.fieldCases
open Go Go.AX Go.Proofs Go.Proofs.YtobklhnepmgbmaaDoor
variable {nu : Nat → Value} {one : ∀ i, i < 1000000 → (nu i).oneCell' = true} {E' : Cx} {x' : Ex} {e' : LA} {h' : LE}
noncomputable def bodyDr0 : Code := loopNo (Tryd.f5.body.getD .skip) 0
theorem keyDr0 : oneKey (loopsOf (Tryd.f5.body.getD .skip)) 3 0 0 = true := by kernel_rfl
def keepDr0 : List Nat := []
def epDr0_0 : LA := [(1, .x 0), (5, .nils), (8, .sr 3), (9, .x 1), (10, .x 2)]
def hpDr0_0 : LE := [(3, .r 2000000 29 2 true)]
def nuDr0_0 (z : List (LB × LB)) (nm : LB) (i : Int) (O : List (LB × LB)) : List Value := [St' nm, .int .i64 ((z.length : Int)), .int .i64 (i), St' ((nthP z (Int.toNat (i))).1), St' ((nthP z (Int.toNat (i))).2), St' (lowS ((nthP z (Int.toNat (i))).1)), St' (lowS nm), .int .i64 (i + 1), St' ((nthP z (Int.toNat (i))).1), St' ((nthP z (Int.toNat (i))).2), St' (lowS ((nthP z (Int.toNat (i))).1)), St' (lowS nm), .int .i64 (i + 1)]
def roDr0_0 (z : List (LB × LB)) (nm : LB) (i : Int) (O : List (LB × LB)) : List Value := [rwG prC z, rwS ([] : List LB), rwS ([] : List LB), rwS ([] : List LB), rwG prC (([] : List (LB × LB)) ++ [((nthP z (Int.toNat (i))).1, (nthP z (Int.toNat (i))).2)])]
def epDr0_1 : LA := [(1, .x 0), (5, .sr 43), (8, .sr 3), (9, .x 1), (10, .x 2)]
def hpDr0_1 : LE := [(3, .r 2000000 29 2 true), (43, .r 2000001 29 2 false)]
def nuDr0_1 (z : List (LB × LB)) (nm : LB) (i : Int) (O : List (LB × LB)) : List Value := [St' nm, .int .i64 ((z.length : Int)), .int .i64 (i), St' ((nthP z (Int.toNat (i))).1), St' ((nthP z (Int.toNat (i))).2), St' (lowS ((nthP z (Int.toNat (i))).1)), St' (lowS nm), .int .i64 (i + 1), St' ((nthP z (Int.toNat (i))).1), St' ((nthP z (Int.toNat (i))).2), St' (lowS ((nthP z (Int.toNat (i))).1)), St' (lowS nm), .int .i64 (i + 1)]
def roDr0_1 (z : List (LB × LB)) (nm : LB) (i : Int) (O : List (LB × LB)) : List Value := [rwG prC z, rwG prC O, rwS ([] : List LB), rwS ([] : List LB), rwS ([] : List LB), rwG prC (O ++ [((nthP z (Int.toNat (i))).1, (nthP z (Int.toNat (i))).2)])]
def epDr0 (st : Nat × Int × List (LB × LB)) : LA := if st.1 = 0 then epDr0_0 else epDr0_1
def hpDr0 (st : Nat × Int × List (LB × LB)) : LE := if st.1 = 0 then hpDr0_0 else hpDr0_1
def nuDr0 (z : List (LB × LB)) (nm : LB) (st : Nat × Int × List (LB × LB)) : List Value := if st.1 = 0 then nuDr0_0 z nm (st.2.1) (st.2.2) else nuDr0_1 z nm (st.2.1) (st.2.2)
def roDr0 (z : List (LB × LB)) (nm : LB) (st : Nat × Int × List (LB × LB)) : List Value := if st.1 = 0 then roDr0_0 z nm (st.2.1) (st.2.2) else roDr0_1 z nm (st.2.1) (st.2.2)
theorem onDr0 (z : List (LB × LB)) (nm : LB) (st : Nat × Int × List (LB × LB)) : ∀ j, (nuL (nuDr0 z nm st) j).oneCell' = true := by
  intro j
  unfold nuDr0
  by_cases g0 : st.1 = 0
  · rw [if_pos g0]; exact nuL_one (l := nuDr0_0 z nm (st.2.1) (st.2.2)) rfl j
  rw [if_neg g0]
  exact nuL_one (l := nuDr0_1 z nm (st.2.1) (st.2.2)) rfl j
theorem ebDr0 (st : Nat × Int × List (LB × LB)) : (lfB (epDr0 st) && lfC keepDr0) = true := by
  unfold epDr0
  by_cases g0 : st.1 = 0
  · rw [if_pos g0]; rfl
  rw [if_neg g0]
  rfl
noncomputable def DDr0 (z : List (LB × LB)) (nm : LB) (st : Nat × Int × List (LB × LB)) (X : Nat → Value) : Cx := cx (nuX (nuDr0 z nm st) (rX (roDr0 z nm st) X)) (nuX_one (onDr0 z nm st)) 0 laidE laidE_stab
def InvDr0 (z : List (LB × LB)) (nm : LB) (st : Nat × Int × List (LB × LB)) : Prop := (0 ≤ (st.2.1)) ∧ ((st.2.1) ≤ (z.length : Int)) ∧ (z.length ≤ 1000) ∧ (∀ q, q ∈ z → prB q) ∧ (nm.length ≤ 140737488351232 ∧ ∀ q, q ∈ z → q.1.length ≤ 140737488351232) ∧ ((st.2.2) = dropS nm (z.take (Int.toNat (st.2.1)))) ∧ ((st.1) = 0 → (st.2.2) = []) ∧ ((st.1) = 1 → 1 ≤ (st.2.2).length) ∧ ((st.1) < 2)
abbrev CjDr0 (z : List (LB × LB)) (nm : LB) (tag : Nat) (i : Int) (O : List (LB × LB)) : Prop := (0 ≤ i) ∧ (i ≤ (z.length : Int)) ∧ (z.length ≤ 1000) ∧ (∀ q, q ∈ z → prB q) ∧ (nm.length ≤ 140737488351232 ∧ ∀ q, q ∈ z → q.1.length ≤ 140737488351232) ∧ (O = dropS nm (z.take (Int.toNat i))) ∧ (tag = 0 → O = []) ∧ (tag = 1 → 1 ≤ O.length) ∧ (tag < 2)
theorem mkIDr0 (z : List (LB × LB)) (nm : LB) (tag : Nat) (i : Int) (O : List (LB × LB)) (h : CjDr0 z nm tag i O) : InvDr0 z nm (tag, i, O) := h
theorem unIDr0 (z : List (LB × LB)) (nm : LB) (tag : Nat) (i : Int) (O : List (LB × LB)) (h : InvDr0 z nm (tag, i, O)) : (0 ≤ i) ∧ (i ≤ (z.length : Int)) ∧ (z.length ≤ 1000) ∧ (∀ q, q ∈ z → prB q) ∧ (nm.length ≤ 140737488351232 ∧ ∀ q, q ∈ z → q.1.length ≤ 140737488351232) ∧ (O = dropS nm (z.take (Int.toNat i))) ∧ (tag = 0 → O = []) ∧ (tag = 1 → 1 ≤ O.length) ∧ (tag < 2) := h
def muDr0 (z : List (LB × LB)) (nm : LB) (st : Nat × Int × List (LB × LB)) : Nat := (z.length - (st.2.1).toNat)
abbrev RHDr0 (z : List (LB × LB)) (nm : LB) (E' : Cx) (ex' : Ex) (epx' : LA) (hpx' : LE) (st : Nat × Int × List (LB × LB)) (X : Nat → Value) : Prop := RoundH E' bodyDr0 keepDr0 25 ex' 3 43 44 83 epDr0 hpDr0 epx' hpx' (InvDr0 z nm) (muDr0 z nm) (DDr0 z nm) st X
noncomputable abbrev RNDr0_0 (h : LK) (x : Ex) (th : LA) (sg : List (Nat × Nat)) (m : Nat) (ep : LA) (hp : LE) : Bool := okRdH (code (tbl h) 3000 [] bodyDr0 (envOf (headOf epDr0_0 keepDr0) 25) ⟨lhSet hpDr0_0 .leaf, 44, 0, 0⟩) x keepDr0 25 83 th sg 43 m ep hp
theorem stDr0_0 (z : List (LB × LB)) (nm : LB) (i : Int) (O : List (LB × LB)) {X : Nat → Value} {h : LK} (y : Nat × Int × List (LB × LB)) {th : LA} {sg : List (Nat × Nat)} (ho : ∀ a' r', (a', r') ∈ h → HOk (cx (nuX (nuDr0_0 z nm i O) (rX (roDr0_0 z nm i O) X)) (nuX_one (nuL_one (l := nuDr0_0 z nm i O) rfl)) 0 laidE laidE_stab) a' r') (hy : InvDr0 z nm y) (lt : muDr0 z nm y < muDr0 z nm (0, i, O)) (ht : ThOk (cx (nuX (nuDr0_0 z nm i O) (rX (roDr0_0 z nm i O) X)) (nuX_one (nuL_one (l := nuDr0_0 z nm i O) rfl)) 0 laidE laidE_stab) (DDr0 z nm y X) th) (run : RNDr0_0 h .normal th sg 44 (epDr0 y) (hpDr0 y) = true) : RHDr0 z nm E' x' e' h' (0, i, O) X :=
  RoundH.next (tb := tbl h) (L := []) (f := 3000) y ((tabkOk _ _).hyps ho) (LpOk.nil _) rfl hy lt ht run
theorem lvDr0_0 (z : List (LB × LB)) (nm : LB) (i : Int) (O : List (LB × LB)) {X : Nat → Value} {h : LK} {th : LA} {sg : List (Nat × Nat)} (hne : exB x' .normal = false) (ho : ∀ a' r', (a', r') ∈ h → HOk (cx (nuX (nuDr0_0 z nm i O) (rX (roDr0_0 z nm i O) X)) (nuX_one (nuL_one (l := nuDr0_0 z nm i O) rfl)) 0 laidE laidE_stab) a' r') (ht : ThOk (cx (nuX (nuDr0_0 z nm i O) (rX (roDr0_0 z nm i O) X)) (nuX_one (nuL_one (l := nuDr0_0 z nm i O) rfl)) 0 laidE laidE_stab) E' th) (run : RNDr0_0 h x' th sg 83 e' h' = true) : RHDr0 z nm E' x' e' h' (0, i, O) X :=
  RoundH.leave (tb := tbl h) (L := []) (f := 3000) ((tabkOk _ _).hyps ho) (LpOk.nil _) rfl hne ht run
noncomputable abbrev RNDr0_1 (h : LK) (x : Ex) (th : LA) (sg : List (Nat × Nat)) (m : Nat) (ep : LA) (hp : LE) : Bool := okRdH (code (tbl h) 3000 [] bodyDr0 (envOf (headOf epDr0_1 keepDr0) 25) ⟨lhSet hpDr0_1 .leaf, 44, 0, 0⟩) x keepDr0 25 83 th sg 43 m ep hp
theorem stDr0_1 (z : List (LB × LB)) (nm : LB) (i : Int) (O : List (LB × LB)) {X : Nat → Value} {h : LK} (y : Nat × Int × List (LB × LB)) {th : LA} {sg : List (Nat × Nat)} (ho : ∀ a' r', (a', r') ∈ h → HOk (cx (nuX (nuDr0_1 z nm i O) (rX (roDr0_1 z nm i O) X)) (nuX_one (nuL_one (l := nuDr0_1 z nm i O) rfl)) 0 laidE laidE_stab) a' r') (hy : InvDr0 z nm y) (lt : muDr0 z nm y < muDr0 z nm (1, i, O)) (ht : ThOk (cx (nuX (nuDr0_1 z nm i O) (rX (roDr0_1 z nm i O) X)) (nuX_one (nuL_one (l := nuDr0_1 z nm i O) rfl)) 0 laidE laidE_stab) (DDr0 z nm y X) th) (run : RNDr0_1 h .normal th sg 44 (epDr0 y) (hpDr0 y) = true) : RHDr0 z nm E' x' e' h' (1, i, O) X :=
  RoundH.next (tb := tbl h) (L := []) (f := 3000) y ((tabkOk _ _).hyps ho) (LpOk.nil _) rfl hy lt ht run
theorem lvDr0_1 (z : List (LB × LB)) (nm : LB) (i : Int) (O : List (LB × LB)) {X : Nat → Value} {h : LK} {th : LA} {sg : List (Nat × Nat)} (hne : exB x' .normal = false) (ho : ∀ a' r', (a', r') ∈ h → HOk (cx (nuX (nuDr0_1 z nm i O) (rX (roDr0_1 z nm i O) X)) (nuX_one (nuL_one (l := nuDr0_1 z nm i O) rfl)) 0 laidE laidE_stab) a' r') (ht : ThOk (cx (nuX (nuDr0_1 z nm i O) (rX (roDr0_1 z nm i O) X)) (nuX_one (nuL_one (l := nuDr0_1 z nm i O) rfl)) 0 laidE laidE_stab) E' th) (run : RNDr0_1 h x' th sg 83 e' h' = true) : RHDr0 z nm E' x' e' h' (1, i, O) X :=
  RoundH.leave (tb := tbl h) (L := []) (f := 3000) ((tabkOk _ _).hyps ho) (LpOk.nil _) rfl hne ht run
def hyDr0_p0 : LK := [(.rn, .x 2000001), (.bin .lss (.x 2) (.x 1), .b true), (.el (.x 2000000) (.x 2) 2 0, .x 3), (.el (.x 2000000) (.x 2) 2 1, .x 4), (.call 23 [.x 3], .x 5), (.call 23 [.x 0], .x 6), (.bin .eql (.x 5) (.x 6), .b true), (.bin .add (.x 2) (.i .i64 (.ofNat 1)), .x 7)]
theorem runDr0_p0 : RNDr0_0 hyDr0_p0 .normal [(0, .x 0), (1, .x 1), (2, .x 7), (2000000, .x 2000000)] [] 44 epDr0_0 hpDr0_0 = true := by kernel_rfl
theorem nxDr0_p0 (z : List (LB × LB)) (nm : LB) (i : Int) (O : List (LB × LB)) (X : Nat → Value) (hI : InvDr0 z nm (0, i, O)) (h0 : i < (z.length : Int)) (h1 : (lowS ((nthP z (Int.toNat (i))).1)) = (lowS nm)) : RHDr0 z nm E' x' e' h' (0, i, O) X := by
  obtain ⟨i0, i1, i2, i3, i4, i5, i6, i7, it⟩ := unIDr0 z nm 0 i O hI
  have hnm := nmAt i4.2 (Int.toNat i)
  have hO := congrArg List.length i5
  have hO2 := dropS_len nm (z.take (Int.toNat i))
  have hO3 : (z.take (Int.toNat i)).length ≤ z.length := by rw [List.length_take]; omega
  have := prAt (l := z) (by assumption) (Int.toNat (i))
  have : (lowS ((nthP z (Int.toNat (i))).1)).length = ((nthP z (Int.toNat (i))).1).length := List.length_map ..
  have : (lowS nm).length = nm.length := List.length_map ..
  refine stDr0_0 z nm i O (h := hyDr0_p0) (0, i + 1, ([] : List (LB × LB))) ?_ (mkIDr0 z nm 0 (i + 1) ([] : List (LB × LB)) ⟨by omega, by omega, i2, i3, i4, by rw [dropS_n (by omega) (by omega) (by assumption)]; exact (i6 (by omega)).symm.trans i5, fun _ => rfl, fun h => by omega, by omega⟩) (by show z.length - (i + 1).toNat < z.length - i.toNat; omega) (thXv (v := St' nm) rfl rfl (thXv (v := .int .i64 ((z.length : Int))) rfl rfl (thXi (b := ((i + 1))) rfl rfl (by omega) (thXv (v := rwG prC z) rfl rfl (thNil))))) runDr0_p0
  unfold hyDr0_p0
  exact hc (kRn (denX rfl)) <|
   hc (ltT rfl rfl (by omega)) <|
   hc (kElG (j := (Int.toNat (i))) (d := ([], [])) prC_len (by decide) (isX rfl) (isX rfl) (denX rfl) (by omega) (by omega) rfl) <|
   hc (kElG (j := (Int.toNat (i))) (d := ([], [])) prC_len (by decide) (isX rfl) (isX rfl) (denX rfl) (by omega) (by omega) rfl) <|
   hc (hokLower (s := (nthP z (Int.toNat (i))).1) (isX rfl) (denX rfl) (by omega) (by omega)) <|
   hc (hokLower (s := nm) (isX rfl) (denX rfl) (by omega) (by omega)) <|
   hc (kEqS (isX rfl) (isX rfl) (by first | exact decide_eq_true rfl | exact decide_eq_true ‹_› | exact decide_eq_false ‹_›)) <|
   hc (adC rfl rfl (by omega)) <|
   hnil
def hyDr0_p1 : LK := [(.rn, .x 2000002), (.bin .lss (.x 2) (.x 1), .b false)]
theorem runDr0_p1 : RNDr0_0 hyDr0_p1 (.exit 0) [(2000000, .x 2000000)] [] 83 [(5, .nils)] [(3, .r 2000000 29 2 true)] = true := by kernel_rfl
def hyDr0_p2 : LK := [(.rn, .x 2000003), (.bin .lss (.x 2) (.x 1), .b true), (.el (.x 2000000) (.x 2) 2 0, .x 8), (.el (.x 2000000) (.x 2) 2 1, .x 9), (.call 23 [.x 8], .x 10), (.call 23 [.x 0], .x 11), (.bin .eql (.x 10) (.x 11), .b false), (.ra (.x 2000003) [.x 8, .x 9], .x 2000004), (.rf (.x 2000004) 2 32, .b true), (.bin .add (.x 2) (.i .i64 (.ofNat 1)), .x 12)]
theorem runDr0_p2 : RNDr0_0 hyDr0_p2 .normal [(0, .x 0), (1, .x 1), (2, .x 12), (2000000, .x 2000000), (2000001, .x 2000004)] [(43, 46)] 44 epDr0_1 hpDr0_1 = true := by kernel_rfl
theorem nxDr0_p2 (z : List (LB × LB)) (nm : LB) (i : Int) (O : List (LB × LB)) (X : Nat → Value) (hI : InvDr0 z nm (0, i, O)) (h0 : i < (z.length : Int)) (h1 : ¬ ((lowS ((nthP z (Int.toNat (i))).1)) = (lowS nm))) : RHDr0 z nm E' x' e' h' (0, i, O) X := by
  obtain ⟨i0, i1, i2, i3, i4, i5, i6, i7, it⟩ := unIDr0 z nm 0 i O hI
  have hnm := nmAt i4.2 (Int.toNat i)
  have hO := congrArg List.length i5
  have hO2 := dropS_len nm (z.take (Int.toNat i))
  have hO3 : (z.take (Int.toNat i)).length ≤ z.length := by rw [List.length_take]; omega
  have := prAt (l := z) (by assumption) (Int.toNat (i))
  have : (lowS ((nthP z (Int.toNat (i))).1)).length = ((nthP z (Int.toNat (i))).1).length := List.length_map ..
  have : (lowS nm).length = nm.length := List.length_map ..
  refine stDr0_0 z nm i O (h := hyDr0_p2) (1, i + 1, (([] : List (LB × LB)) ++ [((nthP z (Int.toNat (i))).1, (nthP z (Int.toNat (i))).2)])) ?_ (mkIDr0 z nm 1 (i + 1) (([] : List (LB × LB)) ++ [((nthP z (Int.toNat (i))).1, (nthP z (Int.toNat (i))).2)]) ⟨by omega, by omega, i2, i3, i4, by rw [dropS_y (by omega) (by omega) (by assumption), ← i5, i6 (by omega)], fun h => by omega, fun _ => by simp, by omega⟩) (by show z.length - (i + 1).toNat < z.length - i.toNat; omega) (thXv (v := St' nm) rfl rfl (thXv (v := .int .i64 ((z.length : Int))) rfl rfl (thXi (b := ((i + 1))) rfl rfl (by omega) (thXv (v := rwG prC z) rfl rfl (thXv (v := rwG prC (([] : List (LB × LB)) ++ [((nthP z (Int.toNat (i))).1, (nthP z (Int.toNat (i))).2)])) rfl rfl (thNil)))))) runDr0_p2
  unfold hyDr0_p2
  exact hc (kRn (denX rfl)) <|
   hc (ltT rfl rfl (by omega)) <|
   hc (kElG (j := (Int.toNat (i))) (d := ([], [])) prC_len (by decide) (isX rfl) (isX rfl) (denX rfl) (by omega) (by omega) rfl) <|
   hc (kElG (j := (Int.toNat (i))) (d := ([], [])) prC_len (by decide) (isX rfl) (isX rfl) (denX rfl) (by omega) (by omega) rfl) <|
   hc (hokLower (s := (nthP z (Int.toNat (i))).1) (isX rfl) (denX rfl) (by omega) (by omega)) <|
   hc (hokLower (s := nm) (isX rfl) (denX rfl) (by omega) (by omega)) <|
   hc (kEqS (isX rfl) (isX rfl) (by first | exact decide_eq_true rfl | exact decide_eq_true ‹_› | exact decide_eq_false ‹_›)) <|
   hc (kRaG (f := prC) (l := ([] : List (LB × LB))) (a := ((nthP z (Int.toNat (i))).1, (nthP z (Int.toNat (i))).2)) (isX rfl) (isL2 (isX rfl) (isX rfl)) (denX rfl)) <|
   hc (kRfG prC_len (isX rfl) (by first | omega | (simp <;> omega)) (by first | omega | (simp <;> omega))) <|
   hc (adC rfl rfl (by omega)) <|
   hnil
def hyDr0_p3 : LK := [(.rn, .x 2000002), (.bin .lss (.x 2) (.x 1), .b true), (.el (.x 2000000) (.x 2) 2 0, .x 3), (.el (.x 2000000) (.x 2) 2 1, .x 4), (.call 23 [.x 3], .x 5), (.call 23 [.x 0], .x 6), (.bin .eql (.x 5) (.x 6), .b true), (.bin .add (.x 2) (.i .i64 (.ofNat 1)), .x 7)]
theorem runDr0_p3 : RNDr0_1 hyDr0_p3 .normal [(0, .x 0), (1, .x 1), (2, .x 7), (2000000, .x 2000000), (2000001, .x 2000001)] [(43, 43)] 44 epDr0_1 hpDr0_1 = true := by kernel_rfl
theorem nxDr0_p3 (z : List (LB × LB)) (nm : LB) (i : Int) (O : List (LB × LB)) (X : Nat → Value) (hI : InvDr0 z nm (1, i, O)) (h0 : i < (z.length : Int)) (h1 : (lowS ((nthP z (Int.toNat (i))).1)) = (lowS nm)) : RHDr0 z nm E' x' e' h' (1, i, O) X := by
  obtain ⟨i0, i1, i2, i3, i4, i5, i6, i7, it⟩ := unIDr0 z nm 1 i O hI
  have hnm := nmAt i4.2 (Int.toNat i)
  have hO := congrArg List.length i5
  have hO2 := dropS_len nm (z.take (Int.toNat i))
  have hO3 : (z.take (Int.toNat i)).length ≤ z.length := by rw [List.length_take]; omega
  have := prAt (l := z) (by assumption) (Int.toNat (i))
  have : (lowS ((nthP z (Int.toNat (i))).1)).length = ((nthP z (Int.toNat (i))).1).length := List.length_map ..
  have : (lowS nm).length = nm.length := List.length_map ..
  refine stDr0_1 z nm i O (h := hyDr0_p3) (1, i + 1, O) ?_ (mkIDr0 z nm 1 (i + 1) O ⟨by omega, by omega, i2, i3, i4, by rw [dropS_n (by omega) (by omega) (by assumption)]; exact i5, fun h => by omega, i7, by omega⟩) (by show z.length - (i + 1).toNat < z.length - i.toNat; omega) (thXv (v := St' nm) rfl rfl (thXv (v := .int .i64 ((z.length : Int))) rfl rfl (thXi (b := ((i + 1))) rfl rfl (by omega) (thXv (v := rwG prC z) rfl rfl (thXv (v := rwG prC O) rfl rfl (thNil)))))) runDr0_p3
  unfold hyDr0_p3
  exact hc (kRn (denX rfl)) <|
   hc (ltT rfl rfl (by omega)) <|
   hc (kElG (j := (Int.toNat (i))) (d := ([], [])) prC_len (by decide) (isX rfl) (isX rfl) (denX rfl) (by omega) (by omega) rfl) <|
   hc (kElG (j := (Int.toNat (i))) (d := ([], [])) prC_len (by decide) (isX rfl) (isX rfl) (denX rfl) (by omega) (by omega) rfl) <|
   hc (hokLower (s := (nthP z (Int.toNat (i))).1) (isX rfl) (denX rfl) (by omega) (by omega)) <|
   hc (hokLower (s := nm) (isX rfl) (denX rfl) (by omega) (by omega)) <|
   hc (kEqS (isX rfl) (isX rfl) (by first | exact decide_eq_true rfl | exact decide_eq_true ‹_› | exact decide_eq_false ‹_›)) <|
   hc (adC rfl rfl (by omega)) <|
   hnil
def hyDr0_p4 : LK := [(.rn, .x 2000003), (.bin .lss (.x 2) (.x 1), .b false)]
theorem runDr0_p4 : RNDr0_1 hyDr0_p4 (.exit 0) [(2000000, .x 2000000), (2000001, .x 2000001)] [(43, 43)] 83 [(5, .sr 43)] [(3, .r 2000000 29 2 true), (43, .r 2000001 29 2 false)] = true := by kernel_rfl
def hyDr0_p5 : LK := [(.rn, .x 2000004), (.bin .lss (.x 2) (.x 1), .b true), (.el (.x 2000000) (.x 2) 2 0, .x 8), (.el (.x 2000000) (.x 2) 2 1, .x 9), (.call 23 [.x 8], .x 10), (.call 23 [.x 0], .x 11), (.bin .eql (.x 10) (.x 11), .b false), (.ra (.x 2000001) [.x 8, .x 9], .x 2000005), (.rf (.x 2000005) 2 32, .b true), (.bin .add (.x 2) (.i .i64 (.ofNat 1)), .x 12)]
theorem runDr0_p5 : RNDr0_1 hyDr0_p5 .normal [(0, .x 0), (1, .x 1), (2, .x 12), (2000000, .x 2000000), (2000001, .x 2000005)] [(43, 46)] 44 epDr0_1 hpDr0_1 = true := by kernel_rfl
theorem nxDr0_p5 (z : List (LB × LB)) (nm : LB) (i : Int) (O : List (LB × LB)) (X : Nat → Value) (hI : InvDr0 z nm (1, i, O)) (h0 : i < (z.length : Int)) (h1 : ¬ ((lowS ((nthP z (Int.toNat (i))).1)) = (lowS nm))) : RHDr0 z nm E' x' e' h' (1, i, O) X := by
  obtain ⟨i0, i1, i2, i3, i4, i5, i6, i7, it⟩ := unIDr0 z nm 1 i O hI
  have hnm := nmAt i4.2 (Int.toNat i)
  have hO := congrArg List.length i5
  have hO2 := dropS_len nm (z.take (Int.toNat i))
  have hO3 : (z.take (Int.toNat i)).length ≤ z.length := by rw [List.length_take]; omega
  have := prAt (l := z) (by assumption) (Int.toNat (i))
  have : (lowS ((nthP z (Int.toNat (i))).1)).length = ((nthP z (Int.toNat (i))).1).length := List.length_map ..
  have : (lowS nm).length = nm.length := List.length_map ..
  refine stDr0_1 z nm i O (h := hyDr0_p5) (1, i + 1, (O ++ [((nthP z (Int.toNat (i))).1, (nthP z (Int.toNat (i))).2)])) ?_ (mkIDr0 z nm 1 (i + 1) (O ++ [((nthP z (Int.toNat (i))).1, (nthP z (Int.toNat (i))).2)]) ⟨by omega, by omega, i2, i3, i4, by rw [dropS_y (by omega) (by omega) (by assumption), ← i5], fun h => by omega, fun _ => by simp, by omega⟩) (by show z.length - (i + 1).toNat < z.length - i.toNat; omega) (thXv (v := St' nm) rfl rfl (thXv (v := .int .i64 ((z.length : Int))) rfl rfl (thXi (b := ((i + 1))) rfl rfl (by omega) (thXv (v := rwG prC z) rfl rfl (thXv (v := rwG prC (O ++ [((nthP z (Int.toNat (i))).1, (nthP z (Int.toNat (i))).2)])) rfl rfl (thNil)))))) runDr0_p5
  unfold hyDr0_p5
  exact hc (kRn (denX rfl)) <|
   hc (ltT rfl rfl (by omega)) <|
   hc (kElG (j := (Int.toNat (i))) (d := ([], [])) prC_len (by decide) (isX rfl) (isX rfl) (denX rfl) (by omega) (by omega) rfl) <|
   hc (kElG (j := (Int.toNat (i))) (d := ([], [])) prC_len (by decide) (isX rfl) (isX rfl) (denX rfl) (by omega) (by omega) rfl) <|
   hc (hokLower (s := (nthP z (Int.toNat (i))).1) (isX rfl) (denX rfl) (by omega) (by omega)) <|
   hc (hokLower (s := nm) (isX rfl) (denX rfl) (by omega) (by omega)) <|
   hc (kEqS (isX rfl) (isX rfl) (by first | exact decide_eq_true rfl | exact decide_eq_true ‹_› | exact decide_eq_false ‹_›)) <|
   hc (kRaG (f := prC) (l := O) (a := ((nthP z (Int.toNat (i))).1, (nthP z (Int.toNat (i))).2)) (isX rfl) (isL2 (isX rfl) (isX rfl)) (denX rfl)) <|
   hc (kRfG prC_len (isX rfl) (by first | omega | (simp <;> omega)) (by first | omega | (simp <;> omega))) <|
   hc (adC rfl rfl (by omega)) <|
   hnil
def nuEDr0_0 (z : List (LB × LB)) (nm : LB) : List Value := []
def roEDr0_0 (z : List (LB × LB)) (nm : LB) : List Value := [rwG prC z]
noncomputable def EDr0_0 (z : List (LB × LB)) (nm : LB) : Cx := cx (nuX (nuEDr0_0 z nm) (rX (roEDr0_0 z nm) (fun _ => .bool true))) (nuX_one (nuL_one (l := nuEDr0_0 z nm) rfl)) 0 laidE laidE_stab
theorem roundsDr0_0 (z : List (LB × LB)) (nm : LB) (x0 : dropS nm z = []) (st : Nat × Int × List (LB × LB)) (X : Nat → Value) (hI : InvDr0 z nm st) : RHDr0 z nm (EDr0_0 z nm) (.exit 0) [(5, .nils)] [(3, .r 2000000 29 2 true)] st X := by
  obtain ⟨tag, i, O⟩ := st
  have hI0 := hI
  obtain ⟨i0, i1, i2, i3, i4, i5, i6, i7, it⟩ := unIDr0 z nm tag i O hI
  rcases (show tag = 0 ∨ tag = 1 from by omega) with rfl | rfl
  · skip
    by_cases h0 : i < (z.length : Int)
    · by_cases h1 : (lowS ((nthP z (Int.toNat (i))).1)) = (lowS nm)
      · exact nxDr0_p0 z nm i O X hI0 h0 h1
      · exact nxDr0_p2 z nm i O X hI0 h0 h1
    · skip
      have hdx := dropS_x (nm := nm) (z := z) (i := i) (by omega) (by omega)
      refine lvDr0_0 z nm i O (h := hyDr0_p1) rfl ?_ (thXv (v := rwG prC z) rfl rfl (thNil)) runDr0_p1
      unfold hyDr0_p1
      exact hc (kRn (denX rfl)) <|
       hc (ltF rfl rfl (by omega)) <|
       hnil
  · skip
    by_cases h0 : i < (z.length : Int)
    · by_cases h1 : (lowS ((nthP z (Int.toNat (i))).1)) = (lowS nm)
      · exact nxDr0_p3 z nm i O X hI0 h0 h1
      · exact nxDr0_p5 z nm i O X hI0 h0 h1
    · exfalso; have hdx := dropS_x (nm := nm) (z := z) (i := i) (by omega) (by omega); have hL := i7 (by omega); rw [i5, hdx, x0] at hL; simp at hL
theorem lfOkDr0_0 {l : LF} {h : LH} (z : List (LB × LB)) (nm : LB) (x0 : dropS nm z = []) (st : Nat × Int × List (LB × LB)) (hI : InvDr0 z nm st) (hl : l.hp = some h) (hs : lfSame l h 25 keepDr0 (.exit 0) 3 43 83 = true) {th0 : LA} {sg0 : List (Nat × Nat)} (hth0 : ∀ X, ThOk (cx nu one 0 laidE laidE_stab) (DDr0 z nm st X) th0) (h0 : startOk l h 25 43 44 th0 sg0 (epDr0 st) (hpDr0 st) = true) {thx : LA} (hthx : ThOk (EDr0_0 z nm) (cx nu one 0 laidE laidE_stab) thx) (hx : exitOk l h 25 43 83 thx [(5, .nils)] [(3, .r 2000000 29 2 true)] = true) : LfOk (cx nu one 0 laidE laidE_stab) bodyDr0 l :=
  lfOkX (E := EDr0_0 z nm) (InvDr0 z nm) (muDr0 z nm) (DDr0 z nm) (fun _ _ => rfl) (fun _ _ => rfl) (fun _ _ => rfl) (fun st X t ht => nuX_keep.trans (rX_keep ((by decide : ∀ t, t ∈ keepDr0 → t < 1000000) t ht))) rfl rfl rfl hl hs ebDr0 rfl rfl st hI hth0 h0 hthx hx (roundsDr0_0 z nm x0)
def nuEDr0_1 (z : List (LB × LB)) (nm : LB) : List Value := []
def roEDr0_1 (z : List (LB × LB)) (nm : LB) : List Value := [rwG prC z, rwG prC (dropS nm z)]
noncomputable def EDr0_1 (z : List (LB × LB)) (nm : LB) : Cx := cx (nuX (nuEDr0_1 z nm) (rX (roEDr0_1 z nm) (fun _ => .bool true))) (nuX_one (nuL_one (l := nuEDr0_1 z nm) rfl)) 0 laidE laidE_stab
theorem roundsDr0_1 (z : List (LB × LB)) (nm : LB) (x0 : 1 ≤ (dropS nm z).length) (st : Nat × Int × List (LB × LB)) (X : Nat → Value) (hI : InvDr0 z nm st) : RHDr0 z nm (EDr0_1 z nm) (.exit 0) [(5, .sr 43)] [(3, .r 2000000 29 2 true), (43, .r 2000001 29 2 false)] st X := by
  obtain ⟨tag, i, O⟩ := st
  have hI0 := hI
  obtain ⟨i0, i1, i2, i3, i4, i5, i6, i7, it⟩ := unIDr0 z nm tag i O hI
  rcases (show tag = 0 ∨ tag = 1 from by omega) with rfl | rfl
  · skip
    by_cases h0 : i < (z.length : Int)
    · by_cases h1 : (lowS ((nthP z (Int.toNat (i))).1)) = (lowS nm)
      · exact nxDr0_p0 z nm i O X hI0 h0 h1
      · exact nxDr0_p2 z nm i O X hI0 h0 h1
    · exfalso; have hdx := dropS_x (nm := nm) (z := z) (i := i) (by omega) (by omega); have hO := i6 (by omega); rw [hO, hdx] at i5; rw [← i5] at x0; simp at x0
  · skip
    by_cases h0 : i < (z.length : Int)
    · by_cases h1 : (lowS ((nthP z (Int.toNat (i))).1)) = (lowS nm)
      · exact nxDr0_p3 z nm i O X hI0 h0 h1
      · exact nxDr0_p5 z nm i O X hI0 h0 h1
    · skip
      have hdx := dropS_x (nm := nm) (z := z) (i := i) (by omega) (by omega)
      refine lvDr0_1 z nm i O (h := hyDr0_p4) rfl ?_ (thXv (v := rwG prC z) rfl rfl (thXe (v := rwG prC O) (u := rwG prC (dropS nm z)) rfl rfl (congrArg (rwG prC) (i5.trans hdx)) (thNil))) runDr0_p4
      unfold hyDr0_p4
      exact hc (kRn (denX rfl)) <|
       hc (ltF rfl rfl (by omega)) <|
       hnil
theorem lfOkDr0_1 {l : LF} {h : LH} (z : List (LB × LB)) (nm : LB) (x0 : 1 ≤ (dropS nm z).length) (st : Nat × Int × List (LB × LB)) (hI : InvDr0 z nm st) (hl : l.hp = some h) (hs : lfSame l h 25 keepDr0 (.exit 0) 3 43 83 = true) {th0 : LA} {sg0 : List (Nat × Nat)} (hth0 : ∀ X, ThOk (cx nu one 0 laidE laidE_stab) (DDr0 z nm st X) th0) (h0 : startOk l h 25 43 44 th0 sg0 (epDr0 st) (hpDr0 st) = true) {thx : LA} (hthx : ThOk (EDr0_1 z nm) (cx nu one 0 laidE laidE_stab) thx) (hx : exitOk l h 25 43 83 thx [(5, .sr 43)] [(3, .r 2000000 29 2 true), (43, .r 2000001 29 2 false)] = true) : LfOk (cx nu one 0 laidE laidE_stab) bodyDr0 l :=
  lfOkX (E := EDr0_1 z nm) (InvDr0 z nm) (muDr0 z nm) (DDr0 z nm) (fun _ _ => rfl) (fun _ _ => rfl) (fun _ _ => rfl) (fun st X t ht => nuX_keep.trans (rX_keep ((by decide : ∀ t, t ∈ keepDr0 → t < 1000000) t ht))) rfl rfl rfl hl hs ebDr0 rfl rfl st hI hth0 h0 hthx hx (roundsDr0_1 z nm x0)
noncomputable def bodyGt1 : Code := loopNo (Tryd.f6.body.getD .skip) 0
theorem keyGt1 : oneKey (loopsOf (Tryd.f6.body.getD .skip)) 3 0 0 = true := by kernel_rfl
def keepGt1 : List Nat := []
def epGt1_0 : LA := [(1, .x 0), (5, .nils), (8, .sr 84), (9, .x 1), (10, .x 2)]
def hpGt1_0 : LE := [(84, .r 2000000 29 2 false)]
def nuGt1_0 (z : List (LB × LB)) (nm : LB) (i : Int) (O : List LB) : List Value := [St' nm, .int .i64 ((z.length : Int)), .int .i64 (i), St' ((nthP z (Int.toNat (i))).1), St' ((nthP z (Int.toNat (i))).2), St' (lowS ((nthP z (Int.toNat (i))).1)), St' (lowS nm), .int .i64 (i + 1), St' ((nthP z (Int.toNat (i))).1), St' ((nthP z (Int.toNat (i))).2), St' (lowS ((nthP z (Int.toNat (i))).1)), St' (lowS nm), .int .i64 (i + 1)]
def roGt1_0 (z : List (LB × LB)) (nm : LB) (i : Int) (O : List LB) : List Value := [rwG prC z, rwS ([] : List LB), rwS (([] : List LB) ++ [(nthP z (Int.toNat (i))).2]), rwS ([] : List LB), rwS ([] : List LB)]
def epGt1_1 : LA := [(1, .x 0), (5, .sr 95), (8, .sr 84), (9, .x 1), (10, .x 2)]
def hpGt1_1 : LE := [(84, .r 2000000 29 2 false), (95, .r 2000001 9 1 false)]
def nuGt1_1 (z : List (LB × LB)) (nm : LB) (i : Int) (O : List LB) : List Value := [St' nm, .int .i64 ((z.length : Int)), .int .i64 (i), St' ((nthP z (Int.toNat (i))).1), St' ((nthP z (Int.toNat (i))).2), St' (lowS ((nthP z (Int.toNat (i))).1)), St' (lowS nm), .int .i64 (i + 1), St' ((nthP z (Int.toNat (i))).1), St' ((nthP z (Int.toNat (i))).2), St' (lowS ((nthP z (Int.toNat (i))).1)), St' (lowS nm), .int .i64 (i + 1)]
def roGt1_1 (z : List (LB × LB)) (nm : LB) (i : Int) (O : List LB) : List Value := [rwG prC z, rwS O, rwS ([] : List LB), rwS (O ++ [(nthP z (Int.toNat (i))).2]), rwS ([] : List LB), rwS ([] : List LB)]
def epGt1 (st : Nat × Int × List LB) : LA := if st.1 = 0 then epGt1_0 else epGt1_1
def hpGt1 (st : Nat × Int × List LB) : LE := if st.1 = 0 then hpGt1_0 else hpGt1_1
def nuGt1 (z : List (LB × LB)) (nm : LB) (st : Nat × Int × List LB) : List Value := if st.1 = 0 then nuGt1_0 z nm (st.2.1) (st.2.2) else nuGt1_1 z nm (st.2.1) (st.2.2)
def roGt1 (z : List (LB × LB)) (nm : LB) (st : Nat × Int × List LB) : List Value := if st.1 = 0 then roGt1_0 z nm (st.2.1) (st.2.2) else roGt1_1 z nm (st.2.1) (st.2.2)
theorem onGt1 (z : List (LB × LB)) (nm : LB) (st : Nat × Int × List LB) : ∀ j, (nuL (nuGt1 z nm st) j).oneCell' = true := by
  intro j
  unfold nuGt1
  by_cases g0 : st.1 = 0
  · rw [if_pos g0]; exact nuL_one (l := nuGt1_0 z nm (st.2.1) (st.2.2)) rfl j
  rw [if_neg g0]
  exact nuL_one (l := nuGt1_1 z nm (st.2.1) (st.2.2)) rfl j
theorem ebGt1 (st : Nat × Int × List LB) : (lfB (epGt1 st) && lfC keepGt1) = true := by
  unfold epGt1
  by_cases g0 : st.1 = 0
  · rw [if_pos g0]; rfl
  rw [if_neg g0]
  rfl
noncomputable def DGt1 (z : List (LB × LB)) (nm : LB) (st : Nat × Int × List LB) (X : Nat → Value) : Cx := cx (nuX (nuGt1 z nm st) (rX (roGt1 z nm st) X)) (nuX_one (onGt1 z nm st)) 0 laidE laidE_stab
def InvGt1 (z : List (LB × LB)) (nm : LB) (st : Nat × Int × List LB) : Prop := (0 ≤ (st.2.1)) ∧ ((st.2.1) ≤ (z.length : Int)) ∧ (z.length ≤ 1000) ∧ (∀ q, q ∈ z → prB q) ∧ (nm.length ≤ 140737488351232 ∧ ∀ q, q ∈ z → q.1.length ≤ 140737488351232) ∧ ((st.2.2) = getS nm (z.take (Int.toNat (st.2.1)))) ∧ ((st.1) = 0 → (st.2.2) = []) ∧ ((st.1) = 1 → 1 ≤ (st.2.2).length) ∧ ((st.1) < 2)
abbrev CjGt1 (z : List (LB × LB)) (nm : LB) (tag : Nat) (i : Int) (O : List LB) : Prop := (0 ≤ i) ∧ (i ≤ (z.length : Int)) ∧ (z.length ≤ 1000) ∧ (∀ q, q ∈ z → prB q) ∧ (nm.length ≤ 140737488351232 ∧ ∀ q, q ∈ z → q.1.length ≤ 140737488351232) ∧ (O = getS nm (z.take (Int.toNat i))) ∧ (tag = 0 → O = []) ∧ (tag = 1 → 1 ≤ O.length) ∧ (tag < 2)
theorem mkIGt1 (z : List (LB × LB)) (nm : LB) (tag : Nat) (i : Int) (O : List LB) (h : CjGt1 z nm tag i O) : InvGt1 z nm (tag, i, O) := h
theorem unIGt1 (z : List (LB × LB)) (nm : LB) (tag : Nat) (i : Int) (O : List LB) (h : InvGt1 z nm (tag, i, O)) : (0 ≤ i) ∧ (i ≤ (z.length : Int)) ∧ (z.length ≤ 1000) ∧ (∀ q, q ∈ z → prB q) ∧ (nm.length ≤ 140737488351232 ∧ ∀ q, q ∈ z → q.1.length ≤ 140737488351232) ∧ (O = getS nm (z.take (Int.toNat i))) ∧ (tag = 0 → O = []) ∧ (tag = 1 → 1 ≤ O.length) ∧ (tag < 2) := h
def muGt1 (z : List (LB × LB)) (nm : LB) (st : Nat × Int × List LB) : Nat := (z.length - (st.2.1).toNat)
abbrev RHGt1 (z : List (LB × LB)) (nm : LB) (E' : Cx) (ex' : Ex) (epx' : LA) (hpx' : LE) (st : Nat × Int × List LB) (X : Nat → Value) : Prop := RoundH E' bodyGt1 keepGt1 25 ex' 3 95 96 135 epGt1 hpGt1 epx' hpx' (InvGt1 z nm) (muGt1 z nm) (DGt1 z nm) st X
noncomputable abbrev RNGt1_0 (h : LK) (x : Ex) (th : LA) (sg : List (Nat × Nat)) (m : Nat) (ep : LA) (hp : LE) : Bool := okRdH (code (tbl h) 3000 [] bodyGt1 (envOf (headOf epGt1_0 keepGt1) 25) ⟨lhSet hpGt1_0 .leaf, 96, 0, 0⟩) x keepGt1 25 135 th sg 95 m ep hp
theorem stGt1_0 (z : List (LB × LB)) (nm : LB) (i : Int) (O : List LB) {X : Nat → Value} {h : LK} (y : Nat × Int × List LB) {th : LA} {sg : List (Nat × Nat)} (ho : ∀ a' r', (a', r') ∈ h → HOk (cx (nuX (nuGt1_0 z nm i O) (rX (roGt1_0 z nm i O) X)) (nuX_one (nuL_one (l := nuGt1_0 z nm i O) rfl)) 0 laidE laidE_stab) a' r') (hy : InvGt1 z nm y) (lt : muGt1 z nm y < muGt1 z nm (0, i, O)) (ht : ThOk (cx (nuX (nuGt1_0 z nm i O) (rX (roGt1_0 z nm i O) X)) (nuX_one (nuL_one (l := nuGt1_0 z nm i O) rfl)) 0 laidE laidE_stab) (DGt1 z nm y X) th) (run : RNGt1_0 h .normal th sg 96 (epGt1 y) (hpGt1 y) = true) : RHGt1 z nm E' x' e' h' (0, i, O) X :=
  RoundH.next (tb := tbl h) (L := []) (f := 3000) y ((tabkOk _ _).hyps ho) (LpOk.nil _) rfl hy lt ht run
theorem lvGt1_0 (z : List (LB × LB)) (nm : LB) (i : Int) (O : List LB) {X : Nat → Value} {h : LK} {th : LA} {sg : List (Nat × Nat)} (hne : exB x' .normal = false) (ho : ∀ a' r', (a', r') ∈ h → HOk (cx (nuX (nuGt1_0 z nm i O) (rX (roGt1_0 z nm i O) X)) (nuX_one (nuL_one (l := nuGt1_0 z nm i O) rfl)) 0 laidE laidE_stab) a' r') (ht : ThOk (cx (nuX (nuGt1_0 z nm i O) (rX (roGt1_0 z nm i O) X)) (nuX_one (nuL_one (l := nuGt1_0 z nm i O) rfl)) 0 laidE laidE_stab) E' th) (run : RNGt1_0 h x' th sg 135 e' h' = true) : RHGt1 z nm E' x' e' h' (0, i, O) X :=
  RoundH.leave (tb := tbl h) (L := []) (f := 3000) ((tabkOk _ _).hyps ho) (LpOk.nil _) rfl hne ht run
noncomputable abbrev RNGt1_1 (h : LK) (x : Ex) (th : LA) (sg : List (Nat × Nat)) (m : Nat) (ep : LA) (hp : LE) : Bool := okRdH (code (tbl h) 3000 [] bodyGt1 (envOf (headOf epGt1_1 keepGt1) 25) ⟨lhSet hpGt1_1 .leaf, 96, 0, 0⟩) x keepGt1 25 135 th sg 95 m ep hp
theorem stGt1_1 (z : List (LB × LB)) (nm : LB) (i : Int) (O : List LB) {X : Nat → Value} {h : LK} (y : Nat × Int × List LB) {th : LA} {sg : List (Nat × Nat)} (ho : ∀ a' r', (a', r') ∈ h → HOk (cx (nuX (nuGt1_1 z nm i O) (rX (roGt1_1 z nm i O) X)) (nuX_one (nuL_one (l := nuGt1_1 z nm i O) rfl)) 0 laidE laidE_stab) a' r') (hy : InvGt1 z nm y) (lt : muGt1 z nm y < muGt1 z nm (1, i, O)) (ht : ThOk (cx (nuX (nuGt1_1 z nm i O) (rX (roGt1_1 z nm i O) X)) (nuX_one (nuL_one (l := nuGt1_1 z nm i O) rfl)) 0 laidE laidE_stab) (DGt1 z nm y X) th) (run : RNGt1_1 h .normal th sg 96 (epGt1 y) (hpGt1 y) = true) : RHGt1 z nm E' x' e' h' (1, i, O) X :=
  RoundH.next (tb := tbl h) (L := []) (f := 3000) y ((tabkOk _ _).hyps ho) (LpOk.nil _) rfl hy lt ht run
theorem lvGt1_1 (z : List (LB × LB)) (nm : LB) (i : Int) (O : List LB) {X : Nat → Value} {h : LK} {th : LA} {sg : List (Nat × Nat)} (hne : exB x' .normal = false) (ho : ∀ a' r', (a', r') ∈ h → HOk (cx (nuX (nuGt1_1 z nm i O) (rX (roGt1_1 z nm i O) X)) (nuX_one (nuL_one (l := nuGt1_1 z nm i O) rfl)) 0 laidE laidE_stab) a' r') (ht : ThOk (cx (nuX (nuGt1_1 z nm i O) (rX (roGt1_1 z nm i O) X)) (nuX_one (nuL_one (l := nuGt1_1 z nm i O) rfl)) 0 laidE laidE_stab) E' th) (run : RNGt1_1 h x' th sg 135 e' h' = true) : RHGt1 z nm E' x' e' h' (1, i, O) X :=
  RoundH.leave (tb := tbl h) (L := []) (f := 3000) ((tabkOk _ _).hyps ho) (LpOk.nil _) rfl hne ht run
def hyGt1_p0 : LK := [(.rn, .x 2000001), (.bin .lss (.x 2) (.x 1), .b true), (.el (.x 2000000) (.x 2) 2 0, .x 3), (.el (.x 2000000) (.x 2) 2 1, .x 4), (.call 23 [.x 3], .x 5), (.call 23 [.x 0], .x 6), (.bin .eql (.x 5) (.x 6), .b true), (.ra (.x 2000001) [.x 4], .x 2000002), (.rf (.x 2000002) 1 16, .b true), (.bin .add (.x 2) (.i .i64 (.ofNat 1)), .x 7)]
theorem runGt1_p0 : RNGt1_0 hyGt1_p0 .normal [(0, .x 0), (1, .x 1), (2, .x 7), (2000000, .x 2000000), (2000001, .x 2000002)] [(95, 98)] 96 epGt1_1 hpGt1_1 = true := by kernel_rfl
theorem nxGt1_p0 (z : List (LB × LB)) (nm : LB) (i : Int) (O : List LB) (X : Nat → Value) (hI : InvGt1 z nm (0, i, O)) (h0 : i < (z.length : Int)) (h1 : (lowS ((nthP z (Int.toNat (i))).1)) = (lowS nm)) : RHGt1 z nm E' x' e' h' (0, i, O) X := by
  obtain ⟨i0, i1, i2, i3, i4, i5, i6, i7, it⟩ := unIGt1 z nm 0 i O hI
  have hnm := nmAt i4.2 (Int.toNat i)
  have hO := congrArg List.length i5
  have hO2 := getS_len nm (z.take (Int.toNat i))
  have hO3 : (z.take (Int.toNat i)).length ≤ z.length := by rw [List.length_take]; omega
  have := prAt (l := z) (by assumption) (Int.toNat (i))
  have : (lowS ((nthP z (Int.toNat (i))).1)).length = ((nthP z (Int.toNat (i))).1).length := List.length_map ..
  have : (lowS nm).length = nm.length := List.length_map ..
  refine stGt1_0 z nm i O (h := hyGt1_p0) (1, i + 1, (([] : List LB) ++ [(nthP z (Int.toNat (i))).2])) ?_ (mkIGt1 z nm 1 (i + 1) (([] : List LB) ++ [(nthP z (Int.toNat (i))).2]) ⟨by omega, by omega, i2, i3, i4, by rw [getS_y (by omega) (by omega) (by assumption), ← i5, i6 (by omega)], fun h => by omega, fun _ => by simp, by omega⟩) (by show z.length - (i + 1).toNat < z.length - i.toNat; omega) (thXv (v := St' nm) rfl rfl (thXv (v := .int .i64 ((z.length : Int))) rfl rfl (thXi (b := ((i + 1))) rfl rfl (by omega) (thXv (v := rwG prC z) rfl rfl (thXv (v := rwS (([] : List LB) ++ [(nthP z (Int.toNat (i))).2])) rfl rfl (thNil)))))) runGt1_p0
  unfold hyGt1_p0
  exact hc (kRn (denX rfl)) <|
   hc (ltT rfl rfl (by omega)) <|
   hc (kElG (j := (Int.toNat (i))) (d := ([], [])) prC_len (by decide) (isX rfl) (isX rfl) (denX rfl) (by omega) (by omega) rfl) <|
   hc (kElG (j := (Int.toNat (i))) (d := ([], [])) prC_len (by decide) (isX rfl) (isX rfl) (denX rfl) (by omega) (by omega) rfl) <|
   hc (hokLower (s := (nthP z (Int.toNat (i))).1) (isX rfl) (denX rfl) (by omega) (by omega)) <|
   hc (hokLower (s := nm) (isX rfl) (denX rfl) (by omega) (by omega)) <|
   hc (kEqS (isX rfl) (isX rfl) (by first | exact decide_eq_true rfl | exact decide_eq_true ‹_› | exact decide_eq_false ‹_›)) <|
   hc (kRa (isX rfl) (isX rfl) (denX rfl)) <|
   hc (kRf (isX rfl) (by first | omega | (simp <;> omega)) (by first | omega | (simp <;> omega))) <|
   hc (adC rfl rfl (by omega)) <|
   hnil
def hyGt1_p1 : LK := [(.rn, .x 2000003), (.bin .lss (.x 2) (.x 1), .b false)]
theorem runGt1_p1 : RNGt1_0 hyGt1_p1 (.exit 0) [(2000000, .x 2000000)] [] 135 [(5, .nils)] [(84, .r 2000000 29 2 false)] = true := by kernel_rfl
def hyGt1_p2 : LK := [(.rn, .x 2000004), (.bin .lss (.x 2) (.x 1), .b true), (.el (.x 2000000) (.x 2) 2 0, .x 8), (.el (.x 2000000) (.x 2) 2 1, .x 9), (.call 23 [.x 8], .x 10), (.call 23 [.x 0], .x 11), (.bin .eql (.x 10) (.x 11), .b false), (.bin .add (.x 2) (.i .i64 (.ofNat 1)), .x 12)]
theorem runGt1_p2 : RNGt1_0 hyGt1_p2 .normal [(0, .x 0), (1, .x 1), (2, .x 12), (2000000, .x 2000000)] [] 96 epGt1_0 hpGt1_0 = true := by kernel_rfl
theorem nxGt1_p2 (z : List (LB × LB)) (nm : LB) (i : Int) (O : List LB) (X : Nat → Value) (hI : InvGt1 z nm (0, i, O)) (h0 : i < (z.length : Int)) (h1 : ¬ ((lowS ((nthP z (Int.toNat (i))).1)) = (lowS nm))) : RHGt1 z nm E' x' e' h' (0, i, O) X := by
  obtain ⟨i0, i1, i2, i3, i4, i5, i6, i7, it⟩ := unIGt1 z nm 0 i O hI
  have hnm := nmAt i4.2 (Int.toNat i)
  have hO := congrArg List.length i5
  have hO2 := getS_len nm (z.take (Int.toNat i))
  have hO3 : (z.take (Int.toNat i)).length ≤ z.length := by rw [List.length_take]; omega
  have := prAt (l := z) (by assumption) (Int.toNat (i))
  have : (lowS ((nthP z (Int.toNat (i))).1)).length = ((nthP z (Int.toNat (i))).1).length := List.length_map ..
  have : (lowS nm).length = nm.length := List.length_map ..
  refine stGt1_0 z nm i O (h := hyGt1_p2) (0, i + 1, ([] : List LB)) ?_ (mkIGt1 z nm 0 (i + 1) ([] : List LB) ⟨by omega, by omega, i2, i3, i4, by rw [getS_n (by omega) (by omega) (by assumption)]; exact (i6 (by omega)).symm.trans i5, fun _ => rfl, fun h => by omega, by omega⟩) (by show z.length - (i + 1).toNat < z.length - i.toNat; omega) (thXv (v := St' nm) rfl rfl (thXv (v := .int .i64 ((z.length : Int))) rfl rfl (thXi (b := ((i + 1))) rfl rfl (by omega) (thXv (v := rwG prC z) rfl rfl (thNil))))) runGt1_p2
  unfold hyGt1_p2
  exact hc (kRn (denX rfl)) <|
   hc (ltT rfl rfl (by omega)) <|
   hc (kElG (j := (Int.toNat (i))) (d := ([], [])) prC_len (by decide) (isX rfl) (isX rfl) (denX rfl) (by omega) (by omega) rfl) <|
   hc (kElG (j := (Int.toNat (i))) (d := ([], [])) prC_len (by decide) (isX rfl) (isX rfl) (denX rfl) (by omega) (by omega) rfl) <|
   hc (hokLower (s := (nthP z (Int.toNat (i))).1) (isX rfl) (denX rfl) (by omega) (by omega)) <|
   hc (hokLower (s := nm) (isX rfl) (denX rfl) (by omega) (by omega)) <|
   hc (kEqS (isX rfl) (isX rfl) (by first | exact decide_eq_true rfl | exact decide_eq_true ‹_› | exact decide_eq_false ‹_›)) <|
   hc (adC rfl rfl (by omega)) <|
   hnil
def hyGt1_p3 : LK := [(.rn, .x 2000002), (.bin .lss (.x 2) (.x 1), .b true), (.el (.x 2000000) (.x 2) 2 0, .x 3), (.el (.x 2000000) (.x 2) 2 1, .x 4), (.call 23 [.x 3], .x 5), (.call 23 [.x 0], .x 6), (.bin .eql (.x 5) (.x 6), .b true), (.ra (.x 2000001) [.x 4], .x 2000003), (.rf (.x 2000003) 1 16, .b true), (.bin .add (.x 2) (.i .i64 (.ofNat 1)), .x 7)]
theorem runGt1_p3 : RNGt1_1 hyGt1_p3 .normal [(0, .x 0), (1, .x 1), (2, .x 7), (2000000, .x 2000000), (2000001, .x 2000003)] [(95, 98)] 96 epGt1_1 hpGt1_1 = true := by kernel_rfl
theorem nxGt1_p3 (z : List (LB × LB)) (nm : LB) (i : Int) (O : List LB) (X : Nat → Value) (hI : InvGt1 z nm (1, i, O)) (h0 : i < (z.length : Int)) (h1 : (lowS ((nthP z (Int.toNat (i))).1)) = (lowS nm)) : RHGt1 z nm E' x' e' h' (1, i, O) X := by
  obtain ⟨i0, i1, i2, i3, i4, i5, i6, i7, it⟩ := unIGt1 z nm 1 i O hI
  have hnm := nmAt i4.2 (Int.toNat i)
  have hO := congrArg List.length i5
  have hO2 := getS_len nm (z.take (Int.toNat i))
  have hO3 : (z.take (Int.toNat i)).length ≤ z.length := by rw [List.length_take]; omega
  have := prAt (l := z) (by assumption) (Int.toNat (i))
  have : (lowS ((nthP z (Int.toNat (i))).1)).length = ((nthP z (Int.toNat (i))).1).length := List.length_map ..
  have : (lowS nm).length = nm.length := List.length_map ..
  refine stGt1_1 z nm i O (h := hyGt1_p3) (1, i + 1, (O ++ [(nthP z (Int.toNat (i))).2])) ?_ (mkIGt1 z nm 1 (i + 1) (O ++ [(nthP z (Int.toNat (i))).2]) ⟨by omega, by omega, i2, i3, i4, by rw [getS_y (by omega) (by omega) (by assumption), ← i5], fun h => by omega, fun _ => by simp, by omega⟩) (by show z.length - (i + 1).toNat < z.length - i.toNat; omega) (thXv (v := St' nm) rfl rfl (thXv (v := .int .i64 ((z.length : Int))) rfl rfl (thXi (b := ((i + 1))) rfl rfl (by omega) (thXv (v := rwG prC z) rfl rfl (thXv (v := rwS (O ++ [(nthP z (Int.toNat (i))).2])) rfl rfl (thNil)))))) runGt1_p3
  unfold hyGt1_p3
  exact hc (kRn (denX rfl)) <|
   hc (ltT rfl rfl (by omega)) <|
   hc (kElG (j := (Int.toNat (i))) (d := ([], [])) prC_len (by decide) (isX rfl) (isX rfl) (denX rfl) (by omega) (by omega) rfl) <|
   hc (kElG (j := (Int.toNat (i))) (d := ([], [])) prC_len (by decide) (isX rfl) (isX rfl) (denX rfl) (by omega) (by omega) rfl) <|
   hc (hokLower (s := (nthP z (Int.toNat (i))).1) (isX rfl) (denX rfl) (by omega) (by omega)) <|
   hc (hokLower (s := nm) (isX rfl) (denX rfl) (by omega) (by omega)) <|
   hc (kEqS (isX rfl) (isX rfl) (by first | exact decide_eq_true rfl | exact decide_eq_true ‹_› | exact decide_eq_false ‹_›)) <|
   hc (kRa (isX rfl) (isX rfl) (denX rfl)) <|
   hc (kRf (isX rfl) (by first | omega | (simp <;> omega)) (by first | omega | (simp <;> omega))) <|
   hc (adC rfl rfl (by omega)) <|
   hnil
def hyGt1_p4 : LK := [(.rn, .x 2000004), (.bin .lss (.x 2) (.x 1), .b false)]
theorem runGt1_p4 : RNGt1_1 hyGt1_p4 (.exit 0) [(2000000, .x 2000000), (2000001, .x 2000001)] [(95, 95)] 135 [(5, .sr 95)] [(84, .r 2000000 29 2 false), (95, .r 2000001 9 1 false)] = true := by kernel_rfl
def hyGt1_p5 : LK := [(.rn, .x 2000005), (.bin .lss (.x 2) (.x 1), .b true), (.el (.x 2000000) (.x 2) 2 0, .x 8), (.el (.x 2000000) (.x 2) 2 1, .x 9), (.call 23 [.x 8], .x 10), (.call 23 [.x 0], .x 11), (.bin .eql (.x 10) (.x 11), .b false), (.bin .add (.x 2) (.i .i64 (.ofNat 1)), .x 12)]
theorem runGt1_p5 : RNGt1_1 hyGt1_p5 .normal [(0, .x 0), (1, .x 1), (2, .x 12), (2000000, .x 2000000), (2000001, .x 2000001)] [(95, 95)] 96 epGt1_1 hpGt1_1 = true := by kernel_rfl
theorem nxGt1_p5 (z : List (LB × LB)) (nm : LB) (i : Int) (O : List LB) (X : Nat → Value) (hI : InvGt1 z nm (1, i, O)) (h0 : i < (z.length : Int)) (h1 : ¬ ((lowS ((nthP z (Int.toNat (i))).1)) = (lowS nm))) : RHGt1 z nm E' x' e' h' (1, i, O) X := by
  obtain ⟨i0, i1, i2, i3, i4, i5, i6, i7, it⟩ := unIGt1 z nm 1 i O hI
  have hnm := nmAt i4.2 (Int.toNat i)
  have hO := congrArg List.length i5
  have hO2 := getS_len nm (z.take (Int.toNat i))
  have hO3 : (z.take (Int.toNat i)).length ≤ z.length := by rw [List.length_take]; omega
  have := prAt (l := z) (by assumption) (Int.toNat (i))
  have : (lowS ((nthP z (Int.toNat (i))).1)).length = ((nthP z (Int.toNat (i))).1).length := List.length_map ..
  have : (lowS nm).length = nm.length := List.length_map ..
  refine stGt1_1 z nm i O (h := hyGt1_p5) (1, i + 1, O) ?_ (mkIGt1 z nm 1 (i + 1) O ⟨by omega, by omega, i2, i3, i4, by rw [getS_n (by omega) (by omega) (by assumption)]; exact i5, fun h => by omega, i7, by omega⟩) (by show z.length - (i + 1).toNat < z.length - i.toNat; omega) (thXv (v := St' nm) rfl rfl (thXv (v := .int .i64 ((z.length : Int))) rfl rfl (thXi (b := ((i + 1))) rfl rfl (by omega) (thXv (v := rwG prC z) rfl rfl (thXv (v := rwS O) rfl rfl (thNil)))))) runGt1_p5
  unfold hyGt1_p5
  exact hc (kRn (denX rfl)) <|
   hc (ltT rfl rfl (by omega)) <|
   hc (kElG (j := (Int.toNat (i))) (d := ([], [])) prC_len (by decide) (isX rfl) (isX rfl) (denX rfl) (by omega) (by omega) rfl) <|
   hc (kElG (j := (Int.toNat (i))) (d := ([], [])) prC_len (by decide) (isX rfl) (isX rfl) (denX rfl) (by omega) (by omega) rfl) <|
   hc (hokLower (s := (nthP z (Int.toNat (i))).1) (isX rfl) (denX rfl) (by omega) (by omega)) <|
   hc (hokLower (s := nm) (isX rfl) (denX rfl) (by omega) (by omega)) <|
   hc (kEqS (isX rfl) (isX rfl) (by first | exact decide_eq_true rfl | exact decide_eq_true ‹_› | exact decide_eq_false ‹_›)) <|
   hc (adC rfl rfl (by omega)) <|
   hnil
def nuEGt1_0 (z : List (LB × LB)) (nm : LB) : List Value := []
def roEGt1_0 (z : List (LB × LB)) (nm : LB) : List Value := [rwG prC z]
noncomputable def EGt1_0 (z : List (LB × LB)) (nm : LB) : Cx := cx (nuX (nuEGt1_0 z nm) (rX (roEGt1_0 z nm) (fun _ => .bool true))) (nuX_one (nuL_one (l := nuEGt1_0 z nm) rfl)) 0 laidE laidE_stab
theorem roundsGt1_0 (z : List (LB × LB)) (nm : LB) (x0 : getS nm z = []) (st : Nat × Int × List LB) (X : Nat → Value) (hI : InvGt1 z nm st) : RHGt1 z nm (EGt1_0 z nm) (.exit 0) [(5, .nils)] [(84, .r 2000000 29 2 false)] st X := by
  obtain ⟨tag, i, O⟩ := st
  have hI0 := hI
  obtain ⟨i0, i1, i2, i3, i4, i5, i6, i7, it⟩ := unIGt1 z nm tag i O hI
  rcases (show tag = 0 ∨ tag = 1 from by omega) with rfl | rfl
  · skip
    by_cases h0 : i < (z.length : Int)
    · by_cases h1 : (lowS ((nthP z (Int.toNat (i))).1)) = (lowS nm)
      · exact nxGt1_p0 z nm i O X hI0 h0 h1
      · exact nxGt1_p2 z nm i O X hI0 h0 h1
    · skip
      have hdx := getS_x (nm := nm) (z := z) (i := i) (by omega) (by omega)
      refine lvGt1_0 z nm i O (h := hyGt1_p1) rfl ?_ (thXv (v := rwG prC z) rfl rfl (thNil)) runGt1_p1
      unfold hyGt1_p1
      exact hc (kRn (denX rfl)) <|
       hc (ltF rfl rfl (by omega)) <|
       hnil
  · skip
    by_cases h0 : i < (z.length : Int)
    · by_cases h1 : (lowS ((nthP z (Int.toNat (i))).1)) = (lowS nm)
      · exact nxGt1_p3 z nm i O X hI0 h0 h1
      · exact nxGt1_p5 z nm i O X hI0 h0 h1
    · exfalso; have hdx := getS_x (nm := nm) (z := z) (i := i) (by omega) (by omega); have hL := i7 (by omega); rw [i5, hdx, x0] at hL; simp at hL
theorem lfOkGt1_0 {l : LF} {h : LH} (z : List (LB × LB)) (nm : LB) (x0 : getS nm z = []) (st : Nat × Int × List LB) (hI : InvGt1 z nm st) (hl : l.hp = some h) (hs : lfSame l h 25 keepGt1 (.exit 0) 3 95 135 = true) {th0 : LA} {sg0 : List (Nat × Nat)} (hth0 : ∀ X, ThOk (cx nu one 0 laidE laidE_stab) (DGt1 z nm st X) th0) (h0 : startOk l h 25 95 96 th0 sg0 (epGt1 st) (hpGt1 st) = true) {thx : LA} (hthx : ThOk (EGt1_0 z nm) (cx nu one 0 laidE laidE_stab) thx) (hx : exitOk l h 25 95 135 thx [(5, .nils)] [(84, .r 2000000 29 2 false)] = true) : LfOk (cx nu one 0 laidE laidE_stab) bodyGt1 l :=
  lfOkX (E := EGt1_0 z nm) (InvGt1 z nm) (muGt1 z nm) (DGt1 z nm) (fun _ _ => rfl) (fun _ _ => rfl) (fun _ _ => rfl) (fun st X t ht => nuX_keep.trans (rX_keep ((by decide : ∀ t, t ∈ keepGt1 → t < 1000000) t ht))) rfl rfl rfl hl hs ebGt1 rfl rfl st hI hth0 h0 hthx hx (roundsGt1_0 z nm x0)
def nuEGt1_1 (z : List (LB × LB)) (nm : LB) : List Value := []
def roEGt1_1 (z : List (LB × LB)) (nm : LB) : List Value := [rwG prC z, rwS (getS nm z)]
noncomputable def EGt1_1 (z : List (LB × LB)) (nm : LB) : Cx := cx (nuX (nuEGt1_1 z nm) (rX (roEGt1_1 z nm) (fun _ => .bool true))) (nuX_one (nuL_one (l := nuEGt1_1 z nm) rfl)) 0 laidE laidE_stab
theorem roundsGt1_1 (z : List (LB × LB)) (nm : LB) (x0 : 1 ≤ (getS nm z).length) (st : Nat × Int × List LB) (X : Nat → Value) (hI : InvGt1 z nm st) : RHGt1 z nm (EGt1_1 z nm) (.exit 0) [(5, .sr 95)] [(84, .r 2000000 29 2 false), (95, .r 2000001 9 1 false)] st X := by
  obtain ⟨tag, i, O⟩ := st
  have hI0 := hI
  obtain ⟨i0, i1, i2, i3, i4, i5, i6, i7, it⟩ := unIGt1 z nm tag i O hI
  rcases (show tag = 0 ∨ tag = 1 from by omega) with rfl | rfl
  · skip
    by_cases h0 : i < (z.length : Int)
    · by_cases h1 : (lowS ((nthP z (Int.toNat (i))).1)) = (lowS nm)
      · exact nxGt1_p0 z nm i O X hI0 h0 h1
      · exact nxGt1_p2 z nm i O X hI0 h0 h1
    · exfalso; have hdx := getS_x (nm := nm) (z := z) (i := i) (by omega) (by omega); have hO := i6 (by omega); rw [hO, hdx] at i5; rw [← i5] at x0; simp at x0
  · skip
    by_cases h0 : i < (z.length : Int)
    · by_cases h1 : (lowS ((nthP z (Int.toNat (i))).1)) = (lowS nm)
      · exact nxGt1_p3 z nm i O X hI0 h0 h1
      · exact nxGt1_p5 z nm i O X hI0 h0 h1
    · skip
      have hdx := getS_x (nm := nm) (z := z) (i := i) (by omega) (by omega)
      refine lvGt1_1 z nm i O (h := hyGt1_p4) rfl ?_ (thXv (v := rwG prC z) rfl rfl (thXe (v := rwS O) (u := rwS (getS nm z)) rfl rfl (congrArg (rwS) (i5.trans hdx)) (thNil))) runGt1_p4
      unfold hyGt1_p4
      exact hc (kRn (denX rfl)) <|
       hc (ltF rfl rfl (by omega)) <|
       hnil
theorem lfOkGt1_1 {l : LF} {h : LH} (z : List (LB × LB)) (nm : LB) (x0 : 1 ≤ (getS nm z).length) (st : Nat × Int × List LB) (hI : InvGt1 z nm st) (hl : l.hp = some h) (hs : lfSame l h 25 keepGt1 (.exit 0) 3 95 135 = true) {th0 : LA} {sg0 : List (Nat × Nat)} (hth0 : ∀ X, ThOk (cx nu one 0 laidE laidE_stab) (DGt1 z nm st X) th0) (h0 : startOk l h 25 95 96 th0 sg0 (epGt1 st) (hpGt1 st) = true) {thx : LA} (hthx : ThOk (EGt1_1 z nm) (cx nu one 0 laidE laidE_stab) thx) (hx : exitOk l h 25 95 135 thx [(5, .sr 95)] [(84, .r 2000000 29 2 false), (95, .r 2000001 9 1 false)] = true) : LfOk (cx nu one 0 laidE laidE_stab) bodyGt1 l :=
  lfOkX (E := EGt1_1 z nm) (InvGt1 z nm) (muGt1 z nm) (DGt1 z nm) (fun _ _ => rfl) (fun _ _ => rfl) (fun _ _ => rfl) (fun st X t ht => nuX_keep.trans (rX_keep ((by decide : ∀ t, t ∈ keepGt1 → t < 1000000) t ht))) rfl rfl rfl hl hs ebGt1 rfl rfl st hI hth0 h0 hthx hx (roundsGt1_1 z nm x0)
noncomputable def bodyGt2 : Code := loopNo (Tryd.f6.body.getD .skip) 0
theorem keyGt2 : oneKey (loopsOf (Tryd.f6.body.getD .skip)) 3 0 0 = true := by kernel_rfl
def keepGt2 : List Nat := []
def epGt2_0 : LA := [(1, .x 0), (5, .nils), (8, .sr 84), (9, .x 1), (10, .x 2)]
def hpGt2_0 : LE := [(84, .r 2000000 29 2 false)]
def nuGt2_0 (z : List (LB × LB)) (nm : LB) (i : Int) (O : List LB) : List Value := [St' nm, .int .i64 ((z.length : Int)), .int .i64 (i), St' ((nthP z (Int.toNat (i))).1), St' ((nthP z (Int.toNat (i))).2), St' (lowS ((nthP z (Int.toNat (i))).1)), St' (lowS nm), .int .i64 (i + 1), St' ((nthP z (Int.toNat (i))).1), St' ((nthP z (Int.toNat (i))).2), St' (lowS ((nthP z (Int.toNat (i))).1)), St' (lowS nm), .int .i64 (i + 1)]
def roGt2_0 (z : List (LB × LB)) (nm : LB) (i : Int) (O : List LB) : List Value := [rwG prC z, rwS ([] : List LB), rwS (([] : List LB) ++ [(nthP z (Int.toNat (i))).2]), rwS ([] : List LB), rwS ([] : List LB)]
def epGt2_1 : LA := [(1, .x 0), (5, .sr 145), (8, .sr 84), (9, .x 1), (10, .x 2)]
def hpGt2_1 : LE := [(84, .r 2000000 29 2 false), (145, .r 2000001 9 1 false)]
def nuGt2_1 (z : List (LB × LB)) (nm : LB) (i : Int) (O : List LB) : List Value := [St' nm, .int .i64 ((z.length : Int)), .int .i64 (i), St' ((nthP z (Int.toNat (i))).1), St' ((nthP z (Int.toNat (i))).2), St' (lowS ((nthP z (Int.toNat (i))).1)), St' (lowS nm), .int .i64 (i + 1), St' ((nthP z (Int.toNat (i))).1), St' ((nthP z (Int.toNat (i))).2), St' (lowS ((nthP z (Int.toNat (i))).1)), St' (lowS nm), .int .i64 (i + 1)]
def roGt2_1 (z : List (LB × LB)) (nm : LB) (i : Int) (O : List LB) : List Value := [rwG prC z, rwS O, rwS ([] : List LB), rwS (O ++ [(nthP z (Int.toNat (i))).2]), rwS ([] : List LB), rwS ([] : List LB)]
def epGt2 (st : Nat × Int × List LB) : LA := if st.1 = 0 then epGt2_0 else epGt2_1
def hpGt2 (st : Nat × Int × List LB) : LE := if st.1 = 0 then hpGt2_0 else hpGt2_1
def nuGt2 (z : List (LB × LB)) (nm : LB) (st : Nat × Int × List LB) : List Value := if st.1 = 0 then nuGt2_0 z nm (st.2.1) (st.2.2) else nuGt2_1 z nm (st.2.1) (st.2.2)
def roGt2 (z : List (LB × LB)) (nm : LB) (st : Nat × Int × List LB) : List Value := if st.1 = 0 then roGt2_0 z nm (st.2.1) (st.2.2) else roGt2_1 z nm (st.2.1) (st.2.2)
theorem onGt2 (z : List (LB × LB)) (nm : LB) (st : Nat × Int × List LB) : ∀ j, (nuL (nuGt2 z nm st) j).oneCell' = true := by
  intro j
  unfold nuGt2
  by_cases g0 : st.1 = 0
  · rw [if_pos g0]; exact nuL_one (l := nuGt2_0 z nm (st.2.1) (st.2.2)) rfl j
  rw [if_neg g0]
  exact nuL_one (l := nuGt2_1 z nm (st.2.1) (st.2.2)) rfl j
theorem ebGt2 (st : Nat × Int × List LB) : (lfB (epGt2 st) && lfC keepGt2) = true := by
  unfold epGt2
  by_cases g0 : st.1 = 0
  · rw [if_pos g0]; rfl
  rw [if_neg g0]
  rfl
noncomputable def DGt2 (z : List (LB × LB)) (nm : LB) (st : Nat × Int × List LB) (X : Nat → Value) : Cx := cx (nuX (nuGt2 z nm st) (rX (roGt2 z nm st) X)) (nuX_one (onGt2 z nm st)) 0 laidE laidE_stab
def InvGt2 (z : List (LB × LB)) (nm : LB) (st : Nat × Int × List LB) : Prop := (0 ≤ (st.2.1)) ∧ ((st.2.1) ≤ (z.length : Int)) ∧ (z.length ≤ 1000) ∧ (∀ q, q ∈ z → prB q) ∧ (nm.length ≤ 140737488351232 ∧ ∀ q, q ∈ z → q.1.length ≤ 140737488351232) ∧ ((st.2.2) = getS nm (z.take (Int.toNat (st.2.1)))) ∧ ((st.1) = 0 → (st.2.2) = []) ∧ ((st.1) = 1 → 1 ≤ (st.2.2).length) ∧ ((st.1) < 2)
abbrev CjGt2 (z : List (LB × LB)) (nm : LB) (tag : Nat) (i : Int) (O : List LB) : Prop := (0 ≤ i) ∧ (i ≤ (z.length : Int)) ∧ (z.length ≤ 1000) ∧ (∀ q, q ∈ z → prB q) ∧ (nm.length ≤ 140737488351232 ∧ ∀ q, q ∈ z → q.1.length ≤ 140737488351232) ∧ (O = getS nm (z.take (Int.toNat i))) ∧ (tag = 0 → O = []) ∧ (tag = 1 → 1 ≤ O.length) ∧ (tag < 2)
theorem mkIGt2 (z : List (LB × LB)) (nm : LB) (tag : Nat) (i : Int) (O : List LB) (h : CjGt2 z nm tag i O) : InvGt2 z nm (tag, i, O) := h
theorem unIGt2 (z : List (LB × LB)) (nm : LB) (tag : Nat) (i : Int) (O : List LB) (h : InvGt2 z nm (tag, i, O)) : (0 ≤ i) ∧ (i ≤ (z.length : Int)) ∧ (z.length ≤ 1000) ∧ (∀ q, q ∈ z → prB q) ∧ (nm.length ≤ 140737488351232 ∧ ∀ q, q ∈ z → q.1.length ≤ 140737488351232) ∧ (O = getS nm (z.take (Int.toNat i))) ∧ (tag = 0 → O = []) ∧ (tag = 1 → 1 ≤ O.length) ∧ (tag < 2) := h
def muGt2 (z : List (LB × LB)) (nm : LB) (st : Nat × Int × List LB) : Nat := (z.length - (st.2.1).toNat)
abbrev RHGt2 (z : List (LB × LB)) (nm : LB) (E' : Cx) (ex' : Ex) (epx' : LA) (hpx' : LE) (st : Nat × Int × List LB) (X : Nat → Value) : Prop := RoundH E' bodyGt2 keepGt2 25 ex' 3 145 146 185 epGt2 hpGt2 epx' hpx' (InvGt2 z nm) (muGt2 z nm) (DGt2 z nm) st X
noncomputable abbrev RNGt2_0 (h : LK) (x : Ex) (th : LA) (sg : List (Nat × Nat)) (m : Nat) (ep : LA) (hp : LE) : Bool := okRdH (code (tbl h) 3000 [] bodyGt2 (envOf (headOf epGt2_0 keepGt2) 25) ⟨lhSet hpGt2_0 .leaf, 146, 0, 0⟩) x keepGt2 25 185 th sg 145 m ep hp
theorem stGt2_0 (z : List (LB × LB)) (nm : LB) (i : Int) (O : List LB) {X : Nat → Value} {h : LK} (y : Nat × Int × List LB) {th : LA} {sg : List (Nat × Nat)} (ho : ∀ a' r', (a', r') ∈ h → HOk (cx (nuX (nuGt2_0 z nm i O) (rX (roGt2_0 z nm i O) X)) (nuX_one (nuL_one (l := nuGt2_0 z nm i O) rfl)) 0 laidE laidE_stab) a' r') (hy : InvGt2 z nm y) (lt : muGt2 z nm y < muGt2 z nm (0, i, O)) (ht : ThOk (cx (nuX (nuGt2_0 z nm i O) (rX (roGt2_0 z nm i O) X)) (nuX_one (nuL_one (l := nuGt2_0 z nm i O) rfl)) 0 laidE laidE_stab) (DGt2 z nm y X) th) (run : RNGt2_0 h .normal th sg 146 (epGt2 y) (hpGt2 y) = true) : RHGt2 z nm E' x' e' h' (0, i, O) X :=
  RoundH.next (tb := tbl h) (L := []) (f := 3000) y ((tabkOk _ _).hyps ho) (LpOk.nil _) rfl hy lt ht run
theorem lvGt2_0 (z : List (LB × LB)) (nm : LB) (i : Int) (O : List LB) {X : Nat → Value} {h : LK} {th : LA} {sg : List (Nat × Nat)} (hne : exB x' .normal = false) (ho : ∀ a' r', (a', r') ∈ h → HOk (cx (nuX (nuGt2_0 z nm i O) (rX (roGt2_0 z nm i O) X)) (nuX_one (nuL_one (l := nuGt2_0 z nm i O) rfl)) 0 laidE laidE_stab) a' r') (ht : ThOk (cx (nuX (nuGt2_0 z nm i O) (rX (roGt2_0 z nm i O) X)) (nuX_one (nuL_one (l := nuGt2_0 z nm i O) rfl)) 0 laidE laidE_stab) E' th) (run : RNGt2_0 h x' th sg 185 e' h' = true) : RHGt2 z nm E' x' e' h' (0, i, O) X :=
  RoundH.leave (tb := tbl h) (L := []) (f := 3000) ((tabkOk _ _).hyps ho) (LpOk.nil _) rfl hne ht run
noncomputable abbrev RNGt2_1 (h : LK) (x : Ex) (th : LA) (sg : List (Nat × Nat)) (m : Nat) (ep : LA) (hp : LE) : Bool := okRdH (code (tbl h) 3000 [] bodyGt2 (envOf (headOf epGt2_1 keepGt2) 25) ⟨lhSet hpGt2_1 .leaf, 146, 0, 0⟩) x keepGt2 25 185 th sg 145 m ep hp
theorem stGt2_1 (z : List (LB × LB)) (nm : LB) (i : Int) (O : List LB) {X : Nat → Value} {h : LK} (y : Nat × Int × List LB) {th : LA} {sg : List (Nat × Nat)} (ho : ∀ a' r', (a', r') ∈ h → HOk (cx (nuX (nuGt2_1 z nm i O) (rX (roGt2_1 z nm i O) X)) (nuX_one (nuL_one (l := nuGt2_1 z nm i O) rfl)) 0 laidE laidE_stab) a' r') (hy : InvGt2 z nm y) (lt : muGt2 z nm y < muGt2 z nm (1, i, O)) (ht : ThOk (cx (nuX (nuGt2_1 z nm i O) (rX (roGt2_1 z nm i O) X)) (nuX_one (nuL_one (l := nuGt2_1 z nm i O) rfl)) 0 laidE laidE_stab) (DGt2 z nm y X) th) (run : RNGt2_1 h .normal th sg 146 (epGt2 y) (hpGt2 y) = true) : RHGt2 z nm E' x' e' h' (1, i, O) X :=
  RoundH.next (tb := tbl h) (L := []) (f := 3000) y ((tabkOk _ _).hyps ho) (LpOk.nil _) rfl hy lt ht run
theorem lvGt2_1 (z : List (LB × LB)) (nm : LB) (i : Int) (O : List LB) {X : Nat → Value} {h : LK} {th : LA} {sg : List (Nat × Nat)} (hne : exB x' .normal = false) (ho : ∀ a' r', (a', r') ∈ h → HOk (cx (nuX (nuGt2_1 z nm i O) (rX (roGt2_1 z nm i O) X)) (nuX_one (nuL_one (l := nuGt2_1 z nm i O) rfl)) 0 laidE laidE_stab) a' r') (ht : ThOk (cx (nuX (nuGt2_1 z nm i O) (rX (roGt2_1 z nm i O) X)) (nuX_one (nuL_one (l := nuGt2_1 z nm i O) rfl)) 0 laidE laidE_stab) E' th) (run : RNGt2_1 h x' th sg 185 e' h' = true) : RHGt2 z nm E' x' e' h' (1, i, O) X :=
  RoundH.leave (tb := tbl h) (L := []) (f := 3000) ((tabkOk _ _).hyps ho) (LpOk.nil _) rfl hne ht run
def hyGt2_p0 : LK := [(.rn, .x 2000001), (.bin .lss (.x 2) (.x 1), .b true), (.el (.x 2000000) (.x 2) 2 0, .x 3), (.el (.x 2000000) (.x 2) 2 1, .x 4), (.call 23 [.x 3], .x 5), (.call 23 [.x 0], .x 6), (.bin .eql (.x 5) (.x 6), .b true), (.ra (.x 2000001) [.x 4], .x 2000002), (.rf (.x 2000002) 1 16, .b true), (.bin .add (.x 2) (.i .i64 (.ofNat 1)), .x 7)]
theorem runGt2_p0 : RNGt2_0 hyGt2_p0 .normal [(0, .x 0), (1, .x 1), (2, .x 7), (2000000, .x 2000000), (2000001, .x 2000002)] [(145, 148)] 146 epGt2_1 hpGt2_1 = true := by kernel_rfl
theorem nxGt2_p0 (z : List (LB × LB)) (nm : LB) (i : Int) (O : List LB) (X : Nat → Value) (hI : InvGt2 z nm (0, i, O)) (h0 : i < (z.length : Int)) (h1 : (lowS ((nthP z (Int.toNat (i))).1)) = (lowS nm)) : RHGt2 z nm E' x' e' h' (0, i, O) X := by
  obtain ⟨i0, i1, i2, i3, i4, i5, i6, i7, it⟩ := unIGt2 z nm 0 i O hI
  have hnm := nmAt i4.2 (Int.toNat i)
  have hO := congrArg List.length i5
  have hO2 := getS_len nm (z.take (Int.toNat i))
  have hO3 : (z.take (Int.toNat i)).length ≤ z.length := by rw [List.length_take]; omega
  have := prAt (l := z) (by assumption) (Int.toNat (i))
  have : (lowS ((nthP z (Int.toNat (i))).1)).length = ((nthP z (Int.toNat (i))).1).length := List.length_map ..
  have : (lowS nm).length = nm.length := List.length_map ..
  refine stGt2_0 z nm i O (h := hyGt2_p0) (1, i + 1, (([] : List LB) ++ [(nthP z (Int.toNat (i))).2])) ?_ (mkIGt2 z nm 1 (i + 1) (([] : List LB) ++ [(nthP z (Int.toNat (i))).2]) ⟨by omega, by omega, i2, i3, i4, by rw [getS_y (by omega) (by omega) (by assumption), ← i5, i6 (by omega)], fun h => by omega, fun _ => by simp, by omega⟩) (by show z.length - (i + 1).toNat < z.length - i.toNat; omega) (thXv (v := St' nm) rfl rfl (thXv (v := .int .i64 ((z.length : Int))) rfl rfl (thXi (b := ((i + 1))) rfl rfl (by omega) (thXv (v := rwG prC z) rfl rfl (thXv (v := rwS (([] : List LB) ++ [(nthP z (Int.toNat (i))).2])) rfl rfl (thNil)))))) runGt2_p0
  unfold hyGt2_p0
  exact hc (kRn (denX rfl)) <|
   hc (ltT rfl rfl (by omega)) <|
   hc (kElG (j := (Int.toNat (i))) (d := ([], [])) prC_len (by decide) (isX rfl) (isX rfl) (denX rfl) (by omega) (by omega) rfl) <|
   hc (kElG (j := (Int.toNat (i))) (d := ([], [])) prC_len (by decide) (isX rfl) (isX rfl) (denX rfl) (by omega) (by omega) rfl) <|
   hc (hokLower (s := (nthP z (Int.toNat (i))).1) (isX rfl) (denX rfl) (by omega) (by omega)) <|
   hc (hokLower (s := nm) (isX rfl) (denX rfl) (by omega) (by omega)) <|
   hc (kEqS (isX rfl) (isX rfl) (by first | exact decide_eq_true rfl | exact decide_eq_true ‹_› | exact decide_eq_false ‹_›)) <|
   hc (kRa (isX rfl) (isX rfl) (denX rfl)) <|
   hc (kRf (isX rfl) (by first | omega | (simp <;> omega)) (by first | omega | (simp <;> omega))) <|
   hc (adC rfl rfl (by omega)) <|
   hnil
def hyGt2_p1 : LK := [(.rn, .x 2000003), (.bin .lss (.x 2) (.x 1), .b false)]
theorem runGt2_p1 : RNGt2_0 hyGt2_p1 (.exit 0) [(2000000, .x 2000000)] [] 185 [(5, .nils)] [(84, .r 2000000 29 2 false)] = true := by kernel_rfl
def hyGt2_p2 : LK := [(.rn, .x 2000004), (.bin .lss (.x 2) (.x 1), .b true), (.el (.x 2000000) (.x 2) 2 0, .x 8), (.el (.x 2000000) (.x 2) 2 1, .x 9), (.call 23 [.x 8], .x 10), (.call 23 [.x 0], .x 11), (.bin .eql (.x 10) (.x 11), .b false), (.bin .add (.x 2) (.i .i64 (.ofNat 1)), .x 12)]
theorem runGt2_p2 : RNGt2_0 hyGt2_p2 .normal [(0, .x 0), (1, .x 1), (2, .x 12), (2000000, .x 2000000)] [] 146 epGt2_0 hpGt2_0 = true := by kernel_rfl
theorem nxGt2_p2 (z : List (LB × LB)) (nm : LB) (i : Int) (O : List LB) (X : Nat → Value) (hI : InvGt2 z nm (0, i, O)) (h0 : i < (z.length : Int)) (h1 : ¬ ((lowS ((nthP z (Int.toNat (i))).1)) = (lowS nm))) : RHGt2 z nm E' x' e' h' (0, i, O) X := by
  obtain ⟨i0, i1, i2, i3, i4, i5, i6, i7, it⟩ := unIGt2 z nm 0 i O hI
  have hnm := nmAt i4.2 (Int.toNat i)
  have hO := congrArg List.length i5
  have hO2 := getS_len nm (z.take (Int.toNat i))
  have hO3 : (z.take (Int.toNat i)).length ≤ z.length := by rw [List.length_take]; omega
  have := prAt (l := z) (by assumption) (Int.toNat (i))
  have : (lowS ((nthP z (Int.toNat (i))).1)).length = ((nthP z (Int.toNat (i))).1).length := List.length_map ..
  have : (lowS nm).length = nm.length := List.length_map ..
  refine stGt2_0 z nm i O (h := hyGt2_p2) (0, i + 1, ([] : List LB)) ?_ (mkIGt2 z nm 0 (i + 1) ([] : List LB) ⟨by omega, by omega, i2, i3, i4, by rw [getS_n (by omega) (by omega) (by assumption)]; exact (i6 (by omega)).symm.trans i5, fun _ => rfl, fun h => by omega, by omega⟩) (by show z.length - (i + 1).toNat < z.length - i.toNat; omega) (thXv (v := St' nm) rfl rfl (thXv (v := .int .i64 ((z.length : Int))) rfl rfl (thXi (b := ((i + 1))) rfl rfl (by omega) (thXv (v := rwG prC z) rfl rfl (thNil))))) runGt2_p2
  unfold hyGt2_p2
  exact hc (kRn (denX rfl)) <|
   hc (ltT rfl rfl (by omega)) <|
   hc (kElG (j := (Int.toNat (i))) (d := ([], [])) prC_len (by decide) (isX rfl) (isX rfl) (denX rfl) (by omega) (by omega) rfl) <|
   hc (kElG (j := (Int.toNat (i))) (d := ([], [])) prC_len (by decide) (isX rfl) (isX rfl) (denX rfl) (by omega) (by omega) rfl) <|
   hc (hokLower (s := (nthP z (Int.toNat (i))).1) (isX rfl) (denX rfl) (by omega) (by omega)) <|
   hc (hokLower (s := nm) (isX rfl) (denX rfl) (by omega) (by omega)) <|
   hc (kEqS (isX rfl) (isX rfl) (by first | exact decide_eq_true rfl | exact decide_eq_true ‹_› | exact decide_eq_false ‹_›)) <|
   hc (adC rfl rfl (by omega)) <|
   hnil
def hyGt2_p3 : LK := [(.rn, .x 2000002), (.bin .lss (.x 2) (.x 1), .b true), (.el (.x 2000000) (.x 2) 2 0, .x 3), (.el (.x 2000000) (.x 2) 2 1, .x 4), (.call 23 [.x 3], .x 5), (.call 23 [.x 0], .x 6), (.bin .eql (.x 5) (.x 6), .b true), (.ra (.x 2000001) [.x 4], .x 2000003), (.rf (.x 2000003) 1 16, .b true), (.bin .add (.x 2) (.i .i64 (.ofNat 1)), .x 7)]
theorem runGt2_p3 : RNGt2_1 hyGt2_p3 .normal [(0, .x 0), (1, .x 1), (2, .x 7), (2000000, .x 2000000), (2000001, .x 2000003)] [(145, 148)] 146 epGt2_1 hpGt2_1 = true := by kernel_rfl
theorem nxGt2_p3 (z : List (LB × LB)) (nm : LB) (i : Int) (O : List LB) (X : Nat → Value) (hI : InvGt2 z nm (1, i, O)) (h0 : i < (z.length : Int)) (h1 : (lowS ((nthP z (Int.toNat (i))).1)) = (lowS nm)) : RHGt2 z nm E' x' e' h' (1, i, O) X := by
  obtain ⟨i0, i1, i2, i3, i4, i5, i6, i7, it⟩ := unIGt2 z nm 1 i O hI
  have hnm := nmAt i4.2 (Int.toNat i)
  have hO := congrArg List.length i5
  have hO2 := getS_len nm (z.take (Int.toNat i))
  have hO3 : (z.take (Int.toNat i)).length ≤ z.length := by rw [List.length_take]; omega
  have := prAt (l := z) (by assumption) (Int.toNat (i))
  have : (lowS ((nthP z (Int.toNat (i))).1)).length = ((nthP z (Int.toNat (i))).1).length := List.length_map ..
  have : (lowS nm).length = nm.length := List.length_map ..
  refine stGt2_1 z nm i O (h := hyGt2_p3) (1, i + 1, (O ++ [(nthP z (Int.toNat (i))).2])) ?_ (mkIGt2 z nm 1 (i + 1) (O ++ [(nthP z (Int.toNat (i))).2]) ⟨by omega, by omega, i2, i3, i4, by rw [getS_y (by omega) (by omega) (by assumption), ← i5], fun h => by omega, fun _ => by simp, by omega⟩) (by show z.length - (i + 1).toNat < z.length - i.toNat; omega) (thXv (v := St' nm) rfl rfl (thXv (v := .int .i64 ((z.length : Int))) rfl rfl (thXi (b := ((i + 1))) rfl rfl (by omega) (thXv (v := rwG prC z) rfl rfl (thXv (v := rwS (O ++ [(nthP z (Int.toNat (i))).2])) rfl rfl (thNil)))))) runGt2_p3
  unfold hyGt2_p3
  exact hc (kRn (denX rfl)) <|
   hc (ltT rfl rfl (by omega)) <|
   hc (kElG (j := (Int.toNat (i))) (d := ([], [])) prC_len (by decide) (isX rfl) (isX rfl) (denX rfl) (by omega) (by omega) rfl) <|
   hc (kElG (j := (Int.toNat (i))) (d := ([], [])) prC_len (by decide) (isX rfl) (isX rfl) (denX rfl) (by omega) (by omega) rfl) <|
   hc (hokLower (s := (nthP z (Int.toNat (i))).1) (isX rfl) (denX rfl) (by omega) (by omega)) <|
   hc (hokLower (s := nm) (isX rfl) (denX rfl) (by omega) (by omega)) <|
   hc (kEqS (isX rfl) (isX rfl) (by first | exact decide_eq_true rfl | exact decide_eq_true ‹_› | exact decide_eq_false ‹_›)) <|
   hc (kRa (isX rfl) (isX rfl) (denX rfl)) <|
   hc (kRf (isX rfl) (by first | omega | (simp <;> omega)) (by first | omega | (simp <;> omega))) <|
   hc (adC rfl rfl (by omega)) <|
   hnil
def hyGt2_p4 : LK := [(.rn, .x 2000004), (.bin .lss (.x 2) (.x 1), .b false)]
theorem runGt2_p4 : RNGt2_1 hyGt2_p4 (.exit 0) [(2000000, .x 2000000), (2000001, .x 2000001)] [(145, 145)] 185 [(5, .sr 145)] [(84, .r 2000000 29 2 false), (145, .r 2000001 9 1 false)] = true := by kernel_rfl
def hyGt2_p5 : LK := [(.rn, .x 2000005), (.bin .lss (.x 2) (.x 1), .b true), (.el (.x 2000000) (.x 2) 2 0, .x 8), (.el (.x 2000000) (.x 2) 2 1, .x 9), (.call 23 [.x 8], .x 10), (.call 23 [.x 0], .x 11), (.bin .eql (.x 10) (.x 11), .b false), (.bin .add (.x 2) (.i .i64 (.ofNat 1)), .x 12)]
theorem runGt2_p5 : RNGt2_1 hyGt2_p5 .normal [(0, .x 0), (1, .x 1), (2, .x 12), (2000000, .x 2000000), (2000001, .x 2000001)] [(145, 145)] 146 epGt2_1 hpGt2_1 = true := by kernel_rfl
theorem nxGt2_p5 (z : List (LB × LB)) (nm : LB) (i : Int) (O : List LB) (X : Nat → Value) (hI : InvGt2 z nm (1, i, O)) (h0 : i < (z.length : Int)) (h1 : ¬ ((lowS ((nthP z (Int.toNat (i))).1)) = (lowS nm))) : RHGt2 z nm E' x' e' h' (1, i, O) X := by
  obtain ⟨i0, i1, i2, i3, i4, i5, i6, i7, it⟩ := unIGt2 z nm 1 i O hI
  have hnm := nmAt i4.2 (Int.toNat i)
  have hO := congrArg List.length i5
  have hO2 := getS_len nm (z.take (Int.toNat i))
  have hO3 : (z.take (Int.toNat i)).length ≤ z.length := by rw [List.length_take]; omega
  have := prAt (l := z) (by assumption) (Int.toNat (i))
  have : (lowS ((nthP z (Int.toNat (i))).1)).length = ((nthP z (Int.toNat (i))).1).length := List.length_map ..
  have : (lowS nm).length = nm.length := List.length_map ..
  refine stGt2_1 z nm i O (h := hyGt2_p5) (1, i + 1, O) ?_ (mkIGt2 z nm 1 (i + 1) O ⟨by omega, by omega, i2, i3, i4, by rw [getS_n (by omega) (by omega) (by assumption)]; exact i5, fun h => by omega, i7, by omega⟩) (by show z.length - (i + 1).toNat < z.length - i.toNat; omega) (thXv (v := St' nm) rfl rfl (thXv (v := .int .i64 ((z.length : Int))) rfl rfl (thXi (b := ((i + 1))) rfl rfl (by omega) (thXv (v := rwG prC z) rfl rfl (thXv (v := rwS O) rfl rfl (thNil)))))) runGt2_p5
  unfold hyGt2_p5
  exact hc (kRn (denX rfl)) <|
   hc (ltT rfl rfl (by omega)) <|
   hc (kElG (j := (Int.toNat (i))) (d := ([], [])) prC_len (by decide) (isX rfl) (isX rfl) (denX rfl) (by omega) (by omega) rfl) <|
   hc (kElG (j := (Int.toNat (i))) (d := ([], [])) prC_len (by decide) (isX rfl) (isX rfl) (denX rfl) (by omega) (by omega) rfl) <|
   hc (hokLower (s := (nthP z (Int.toNat (i))).1) (isX rfl) (denX rfl) (by omega) (by omega)) <|
   hc (hokLower (s := nm) (isX rfl) (denX rfl) (by omega) (by omega)) <|
   hc (kEqS (isX rfl) (isX rfl) (by first | exact decide_eq_true rfl | exact decide_eq_true ‹_› | exact decide_eq_false ‹_›)) <|
   hc (adC rfl rfl (by omega)) <|
   hnil
def nuEGt2_0 (z : List (LB × LB)) (nm : LB) : List Value := []
def roEGt2_0 (z : List (LB × LB)) (nm : LB) : List Value := [rwG prC z]
noncomputable def EGt2_0 (z : List (LB × LB)) (nm : LB) : Cx := cx (nuX (nuEGt2_0 z nm) (rX (roEGt2_0 z nm) (fun _ => .bool true))) (nuX_one (nuL_one (l := nuEGt2_0 z nm) rfl)) 0 laidE laidE_stab
theorem roundsGt2_0 (z : List (LB × LB)) (nm : LB) (x0 : getS nm z = []) (st : Nat × Int × List LB) (X : Nat → Value) (hI : InvGt2 z nm st) : RHGt2 z nm (EGt2_0 z nm) (.exit 0) [(5, .nils)] [(84, .r 2000000 29 2 false)] st X := by
  obtain ⟨tag, i, O⟩ := st
  have hI0 := hI
  obtain ⟨i0, i1, i2, i3, i4, i5, i6, i7, it⟩ := unIGt2 z nm tag i O hI
  rcases (show tag = 0 ∨ tag = 1 from by omega) with rfl | rfl
  · skip
    by_cases h0 : i < (z.length : Int)
    · by_cases h1 : (lowS ((nthP z (Int.toNat (i))).1)) = (lowS nm)
      · exact nxGt2_p0 z nm i O X hI0 h0 h1
      · exact nxGt2_p2 z nm i O X hI0 h0 h1
    · skip
      have hdx := getS_x (nm := nm) (z := z) (i := i) (by omega) (by omega)
      refine lvGt2_0 z nm i O (h := hyGt2_p1) rfl ?_ (thXv (v := rwG prC z) rfl rfl (thNil)) runGt2_p1
      unfold hyGt2_p1
      exact hc (kRn (denX rfl)) <|
       hc (ltF rfl rfl (by omega)) <|
       hnil
  · skip
    by_cases h0 : i < (z.length : Int)
    · by_cases h1 : (lowS ((nthP z (Int.toNat (i))).1)) = (lowS nm)
      · exact nxGt2_p3 z nm i O X hI0 h0 h1
      · exact nxGt2_p5 z nm i O X hI0 h0 h1
    · exfalso; have hdx := getS_x (nm := nm) (z := z) (i := i) (by omega) (by omega); have hL := i7 (by omega); rw [i5, hdx, x0] at hL; simp at hL
theorem lfOkGt2_0 {l : LF} {h : LH} (z : List (LB × LB)) (nm : LB) (x0 : getS nm z = []) (st : Nat × Int × List LB) (hI : InvGt2 z nm st) (hl : l.hp = some h) (hs : lfSame l h 25 keepGt2 (.exit 0) 3 145 185 = true) {th0 : LA} {sg0 : List (Nat × Nat)} (hth0 : ∀ X, ThOk (cx nu one 0 laidE laidE_stab) (DGt2 z nm st X) th0) (h0 : startOk l h 25 145 146 th0 sg0 (epGt2 st) (hpGt2 st) = true) {thx : LA} (hthx : ThOk (EGt2_0 z nm) (cx nu one 0 laidE laidE_stab) thx) (hx : exitOk l h 25 145 185 thx [(5, .nils)] [(84, .r 2000000 29 2 false)] = true) : LfOk (cx nu one 0 laidE laidE_stab) bodyGt2 l :=
  lfOkX (E := EGt2_0 z nm) (InvGt2 z nm) (muGt2 z nm) (DGt2 z nm) (fun _ _ => rfl) (fun _ _ => rfl) (fun _ _ => rfl) (fun st X t ht => nuX_keep.trans (rX_keep ((by decide : ∀ t, t ∈ keepGt2 → t < 1000000) t ht))) rfl rfl rfl hl hs ebGt2 rfl rfl st hI hth0 h0 hthx hx (roundsGt2_0 z nm x0)
def nuEGt2_1 (z : List (LB × LB)) (nm : LB) : List Value := []
def roEGt2_1 (z : List (LB × LB)) (nm : LB) : List Value := [rwG prC z, rwS (getS nm z)]
noncomputable def EGt2_1 (z : List (LB × LB)) (nm : LB) : Cx := cx (nuX (nuEGt2_1 z nm) (rX (roEGt2_1 z nm) (fun _ => .bool true))) (nuX_one (nuL_one (l := nuEGt2_1 z nm) rfl)) 0 laidE laidE_stab
theorem roundsGt2_1 (z : List (LB × LB)) (nm : LB) (x0 : 1 ≤ (getS nm z).length) (st : Nat × Int × List LB) (X : Nat → Value) (hI : InvGt2 z nm st) : RHGt2 z nm (EGt2_1 z nm) (.exit 0) [(5, .sr 145)] [(84, .r 2000000 29 2 false), (145, .r 2000001 9 1 false)] st X := by
  obtain ⟨tag, i, O⟩ := st
  have hI0 := hI
  obtain ⟨i0, i1, i2, i3, i4, i5, i6, i7, it⟩ := unIGt2 z nm tag i O hI
  rcases (show tag = 0 ∨ tag = 1 from by omega) with rfl | rfl
  · skip
    by_cases h0 : i < (z.length : Int)
    · by_cases h1 : (lowS ((nthP z (Int.toNat (i))).1)) = (lowS nm)
      · exact nxGt2_p0 z nm i O X hI0 h0 h1
      · exact nxGt2_p2 z nm i O X hI0 h0 h1
    · exfalso; have hdx := getS_x (nm := nm) (z := z) (i := i) (by omega) (by omega); have hO := i6 (by omega); rw [hO, hdx] at i5; rw [← i5] at x0; simp at x0
  · skip
    by_cases h0 : i < (z.length : Int)
    · by_cases h1 : (lowS ((nthP z (Int.toNat (i))).1)) = (lowS nm)
      · exact nxGt2_p3 z nm i O X hI0 h0 h1
      · exact nxGt2_p5 z nm i O X hI0 h0 h1
    · skip
      have hdx := getS_x (nm := nm) (z := z) (i := i) (by omega) (by omega)
      refine lvGt2_1 z nm i O (h := hyGt2_p4) rfl ?_ (thXv (v := rwG prC z) rfl rfl (thXe (v := rwS O) (u := rwS (getS nm z)) rfl rfl (congrArg (rwS) (i5.trans hdx)) (thNil))) runGt2_p4
      unfold hyGt2_p4
      exact hc (kRn (denX rfl)) <|
       hc (ltF rfl rfl (by omega)) <|
       hnil
theorem lfOkGt2_1 {l : LF} {h : LH} (z : List (LB × LB)) (nm : LB) (x0 : 1 ≤ (getS nm z).length) (st : Nat × Int × List LB) (hI : InvGt2 z nm st) (hl : l.hp = some h) (hs : lfSame l h 25 keepGt2 (.exit 0) 3 145 185 = true) {th0 : LA} {sg0 : List (Nat × Nat)} (hth0 : ∀ X, ThOk (cx nu one 0 laidE laidE_stab) (DGt2 z nm st X) th0) (h0 : startOk l h 25 145 146 th0 sg0 (epGt2 st) (hpGt2 st) = true) {thx : LA} (hthx : ThOk (EGt2_1 z nm) (cx nu one 0 laidE laidE_stab) thx) (hx : exitOk l h 25 145 185 thx [(5, .sr 145)] [(84, .r 2000000 29 2 false), (145, .r 2000001 9 1 false)] = true) : LfOk (cx nu one 0 laidE laidE_stab) bodyGt2 l :=
  lfOkX (E := EGt2_1 z nm) (InvGt2 z nm) (muGt2 z nm) (DGt2 z nm) (fun _ _ => rfl) (fun _ _ => rfl) (fun _ _ => rfl) (fun st X t ht => nuX_keep.trans (rX_keep ((by decide : ∀ t, t ∈ keepGt2 → t < 1000000) t ht))) rfl rfl rfl hl hs ebGt2 rfl rfl st hI hth0 h0 hthx hx (roundsGt2_1 z nm x0)
noncomputable def bodyGt3 : Code := loopNo (Tryd.f6.body.getD .skip) 0
theorem keyGt3 : oneKey (loopsOf (Tryd.f6.body.getD .skip)) 3 0 0 = true := by kernel_rfl
def keepGt3 : List Nat := []
def epGt3_0 : LA := [(1, .x 0), (5, .nils), (8, .sr 84), (9, .x 1), (10, .x 2)]
def hpGt3_0 : LE := [(84, .r 2000000 29 2 false)]
def nuGt3_0 (z : List (LB × LB)) (nm : LB) (i : Int) (O : List LB) : List Value := [St' nm, .int .i64 ((z.length : Int)), .int .i64 (i), St' ((nthP z (Int.toNat (i))).1), St' ((nthP z (Int.toNat (i))).2), St' (lowS ((nthP z (Int.toNat (i))).1)), St' (lowS nm), .int .i64 (i + 1), St' ((nthP z (Int.toNat (i))).1), St' ((nthP z (Int.toNat (i))).2), St' (lowS ((nthP z (Int.toNat (i))).1)), St' (lowS nm), .int .i64 (i + 1)]
def roGt3_0 (z : List (LB × LB)) (nm : LB) (i : Int) (O : List LB) : List Value := [rwG prC z, rwS ([] : List LB), rwS (([] : List LB) ++ [(nthP z (Int.toNat (i))).2]), rwS ([] : List LB), rwS ([] : List LB)]
def epGt3_1 : LA := [(1, .x 0), (5, .sr 212), (8, .sr 84), (9, .x 1), (10, .x 2)]
def hpGt3_1 : LE := [(84, .r 2000000 29 2 false), (212, .r 2000001 9 1 false)]
def nuGt3_1 (z : List (LB × LB)) (nm : LB) (i : Int) (O : List LB) : List Value := [St' nm, .int .i64 ((z.length : Int)), .int .i64 (i), St' ((nthP z (Int.toNat (i))).1), St' ((nthP z (Int.toNat (i))).2), St' (lowS ((nthP z (Int.toNat (i))).1)), St' (lowS nm), .int .i64 (i + 1), St' ((nthP z (Int.toNat (i))).1), St' ((nthP z (Int.toNat (i))).2), St' (lowS ((nthP z (Int.toNat (i))).1)), St' (lowS nm), .int .i64 (i + 1)]
def roGt3_1 (z : List (LB × LB)) (nm : LB) (i : Int) (O : List LB) : List Value := [rwG prC z, rwS O, rwS ([] : List LB), rwS (O ++ [(nthP z (Int.toNat (i))).2]), rwS ([] : List LB), rwS ([] : List LB)]
def epGt3 (st : Nat × Int × List LB) : LA := if st.1 = 0 then epGt3_0 else epGt3_1
def hpGt3 (st : Nat × Int × List LB) : LE := if st.1 = 0 then hpGt3_0 else hpGt3_1
def nuGt3 (z : List (LB × LB)) (nm : LB) (st : Nat × Int × List LB) : List Value := if st.1 = 0 then nuGt3_0 z nm (st.2.1) (st.2.2) else nuGt3_1 z nm (st.2.1) (st.2.2)
def roGt3 (z : List (LB × LB)) (nm : LB) (st : Nat × Int × List LB) : List Value := if st.1 = 0 then roGt3_0 z nm (st.2.1) (st.2.2) else roGt3_1 z nm (st.2.1) (st.2.2)
theorem onGt3 (z : List (LB × LB)) (nm : LB) (st : Nat × Int × List LB) : ∀ j, (nuL (nuGt3 z nm st) j).oneCell' = true := by
  intro j
  unfold nuGt3
  by_cases g0 : st.1 = 0
  · rw [if_pos g0]; exact nuL_one (l := nuGt3_0 z nm (st.2.1) (st.2.2)) rfl j
  rw [if_neg g0]
  exact nuL_one (l := nuGt3_1 z nm (st.2.1) (st.2.2)) rfl j
theorem ebGt3 (st : Nat × Int × List LB) : (lfB (epGt3 st) && lfC keepGt3) = true := by
  unfold epGt3
  by_cases g0 : st.1 = 0
  · rw [if_pos g0]; rfl
  rw [if_neg g0]
  rfl
noncomputable def DGt3 (z : List (LB × LB)) (nm : LB) (st : Nat × Int × List LB) (X : Nat → Value) : Cx := cx (nuX (nuGt3 z nm st) (rX (roGt3 z nm st) X)) (nuX_one (onGt3 z nm st)) 0 laidE laidE_stab
def InvGt3 (z : List (LB × LB)) (nm : LB) (st : Nat × Int × List LB) : Prop := (0 ≤ (st.2.1)) ∧ ((st.2.1) ≤ (z.length : Int)) ∧ (z.length ≤ 1000) ∧ (∀ q, q ∈ z → prB q) ∧ (nm.length ≤ 140737488351232 ∧ ∀ q, q ∈ z → q.1.length ≤ 140737488351232) ∧ ((st.2.2) = getS nm (z.take (Int.toNat (st.2.1)))) ∧ ((st.1) = 0 → (st.2.2) = []) ∧ ((st.1) = 1 → 1 ≤ (st.2.2).length) ∧ ((st.1) < 2)
abbrev CjGt3 (z : List (LB × LB)) (nm : LB) (tag : Nat) (i : Int) (O : List LB) : Prop := (0 ≤ i) ∧ (i ≤ (z.length : Int)) ∧ (z.length ≤ 1000) ∧ (∀ q, q ∈ z → prB q) ∧ (nm.length ≤ 140737488351232 ∧ ∀ q, q ∈ z → q.1.length ≤ 140737488351232) ∧ (O = getS nm (z.take (Int.toNat i))) ∧ (tag = 0 → O = []) ∧ (tag = 1 → 1 ≤ O.length) ∧ (tag < 2)
theorem mkIGt3 (z : List (LB × LB)) (nm : LB) (tag : Nat) (i : Int) (O : List LB) (h : CjGt3 z nm tag i O) : InvGt3 z nm (tag, i, O) := h
theorem unIGt3 (z : List (LB × LB)) (nm : LB) (tag : Nat) (i : Int) (O : List LB) (h : InvGt3 z nm (tag, i, O)) : (0 ≤ i) ∧ (i ≤ (z.length : Int)) ∧ (z.length ≤ 1000) ∧ (∀ q, q ∈ z → prB q) ∧ (nm.length ≤ 140737488351232 ∧ ∀ q, q ∈ z → q.1.length ≤ 140737488351232) ∧ (O = getS nm (z.take (Int.toNat i))) ∧ (tag = 0 → O = []) ∧ (tag = 1 → 1 ≤ O.length) ∧ (tag < 2) := h
def muGt3 (z : List (LB × LB)) (nm : LB) (st : Nat × Int × List LB) : Nat := (z.length - (st.2.1).toNat)
abbrev RHGt3 (z : List (LB × LB)) (nm : LB) (E' : Cx) (ex' : Ex) (epx' : LA) (hpx' : LE) (st : Nat × Int × List LB) (X : Nat → Value) : Prop := RoundH E' bodyGt3 keepGt3 25 ex' 3 212 213 252 epGt3 hpGt3 epx' hpx' (InvGt3 z nm) (muGt3 z nm) (DGt3 z nm) st X
noncomputable abbrev RNGt3_0 (h : LK) (x : Ex) (th : LA) (sg : List (Nat × Nat)) (m : Nat) (ep : LA) (hp : LE) : Bool := okRdH (code (tbl h) 3000 [] bodyGt3 (envOf (headOf epGt3_0 keepGt3) 25) ⟨lhSet hpGt3_0 .leaf, 213, 0, 0⟩) x keepGt3 25 252 th sg 212 m ep hp
theorem stGt3_0 (z : List (LB × LB)) (nm : LB) (i : Int) (O : List LB) {X : Nat → Value} {h : LK} (y : Nat × Int × List LB) {th : LA} {sg : List (Nat × Nat)} (ho : ∀ a' r', (a', r') ∈ h → HOk (cx (nuX (nuGt3_0 z nm i O) (rX (roGt3_0 z nm i O) X)) (nuX_one (nuL_one (l := nuGt3_0 z nm i O) rfl)) 0 laidE laidE_stab) a' r') (hy : InvGt3 z nm y) (lt : muGt3 z nm y < muGt3 z nm (0, i, O)) (ht : ThOk (cx (nuX (nuGt3_0 z nm i O) (rX (roGt3_0 z nm i O) X)) (nuX_one (nuL_one (l := nuGt3_0 z nm i O) rfl)) 0 laidE laidE_stab) (DGt3 z nm y X) th) (run : RNGt3_0 h .normal th sg 213 (epGt3 y) (hpGt3 y) = true) : RHGt3 z nm E' x' e' h' (0, i, O) X :=
  RoundH.next (tb := tbl h) (L := []) (f := 3000) y ((tabkOk _ _).hyps ho) (LpOk.nil _) rfl hy lt ht run
theorem lvGt3_0 (z : List (LB × LB)) (nm : LB) (i : Int) (O : List LB) {X : Nat → Value} {h : LK} {th : LA} {sg : List (Nat × Nat)} (hne : exB x' .normal = false) (ho : ∀ a' r', (a', r') ∈ h → HOk (cx (nuX (nuGt3_0 z nm i O) (rX (roGt3_0 z nm i O) X)) (nuX_one (nuL_one (l := nuGt3_0 z nm i O) rfl)) 0 laidE laidE_stab) a' r') (ht : ThOk (cx (nuX (nuGt3_0 z nm i O) (rX (roGt3_0 z nm i O) X)) (nuX_one (nuL_one (l := nuGt3_0 z nm i O) rfl)) 0 laidE laidE_stab) E' th) (run : RNGt3_0 h x' th sg 252 e' h' = true) : RHGt3 z nm E' x' e' h' (0, i, O) X :=
  RoundH.leave (tb := tbl h) (L := []) (f := 3000) ((tabkOk _ _).hyps ho) (LpOk.nil _) rfl hne ht run
noncomputable abbrev RNGt3_1 (h : LK) (x : Ex) (th : LA) (sg : List (Nat × Nat)) (m : Nat) (ep : LA) (hp : LE) : Bool := okRdH (code (tbl h) 3000 [] bodyGt3 (envOf (headOf epGt3_1 keepGt3) 25) ⟨lhSet hpGt3_1 .leaf, 213, 0, 0⟩) x keepGt3 25 252 th sg 212 m ep hp
theorem stGt3_1 (z : List (LB × LB)) (nm : LB) (i : Int) (O : List LB) {X : Nat → Value} {h : LK} (y : Nat × Int × List LB) {th : LA} {sg : List (Nat × Nat)} (ho : ∀ a' r', (a', r') ∈ h → HOk (cx (nuX (nuGt3_1 z nm i O) (rX (roGt3_1 z nm i O) X)) (nuX_one (nuL_one (l := nuGt3_1 z nm i O) rfl)) 0 laidE laidE_stab) a' r') (hy : InvGt3 z nm y) (lt : muGt3 z nm y < muGt3 z nm (1, i, O)) (ht : ThOk (cx (nuX (nuGt3_1 z nm i O) (rX (roGt3_1 z nm i O) X)) (nuX_one (nuL_one (l := nuGt3_1 z nm i O) rfl)) 0 laidE laidE_stab) (DGt3 z nm y X) th) (run : RNGt3_1 h .normal th sg 213 (epGt3 y) (hpGt3 y) = true) : RHGt3 z nm E' x' e' h' (1, i, O) X :=
  RoundH.next (tb := tbl h) (L := []) (f := 3000) y ((tabkOk _ _).hyps ho) (LpOk.nil _) rfl hy lt ht run
theorem lvGt3_1 (z : List (LB × LB)) (nm : LB) (i : Int) (O : List LB) {X : Nat → Value} {h : LK} {th : LA} {sg : List (Nat × Nat)} (hne : exB x' .normal = false) (ho : ∀ a' r', (a', r') ∈ h → HOk (cx (nuX (nuGt3_1 z nm i O) (rX (roGt3_1 z nm i O) X)) (nuX_one (nuL_one (l := nuGt3_1 z nm i O) rfl)) 0 laidE laidE_stab) a' r') (ht : ThOk (cx (nuX (nuGt3_1 z nm i O) (rX (roGt3_1 z nm i O) X)) (nuX_one (nuL_one (l := nuGt3_1 z nm i O) rfl)) 0 laidE laidE_stab) E' th) (run : RNGt3_1 h x' th sg 252 e' h' = true) : RHGt3 z nm E' x' e' h' (1, i, O) X :=
  RoundH.leave (tb := tbl h) (L := []) (f := 3000) ((tabkOk _ _).hyps ho) (LpOk.nil _) rfl hne ht run
def hyGt3_p0 : LK := [(.rn, .x 2000001), (.bin .lss (.x 2) (.x 1), .b true), (.el (.x 2000000) (.x 2) 2 0, .x 3), (.el (.x 2000000) (.x 2) 2 1, .x 4), (.call 23 [.x 3], .x 5), (.call 23 [.x 0], .x 6), (.bin .eql (.x 5) (.x 6), .b true), (.ra (.x 2000001) [.x 4], .x 2000002), (.rf (.x 2000002) 1 16, .b true), (.bin .add (.x 2) (.i .i64 (.ofNat 1)), .x 7)]
theorem runGt3_p0 : RNGt3_0 hyGt3_p0 .normal [(0, .x 0), (1, .x 1), (2, .x 7), (2000000, .x 2000000), (2000001, .x 2000002)] [(212, 215)] 213 epGt3_1 hpGt3_1 = true := by kernel_rfl
theorem nxGt3_p0 (z : List (LB × LB)) (nm : LB) (i : Int) (O : List LB) (X : Nat → Value) (hI : InvGt3 z nm (0, i, O)) (h0 : i < (z.length : Int)) (h1 : (lowS ((nthP z (Int.toNat (i))).1)) = (lowS nm)) : RHGt3 z nm E' x' e' h' (0, i, O) X := by
  obtain ⟨i0, i1, i2, i3, i4, i5, i6, i7, it⟩ := unIGt3 z nm 0 i O hI
  have hnm := nmAt i4.2 (Int.toNat i)
  have hO := congrArg List.length i5
  have hO2 := getS_len nm (z.take (Int.toNat i))
  have hO3 : (z.take (Int.toNat i)).length ≤ z.length := by rw [List.length_take]; omega
  have := prAt (l := z) (by assumption) (Int.toNat (i))
  have : (lowS ((nthP z (Int.toNat (i))).1)).length = ((nthP z (Int.toNat (i))).1).length := List.length_map ..
  have : (lowS nm).length = nm.length := List.length_map ..
  refine stGt3_0 z nm i O (h := hyGt3_p0) (1, i + 1, (([] : List LB) ++ [(nthP z (Int.toNat (i))).2])) ?_ (mkIGt3 z nm 1 (i + 1) (([] : List LB) ++ [(nthP z (Int.toNat (i))).2]) ⟨by omega, by omega, i2, i3, i4, by rw [getS_y (by omega) (by omega) (by assumption), ← i5, i6 (by omega)], fun h => by omega, fun _ => by simp, by omega⟩) (by show z.length - (i + 1).toNat < z.length - i.toNat; omega) (thXv (v := St' nm) rfl rfl (thXv (v := .int .i64 ((z.length : Int))) rfl rfl (thXi (b := ((i + 1))) rfl rfl (by omega) (thXv (v := rwG prC z) rfl rfl (thXv (v := rwS (([] : List LB) ++ [(nthP z (Int.toNat (i))).2])) rfl rfl (thNil)))))) runGt3_p0
  unfold hyGt3_p0
  exact hc (kRn (denX rfl)) <|
   hc (ltT rfl rfl (by omega)) <|
   hc (kElG (j := (Int.toNat (i))) (d := ([], [])) prC_len (by decide) (isX rfl) (isX rfl) (denX rfl) (by omega) (by omega) rfl) <|
   hc (kElG (j := (Int.toNat (i))) (d := ([], [])) prC_len (by decide) (isX rfl) (isX rfl) (denX rfl) (by omega) (by omega) rfl) <|
   hc (hokLower (s := (nthP z (Int.toNat (i))).1) (isX rfl) (denX rfl) (by omega) (by omega)) <|
   hc (hokLower (s := nm) (isX rfl) (denX rfl) (by omega) (by omega)) <|
   hc (kEqS (isX rfl) (isX rfl) (by first | exact decide_eq_true rfl | exact decide_eq_true ‹_› | exact decide_eq_false ‹_›)) <|
   hc (kRa (isX rfl) (isX rfl) (denX rfl)) <|
   hc (kRf (isX rfl) (by first | omega | (simp <;> omega)) (by first | omega | (simp <;> omega))) <|
   hc (adC rfl rfl (by omega)) <|
   hnil
def hyGt3_p1 : LK := [(.rn, .x 2000003), (.bin .lss (.x 2) (.x 1), .b false)]
theorem runGt3_p1 : RNGt3_0 hyGt3_p1 (.exit 0) [(2000000, .x 2000000)] [] 252 [(5, .nils)] [(84, .r 2000000 29 2 false)] = true := by kernel_rfl
def hyGt3_p2 : LK := [(.rn, .x 2000004), (.bin .lss (.x 2) (.x 1), .b true), (.el (.x 2000000) (.x 2) 2 0, .x 8), (.el (.x 2000000) (.x 2) 2 1, .x 9), (.call 23 [.x 8], .x 10), (.call 23 [.x 0], .x 11), (.bin .eql (.x 10) (.x 11), .b false), (.bin .add (.x 2) (.i .i64 (.ofNat 1)), .x 12)]
theorem runGt3_p2 : RNGt3_0 hyGt3_p2 .normal [(0, .x 0), (1, .x 1), (2, .x 12), (2000000, .x 2000000)] [] 213 epGt3_0 hpGt3_0 = true := by kernel_rfl
theorem nxGt3_p2 (z : List (LB × LB)) (nm : LB) (i : Int) (O : List LB) (X : Nat → Value) (hI : InvGt3 z nm (0, i, O)) (h0 : i < (z.length : Int)) (h1 : ¬ ((lowS ((nthP z (Int.toNat (i))).1)) = (lowS nm))) : RHGt3 z nm E' x' e' h' (0, i, O) X := by
  obtain ⟨i0, i1, i2, i3, i4, i5, i6, i7, it⟩ := unIGt3 z nm 0 i O hI
  have hnm := nmAt i4.2 (Int.toNat i)
  have hO := congrArg List.length i5
  have hO2 := getS_len nm (z.take (Int.toNat i))
  have hO3 : (z.take (Int.toNat i)).length ≤ z.length := by rw [List.length_take]; omega
  have := prAt (l := z) (by assumption) (Int.toNat (i))
  have : (lowS ((nthP z (Int.toNat (i))).1)).length = ((nthP z (Int.toNat (i))).1).length := List.length_map ..
  have : (lowS nm).length = nm.length := List.length_map ..
  refine stGt3_0 z nm i O (h := hyGt3_p2) (0, i + 1, ([] : List LB)) ?_ (mkIGt3 z nm 0 (i + 1) ([] : List LB) ⟨by omega, by omega, i2, i3, i4, by rw [getS_n (by omega) (by omega) (by assumption)]; exact (i6 (by omega)).symm.trans i5, fun _ => rfl, fun h => by omega, by omega⟩) (by show z.length - (i + 1).toNat < z.length - i.toNat; omega) (thXv (v := St' nm) rfl rfl (thXv (v := .int .i64 ((z.length : Int))) rfl rfl (thXi (b := ((i + 1))) rfl rfl (by omega) (thXv (v := rwG prC z) rfl rfl (thNil))))) runGt3_p2
  unfold hyGt3_p2
  exact hc (kRn (denX rfl)) <|
   hc (ltT rfl rfl (by omega)) <|
   hc (kElG (j := (Int.toNat (i))) (d := ([], [])) prC_len (by decide) (isX rfl) (isX rfl) (denX rfl) (by omega) (by omega) rfl) <|
   hc (kElG (j := (Int.toNat (i))) (d := ([], [])) prC_len (by decide) (isX rfl) (isX rfl) (denX rfl) (by omega) (by omega) rfl) <|
   hc (hokLower (s := (nthP z (Int.toNat (i))).1) (isX rfl) (denX rfl) (by omega) (by omega)) <|
   hc (hokLower (s := nm) (isX rfl) (denX rfl) (by omega) (by omega)) <|
   hc (kEqS (isX rfl) (isX rfl) (by first | exact decide_eq_true rfl | exact decide_eq_true ‹_› | exact decide_eq_false ‹_›)) <|
   hc (adC rfl rfl (by omega)) <|
   hnil
def hyGt3_p3 : LK := [(.rn, .x 2000002), (.bin .lss (.x 2) (.x 1), .b true), (.el (.x 2000000) (.x 2) 2 0, .x 3), (.el (.x 2000000) (.x 2) 2 1, .x 4), (.call 23 [.x 3], .x 5), (.call 23 [.x 0], .x 6), (.bin .eql (.x 5) (.x 6), .b true), (.ra (.x 2000001) [.x 4], .x 2000003), (.rf (.x 2000003) 1 16, .b true), (.bin .add (.x 2) (.i .i64 (.ofNat 1)), .x 7)]
theorem runGt3_p3 : RNGt3_1 hyGt3_p3 .normal [(0, .x 0), (1, .x 1), (2, .x 7), (2000000, .x 2000000), (2000001, .x 2000003)] [(212, 215)] 213 epGt3_1 hpGt3_1 = true := by kernel_rfl
theorem nxGt3_p3 (z : List (LB × LB)) (nm : LB) (i : Int) (O : List LB) (X : Nat → Value) (hI : InvGt3 z nm (1, i, O)) (h0 : i < (z.length : Int)) (h1 : (lowS ((nthP z (Int.toNat (i))).1)) = (lowS nm)) : RHGt3 z nm E' x' e' h' (1, i, O) X := by
  obtain ⟨i0, i1, i2, i3, i4, i5, i6, i7, it⟩ := unIGt3 z nm 1 i O hI
  have hnm := nmAt i4.2 (Int.toNat i)
  have hO := congrArg List.length i5
  have hO2 := getS_len nm (z.take (Int.toNat i))
  have hO3 : (z.take (Int.toNat i)).length ≤ z.length := by rw [List.length_take]; omega
  have := prAt (l := z) (by assumption) (Int.toNat (i))
  have : (lowS ((nthP z (Int.toNat (i))).1)).length = ((nthP z (Int.toNat (i))).1).length := List.length_map ..
  have : (lowS nm).length = nm.length := List.length_map ..
  refine stGt3_1 z nm i O (h := hyGt3_p3) (1, i + 1, (O ++ [(nthP z (Int.toNat (i))).2])) ?_ (mkIGt3 z nm 1 (i + 1) (O ++ [(nthP z (Int.toNat (i))).2]) ⟨by omega, by omega, i2, i3, i4, by rw [getS_y (by omega) (by omega) (by assumption), ← i5], fun h => by omega, fun _ => by simp, by omega⟩) (by show z.length - (i + 1).toNat < z.length - i.toNat; omega) (thXv (v := St' nm) rfl rfl (thXv (v := .int .i64 ((z.length : Int))) rfl rfl (thXi (b := ((i + 1))) rfl rfl (by omega) (thXv (v := rwG prC z) rfl rfl (thXv (v := rwS (O ++ [(nthP z (Int.toNat (i))).2])) rfl rfl (thNil)))))) runGt3_p3
  unfold hyGt3_p3
  exact hc (kRn (denX rfl)) <|
   hc (ltT rfl rfl (by omega)) <|
   hc (kElG (j := (Int.toNat (i))) (d := ([], [])) prC_len (by decide) (isX rfl) (isX rfl) (denX rfl) (by omega) (by omega) rfl) <|
   hc (kElG (j := (Int.toNat (i))) (d := ([], [])) prC_len (by decide) (isX rfl) (isX rfl) (denX rfl) (by omega) (by omega) rfl) <|
   hc (hokLower (s := (nthP z (Int.toNat (i))).1) (isX rfl) (denX rfl) (by omega) (by omega)) <|
   hc (hokLower (s := nm) (isX rfl) (denX rfl) (by omega) (by omega)) <|
   hc (kEqS (isX rfl) (isX rfl) (by first | exact decide_eq_true rfl | exact decide_eq_true ‹_› | exact decide_eq_false ‹_›)) <|
   hc (kRa (isX rfl) (isX rfl) (denX rfl)) <|
   hc (kRf (isX rfl) (by first | omega | (simp <;> omega)) (by first | omega | (simp <;> omega))) <|
   hc (adC rfl rfl (by omega)) <|
   hnil
def hyGt3_p4 : LK := [(.rn, .x 2000004), (.bin .lss (.x 2) (.x 1), .b false)]
theorem runGt3_p4 : RNGt3_1 hyGt3_p4 (.exit 0) [(2000000, .x 2000000), (2000001, .x 2000001)] [(212, 212)] 252 [(5, .sr 212)] [(84, .r 2000000 29 2 false), (212, .r 2000001 9 1 false)] = true := by kernel_rfl
def hyGt3_p5 : LK := [(.rn, .x 2000005), (.bin .lss (.x 2) (.x 1), .b true), (.el (.x 2000000) (.x 2) 2 0, .x 8), (.el (.x 2000000) (.x 2) 2 1, .x 9), (.call 23 [.x 8], .x 10), (.call 23 [.x 0], .x 11), (.bin .eql (.x 10) (.x 11), .b false), (.bin .add (.x 2) (.i .i64 (.ofNat 1)), .x 12)]
theorem runGt3_p5 : RNGt3_1 hyGt3_p5 .normal [(0, .x 0), (1, .x 1), (2, .x 12), (2000000, .x 2000000), (2000001, .x 2000001)] [(212, 212)] 213 epGt3_1 hpGt3_1 = true := by kernel_rfl
theorem nxGt3_p5 (z : List (LB × LB)) (nm : LB) (i : Int) (O : List LB) (X : Nat → Value) (hI : InvGt3 z nm (1, i, O)) (h0 : i < (z.length : Int)) (h1 : ¬ ((lowS ((nthP z (Int.toNat (i))).1)) = (lowS nm))) : RHGt3 z nm E' x' e' h' (1, i, O) X := by
  obtain ⟨i0, i1, i2, i3, i4, i5, i6, i7, it⟩ := unIGt3 z nm 1 i O hI
  have hnm := nmAt i4.2 (Int.toNat i)
  have hO := congrArg List.length i5
  have hO2 := getS_len nm (z.take (Int.toNat i))
  have hO3 : (z.take (Int.toNat i)).length ≤ z.length := by rw [List.length_take]; omega
  have := prAt (l := z) (by assumption) (Int.toNat (i))
  have : (lowS ((nthP z (Int.toNat (i))).1)).length = ((nthP z (Int.toNat (i))).1).length := List.length_map ..
  have : (lowS nm).length = nm.length := List.length_map ..
  refine stGt3_1 z nm i O (h := hyGt3_p5) (1, i + 1, O) ?_ (mkIGt3 z nm 1 (i + 1) O ⟨by omega, by omega, i2, i3, i4, by rw [getS_n (by omega) (by omega) (by assumption)]; exact i5, fun h => by omega, i7, by omega⟩) (by show z.length - (i + 1).toNat < z.length - i.toNat; omega) (thXv (v := St' nm) rfl rfl (thXv (v := .int .i64 ((z.length : Int))) rfl rfl (thXi (b := ((i + 1))) rfl rfl (by omega) (thXv (v := rwG prC z) rfl rfl (thXv (v := rwS O) rfl rfl (thNil)))))) runGt3_p5
  unfold hyGt3_p5
  exact hc (kRn (denX rfl)) <|
   hc (ltT rfl rfl (by omega)) <|
   hc (kElG (j := (Int.toNat (i))) (d := ([], [])) prC_len (by decide) (isX rfl) (isX rfl) (denX rfl) (by omega) (by omega) rfl) <|
   hc (kElG (j := (Int.toNat (i))) (d := ([], [])) prC_len (by decide) (isX rfl) (isX rfl) (denX rfl) (by omega) (by omega) rfl) <|
   hc (hokLower (s := (nthP z (Int.toNat (i))).1) (isX rfl) (denX rfl) (by omega) (by omega)) <|
   hc (hokLower (s := nm) (isX rfl) (denX rfl) (by omega) (by omega)) <|
   hc (kEqS (isX rfl) (isX rfl) (by first | exact decide_eq_true rfl | exact decide_eq_true ‹_› | exact decide_eq_false ‹_›)) <|
   hc (adC rfl rfl (by omega)) <|
   hnil
def nuEGt3_0 (z : List (LB × LB)) (nm : LB) : List Value := []
def roEGt3_0 (z : List (LB × LB)) (nm : LB) : List Value := [rwG prC z]
noncomputable def EGt3_0 (z : List (LB × LB)) (nm : LB) : Cx := cx (nuX (nuEGt3_0 z nm) (rX (roEGt3_0 z nm) (fun _ => .bool true))) (nuX_one (nuL_one (l := nuEGt3_0 z nm) rfl)) 0 laidE laidE_stab
theorem roundsGt3_0 (z : List (LB × LB)) (nm : LB) (x0 : getS nm z = []) (st : Nat × Int × List LB) (X : Nat → Value) (hI : InvGt3 z nm st) : RHGt3 z nm (EGt3_0 z nm) (.exit 0) [(5, .nils)] [(84, .r 2000000 29 2 false)] st X := by
  obtain ⟨tag, i, O⟩ := st
  have hI0 := hI
  obtain ⟨i0, i1, i2, i3, i4, i5, i6, i7, it⟩ := unIGt3 z nm tag i O hI
  rcases (show tag = 0 ∨ tag = 1 from by omega) with rfl | rfl
  · skip
    by_cases h0 : i < (z.length : Int)
    · by_cases h1 : (lowS ((nthP z (Int.toNat (i))).1)) = (lowS nm)
      · exact nxGt3_p0 z nm i O X hI0 h0 h1
      · exact nxGt3_p2 z nm i O X hI0 h0 h1
    · skip
      have hdx := getS_x (nm := nm) (z := z) (i := i) (by omega) (by omega)
      refine lvGt3_0 z nm i O (h := hyGt3_p1) rfl ?_ (thXv (v := rwG prC z) rfl rfl (thNil)) runGt3_p1
      unfold hyGt3_p1
      exact hc (kRn (denX rfl)) <|
       hc (ltF rfl rfl (by omega)) <|
       hnil
  · skip
    by_cases h0 : i < (z.length : Int)
    · by_cases h1 : (lowS ((nthP z (Int.toNat (i))).1)) = (lowS nm)
      · exact nxGt3_p3 z nm i O X hI0 h0 h1
      · exact nxGt3_p5 z nm i O X hI0 h0 h1
    · exfalso; have hdx := getS_x (nm := nm) (z := z) (i := i) (by omega) (by omega); have hL := i7 (by omega); rw [i5, hdx, x0] at hL; simp at hL
theorem lfOkGt3_0 {l : LF} {h : LH} (z : List (LB × LB)) (nm : LB) (x0 : getS nm z = []) (st : Nat × Int × List LB) (hI : InvGt3 z nm st) (hl : l.hp = some h) (hs : lfSame l h 25 keepGt3 (.exit 0) 3 212 252 = true) {th0 : LA} {sg0 : List (Nat × Nat)} (hth0 : ∀ X, ThOk (cx nu one 0 laidE laidE_stab) (DGt3 z nm st X) th0) (h0 : startOk l h 25 212 213 th0 sg0 (epGt3 st) (hpGt3 st) = true) {thx : LA} (hthx : ThOk (EGt3_0 z nm) (cx nu one 0 laidE laidE_stab) thx) (hx : exitOk l h 25 212 252 thx [(5, .nils)] [(84, .r 2000000 29 2 false)] = true) : LfOk (cx nu one 0 laidE laidE_stab) bodyGt3 l :=
  lfOkX (E := EGt3_0 z nm) (InvGt3 z nm) (muGt3 z nm) (DGt3 z nm) (fun _ _ => rfl) (fun _ _ => rfl) (fun _ _ => rfl) (fun st X t ht => nuX_keep.trans (rX_keep ((by decide : ∀ t, t ∈ keepGt3 → t < 1000000) t ht))) rfl rfl rfl hl hs ebGt3 rfl rfl st hI hth0 h0 hthx hx (roundsGt3_0 z nm x0)
def nuEGt3_1 (z : List (LB × LB)) (nm : LB) : List Value := []
def roEGt3_1 (z : List (LB × LB)) (nm : LB) : List Value := [rwG prC z, rwS (getS nm z)]
noncomputable def EGt3_1 (z : List (LB × LB)) (nm : LB) : Cx := cx (nuX (nuEGt3_1 z nm) (rX (roEGt3_1 z nm) (fun _ => .bool true))) (nuX_one (nuL_one (l := nuEGt3_1 z nm) rfl)) 0 laidE laidE_stab
theorem roundsGt3_1 (z : List (LB × LB)) (nm : LB) (x0 : 1 ≤ (getS nm z).length) (st : Nat × Int × List LB) (X : Nat → Value) (hI : InvGt3 z nm st) : RHGt3 z nm (EGt3_1 z nm) (.exit 0) [(5, .sr 212)] [(84, .r 2000000 29 2 false), (212, .r 2000001 9 1 false)] st X := by
  obtain ⟨tag, i, O⟩ := st
  have hI0 := hI
  obtain ⟨i0, i1, i2, i3, i4, i5, i6, i7, it⟩ := unIGt3 z nm tag i O hI
  rcases (show tag = 0 ∨ tag = 1 from by omega) with rfl | rfl
  · skip
    by_cases h0 : i < (z.length : Int)
    · by_cases h1 : (lowS ((nthP z (Int.toNat (i))).1)) = (lowS nm)
      · exact nxGt3_p0 z nm i O X hI0 h0 h1
      · exact nxGt3_p2 z nm i O X hI0 h0 h1
    · exfalso; have hdx := getS_x (nm := nm) (z := z) (i := i) (by omega) (by omega); have hO := i6 (by omega); rw [hO, hdx] at i5; rw [← i5] at x0; simp at x0
  · skip
    by_cases h0 : i < (z.length : Int)
    · by_cases h1 : (lowS ((nthP z (Int.toNat (i))).1)) = (lowS nm)
      · exact nxGt3_p3 z nm i O X hI0 h0 h1
      · exact nxGt3_p5 z nm i O X hI0 h0 h1
    · skip
      have hdx := getS_x (nm := nm) (z := z) (i := i) (by omega) (by omega)
      refine lvGt3_1 z nm i O (h := hyGt3_p4) rfl ?_ (thXv (v := rwG prC z) rfl rfl (thXe (v := rwS O) (u := rwS (getS nm z)) rfl rfl (congrArg (rwS) (i5.trans hdx)) (thNil))) runGt3_p4
      unfold hyGt3_p4
      exact hc (kRn (denX rfl)) <|
       hc (ltF rfl rfl (by omega)) <|
       hnil
theorem lfOkGt3_1 {l : LF} {h : LH} (z : List (LB × LB)) (nm : LB) (x0 : 1 ≤ (getS nm z).length) (st : Nat × Int × List LB) (hI : InvGt3 z nm st) (hl : l.hp = some h) (hs : lfSame l h 25 keepGt3 (.exit 0) 3 212 252 = true) {th0 : LA} {sg0 : List (Nat × Nat)} (hth0 : ∀ X, ThOk (cx nu one 0 laidE laidE_stab) (DGt3 z nm st X) th0) (h0 : startOk l h 25 212 213 th0 sg0 (epGt3 st) (hpGt3 st) = true) {thx : LA} (hthx : ThOk (EGt3_1 z nm) (cx nu one 0 laidE laidE_stab) thx) (hx : exitOk l h 25 212 252 thx [(5, .sr 212)] [(84, .r 2000000 29 2 false), (212, .r 2000001 9 1 false)] = true) : LfOk (cx nu one 0 laidE laidE_stab) bodyGt3 l :=
  lfOkX (E := EGt3_1 z nm) (InvGt3 z nm) (muGt3 z nm) (DGt3 z nm) (fun _ _ => rfl) (fun _ _ => rfl) (fun _ _ => rfl) (fun st X t ht => nuX_keep.trans (rX_keep ((by decide : ∀ t, t ∈ keepGt3 → t < 1000000) t ht))) rfl rfl rfl hl hs ebGt3 rfl rfl st hI hth0 h0 hthx hx (roundsGt3_1 z nm x0)
noncomputable def bodyDr4 : Code := loopNo (Tryd.f5.body.getD .skip) 0
theorem keyDr4 : oneKey (loopsOf (Tryd.f5.body.getD .skip)) 3 0 0 = true := by kernel_rfl
def keepDr4 : List Nat := []
def epDr4_0 : LA := [(1, .x 0), (5, .nils), (8, .sr 84), (9, .x 1), (10, .x 2)]
def hpDr4_0 : LE := [(84, .r 2000000 29 2 false)]
def nuDr4_0 (z : List (LB × LB)) (nm : LB) (i : Int) (O : List (LB × LB)) : List Value := [St' nm, .int .i64 ((z.length : Int)), .int .i64 (i), St' ((nthP z (Int.toNat (i))).1), St' ((nthP z (Int.toNat (i))).2), St' (lowS ((nthP z (Int.toNat (i))).1)), St' (lowS nm), .int .i64 (i + 1), St' ((nthP z (Int.toNat (i))).1), St' ((nthP z (Int.toNat (i))).2), St' (lowS ((nthP z (Int.toNat (i))).1)), St' (lowS nm), .int .i64 (i + 1)]
def roDr4_0 (z : List (LB × LB)) (nm : LB) (i : Int) (O : List (LB × LB)) : List Value := [rwG prC z, rwS ([] : List LB), rwS ([] : List LB), rwS ([] : List LB), rwG prC (([] : List (LB × LB)) ++ [((nthP z (Int.toNat (i))).1, (nthP z (Int.toNat (i))).2)])]
def epDr4_1 : LA := [(1, .x 0), (5, .sr 279), (8, .sr 84), (9, .x 1), (10, .x 2)]
def hpDr4_1 : LE := [(84, .r 2000000 29 2 false), (279, .r 2000001 29 2 false)]
def nuDr4_1 (z : List (LB × LB)) (nm : LB) (i : Int) (O : List (LB × LB)) : List Value := [St' nm, .int .i64 ((z.length : Int)), .int .i64 (i), St' ((nthP z (Int.toNat (i))).1), St' ((nthP z (Int.toNat (i))).2), St' (lowS ((nthP z (Int.toNat (i))).1)), St' (lowS nm), .int .i64 (i + 1), St' ((nthP z (Int.toNat (i))).1), St' ((nthP z (Int.toNat (i))).2), St' (lowS ((nthP z (Int.toNat (i))).1)), St' (lowS nm), .int .i64 (i + 1)]
def roDr4_1 (z : List (LB × LB)) (nm : LB) (i : Int) (O : List (LB × LB)) : List Value := [rwG prC z, rwG prC O, rwS ([] : List LB), rwS ([] : List LB), rwS ([] : List LB), rwG prC (O ++ [((nthP z (Int.toNat (i))).1, (nthP z (Int.toNat (i))).2)])]
def epDr4 (st : Nat × Int × List (LB × LB)) : LA := if st.1 = 0 then epDr4_0 else epDr4_1
def hpDr4 (st : Nat × Int × List (LB × LB)) : LE := if st.1 = 0 then hpDr4_0 else hpDr4_1
def nuDr4 (z : List (LB × LB)) (nm : LB) (st : Nat × Int × List (LB × LB)) : List Value := if st.1 = 0 then nuDr4_0 z nm (st.2.1) (st.2.2) else nuDr4_1 z nm (st.2.1) (st.2.2)
def roDr4 (z : List (LB × LB)) (nm : LB) (st : Nat × Int × List (LB × LB)) : List Value := if st.1 = 0 then roDr4_0 z nm (st.2.1) (st.2.2) else roDr4_1 z nm (st.2.1) (st.2.2)
theorem onDr4 (z : List (LB × LB)) (nm : LB) (st : Nat × Int × List (LB × LB)) : ∀ j, (nuL (nuDr4 z nm st) j).oneCell' = true := by
  intro j
  unfold nuDr4
  by_cases g0 : st.1 = 0
  · rw [if_pos g0]; exact nuL_one (l := nuDr4_0 z nm (st.2.1) (st.2.2)) rfl j
  rw [if_neg g0]
  exact nuL_one (l := nuDr4_1 z nm (st.2.1) (st.2.2)) rfl j
theorem ebDr4 (st : Nat × Int × List (LB × LB)) : (lfB (epDr4 st) && lfC keepDr4) = true := by
  unfold epDr4
  by_cases g0 : st.1 = 0
  · rw [if_pos g0]; rfl
  rw [if_neg g0]
  rfl
noncomputable def DDr4 (z : List (LB × LB)) (nm : LB) (st : Nat × Int × List (LB × LB)) (X : Nat → Value) : Cx := cx (nuX (nuDr4 z nm st) (rX (roDr4 z nm st) X)) (nuX_one (onDr4 z nm st)) 0 laidE laidE_stab
def InvDr4 (z : List (LB × LB)) (nm : LB) (st : Nat × Int × List (LB × LB)) : Prop := (0 ≤ (st.2.1)) ∧ ((st.2.1) ≤ (z.length : Int)) ∧ (z.length ≤ 1000) ∧ (∀ q, q ∈ z → prB q) ∧ (nm.length ≤ 140737488351232 ∧ ∀ q, q ∈ z → q.1.length ≤ 140737488351232) ∧ ((st.2.2) = dropS nm (z.take (Int.toNat (st.2.1)))) ∧ ((st.1) = 0 → (st.2.2) = []) ∧ ((st.1) = 1 → 1 ≤ (st.2.2).length) ∧ ((st.1) < 2)
abbrev CjDr4 (z : List (LB × LB)) (nm : LB) (tag : Nat) (i : Int) (O : List (LB × LB)) : Prop := (0 ≤ i) ∧ (i ≤ (z.length : Int)) ∧ (z.length ≤ 1000) ∧ (∀ q, q ∈ z → prB q) ∧ (nm.length ≤ 140737488351232 ∧ ∀ q, q ∈ z → q.1.length ≤ 140737488351232) ∧ (O = dropS nm (z.take (Int.toNat i))) ∧ (tag = 0 → O = []) ∧ (tag = 1 → 1 ≤ O.length) ∧ (tag < 2)
theorem mkIDr4 (z : List (LB × LB)) (nm : LB) (tag : Nat) (i : Int) (O : List (LB × LB)) (h : CjDr4 z nm tag i O) : InvDr4 z nm (tag, i, O) := h
theorem unIDr4 (z : List (LB × LB)) (nm : LB) (tag : Nat) (i : Int) (O : List (LB × LB)) (h : InvDr4 z nm (tag, i, O)) : (0 ≤ i) ∧ (i ≤ (z.length : Int)) ∧ (z.length ≤ 1000) ∧ (∀ q, q ∈ z → prB q) ∧ (nm.length ≤ 140737488351232 ∧ ∀ q, q ∈ z → q.1.length ≤ 140737488351232) ∧ (O = dropS nm (z.take (Int.toNat i))) ∧ (tag = 0 → O = []) ∧ (tag = 1 → 1 ≤ O.length) ∧ (tag < 2) := h
def muDr4 (z : List (LB × LB)) (nm : LB) (st : Nat × Int × List (LB × LB)) : Nat := (z.length - (st.2.1).toNat)
abbrev RHDr4 (z : List (LB × LB)) (nm : LB) (E' : Cx) (ex' : Ex) (epx' : LA) (hpx' : LE) (st : Nat × Int × List (LB × LB)) (X : Nat → Value) : Prop := RoundH E' bodyDr4 keepDr4 25 ex' 3 279 280 319 epDr4 hpDr4 epx' hpx' (InvDr4 z nm) (muDr4 z nm) (DDr4 z nm) st X
noncomputable abbrev RNDr4_0 (h : LK) (x : Ex) (th : LA) (sg : List (Nat × Nat)) (m : Nat) (ep : LA) (hp : LE) : Bool := okRdH (code (tbl h) 3000 [] bodyDr4 (envOf (headOf epDr4_0 keepDr4) 25) ⟨lhSet hpDr4_0 .leaf, 280, 0, 0⟩) x keepDr4 25 319 th sg 279 m ep hp
theorem stDr4_0 (z : List (LB × LB)) (nm : LB) (i : Int) (O : List (LB × LB)) {X : Nat → Value} {h : LK} (y : Nat × Int × List (LB × LB)) {th : LA} {sg : List (Nat × Nat)} (ho : ∀ a' r', (a', r') ∈ h → HOk (cx (nuX (nuDr4_0 z nm i O) (rX (roDr4_0 z nm i O) X)) (nuX_one (nuL_one (l := nuDr4_0 z nm i O) rfl)) 0 laidE laidE_stab) a' r') (hy : InvDr4 z nm y) (lt : muDr4 z nm y < muDr4 z nm (0, i, O)) (ht : ThOk (cx (nuX (nuDr4_0 z nm i O) (rX (roDr4_0 z nm i O) X)) (nuX_one (nuL_one (l := nuDr4_0 z nm i O) rfl)) 0 laidE laidE_stab) (DDr4 z nm y X) th) (run : RNDr4_0 h .normal th sg 280 (epDr4 y) (hpDr4 y) = true) : RHDr4 z nm E' x' e' h' (0, i, O) X :=
  RoundH.next (tb := tbl h) (L := []) (f := 3000) y ((tabkOk _ _).hyps ho) (LpOk.nil _) rfl hy lt ht run
theorem lvDr4_0 (z : List (LB × LB)) (nm : LB) (i : Int) (O : List (LB × LB)) {X : Nat → Value} {h : LK} {th : LA} {sg : List (Nat × Nat)} (hne : exB x' .normal = false) (ho : ∀ a' r', (a', r') ∈ h → HOk (cx (nuX (nuDr4_0 z nm i O) (rX (roDr4_0 z nm i O) X)) (nuX_one (nuL_one (l := nuDr4_0 z nm i O) rfl)) 0 laidE laidE_stab) a' r') (ht : ThOk (cx (nuX (nuDr4_0 z nm i O) (rX (roDr4_0 z nm i O) X)) (nuX_one (nuL_one (l := nuDr4_0 z nm i O) rfl)) 0 laidE laidE_stab) E' th) (run : RNDr4_0 h x' th sg 319 e' h' = true) : RHDr4 z nm E' x' e' h' (0, i, O) X :=
  RoundH.leave (tb := tbl h) (L := []) (f := 3000) ((tabkOk _ _).hyps ho) (LpOk.nil _) rfl hne ht run
noncomputable abbrev RNDr4_1 (h : LK) (x : Ex) (th : LA) (sg : List (Nat × Nat)) (m : Nat) (ep : LA) (hp : LE) : Bool := okRdH (code (tbl h) 3000 [] bodyDr4 (envOf (headOf epDr4_1 keepDr4) 25) ⟨lhSet hpDr4_1 .leaf, 280, 0, 0⟩) x keepDr4 25 319 th sg 279 m ep hp
theorem stDr4_1 (z : List (LB × LB)) (nm : LB) (i : Int) (O : List (LB × LB)) {X : Nat → Value} {h : LK} (y : Nat × Int × List (LB × LB)) {th : LA} {sg : List (Nat × Nat)} (ho : ∀ a' r', (a', r') ∈ h → HOk (cx (nuX (nuDr4_1 z nm i O) (rX (roDr4_1 z nm i O) X)) (nuX_one (nuL_one (l := nuDr4_1 z nm i O) rfl)) 0 laidE laidE_stab) a' r') (hy : InvDr4 z nm y) (lt : muDr4 z nm y < muDr4 z nm (1, i, O)) (ht : ThOk (cx (nuX (nuDr4_1 z nm i O) (rX (roDr4_1 z nm i O) X)) (nuX_one (nuL_one (l := nuDr4_1 z nm i O) rfl)) 0 laidE laidE_stab) (DDr4 z nm y X) th) (run : RNDr4_1 h .normal th sg 280 (epDr4 y) (hpDr4 y) = true) : RHDr4 z nm E' x' e' h' (1, i, O) X :=
  RoundH.next (tb := tbl h) (L := []) (f := 3000) y ((tabkOk _ _).hyps ho) (LpOk.nil _) rfl hy lt ht run
theorem lvDr4_1 (z : List (LB × LB)) (nm : LB) (i : Int) (O : List (LB × LB)) {X : Nat → Value} {h : LK} {th : LA} {sg : List (Nat × Nat)} (hne : exB x' .normal = false) (ho : ∀ a' r', (a', r') ∈ h → HOk (cx (nuX (nuDr4_1 z nm i O) (rX (roDr4_1 z nm i O) X)) (nuX_one (nuL_one (l := nuDr4_1 z nm i O) rfl)) 0 laidE laidE_stab) a' r') (ht : ThOk (cx (nuX (nuDr4_1 z nm i O) (rX (roDr4_1 z nm i O) X)) (nuX_one (nuL_one (l := nuDr4_1 z nm i O) rfl)) 0 laidE laidE_stab) E' th) (run : RNDr4_1 h x' th sg 319 e' h' = true) : RHDr4 z nm E' x' e' h' (1, i, O) X :=
  RoundH.leave (tb := tbl h) (L := []) (f := 3000) ((tabkOk _ _).hyps ho) (LpOk.nil _) rfl hne ht run
def hyDr4_p0 : LK := [(.rn, .x 2000001), (.bin .lss (.x 2) (.x 1), .b true), (.el (.x 2000000) (.x 2) 2 0, .x 3), (.el (.x 2000000) (.x 2) 2 1, .x 4), (.call 23 [.x 3], .x 5), (.call 23 [.x 0], .x 6), (.bin .eql (.x 5) (.x 6), .b true), (.bin .add (.x 2) (.i .i64 (.ofNat 1)), .x 7)]
theorem runDr4_p0 : RNDr4_0 hyDr4_p0 .normal [(0, .x 0), (1, .x 1), (2, .x 7), (2000000, .x 2000000)] [] 280 epDr4_0 hpDr4_0 = true := by kernel_rfl
theorem nxDr4_p0 (z : List (LB × LB)) (nm : LB) (i : Int) (O : List (LB × LB)) (X : Nat → Value) (hI : InvDr4 z nm (0, i, O)) (h0 : i < (z.length : Int)) (h1 : (lowS ((nthP z (Int.toNat (i))).1)) = (lowS nm)) : RHDr4 z nm E' x' e' h' (0, i, O) X := by
  obtain ⟨i0, i1, i2, i3, i4, i5, i6, i7, it⟩ := unIDr4 z nm 0 i O hI
  have hnm := nmAt i4.2 (Int.toNat i)
  have hO := congrArg List.length i5
  have hO2 := dropS_len nm (z.take (Int.toNat i))
  have hO3 : (z.take (Int.toNat i)).length ≤ z.length := by rw [List.length_take]; omega
  have := prAt (l := z) (by assumption) (Int.toNat (i))
  have : (lowS ((nthP z (Int.toNat (i))).1)).length = ((nthP z (Int.toNat (i))).1).length := List.length_map ..
  have : (lowS nm).length = nm.length := List.length_map ..
  refine stDr4_0 z nm i O (h := hyDr4_p0) (0, i + 1, ([] : List (LB × LB))) ?_ (mkIDr4 z nm 0 (i + 1) ([] : List (LB × LB)) ⟨by omega, by omega, i2, i3, i4, by rw [dropS_n (by omega) (by omega) (by assumption)]; exact (i6 (by omega)).symm.trans i5, fun _ => rfl, fun h => by omega, by omega⟩) (by show z.length - (i + 1).toNat < z.length - i.toNat; omega) (thXv (v := St' nm) rfl rfl (thXv (v := .int .i64 ((z.length : Int))) rfl rfl (thXi (b := ((i + 1))) rfl rfl (by omega) (thXv (v := rwG prC z) rfl rfl (thNil))))) runDr4_p0
  unfold hyDr4_p0
  exact hc (kRn (denX rfl)) <|
   hc (ltT rfl rfl (by omega)) <|
   hc (kElG (j := (Int.toNat (i))) (d := ([], [])) prC_len (by decide) (isX rfl) (isX rfl) (denX rfl) (by omega) (by omega) rfl) <|
   hc (kElG (j := (Int.toNat (i))) (d := ([], [])) prC_len (by decide) (isX rfl) (isX rfl) (denX rfl) (by omega) (by omega) rfl) <|
   hc (hokLower (s := (nthP z (Int.toNat (i))).1) (isX rfl) (denX rfl) (by omega) (by omega)) <|
   hc (hokLower (s := nm) (isX rfl) (denX rfl) (by omega) (by omega)) <|
   hc (kEqS (isX rfl) (isX rfl) (by first | exact decide_eq_true rfl | exact decide_eq_true ‹_› | exact decide_eq_false ‹_›)) <|
   hc (adC rfl rfl (by omega)) <|
   hnil
def hyDr4_p1 : LK := [(.rn, .x 2000002), (.bin .lss (.x 2) (.x 1), .b false)]
theorem runDr4_p1 : RNDr4_0 hyDr4_p1 (.exit 0) [(2000000, .x 2000000)] [] 319 [(5, .nils)] [(84, .r 2000000 29 2 false)] = true := by kernel_rfl
def hyDr4_p2 : LK := [(.rn, .x 2000003), (.bin .lss (.x 2) (.x 1), .b true), (.el (.x 2000000) (.x 2) 2 0, .x 8), (.el (.x 2000000) (.x 2) 2 1, .x 9), (.call 23 [.x 8], .x 10), (.call 23 [.x 0], .x 11), (.bin .eql (.x 10) (.x 11), .b false), (.ra (.x 2000003) [.x 8, .x 9], .x 2000004), (.rf (.x 2000004) 2 32, .b true), (.bin .add (.x 2) (.i .i64 (.ofNat 1)), .x 12)]
theorem runDr4_p2 : RNDr4_0 hyDr4_p2 .normal [(0, .x 0), (1, .x 1), (2, .x 12), (2000000, .x 2000000), (2000001, .x 2000004)] [(279, 282)] 280 epDr4_1 hpDr4_1 = true := by kernel_rfl
theorem nxDr4_p2 (z : List (LB × LB)) (nm : LB) (i : Int) (O : List (LB × LB)) (X : Nat → Value) (hI : InvDr4 z nm (0, i, O)) (h0 : i < (z.length : Int)) (h1 : ¬ ((lowS ((nthP z (Int.toNat (i))).1)) = (lowS nm))) : RHDr4 z nm E' x' e' h' (0, i, O) X := by
  obtain ⟨i0, i1, i2, i3, i4, i5, i6, i7, it⟩ := unIDr4 z nm 0 i O hI
  have hnm := nmAt i4.2 (Int.toNat i)
  have hO := congrArg List.length i5
  have hO2 := dropS_len nm (z.take (Int.toNat i))
  have hO3 : (z.take (Int.toNat i)).length ≤ z.length := by rw [List.length_take]; omega
  have := prAt (l := z) (by assumption) (Int.toNat (i))
  have : (lowS ((nthP z (Int.toNat (i))).1)).length = ((nthP z (Int.toNat (i))).1).length := List.length_map ..
  have : (lowS nm).length = nm.length := List.length_map ..
  refine stDr4_0 z nm i O (h := hyDr4_p2) (1, i + 1, (([] : List (LB × LB)) ++ [((nthP z (Int.toNat (i))).1, (nthP z (Int.toNat (i))).2)])) ?_ (mkIDr4 z nm 1 (i + 1) (([] : List (LB × LB)) ++ [((nthP z (Int.toNat (i))).1, (nthP z (Int.toNat (i))).2)]) ⟨by omega, by omega, i2, i3, i4, by rw [dropS_y (by omega) (by omega) (by assumption), ← i5, i6 (by omega)], fun h => by omega, fun _ => by simp, by omega⟩) (by show z.length - (i + 1).toNat < z.length - i.toNat; omega) (thXv (v := St' nm) rfl rfl (thXv (v := .int .i64 ((z.length : Int))) rfl rfl (thXi (b := ((i + 1))) rfl rfl (by omega) (thXv (v := rwG prC z) rfl rfl (thXv (v := rwG prC (([] : List (LB × LB)) ++ [((nthP z (Int.toNat (i))).1, (nthP z (Int.toNat (i))).2)])) rfl rfl (thNil)))))) runDr4_p2
  unfold hyDr4_p2
  exact hc (kRn (denX rfl)) <|
   hc (ltT rfl rfl (by omega)) <|
   hc (kElG (j := (Int.toNat (i))) (d := ([], [])) prC_len (by decide) (isX rfl) (isX rfl) (denX rfl) (by omega) (by omega) rfl) <|
   hc (kElG (j := (Int.toNat (i))) (d := ([], [])) prC_len (by decide) (isX rfl) (isX rfl) (denX rfl) (by omega) (by omega) rfl) <|
   hc (hokLower (s := (nthP z (Int.toNat (i))).1) (isX rfl) (denX rfl) (by omega) (by omega)) <|
   hc (hokLower (s := nm) (isX rfl) (denX rfl) (by omega) (by omega)) <|
   hc (kEqS (isX rfl) (isX rfl) (by first | exact decide_eq_true rfl | exact decide_eq_true ‹_› | exact decide_eq_false ‹_›)) <|
   hc (kRaG (f := prC) (l := ([] : List (LB × LB))) (a := ((nthP z (Int.toNat (i))).1, (nthP z (Int.toNat (i))).2)) (isX rfl) (isL2 (isX rfl) (isX rfl)) (denX rfl)) <|
   hc (kRfG prC_len (isX rfl) (by first | omega | (simp <;> omega)) (by first | omega | (simp <;> omega))) <|
   hc (adC rfl rfl (by omega)) <|
   hnil
def hyDr4_p3 : LK := [(.rn, .x 2000002), (.bin .lss (.x 2) (.x 1), .b true), (.el (.x 2000000) (.x 2) 2 0, .x 3), (.el (.x 2000000) (.x 2) 2 1, .x 4), (.call 23 [.x 3], .x 5), (.call 23 [.x 0], .x 6), (.bin .eql (.x 5) (.x 6), .b true), (.bin .add (.x 2) (.i .i64 (.ofNat 1)), .x 7)]
theorem runDr4_p3 : RNDr4_1 hyDr4_p3 .normal [(0, .x 0), (1, .x 1), (2, .x 7), (2000000, .x 2000000), (2000001, .x 2000001)] [(279, 279)] 280 epDr4_1 hpDr4_1 = true := by kernel_rfl
theorem nxDr4_p3 (z : List (LB × LB)) (nm : LB) (i : Int) (O : List (LB × LB)) (X : Nat → Value) (hI : InvDr4 z nm (1, i, O)) (h0 : i < (z.length : Int)) (h1 : (lowS ((nthP z (Int.toNat (i))).1)) = (lowS nm)) : RHDr4 z nm E' x' e' h' (1, i, O) X := by
  obtain ⟨i0, i1, i2, i3, i4, i5, i6, i7, it⟩ := unIDr4 z nm 1 i O hI
  have hnm := nmAt i4.2 (Int.toNat i)
  have hO := congrArg List.length i5
  have hO2 := dropS_len nm (z.take (Int.toNat i))
  have hO3 : (z.take (Int.toNat i)).length ≤ z.length := by rw [List.length_take]; omega
  have := prAt (l := z) (by assumption) (Int.toNat (i))
  have : (lowS ((nthP z (Int.toNat (i))).1)).length = ((nthP z (Int.toNat (i))).1).length := List.length_map ..
  have : (lowS nm).length = nm.length := List.length_map ..
  refine stDr4_1 z nm i O (h := hyDr4_p3) (1, i + 1, O) ?_ (mkIDr4 z nm 1 (i + 1) O ⟨by omega, by omega, i2, i3, i4, by rw [dropS_n (by omega) (by omega) (by assumption)]; exact i5, fun h => by omega, i7, by omega⟩) (by show z.length - (i + 1).toNat < z.length - i.toNat; omega) (thXv (v := St' nm) rfl rfl (thXv (v := .int .i64 ((z.length : Int))) rfl rfl (thXi (b := ((i + 1))) rfl rfl (by omega) (thXv (v := rwG prC z) rfl rfl (thXv (v := rwG prC O) rfl rfl (thNil)))))) runDr4_p3
  unfold hyDr4_p3
  exact hc (kRn (denX rfl)) <|
   hc (ltT rfl rfl (by omega)) <|
   hc (kElG (j := (Int.toNat (i))) (d := ([], [])) prC_len (by decide) (isX rfl) (isX rfl) (denX rfl) (by omega) (by omega) rfl) <|
   hc (kElG (j := (Int.toNat (i))) (d := ([], [])) prC_len (by decide) (isX rfl) (isX rfl) (denX rfl) (by omega) (by omega) rfl) <|
   hc (hokLower (s := (nthP z (Int.toNat (i))).1) (isX rfl) (denX rfl) (by omega) (by omega)) <|
   hc (hokLower (s := nm) (isX rfl) (denX rfl) (by omega) (by omega)) <|
   hc (kEqS (isX rfl) (isX rfl) (by first | exact decide_eq_true rfl | exact decide_eq_true ‹_› | exact decide_eq_false ‹_›)) <|
   hc (adC rfl rfl (by omega)) <|
   hnil
def hyDr4_p4 : LK := [(.rn, .x 2000003), (.bin .lss (.x 2) (.x 1), .b false)]
theorem runDr4_p4 : RNDr4_1 hyDr4_p4 (.exit 0) [(2000000, .x 2000000), (2000001, .x 2000001)] [(279, 279)] 319 [(5, .sr 279)] [(84, .r 2000000 29 2 false), (279, .r 2000001 29 2 false)] = true := by kernel_rfl
def hyDr4_p5 : LK := [(.rn, .x 2000004), (.bin .lss (.x 2) (.x 1), .b true), (.el (.x 2000000) (.x 2) 2 0, .x 8), (.el (.x 2000000) (.x 2) 2 1, .x 9), (.call 23 [.x 8], .x 10), (.call 23 [.x 0], .x 11), (.bin .eql (.x 10) (.x 11), .b false), (.ra (.x 2000001) [.x 8, .x 9], .x 2000005), (.rf (.x 2000005) 2 32, .b true), (.bin .add (.x 2) (.i .i64 (.ofNat 1)), .x 12)]
theorem runDr4_p5 : RNDr4_1 hyDr4_p5 .normal [(0, .x 0), (1, .x 1), (2, .x 12), (2000000, .x 2000000), (2000001, .x 2000005)] [(279, 282)] 280 epDr4_1 hpDr4_1 = true := by kernel_rfl
theorem nxDr4_p5 (z : List (LB × LB)) (nm : LB) (i : Int) (O : List (LB × LB)) (X : Nat → Value) (hI : InvDr4 z nm (1, i, O)) (h0 : i < (z.length : Int)) (h1 : ¬ ((lowS ((nthP z (Int.toNat (i))).1)) = (lowS nm))) : RHDr4 z nm E' x' e' h' (1, i, O) X := by
  obtain ⟨i0, i1, i2, i3, i4, i5, i6, i7, it⟩ := unIDr4 z nm 1 i O hI
  have hnm := nmAt i4.2 (Int.toNat i)
  have hO := congrArg List.length i5
  have hO2 := dropS_len nm (z.take (Int.toNat i))
  have hO3 : (z.take (Int.toNat i)).length ≤ z.length := by rw [List.length_take]; omega
  have := prAt (l := z) (by assumption) (Int.toNat (i))
  have : (lowS ((nthP z (Int.toNat (i))).1)).length = ((nthP z (Int.toNat (i))).1).length := List.length_map ..
  have : (lowS nm).length = nm.length := List.length_map ..
  refine stDr4_1 z nm i O (h := hyDr4_p5) (1, i + 1, (O ++ [((nthP z (Int.toNat (i))).1, (nthP z (Int.toNat (i))).2)])) ?_ (mkIDr4 z nm 1 (i + 1) (O ++ [((nthP z (Int.toNat (i))).1, (nthP z (Int.toNat (i))).2)]) ⟨by omega, by omega, i2, i3, i4, by rw [dropS_y (by omega) (by omega) (by assumption), ← i5], fun h => by omega, fun _ => by simp, by omega⟩) (by show z.length - (i + 1).toNat < z.length - i.toNat; omega) (thXv (v := St' nm) rfl rfl (thXv (v := .int .i64 ((z.length : Int))) rfl rfl (thXi (b := ((i + 1))) rfl rfl (by omega) (thXv (v := rwG prC z) rfl rfl (thXv (v := rwG prC (O ++ [((nthP z (Int.toNat (i))).1, (nthP z (Int.toNat (i))).2)])) rfl rfl (thNil)))))) runDr4_p5
  unfold hyDr4_p5
  exact hc (kRn (denX rfl)) <|
   hc (ltT rfl rfl (by omega)) <|
   hc (kElG (j := (Int.toNat (i))) (d := ([], [])) prC_len (by decide) (isX rfl) (isX rfl) (denX rfl) (by omega) (by omega) rfl) <|
   hc (kElG (j := (Int.toNat (i))) (d := ([], [])) prC_len (by decide) (isX rfl) (isX rfl) (denX rfl) (by omega) (by omega) rfl) <|
   hc (hokLower (s := (nthP z (Int.toNat (i))).1) (isX rfl) (denX rfl) (by omega) (by omega)) <|
   hc (hokLower (s := nm) (isX rfl) (denX rfl) (by omega) (by omega)) <|
   hc (kEqS (isX rfl) (isX rfl) (by first | exact decide_eq_true rfl | exact decide_eq_true ‹_› | exact decide_eq_false ‹_›)) <|
   hc (kRaG (f := prC) (l := O) (a := ((nthP z (Int.toNat (i))).1, (nthP z (Int.toNat (i))).2)) (isX rfl) (isL2 (isX rfl) (isX rfl)) (denX rfl)) <|
   hc (kRfG prC_len (isX rfl) (by first | omega | (simp <;> omega)) (by first | omega | (simp <;> omega))) <|
   hc (adC rfl rfl (by omega)) <|
   hnil
def nuEDr4_0 (z : List (LB × LB)) (nm : LB) : List Value := []
def roEDr4_0 (z : List (LB × LB)) (nm : LB) : List Value := [rwG prC z]
noncomputable def EDr4_0 (z : List (LB × LB)) (nm : LB) : Cx := cx (nuX (nuEDr4_0 z nm) (rX (roEDr4_0 z nm) (fun _ => .bool true))) (nuX_one (nuL_one (l := nuEDr4_0 z nm) rfl)) 0 laidE laidE_stab
theorem roundsDr4_0 (z : List (LB × LB)) (nm : LB) (x0 : dropS nm z = []) (st : Nat × Int × List (LB × LB)) (X : Nat → Value) (hI : InvDr4 z nm st) : RHDr4 z nm (EDr4_0 z nm) (.exit 0) [(5, .nils)] [(84, .r 2000000 29 2 false)] st X := by
  obtain ⟨tag, i, O⟩ := st
  have hI0 := hI
  obtain ⟨i0, i1, i2, i3, i4, i5, i6, i7, it⟩ := unIDr4 z nm tag i O hI
  rcases (show tag = 0 ∨ tag = 1 from by omega) with rfl | rfl
  · skip
    by_cases h0 : i < (z.length : Int)
    · by_cases h1 : (lowS ((nthP z (Int.toNat (i))).1)) = (lowS nm)
      · exact nxDr4_p0 z nm i O X hI0 h0 h1
      · exact nxDr4_p2 z nm i O X hI0 h0 h1
    · skip
      have hdx := dropS_x (nm := nm) (z := z) (i := i) (by omega) (by omega)
      refine lvDr4_0 z nm i O (h := hyDr4_p1) rfl ?_ (thXv (v := rwG prC z) rfl rfl (thNil)) runDr4_p1
      unfold hyDr4_p1
      exact hc (kRn (denX rfl)) <|
       hc (ltF rfl rfl (by omega)) <|
       hnil
  · skip
    by_cases h0 : i < (z.length : Int)
    · by_cases h1 : (lowS ((nthP z (Int.toNat (i))).1)) = (lowS nm)
      · exact nxDr4_p3 z nm i O X hI0 h0 h1
      · exact nxDr4_p5 z nm i O X hI0 h0 h1
    · exfalso; have hdx := dropS_x (nm := nm) (z := z) (i := i) (by omega) (by omega); have hL := i7 (by omega); rw [i5, hdx, x0] at hL; simp at hL
theorem lfOkDr4_0 {l : LF} {h : LH} (z : List (LB × LB)) (nm : LB) (x0 : dropS nm z = []) (st : Nat × Int × List (LB × LB)) (hI : InvDr4 z nm st) (hl : l.hp = some h) (hs : lfSame l h 25 keepDr4 (.exit 0) 3 279 319 = true) {th0 : LA} {sg0 : List (Nat × Nat)} (hth0 : ∀ X, ThOk (cx nu one 0 laidE laidE_stab) (DDr4 z nm st X) th0) (h0 : startOk l h 25 279 280 th0 sg0 (epDr4 st) (hpDr4 st) = true) {thx : LA} (hthx : ThOk (EDr4_0 z nm) (cx nu one 0 laidE laidE_stab) thx) (hx : exitOk l h 25 279 319 thx [(5, .nils)] [(84, .r 2000000 29 2 false)] = true) : LfOk (cx nu one 0 laidE laidE_stab) bodyDr4 l :=
  lfOkX (E := EDr4_0 z nm) (InvDr4 z nm) (muDr4 z nm) (DDr4 z nm) (fun _ _ => rfl) (fun _ _ => rfl) (fun _ _ => rfl) (fun st X t ht => nuX_keep.trans (rX_keep ((by decide : ∀ t, t ∈ keepDr4 → t < 1000000) t ht))) rfl rfl rfl hl hs ebDr4 rfl rfl st hI hth0 h0 hthx hx (roundsDr4_0 z nm x0)
def nuEDr4_1 (z : List (LB × LB)) (nm : LB) : List Value := []
def roEDr4_1 (z : List (LB × LB)) (nm : LB) : List Value := [rwG prC z, rwG prC (dropS nm z)]
noncomputable def EDr4_1 (z : List (LB × LB)) (nm : LB) : Cx := cx (nuX (nuEDr4_1 z nm) (rX (roEDr4_1 z nm) (fun _ => .bool true))) (nuX_one (nuL_one (l := nuEDr4_1 z nm) rfl)) 0 laidE laidE_stab
theorem roundsDr4_1 (z : List (LB × LB)) (nm : LB) (x0 : 1 ≤ (dropS nm z).length) (st : Nat × Int × List (LB × LB)) (X : Nat → Value) (hI : InvDr4 z nm st) : RHDr4 z nm (EDr4_1 z nm) (.exit 0) [(5, .sr 279)] [(84, .r 2000000 29 2 false), (279, .r 2000001 29 2 false)] st X := by
  obtain ⟨tag, i, O⟩ := st
  have hI0 := hI
  obtain ⟨i0, i1, i2, i3, i4, i5, i6, i7, it⟩ := unIDr4 z nm tag i O hI
  rcases (show tag = 0 ∨ tag = 1 from by omega) with rfl | rfl
  · skip
    by_cases h0 : i < (z.length : Int)
    · by_cases h1 : (lowS ((nthP z (Int.toNat (i))).1)) = (lowS nm)
      · exact nxDr4_p0 z nm i O X hI0 h0 h1
      · exact nxDr4_p2 z nm i O X hI0 h0 h1
    · exfalso; have hdx := dropS_x (nm := nm) (z := z) (i := i) (by omega) (by omega); have hO := i6 (by omega); rw [hO, hdx] at i5; rw [← i5] at x0; simp at x0
  · skip
    by_cases h0 : i < (z.length : Int)
    · by_cases h1 : (lowS ((nthP z (Int.toNat (i))).1)) = (lowS nm)
      · exact nxDr4_p3 z nm i O X hI0 h0 h1
      · exact nxDr4_p5 z nm i O X hI0 h0 h1
    · skip
      have hdx := dropS_x (nm := nm) (z := z) (i := i) (by omega) (by omega)
      refine lvDr4_1 z nm i O (h := hyDr4_p4) rfl ?_ (thXv (v := rwG prC z) rfl rfl (thXe (v := rwG prC O) (u := rwG prC (dropS nm z)) rfl rfl (congrArg (rwG prC) (i5.trans hdx)) (thNil))) runDr4_p4
      unfold hyDr4_p4
      exact hc (kRn (denX rfl)) <|
       hc (ltF rfl rfl (by omega)) <|
       hnil
theorem lfOkDr4_1 {l : LF} {h : LH} (z : List (LB × LB)) (nm : LB) (x0 : 1 ≤ (dropS nm z).length) (st : Nat × Int × List (LB × LB)) (hI : InvDr4 z nm st) (hl : l.hp = some h) (hs : lfSame l h 25 keepDr4 (.exit 0) 3 279 319 = true) {th0 : LA} {sg0 : List (Nat × Nat)} (hth0 : ∀ X, ThOk (cx nu one 0 laidE laidE_stab) (DDr4 z nm st X) th0) (h0 : startOk l h 25 279 280 th0 sg0 (epDr4 st) (hpDr4 st) = true) {thx : LA} (hthx : ThOk (EDr4_1 z nm) (cx nu one 0 laidE laidE_stab) thx) (hx : exitOk l h 25 279 319 thx [(5, .sr 279)] [(84, .r 2000000 29 2 false), (279, .r 2000001 29 2 false)] = true) : LfOk (cx nu one 0 laidE laidE_stab) bodyDr4 l :=
  lfOkX (E := EDr4_1 z nm) (InvDr4 z nm) (muDr4 z nm) (DDr4 z nm) (fun _ _ => rfl) (fun _ _ => rfl) (fun _ _ => rfl) (fun st X t ht => nuX_keep.trans (rX_keep ((by decide : ∀ t, t ∈ keepDr4 → t < 1000000) t ht))) rfl rfl rfl hl hs ebDr4 rfl rfl st hI hth0 h0 hthx hx (roundsDr4_1 z nm x0)
noncomputable def fi3 : FI := (tabk.fn.get 3).getD default
theorem fi3_at : tabk.fn.get 3 = some fi3 := by kernel_rfl
theorem fi3_body : fi3.body = some (Tryd.f3.body.getD .skip) := by kernel_rfl
theorem fiB3 : fi3.body.isSome = true := by rw [fi3_body]; rfl
noncomputable def fi5 : FI := (tabk.fn.get 5).getD default
theorem fi5_at : tabk.fn.get 5 = some fi5 := by kernel_rfl
theorem fi5_body : fi5.body = some (Tryd.f5.body.getD .skip) := by kernel_rfl
theorem fiB5 : fi5.body.isSome = true := by rw [fi5_body]; rfl
noncomputable def fi6 : FI := (tabk.fn.get 6).getD default
theorem fi6_at : tabk.fn.get 6 = some fi6 := by kernel_rfl
theorem fi6_body : fi6.body = some (Tryd.f6.body.getD .skip) := by kernel_rfl
theorem fiB6 : fi6.body.isSome = true := by rw [fi6_body]; rfl
end Go.Proofs.YtobklhnepmgbmaaDoor.fieldCases
