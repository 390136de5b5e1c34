/- A part of the proof: an interpreter of the model's own code on partly known states, and that what it answers is what the program answers. No condition of its own. -/
import Derived.Test.YtalblkipoopdgaaDoorM1StartTellsO4
set_option maxRecDepth 100000
set_option linter.unusedVariables false
set_option linter.unusedSimpArgs false
set_option maxHeartbeats 4000000
namespace Go.Proofs.YtalblkipoopdgaaDoor.startTells
open Go Go.AX Go.Proofs Go.Proofs.YtalblkipoopdgaaDoor
variable {nu : Nat → Value} {one : ∀ i, i < 1000000 → (nu i).oneCell' = true} {E' : Cx} {x' : Ex} {e' : LA} {h' : LE}
noncomputable def bodyRs : Code := loopNo (Tryd.f20.body.getD .skip) 0
theorem keyRs : oneKey (loopsOf (Tryd.f20.body.getD .skip)) 4 0 0 = true := by kernel_rfl
def keepRs : List Nat := []
def epRs_0 : LA := [(0, .x 0), (1, .i .u8 (.ofNat 32)), (5, .nils), (6, .x 1), (7, .x 2)]
def hpRs_0 : LE := []
def nuRs_0 (ln : LB) (o : List LB) (fr i : Int) : List Value := [St' ln, .int .i64 (fr), .int .i64 (i), .int .i64 ((ln.length : Int)), .int .u8 (bt ln (Int.toNat (i))), .int .i64 (i + 1), .int .i64 ((ln.length : Int)), .int .u8 (bt ln (Int.toNat (i))), St' (pcS ln fr i), .int .i64 (i + 1), .int .i64 ((ln.length : Int)), St' (pcS ln fr i), .int .i64 (i + 1)]
def roRs_0 (ln : LB) (o : List LB) (fr i : Int) : List Value := [rwS ([] : List LB), rwS ([] : List LB), rwS (([] : List LB) ++ [(pcS ln fr i)]), rwS ([] : List LB), rwS (([] : List LB) ++ [(pcS ln fr i)])]
def epRs_1 : LA := [(0, .x 0), (1, .i .u8 (.ofNat 32)), (5, .sr 110), (6, .x 1), (7, .x 2)]
def hpRs_1 : LE := [(110, .r 2000000 9 1 false)]
def nuRs_1 (ln : LB) (o : List LB) (fr i : Int) : List Value := [St' ln, .int .i64 (fr), .int .i64 (i), .int .i64 ((ln.length : Int)), .int .u8 (bt ln (Int.toNat (i))), .int .i64 (i + 1), .int .i64 ((ln.length : Int)), .int .u8 (bt ln (Int.toNat (i))), St' (pcS ln fr i), .int .i64 (i + 1), .int .i64 ((ln.length : Int)), St' (pcS ln fr i), .int .i64 (i + 1), .int .i64 ((ln.length : Int))]
def roRs_1 (ln : LB) (o : List LB) (fr i : Int) : List Value := [rwS o, rwS ([] : List LB), rwS ([] : List LB), rwS (o ++ [(pcS ln fr i)]), rwS ([] : List LB), rwS (o ++ [(pcS ln fr i)]), rwS ([] : List LB)]
def epRs (st : Nat × List LB × Int × Int) : LA := if st.1 = 0 then epRs_0 else epRs_1
def hpRs (st : Nat × List LB × Int × Int) : LE := if st.1 = 0 then hpRs_0 else hpRs_1
def nuRs (ln : LB) (st : Nat × List LB × Int × Int) : List Value := if st.1 = 0 then nuRs_0 ln (st.2.1) (st.2.2.1) (st.2.2.2) else nuRs_1 ln (st.2.1) (st.2.2.1) (st.2.2.2)
def roRs (ln : LB) (st : Nat × List LB × Int × Int) : List Value := if st.1 = 0 then roRs_0 ln (st.2.1) (st.2.2.1) (st.2.2.2) else roRs_1 ln (st.2.1) (st.2.2.1) (st.2.2.2)
theorem onRs (ln : LB) (st : Nat × List LB × Int × Int) : ∀ j, (nuL (nuRs ln st) j).oneCell' = true := by
  intro j
  unfold nuRs
  by_cases g0 : st.1 = 0
  · rw [if_pos g0]; exact nuL_one (l := nuRs_0 ln (st.2.1) (st.2.2.1) (st.2.2.2)) rfl j
  rw [if_neg g0]
  exact nuL_one (l := nuRs_1 ln (st.2.1) (st.2.2.1) (st.2.2.2)) rfl j
theorem ebRs (st : Nat × List LB × Int × Int) : (lfB (epRs st) && lfC keepRs) = true := by
  unfold epRs
  by_cases g0 : st.1 = 0
  · rw [if_pos g0]; rfl
  rw [if_neg g0]
  rfl
noncomputable def DRs (ln : LB) (st : Nat × List LB × Int × Int) (X : Nat → Value) : Cx := cx (nuX (nuRs ln st) (rX (roRs ln st) X)) (nuX_one (onRs ln st)) 1 laidE laidE_stab
def InvRs (ln : LB) (st : Nat × List LB × Int × Int) : Prop := (0 ≤ (st.2.2.1)) ∧ ((st.2.2.1) ≤ (st.2.2.2)) ∧ ((st.2.2.2) ≤ (ln.length : Int) + 1) ∧ (((st.2.1).length : Int) ≤ (st.2.2.2)) ∧ ((st.2.2.2) ≤ (ln.length : Int) → (st.2.1) ++ spC (pcS ln (st.2.2.1) (st.2.2.2)) (ln.drop (Int.toNat (st.2.2.2))) = spl ln) ∧ ((st.2.2.2) = (ln.length : Int) + 1 → (st.2.1) = spl ln) ∧ ((st.1) = 0 → (st.2.1) = []) ∧ ((st.1) = 0 → (st.2.2.2) ≤ (ln.length : Int)) ∧ ((st.1) < 2)
abbrev CjRs (ln : LB) (tag : Nat) (o : List LB) (fr i : Int) : Prop := (0 ≤ fr) ∧ (fr ≤ i) ∧ (i ≤ (ln.length : Int) + 1) ∧ ((o.length : Int) ≤ i) ∧ (i ≤ (ln.length : Int) → o ++ spC (pcS ln fr i) (ln.drop (Int.toNat i)) = spl ln) ∧ (i = (ln.length : Int) + 1 → o = spl ln) ∧ (tag = 0 → o = []) ∧ (tag = 0 → i ≤ (ln.length : Int)) ∧ (tag < 2)
theorem mkIRs (ln : LB) (tag : Nat) (o : List LB) (fr i : Int) (h : CjRs ln tag o fr i) : InvRs ln (tag, o, fr, i) := h
theorem unIRs (ln : LB) (tag : Nat) (o : List LB) (fr i : Int) (h : InvRs ln (tag, o, fr, i)) : (0 ≤ fr) ∧ (fr ≤ i) ∧ (i ≤ (ln.length : Int) + 1) ∧ ((o.length : Int) ≤ i) ∧ (i ≤ (ln.length : Int) → o ++ spC (pcS ln fr i) (ln.drop (Int.toNat i)) = spl ln) ∧ (i = (ln.length : Int) + 1 → o = spl ln) ∧ (tag = 0 → o = []) ∧ (tag = 0 → i ≤ (ln.length : Int)) ∧ (tag < 2) := h
def muRs (ln : LB) (st : Nat × List LB × Int × Int) : Nat := (ln.length + 1 - (st.2.2.2).toNat)
abbrev RHRs (ln : LB) (E' : Cx) (ex' : Ex) (epx' : LA) (hpx' : LE) (st : Nat × List LB × Int × Int) (X : Nat → Value) : Prop := RoundH E' bodyRs keepRs 35 ex' 7 110 112 150 epRs hpRs epx' hpx' (InvRs ln) (muRs ln) (DRs ln) st X
noncomputable abbrev RNRs_0 (h : LK) (x : Ex) (th : LA) (sg : List (Nat × Nat)) (m : Nat) (ep : LA) (hp : LE) : Bool := okRdH (code (tbl h) 1500 [] bodyRs (envOf (headOf epRs_0 keepRs) 35) ⟨lhSet hpRs_0 .leaf, 112, 0, 0⟩) x keepRs 35 150 th sg 110 m ep hp
theorem stRs_0 (ln : LB) (o : List LB) (fr i : Int) {X : Nat → Value} {h : LK} (y : Nat × List LB × Int × Int) {th : LA} {sg : List (Nat × Nat)} (ho : ∀ a' r', (a', r') ∈ h → HOk (cx (nuX (nuRs_0 ln o fr i) (rX (roRs_0 ln o fr i) X)) (nuX_one (nuL_one (l := nuRs_0 ln o fr i) rfl)) 1 laidE laidE_stab) a' r') (hy : InvRs ln y) (lt : muRs ln y < muRs ln (0, o, fr, i)) (ht : ThOk (cx (nuX (nuRs_0 ln o fr i) (rX (roRs_0 ln o fr i) X)) (nuX_one (nuL_one (l := nuRs_0 ln o fr i) rfl)) 1 laidE laidE_stab) (DRs ln y X) th) (run : RNRs_0 h .normal th sg 112 (epRs y) (hpRs y) = true) : RHRs ln E' x' e' h' (0, o, fr, i) X :=
  RoundH.next (tb := tbl h) (L := []) (f := 1500) y ((tabkOk _ _).hyps ho) (LpOk.nil _) rfl hy lt ht run
theorem lvRs_0 (ln : LB) (o : List LB) (fr i : Int) {X : Nat → Value} {h : LK} {th : LA} {sg : List (Nat × Nat)} (hne : exB x' .normal = false) (ho : ∀ a' r', (a', r') ∈ h → HOk (cx (nuX (nuRs_0 ln o fr i) (rX (roRs_0 ln o fr i) X)) (nuX_one (nuL_one (l := nuRs_0 ln o fr i) rfl)) 1 laidE laidE_stab) a' r') (ht : ThOk (cx (nuX (nuRs_0 ln o fr i) (rX (roRs_0 ln o fr i) X)) (nuX_one (nuL_one (l := nuRs_0 ln o fr i) rfl)) 1 laidE laidE_stab) E' th) (run : RNRs_0 h x' th sg 150 e' h' = true) : RHRs ln E' x' e' h' (0, o, fr, i) X :=
  RoundH.leave (tb := tbl h) (L := []) (f := 1500) ((tabkOk _ _).hyps ho) (LpOk.nil _) rfl hne ht run
noncomputable abbrev RNRs_1 (h : LK) (x : Ex) (th : LA) (sg : List (Nat × Nat)) (m : Nat) (ep : LA) (hp : LE) : Bool := okRdH (code (tbl h) 1500 [] bodyRs (envOf (headOf epRs_1 keepRs) 35) ⟨lhSet hpRs_1 .leaf, 112, 0, 0⟩) x keepRs 35 150 th sg 110 m ep hp
theorem stRs_1 (ln : LB) (o : List LB) (fr i : Int) {X : Nat → Value} {h : LK} (y : Nat × List LB × Int × Int) {th : LA} {sg : List (Nat × Nat)} (ho : ∀ a' r', (a', r') ∈ h → HOk (cx (nuX (nuRs_1 ln o fr i) (rX (roRs_1 ln o fr i) X)) (nuX_one (nuL_one (l := nuRs_1 ln o fr i) rfl)) 1 laidE laidE_stab) a' r') (hy : InvRs ln y) (lt : muRs ln y < muRs ln (1, o, fr, i)) (ht : ThOk (cx (nuX (nuRs_1 ln o fr i) (rX (roRs_1 ln o fr i) X)) (nuX_one (nuL_one (l := nuRs_1 ln o fr i) rfl)) 1 laidE laidE_stab) (DRs ln y X) th) (run : RNRs_1 h .normal th sg 112 (epRs y) (hpRs y) = true) : RHRs ln E' x' e' h' (1, o, fr, i) X :=
  RoundH.next (tb := tbl h) (L := []) (f := 1500) y ((tabkOk _ _).hyps ho) (LpOk.nil _) rfl hy lt ht run
theorem lvRs_1 (ln : LB) (o : List LB) (fr i : Int) {X : Nat → Value} {h : LK} {th : LA} {sg : List (Nat × Nat)} (hne : exB x' .normal = false) (ho : ∀ a' r', (a', r') ∈ h → HOk (cx (nuX (nuRs_1 ln o fr i) (rX (roRs_1 ln o fr i) X)) (nuX_one (nuL_one (l := nuRs_1 ln o fr i) rfl)) 1 laidE laidE_stab) a' r') (ht : ThOk (cx (nuX (nuRs_1 ln o fr i) (rX (roRs_1 ln o fr i) X)) (nuX_one (nuL_one (l := nuRs_1 ln o fr i) rfl)) 1 laidE laidE_stab) E' th) (run : RNRs_1 h x' th sg 150 e' h' = true) : RHRs ln E' x' e' h' (1, o, fr, i) X :=
  RoundH.leave (tb := tbl h) (L := []) (f := 1500) ((tabkOk _ _).hyps ho) (LpOk.nil _) rfl hne ht run
def hyRs_p0 : LK := [(.rn, .x 2000000), (.len (.x 0), .x 3), (.bin .leq (.x 2) (.x 3), .b true), (.bin .eql (.x 2) (.x 3), .b false), (.idx (.x 0) (.x 2), .x 4), (.bin .eql (.x 4) (.i .u8 (.ofNat 32)), .b false), (.bin .add (.x 2) (.i .i64 (.ofNat 1)), .x 5)]
theorem runRs_p0 : RNRs_0 hyRs_p0 .normal [(0, .x 0), (1, .x 1), (2, .x 5)] [] 112 epRs_0 hpRs_0 = true := by kernel_rfl
theorem nxRs_p0 (ln : LB) (c0 : ln.length ≤ 100000) (o : List LB) (fr i : Int) (X : Nat → Value) (hI : InvRs ln (0, o, fr, i)) (h1 : ¬ (i = (ln.length : Int))) (h2 : ¬ (bt ln (Int.toNat (i)) = 32)) : RHRs ln E' x' e' h' (0, o, fr, i) X := by
  obtain ⟨i0, i1, i2, i3, i4, i5, i6, i7, it⟩ := unIRs ln 0 o fr i hI
  have := bt_lo ln (Int.toNat (i)); have := bt_hi ln (Int.toNat (i))
  have h7 := i7 rfl
  refine stRs_0 ln o fr i (h := hyRs_p0) (0, [], fr, (i + 1)) ?_ (mkIRs ln 0 [] fr (i + 1) ⟨by omega, by omega, by omega, by simp only [List.length_nil]; omega, fun _ => rs_n (o := []) (by omega) (by omega) (by omega) (by assumption) (by have := i4 (by omega); rw [i6 (by omega)] at this; exact this), fun h => by omega, fun _ => rfl, fun _ => by omega, by omega⟩) (by show ln.length + 1 - (i + 1).toNat < ln.length + 1 - i.toNat; omega) (thXv (v := St' ln) rfl rfl (thXv (v := .int .i64 (fr)) rfl rfl (thXi (b := ((i + 1))) rfl rfl (by omega) (thNil)))) runRs_p0
  unfold hyRs_p0
  exact hc (kRn (denX rfl)) <|
   hc (lnV rfl rfl (by omega)) <|
   hc (leT rfl rfl (by omega)) <|
   hc (eqXF rfl rfl (by omega)) <|
   hc (ixV rfl rfl rfl (by omega)) <|
   hc (eqcF rfl (by omega)) <|
   hc (adC rfl rfl (by omega)) <|
   hnil
def hyRs_p1 : LK := [(.rn, .x 2000001), (.len (.x 0), .x 6), (.bin .leq (.x 2) (.x 6), .b true), (.bin .eql (.x 2) (.x 6), .b false), (.idx (.x 0) (.x 2), .x 7), (.bin .eql (.x 7) (.i .u8 (.ofNat 32)), .b true), (.sub (.x 0) (some (.x 1)) (some (.x 2)), .x 8), (.ra (.x 2000001) [.x 8], .x 2000002), (.rf (.x 2000002) 1 16, .b true), (.bin .add (.x 2) (.i .i64 (.ofNat 1)), .x 9)]
theorem runRs_p1 : RNRs_0 hyRs_p1 .normal [(0, .x 0), (1, .x 9), (2, .x 9), (2000000, .x 2000002)] [(110, 113)] 112 epRs_1 hpRs_1 = true := by kernel_rfl
theorem nxRs_p1 (ln : LB) (c0 : ln.length ≤ 100000) (o : List LB) (fr i : Int) (X : Nat → Value) (hI : InvRs ln (0, o, fr, i)) (h1 : ¬ (i = (ln.length : Int))) (h2 : bt ln (Int.toNat (i)) = 32) : RHRs ln E' x' e' h' (0, o, fr, i) X := by
  obtain ⟨i0, i1, i2, i3, i4, i5, i6, i7, it⟩ := unIRs ln 0 o fr i hI
  have := bt_lo ln (Int.toNat (i)); have := bt_hi ln (Int.toNat (i))
  have hpl := pcS_len (ln := ln) (fr := fr) (i := i) (by omega) (by omega) (by omega)
  have h7 := i7 rfl
  refine stRs_0 ln o fr i (h := hyRs_p1) (1, ([] ++ [pcS ln fr i]), (i + 1), (i + 1)) ?_ (mkIRs ln 1 ([] ++ [pcS ln fr i]) (i + 1) (i + 1) ⟨by omega, by omega, by omega, by simp only [List.length_append, List.length_cons, List.length_nil]; omega, fun _ => rs_b (o := []) (by omega) (by omega) (by omega) (by assumption) (by have := i4 (by omega); rw [i6 (by omega)] at this; exact this), fun h => by omega, fun h => by omega, fun h => by omega, by omega⟩) (by show ln.length + 1 - (i + 1).toNat < ln.length + 1 - i.toNat; omega) (thXv (v := St' ln) rfl rfl (thXi (b := ((i + 1))) rfl rfl (by omega) (thXi (b := ((i + 1))) rfl rfl (by omega) (thX (i := 2000000) (id := 2000002) (show (rwS (([] : List LB) ++ [(pcS ln fr i)]) : Value) = rwS ([] ++ [pcS ln fr i]) from by first | rfl | (simp; done)) (thNil))))) runRs_p1
  unfold hyRs_p1
  exact hc (kRn (denX rfl)) <|
   hc (lnV rfl rfl (by omega)) <|
   hc (leT rfl rfl (by omega)) <|
   hc (eqXF rfl rfl (by omega)) <|
   hc (ixV rfl rfl rfl (by omega)) <|
   hc (eqcT rfl (by omega)) <|
   hc (kMid (P := fr) (Q := i) (isX rfl) (.inr ⟨_, _, rfl, (isX rfl)⟩) (.inr ⟨_, _, rfl, (isX rfl)⟩) (by omega) (by omega) (by omega) (denX rfl)) <|
   hc (kRa (isX rfl) (isX rfl) (denX rfl)) <|
   hc (kRf (isX rfl) (by first | omega | (simp <;> omega)) (by first | omega | (simp <;> omega))) <|
   hc (adC rfl rfl (by omega)) <|
   hnil
def hyRs_p2 : LK := [(.rn, .x 2000003), (.len (.x 0), .x 10), (.bin .leq (.x 2) (.x 10), .b true), (.bin .eql (.x 2) (.x 10), .b true), (.sub (.x 0) (some (.x 1)) (some (.x 2)), .x 11), (.ra (.x 2000003) [.x 11], .x 2000004), (.rf (.x 2000004) 1 16, .b true), (.bin .add (.x 2) (.i .i64 (.ofNat 1)), .x 12)]
theorem runRs_p2 : RNRs_0 hyRs_p2 .normal [(0, .x 0), (1, .x 12), (2, .x 12), (2000000, .x 2000004)] [(110, 113)] 112 epRs_1 hpRs_1 = true := by kernel_rfl
theorem nxRs_p2 (ln : LB) (c0 : ln.length ≤ 100000) (o : List LB) (fr i : Int) (X : Nat → Value) (hI : InvRs ln (0, o, fr, i)) (h1 : i = (ln.length : Int)) : RHRs ln E' x' e' h' (0, o, fr, i) X := by
  obtain ⟨i0, i1, i2, i3, i4, i5, i6, i7, it⟩ := unIRs ln 0 o fr i hI
  have hpl := pcS_len (ln := ln) (fr := fr) (i := i) (by omega) (by omega) (by omega)
  have h7 := i7 rfl
  refine stRs_0 ln o fr i (h := hyRs_p2) (1, ([] ++ [pcS ln fr i]), (i + 1), (i + 1)) ?_ (mkIRs ln 1 ([] ++ [pcS ln fr i]) (i + 1) (i + 1) ⟨by omega, by omega, by omega, by simp only [List.length_append, List.length_cons, List.length_nil]; omega, fun h => by omega, fun _ => rs_e (o := []) (by omega) (by omega) (by omega) (by have := i4 (by omega); rw [i6 (by omega)] at this; exact this), fun h => by omega, fun h => by omega, by omega⟩) (by show ln.length + 1 - (i + 1).toNat < ln.length + 1 - i.toNat; omega) (thXv (v := St' ln) rfl rfl (thXi (b := ((i + 1))) rfl rfl (by omega) (thXi (b := ((i + 1))) rfl rfl (by omega) (thX (i := 2000000) (id := 2000004) (show (rwS (([] : List LB) ++ [(pcS ln fr i)]) : Value) = rwS ([] ++ [pcS ln fr i]) from by first | rfl | (simp; done)) (thNil))))) runRs_p2
  unfold hyRs_p2
  exact hc (kRn (denX rfl)) <|
   hc (lnV rfl rfl (by omega)) <|
   hc (leT rfl rfl (by omega)) <|
   hc (eqXT rfl rfl (by omega)) <|
   hc (kMid (P := fr) (Q := i) (isX rfl) (.inr ⟨_, _, rfl, (isX rfl)⟩) (.inr ⟨_, _, rfl, (isX rfl)⟩) (by omega) (by omega) (by omega) (denX rfl)) <|
   hc (kRa (isX rfl) (isX rfl) (denX rfl)) <|
   hc (kRf (isX rfl) (by first | omega | (simp <;> omega)) (by first | omega | (simp <;> omega))) <|
   hc (adC rfl rfl (by omega)) <|
   hnil
def hyRs_p3 : LK := [(.rn, .x 2000001), (.len (.x 0), .x 3), (.bin .leq (.x 2) (.x 3), .b true), (.bin .eql (.x 2) (.x 3), .b false), (.idx (.x 0) (.x 2), .x 4), (.bin .eql (.x 4) (.i .u8 (.ofNat 32)), .b false), (.bin .add (.x 2) (.i .i64 (.ofNat 1)), .x 5)]
theorem runRs_p3 : RNRs_1 hyRs_p3 .normal [(0, .x 0), (1, .x 1), (2, .x 5), (2000000, .x 2000000)] [(110, 110)] 112 epRs_1 hpRs_1 = true := by kernel_rfl
theorem nxRs_p3 (ln : LB) (c0 : ln.length ≤ 100000) (o : List LB) (fr i : Int) (X : Nat → Value) (hI : InvRs ln (1, o, fr, i)) (h0 : i ≤ (ln.length : Int)) (h1 : ¬ (i = (ln.length : Int))) (h2 : ¬ (bt ln (Int.toNat (i)) = 32)) : RHRs ln E' x' e' h' (1, o, fr, i) X := by
  obtain ⟨i0, i1, i2, i3, i4, i5, i6, i7, it⟩ := unIRs ln 1 o fr i hI
  have := bt_lo ln (Int.toNat (i)); have := bt_hi ln (Int.toNat (i))
  refine stRs_1 ln o fr i (h := hyRs_p3) (1, o, fr, (i + 1)) ?_ (mkIRs ln 1 o fr (i + 1) ⟨by omega, by omega, by omega, by omega, fun _ => rs_n (by omega) (by omega) (by omega) (by assumption) (i4 (by omega)), fun h => by omega, fun h => by omega, fun h => by omega, by omega⟩) (by show ln.length + 1 - (i + 1).toNat < ln.length + 1 - i.toNat; omega) (thXv (v := St' ln) rfl rfl (thXv (v := .int .i64 (fr)) rfl rfl (thXi (b := ((i + 1))) rfl rfl (by omega) (thXv (v := rwS o) rfl rfl (thNil))))) runRs_p3
  unfold hyRs_p3
  exact hc (kRn (denX rfl)) <|
   hc (lnV rfl rfl (by omega)) <|
   hc (leT rfl rfl (by omega)) <|
   hc (eqXF rfl rfl (by omega)) <|
   hc (ixV rfl rfl rfl (by omega)) <|
   hc (eqcF rfl (by omega)) <|
   hc (adC rfl rfl (by omega)) <|
   hnil
def hyRs_p4 : LK := [(.rn, .x 2000002), (.len (.x 0), .x 6), (.bin .leq (.x 2) (.x 6), .b true), (.bin .eql (.x 2) (.x 6), .b false), (.idx (.x 0) (.x 2), .x 7), (.bin .eql (.x 7) (.i .u8 (.ofNat 32)), .b true), (.sub (.x 0) (some (.x 1)) (some (.x 2)), .x 8), (.ra (.x 2000000) [.x 8], .x 2000003), (.rf (.x 2000003) 1 16, .b true), (.bin .add (.x 2) (.i .i64 (.ofNat 1)), .x 9)]
theorem runRs_p4 : RNRs_1 hyRs_p4 .normal [(0, .x 0), (1, .x 9), (2, .x 9), (2000000, .x 2000003)] [(110, 113)] 112 epRs_1 hpRs_1 = true := by kernel_rfl
theorem nxRs_p4 (ln : LB) (c0 : ln.length ≤ 100000) (o : List LB) (fr i : Int) (X : Nat → Value) (hI : InvRs ln (1, o, fr, i)) (h0 : i ≤ (ln.length : Int)) (h1 : ¬ (i = (ln.length : Int))) (h2 : bt ln (Int.toNat (i)) = 32) : RHRs ln E' x' e' h' (1, o, fr, i) X := by
  obtain ⟨i0, i1, i2, i3, i4, i5, i6, i7, it⟩ := unIRs ln 1 o fr i hI
  have := bt_lo ln (Int.toNat (i)); have := bt_hi ln (Int.toNat (i))
  have hpl := pcS_len (ln := ln) (fr := fr) (i := i) (by omega) (by omega) (by omega)
  refine stRs_1 ln o fr i (h := hyRs_p4) (1, (o ++ [pcS ln fr i]), (i + 1), (i + 1)) ?_ (mkIRs ln 1 (o ++ [pcS ln fr i]) (i + 1) (i + 1) ⟨by omega, by omega, by omega, by simp only [List.length_append, List.length_cons, List.length_nil]; omega, fun _ => rs_b (by omega) (by omega) (by omega) (by assumption) (i4 (by omega)), fun h => by omega, fun h => by omega, fun h => by omega, by omega⟩) (by show ln.length + 1 - (i + 1).toNat < ln.length + 1 - i.toNat; omega) (thXv (v := St' ln) rfl rfl (thXi (b := ((i + 1))) rfl rfl (by omega) (thXi (b := ((i + 1))) rfl rfl (by omega) (thX (i := 2000000) (id := 2000003) (show (rwS (o ++ [(pcS ln fr i)]) : Value) = rwS (o ++ [pcS ln fr i]) from by first | rfl | (simp; done)) (thNil))))) runRs_p4
  unfold hyRs_p4
  exact hc (kRn (denX rfl)) <|
   hc (lnV rfl rfl (by omega)) <|
   hc (leT rfl rfl (by omega)) <|
   hc (eqXF rfl rfl (by omega)) <|
   hc (ixV rfl rfl rfl (by omega)) <|
   hc (eqcT rfl (by omega)) <|
   hc (kMid (P := fr) (Q := i) (isX rfl) (.inr ⟨_, _, rfl, (isX rfl)⟩) (.inr ⟨_, _, rfl, (isX rfl)⟩) (by omega) (by omega) (by omega) (denX rfl)) <|
   hc (kRa (isX rfl) (isX rfl) (denX rfl)) <|
   hc (kRf (isX rfl) (by first | omega | (simp <;> omega)) (by first | omega | (simp <;> omega))) <|
   hc (adC rfl rfl (by omega)) <|
   hnil
def hyRs_p5 : LK := [(.rn, .x 2000004), (.len (.x 0), .x 10), (.bin .leq (.x 2) (.x 10), .b true), (.bin .eql (.x 2) (.x 10), .b true), (.sub (.x 0) (some (.x 1)) (some (.x 2)), .x 11), (.ra (.x 2000000) [.x 11], .x 2000005), (.rf (.x 2000005) 1 16, .b true), (.bin .add (.x 2) (.i .i64 (.ofNat 1)), .x 12)]
theorem runRs_p5 : RNRs_1 hyRs_p5 .normal [(0, .x 0), (1, .x 12), (2, .x 12), (2000000, .x 2000005)] [(110, 113)] 112 epRs_1 hpRs_1 = true := by kernel_rfl
theorem nxRs_p5 (ln : LB) (c0 : ln.length ≤ 100000) (o : List LB) (fr i : Int) (X : Nat → Value) (hI : InvRs ln (1, o, fr, i)) (h0 : i ≤ (ln.length : Int)) (h1 : i = (ln.length : Int)) : RHRs ln E' x' e' h' (1, o, fr, i) X := by
  obtain ⟨i0, i1, i2, i3, i4, i5, i6, i7, it⟩ := unIRs ln 1 o fr i hI
  have hpl := pcS_len (ln := ln) (fr := fr) (i := i) (by omega) (by omega) (by omega)
  refine stRs_1 ln o fr i (h := hyRs_p5) (1, (o ++ [pcS ln fr i]), (i + 1), (i + 1)) ?_ (mkIRs ln 1 (o ++ [pcS ln fr i]) (i + 1) (i + 1) ⟨by omega, by omega, by omega, by simp only [List.length_append, List.length_cons, List.length_nil]; omega, fun h => by omega, fun _ => rs_e (by omega) (by omega) (by omega) (i4 (by omega)), fun h => by omega, fun h => by omega, by omega⟩) (by show ln.length + 1 - (i + 1).toNat < ln.length + 1 - i.toNat; omega) (thXv (v := St' ln) rfl rfl (thXi (b := ((i + 1))) rfl rfl (by omega) (thXi (b := ((i + 1))) rfl rfl (by omega) (thX (i := 2000000) (id := 2000005) (show (rwS (o ++ [(pcS ln fr i)]) : Value) = rwS (o ++ [pcS ln fr i]) from by first | rfl | (simp; done)) (thNil))))) runRs_p5
  unfold hyRs_p5
  exact hc (kRn (denX rfl)) <|
   hc (lnV rfl rfl (by omega)) <|
   hc (leT rfl rfl (by omega)) <|
   hc (eqXT rfl rfl (by omega)) <|
   hc (kMid (P := fr) (Q := i) (isX rfl) (.inr ⟨_, _, rfl, (isX rfl)⟩) (.inr ⟨_, _, rfl, (isX rfl)⟩) (by omega) (by omega) (by omega) (denX rfl)) <|
   hc (kRa (isX rfl) (isX rfl) (denX rfl)) <|
   hc (kRf (isX rfl) (by first | omega | (simp <;> omega)) (by first | omega | (simp <;> omega))) <|
   hc (adC rfl rfl (by omega)) <|
   hnil
def hyRs_p6 : LK := [(.rn, .x 2000006), (.len (.x 0), .x 13), (.bin .leq (.x 2) (.x 13), .b false)]
theorem runRs_p6 : RNRs_1 hyRs_p6 (.exit 0) [(2000000, .x 2000000)] [(110, 110)] 150 [(5, .sr 110)] [(110, .r 2000000 9 1 false)] = true := by kernel_rfl
def nuERs_0 (ln : LB) : List Value := []
def roERs_0 (ln : LB) : List Value := [rwS (spl ln)]
noncomputable def ERs_0 (ln : LB) : Cx := cx (nuX (nuERs_0 ln) (rX (roERs_0 ln) (fun _ => .bool true))) (nuX_one (nuL_one (l := nuERs_0 ln) rfl)) 1 laidE laidE_stab
theorem roundsRs_0 (ln : LB) (c0 : ln.length ≤ 100000) (st : Nat × List LB × Int × Int) (X : Nat → Value) (hI : InvRs ln st) : RHRs ln (ERs_0 ln) (.exit 0) [(5, .sr 110)] [(110, .r 2000000 9 1 false)] st X := by
  obtain ⟨tag, o, fr, i⟩ := st
  have hI0 := hI
  obtain ⟨i0, i1, i2, i3, i4, i5, i6, i7, it⟩ := unIRs ln tag o fr i hI
  rcases (show tag = 0 ∨ tag = 1 from by omega) with rfl | rfl
  · skip
    by_cases h1 : i = (ln.length : Int)
    · exact nxRs_p2 ln c0 o fr i X hI0 h1
    · by_cases h2 : bt ln (Int.toNat (i)) = 32
      · exact nxRs_p1 ln c0 o fr i X hI0 h1 h2
      · exact nxRs_p0 ln c0 o fr i X hI0 h1 h2
  · skip
    by_cases h0 : i ≤ (ln.length : Int)
    · by_cases h1 : i = (ln.length : Int)
      · exact nxRs_p5 ln c0 o fr i X hI0 h0 h1
      · by_cases h2 : bt ln (Int.toNat (i)) = 32
        · exact nxRs_p4 ln c0 o fr i X hI0 h0 h1 h2
        · exact nxRs_p3 ln c0 o fr i X hI0 h0 h1 h2
    · skip
      refine lvRs_1 ln o fr i (h := hyRs_p6) rfl ?_ (thXe (v := rwS o) (u := rwS (spl ln)) rfl rfl (congrArg rwS (i5 (by omega))) (thNil)) runRs_p6
      unfold hyRs_p6
      exact hc (kRn (denX rfl)) <|
       hc (lnV rfl rfl (by omega)) <|
       hc (leF rfl rfl (by omega)) <|
       hnil
theorem lfOkRs_0 {l : LF} {h : LH} (ln : LB) (c0 : ln.length ≤ 100000) (st : Nat × List LB × Int × Int) (hI : InvRs ln st) (hl : l.hp = some h) (hs : lfSame l h 35 keepRs (.exit 0) 7 110 150 = true) {th0 : LA} {sg0 : List (Nat × Nat)} (hth0 : ∀ X, ThOk (cx nu one 1 laidE laidE_stab) (DRs ln st X) th0) (h0 : startOk l h 35 110 112 th0 sg0 (epRs st) (hpRs st) = true) {thx : LA} (hthx : ThOk (ERs_0 ln) (cx nu one 1 laidE laidE_stab) thx) (hx : exitOk l h 35 110 150 thx [(5, .sr 110)] [(110, .r 2000000 9 1 false)] = true) : LfOk (cx nu one 1 laidE laidE_stab) bodyRs l :=
  lfOkX (E := ERs_0 ln) (InvRs ln) (muRs ln) (DRs ln) (fun _ _ => rfl) (fun _ _ => rfl) (fun _ _ => rfl) (fun st X t ht => nuX_keep.trans (rX_keep ((by decide : ∀ t, t ∈ keepRs → t < 1000000) t ht))) rfl rfl rfl hl hs ebRs rfl rfl st hI hth0 h0 hthx hx (roundsRs_0 ln c0)
noncomputable def bodyRt : Code := loopNo (Tryd.f22.body.getD .skip) 0
theorem keyRt : oneKey (loopsOf (Tryd.f22.body.getD .skip)) 4 0 0 = true := by kernel_rfl
def keepRt : List Nat := []
def epRt_0 : LA := [(0, .x 0), (1, .x 1), (5, .x 2)]
def hpRt_0 : LE := []
def nuRt_0 (m t : LB) (A : Bool) (i : Int) : List Value := [St' m, St' t, .int .i64 (i), .int .i64 ((t.length : Int)), .int .i64 ((t.length : Int)), .int .u8 (bt t (Int.toNat (i))), .int .i64 (i + 1), .int .i64 ((t.length : Int)), .int .u8 (bt t (Int.toNat (i))), .int .i64 ((t.length : Int)), .int .u8 (bt t (Int.toNat (i))), .int .i64 ((t.length : Int)), .int .u8 (bt t (Int.toNat (i)))]
def roRt_0 (m t : LB) (A : Bool) (i : Int) : List Value := []
def epRt (st : Nat × Int) : LA := epRt_0
def hpRt (st : Nat × Int) : LE := hpRt_0
def nuRt (m t : LB) (A : Bool) (st : Nat × Int) : List Value := nuRt_0 m t A (st.2)
def roRt (m t : LB) (A : Bool) (st : Nat × Int) : List Value := roRt_0 m t A (st.2)
theorem onRt (m t : LB) (A : Bool) (st : Nat × Int) : ∀ j, (nuL (nuRt m t A st) j).oneCell' = true := by
  intro j
  unfold nuRt
  exact nuL_one (l := nuRt_0 m t A (st.2)) rfl j
theorem ebRt (st : Nat × Int) : (lfB (epRt st) && lfC keepRt) = true := by
  unfold epRt
  rfl
noncomputable def DRt (m t : LB) (A : Bool) (st : Nat × Int) (X : Nat → Value) : Cx := cx (nuX (nuRt m t A st) (rX (roRt m t A st) X)) (nuX_one (onRt m t A st)) 1 laidE laidE_stab
def InvRt (m t : LB) (A : Bool) (st : Nat × Int) : Prop := (0 ≤ (st.2)) ∧ ((st.2) ≤ (t.length : Int)) ∧ ((t.drop (Int.toNat (st.2))).all (msk MTs) = A) ∧ ((st.1) < 1)
abbrev CjRt (m t : LB) (A : Bool) (tag : Nat) (i : Int) : Prop := (0 ≤ i) ∧ (i ≤ (t.length : Int)) ∧ ((t.drop (Int.toNat i)).all (msk MTs) = A) ∧ (tag < 1)
theorem mkIRt (m t : LB) (A : Bool) (tag : Nat) (i : Int) (h : CjRt m t A tag i) : InvRt m t A (tag, i) := h
theorem unIRt (m t : LB) (A : Bool) (tag : Nat) (i : Int) (h : InvRt m t A (tag, i)) : (0 ≤ i) ∧ (i ≤ (t.length : Int)) ∧ ((t.drop (Int.toNat i)).all (msk MTs) = A) ∧ (tag < 1) := h
def muRt (m t : LB) (A : Bool) (st : Nat × Int) : Nat := (t.length - (st.2).toNat)
abbrev RHRt (m t : LB) (A : Bool) (E' : Cx) (ex' : Ex) (epx' : LA) (hpx' : LE) (st : Nat × Int) (X : Nat → Value) : Prop := RoundH E' bodyRt keepRt 40 ex' 7 7 7 7 epRt hpRt epx' hpx' (InvRt m t A) (muRt m t A) (DRt m t A) st X
noncomputable abbrev RNRt_0 (h : LK) (x : Ex) (th : LA) (sg : List (Nat × Nat)) (m : Nat) (ep : LA) (hp : LE) : Bool := okRdH (code (tbl h) 900 [] bodyRt (envOf (headOf epRt_0 keepRt) 40) ⟨lhSet hpRt_0 .leaf, 7, 0, 0⟩) x keepRt 40 7 th sg 7 m ep hp
theorem stRt_0 (m t : LB) (A : Bool) (i : Int) {X : Nat → Value} {h : LK} (y : Nat × Int) {th : LA} {sg : List (Nat × Nat)} (ho : ∀ a' r', (a', r') ∈ h → HOk (cx (nuX (nuRt_0 m t A i) (rX (roRt_0 m t A i) X)) (nuX_one (nuL_one (l := nuRt_0 m t A i) rfl)) 1 laidE laidE_stab) a' r') (hy : InvRt m t A y) (lt : muRt m t A y < muRt m t A (0, i)) (ht : ThOk (cx (nuX (nuRt_0 m t A i) (rX (roRt_0 m t A i) X)) (nuX_one (nuL_one (l := nuRt_0 m t A i) rfl)) 1 laidE laidE_stab) (DRt m t A y X) th) (run : RNRt_0 h .normal th sg 7 (epRt y) (hpRt y) = true) : RHRt m t A E' x' e' h' (0, i) X :=
  RoundH.next (tb := tbl h) (L := []) (f := 900) y ((tabkOk _ _).hyps ho) (LpOk.nil _) rfl hy lt ht run
theorem lvRt_0 (m t : LB) (A : Bool) (i : Int) {X : Nat → Value} {h : LK} {th : LA} {sg : List (Nat × Nat)} (hne : exB x' .normal = false) (ho : ∀ a' r', (a', r') ∈ h → HOk (cx (nuX (nuRt_0 m t A i) (rX (roRt_0 m t A i) X)) (nuX_one (nuL_one (l := nuRt_0 m t A i) rfl)) 1 laidE laidE_stab) a' r') (ht : ThOk (cx (nuX (nuRt_0 m t A i) (rX (roRt_0 m t A i) X)) (nuX_one (nuL_one (l := nuRt_0 m t A i) rfl)) 1 laidE laidE_stab) E' th) (run : RNRt_0 h x' th sg 7 e' h' = true) : RHRt m t A E' x' e' h' (0, i) X :=
  RoundH.leave (tb := tbl h) (L := []) (f := 900) ((tabkOk _ _).hyps ho) (LpOk.nil _) rfl hne ht run
def hyRt_p0 : LK := [(.len (.x 1), .x 3), (.bin .lss (.x 2) (.x 3), .b false)]
theorem runRt_p0 : RNRt_0 hyRt_p0 (.exit 0) [(0, .x 0), (1, .x 1)] [] 7 [(0, .x 0), (1, .x 1)] [] = true := by kernel_rfl
def hyRt_p1 : LK := [(.len (.x 1), .x 4), (.bin .lss (.x 2) (.x 4), .b true), (.idx (.x 1) (.x 2), .x 5), (.bin .lss (.x 5) (.i .u8 (.ofNat 33)), .b false), (.bin .gtr (.x 5) (.i .u8 (.ofNat 126)), .b false), (.bin .eql (.x 5) (.i .u8 (.ofNat 35)), .b false), (.bin .add (.x 2) (.i .i64 (.ofNat 1)), .x 6)]
theorem runRt_p1 : RNRt_0 hyRt_p1 .normal [(0, .x 0), (1, .x 1), (2, .x 6)] [] 7 epRt_0 hpRt_0 = true := by kernel_rfl
theorem nxRt_p1 (m t : LB) (A : Bool) (c0 : t.length ≤ 140737488355328) (i : Int) (X : Nat → Value) (hI : InvRt m t A (0, i)) (h0 : i < (t.length : Int)) (h1 : ¬ (bt t (Int.toNat (i)) < 33)) (h2 : ¬ (126 < bt t (Int.toNat (i)))) (h3 : ¬ (bt t (Int.toNat (i)) = 35)) : RHRt m t A E' x' e' h' (0, i) X := by
  obtain ⟨i0, i1, i2, it⟩ := unIRt m t A 0 i hI
  have := bt_lo t (Int.toNat (i)); have := bt_hi t (Int.toNat (i))
  refine stRt_0 m t A i (h := hyRt_p1) (0, (i + 1)) ?_ (mkIRt m t A 0 (i + 1) ⟨by omega, by omega, al_yes (by omega) (by omega) (tg_y (bt_lo _ _) (bt_hi _ _) (by omega)) i2, by omega⟩) (by show t.length - (i + 1).toNat < t.length - i.toNat; omega) (thXv (v := St' m) rfl rfl (thXv (v := St' t) rfl rfl (thXi (b := ((i + 1))) rfl rfl (by omega) (thNil)))) runRt_p1
  unfold hyRt_p1
  exact hc (lnV rfl rfl (by omega)) <|
   hc (ltT rfl rfl (by omega)) <|
   hc (ixV rfl rfl rfl (by omega)) <|
   hc (ltcF rfl (by omega)) <|
   hc (gtcF rfl (by omega)) <|
   hc (eqcF rfl (by omega)) <|
   hc (adC rfl rfl (by omega)) <|
   hnil
def hyRt_p2 : LK := [(.len (.x 1), .x 7), (.bin .lss (.x 2) (.x 7), .b true), (.idx (.x 1) (.x 2), .x 8), (.bin .lss (.x 8) (.i .u8 (.ofNat 33)), .b false), (.bin .gtr (.x 8) (.i .u8 (.ofNat 126)), .b false), (.bin .eql (.x 8) (.i .u8 (.ofNat 35)), .b true)]
theorem runRt_p2 : RNRt_0 hyRt_p2 .ret [] [] 7 [(4, .b false)] [] = true := by kernel_rfl
def hyRt_p3 : LK := [(.len (.x 1), .x 9), (.bin .lss (.x 2) (.x 9), .b true), (.idx (.x 1) (.x 2), .x 10), (.bin .lss (.x 10) (.i .u8 (.ofNat 33)), .b true)]
theorem runRt_p3 : RNRt_0 hyRt_p3 .ret [] [] 7 [(4, .b false)] [] = true := by kernel_rfl
def hyRt_p4 : LK := [(.len (.x 1), .x 11), (.bin .lss (.x 2) (.x 11), .b true), (.idx (.x 1) (.x 2), .x 12), (.bin .lss (.x 12) (.i .u8 (.ofNat 33)), .b false), (.bin .gtr (.x 12) (.i .u8 (.ofNat 126)), .b true)]
theorem runRt_p4 : RNRt_0 hyRt_p4 .ret [] [] 7 [(4, .b false)] [] = true := by kernel_rfl
def nuERt_0 (m t : LB) (A : Bool) : List Value := [St' m, St' t]
def roERt_0 (m t : LB) (A : Bool) : List Value := []
noncomputable def ERt_0 (m t : LB) (A : Bool) : Cx := cx (nuX (nuERt_0 m t A) (rX (roERt_0 m t A) (fun _ => .bool true))) (nuX_one (nuL_one (l := nuERt_0 m t A) rfl)) 1 laidE laidE_stab
theorem roundsRt_0 (m t : LB) (A : Bool) (c0 : t.length ≤ 140737488355328) (x0 : A = true) (st : Nat × Int) (X : Nat → Value) (hI : InvRt m t A st) : RHRt m t A (ERt_0 m t A) (.exit 0) [(0, .x 0), (1, .x 1)] [] st X := by
  obtain ⟨tag, i⟩ := st
  have hI0 := hI
  obtain ⟨i0, i1, i2, it⟩ := unIRt m t A tag i hI
  obtain rfl : tag = 0 := by omega
  skip
  by_cases h0 : i < (t.length : Int)
  · by_cases h1 : bt t (Int.toNat (i)) < 33
    · exfalso; have e := al_no (by omega) (by omega) (tg_n (bt_lo _ _) (bt_hi _ _) (by omega)) i2; rw [e] at x0; exact absurd x0 (by simp)
    · by_cases h2 : 126 < bt t (Int.toNat (i))
      · exfalso; have e := al_no (by omega) (by omega) (tg_n (bt_lo _ _) (bt_hi _ _) (by omega)) i2; rw [e] at x0; exact absurd x0 (by simp)
      · by_cases h3 : bt t (Int.toNat (i)) = 35
        · exfalso; have e := al_no (by omega) (by omega) (tg_n (bt_lo _ _) (bt_hi _ _) (by omega)) i2; rw [e] at x0; exact absurd x0 (by simp)
        · exact nxRt_p1 m t A c0 i X hI0 h0 h1 h2 h3
  · skip
    refine lvRt_0 m t A i (h := hyRt_p0) rfl ?_ (thXv (v := St' m) rfl rfl (thXv (v := St' t) rfl rfl (thNil))) runRt_p0
    unfold hyRt_p0
    exact hc (lnV rfl rfl (by omega)) <|
     hc (ltF rfl rfl (by omega)) <|
     hnil
theorem lfOkRt_0 {l : LF} {h : LH} (m t : LB) (A : Bool) (c0 : t.length ≤ 140737488355328) (x0 : A = true) (st : Nat × Int) (hI : InvRt m t A st) (hl : l.hp = some h) (hs : lfSame l h 40 keepRt (.exit 0) 7 7 7 = true) {th0 : LA} {sg0 : List (Nat × Nat)} (hth0 : ∀ X, ThOk (cx nu one 1 laidE laidE_stab) (DRt m t A st X) th0) (h0 : startOk l h 40 7 7 th0 sg0 (epRt st) (hpRt st) = true) {thx : LA} (hthx : ThOk (ERt_0 m t A) (cx nu one 1 laidE laidE_stab) thx) (hx : exitOk l h 40 7 7 thx [(0, .x 0), (1, .x 1)] [] = true) : LfOk (cx nu one 1 laidE laidE_stab) bodyRt l :=
  lfOkX (E := ERt_0 m t A) (InvRt m t A) (muRt m t A) (DRt m t A) (fun _ _ => rfl) (fun _ _ => rfl) (fun _ _ => rfl) (fun st X t ht => nuX_keep.trans (rX_keep ((by decide : ∀ t, t ∈ keepRt → t < 1000000) t ht))) rfl rfl rfl hl hs ebRt rfl rfl st hI hth0 h0 hthx hx (roundsRt_0 m t A c0 x0)
def nuERt_1 (m t : LB) (A : Bool) : List Value := []
def roERt_1 (m t : LB) (A : Bool) : List Value := []
noncomputable def ERt_1 (m t : LB) (A : Bool) : Cx := cx (nuX (nuERt_1 m t A) (rX (roERt_1 m t A) (fun _ => .bool true))) (nuX_one (nuL_one (l := nuERt_1 m t A) rfl)) 1 laidE laidE_stab
theorem roundsRt_1 (m t : LB) (A : Bool) (c0 : t.length ≤ 140737488355328) (x0 : A = false) (st : Nat × Int) (X : Nat → Value) (hI : InvRt m t A st) : RHRt m t A (ERt_1 m t A) .ret [(4, .b false)] [] st X := by
  obtain ⟨tag, i⟩ := st
  have hI0 := hI
  obtain ⟨i0, i1, i2, it⟩ := unIRt m t A tag i hI
  obtain rfl : tag = 0 := by omega
  skip
  by_cases h0 : i < (t.length : Int)
  · by_cases h1 : bt t (Int.toNat (i)) < 33
    · skip
      have := bt_lo t (Int.toNat (i)); have := bt_hi t (Int.toNat (i))
      refine lvRt_0 m t A i (h := hyRt_p3) rfl ?_ (thNil) runRt_p3
      unfold hyRt_p3
      exact hc (lnV rfl rfl (by omega)) <|
       hc (ltT rfl rfl (by omega)) <|
       hc (ixV rfl rfl rfl (by omega)) <|
       hc (ltcT rfl (by omega)) <|
       hnil
    · by_cases h2 : 126 < bt t (Int.toNat (i))
      · skip
        have := bt_lo t (Int.toNat (i)); have := bt_hi t (Int.toNat (i))
        refine lvRt_0 m t A i (h := hyRt_p4) rfl ?_ (thNil) runRt_p4
        unfold hyRt_p4
        exact hc (lnV rfl rfl (by omega)) <|
         hc (ltT rfl rfl (by omega)) <|
         hc (ixV rfl rfl rfl (by omega)) <|
         hc (ltcF rfl (by omega)) <|
         hc (gtcT rfl (by omega)) <|
         hnil
      · by_cases h3 : bt t (Int.toNat (i)) = 35
        · skip
          have := bt_lo t (Int.toNat (i)); have := bt_hi t (Int.toNat (i))
          refine lvRt_0 m t A i (h := hyRt_p2) rfl ?_ (thNil) runRt_p2
          unfold hyRt_p2
          exact hc (lnV rfl rfl (by omega)) <|
           hc (ltT rfl rfl (by omega)) <|
           hc (ixV rfl rfl rfl (by omega)) <|
           hc (ltcF rfl (by omega)) <|
           hc (gtcF rfl (by omega)) <|
           hc (eqcT rfl (by omega)) <|
           hnil
        · exact nxRt_p1 m t A c0 i X hI0 h0 h1 h2 h3
  · exfalso; have e := al_end (by omega) i2; rw [e] at x0; exact absurd x0 (by simp)
theorem lfOkRt_1 {l : LF} {h : LH} (m t : LB) (A : Bool) (c0 : t.length ≤ 140737488355328) (x0 : A = false) (st : Nat × Int) (hI : InvRt m t A st) (hl : l.hp = some h) (hs : lfSame l h 40 keepRt .ret 7 7 7 = true) {th0 : LA} {sg0 : List (Nat × Nat)} (hth0 : ∀ X, ThOk (cx nu one 1 laidE laidE_stab) (DRt m t A st X) th0) (h0 : startOk l h 40 7 7 th0 sg0 (epRt st) (hpRt st) = true) {thx : LA} (hthx : ThOk (ERt_1 m t A) (cx nu one 1 laidE laidE_stab) thx) (hx : exitOk l h 40 7 7 thx [(4, .b false)] [] = true) : LfOk (cx nu one 1 laidE laidE_stab) bodyRt l :=
  lfOkX (E := ERt_1 m t A) (InvRt m t A) (muRt m t A) (DRt m t A) (fun _ _ => rfl) (fun _ _ => rfl) (fun _ _ => rfl) (fun st X t ht => nuX_keep.trans (rX_keep ((by decide : ∀ t, t ∈ keepRt → t < 1000000) t ht))) rfl rfl rfl hl hs ebRt rfl rfl st hI hth0 h0 hthx hx (roundsRt_1 m t A c0 x0)
noncomputable def fi22 : FI := (tabk.fn.get 22).getD default
theorem fi22_at : tabk.fn.get 22 = some fi22 := by kernel_rfl
theorem fi22_body : fi22.body = some (Tryd.f22.body.getD .skip) := by kernel_rfl
theorem fiB22 : fi22.body.isSome = true := by rw [fi22_body]; rfl
theorem cfA22 : (loopsOf (Tryd.f22.body.getD .skip)).all (fun b => !(keyEq (Go.AX.keyOf b) 8888888)) = true := by kernel_rfl
theorem fiNTgR : tabk.fn.get 22 = some (fI Tryd.f22 0) ∧ (fI Tryd.f22 0).body.isSome = true := ⟨rfl, by kernel_rfl⟩
def hyTgR_0 : LK := [(.bin .eql (.x 1) (.s 1 42), .b false), (.len (.x 3), .x 4), (.bin .gtr (.x 4) (.i .i64 (.ofNat 0)), .b false)]
def lh21 : LH := ⟨7, 7, 7, [], []⟩
def lf21 : LF := ⟨4, 40, [(0, .x 0), (1, .x 1), (5, .i .i64 (.ofNat 0))], [], (.exit 0), [(0, .x 2), (1, .x 3)], some lh21⟩
noncomputable def tabTgR_0 : Tab := addLps ({ tabk with hyp := hyTgR_0 }) 22 fi22 [lf21]
theorem runTgR_0 (e : Nat) : okA (call tabTgR_0 9000 22 [.x 0, .x 1] ⟨H0 e , 7, 0, 0⟩) (.b false) = true := by kernel_rfl
def nuTgR_0 (m t : LB) : List Value := [St' m, St' t, St' m, St' t, .int .i64 ((t.length : Int))]
theorem pathTgR_0 (m t : LB) (b0 : m.length ≤ 9223372036854775807) (b1 : t.length ≤ 9223372036854775807) (p0 : m.length ≤ 140737488355328) (p1 : t.length ≤ 140737488355328) (h0 : ¬ (t = [u8 42])) (h1 : t.all (msk MTs) = true) (h2 : ¬ (0 < (t.length : Int))) (w : World) (hl : laidE w) : CwR 22 #[St' m, St' t] w (.bool false) := by
  have ho : ∀ k r, (k, r) ∈ hyTgR_0 → HOk (cx (nuL (nuTgR_0 m t)) (fun j _ => nuL_one (l := nuTgR_0 m t) rfl j) 1 laidE laidE_stab) k r := by
    unfold hyTgR_0
    exact hc (kEqS (isX rfl) (isSx (l := [u8 42]) 1 42 rfl) (by first | exact decide_eq_true rfl | exact decide_eq_true ‹_› | exact decide_eq_false ‹_›)) <|
     hc (lnV rfl rfl (by omega)) <|
     hc (gtcF rfl (by omega)) <|
     hnil
  refine runC (tb := tabTgR_0) (ra := .b false) rfl (AllOk.lp1 ((tabkOk (nuL (nuTgR_0 m t)) (fun j _ => nuL_one (l := nuTgR_0 m t) rfl j)).hyps ho) (by omega) fi22_at fi22_body (lfCons (lpKnown rfl ⟨0, keyRt, lfOkRt_0 (l := lf21) (h := lh21) m t (t.all (msk MTs)) (by omega) (by assumption) (0, (0 : Int)) (mkIRt m t (t.all (msk MTs)) 0 (0 : Int) ⟨by omega, by omega, rfl, by omega⟩) rfl (by kernel_rfl) (th0 := [(0, .x 0), (1, .x 1), (2, .i .i64 (.ofNat 0))]) (sg0 := []) (fun X => thXv (v := St' m) rfl rfl (thXv (v := St' t) rfl rfl (thCons (show Is _ (.i .i64 (.ofNat 0)) (.int .i64 ((0 : Int))) from isTo (v := .int .i64 0) (isI _ _) (by first | rfl | (congr 1; omega))) (thNil)))) (by kernel_rfl) (thx := [(2, .x 0), (3, .x 1)]) (thXv (v := St' m) rfl rfl (thXv (v := St' t) rfl rfl (thNil))) (by kernel_rfl)⟩) lfNil)) rfl (get_lps (by omega)) fiB22 (fun e => runTgR_0 e ) (args := [St' m, St' t]) (by simp only [RelL, Rel]; exact ⟨_, _, rfl, rfl, ⟨_, _, rfl, rfl, rfl⟩⟩) w hl fun x hx => ?_
  simp only [Rel, RelL] at hx
  exact hx
def hyTgR_1 : LK := [(.bin .eql (.x 1) (.s 1 42), .b false), (.len (.x 3), .x 4), (.bin .gtr (.x 4) (.i .i64 (.ofNat 0)), .b true), (.idx (.x 3) (.i .i64 (.ofNat 0)), .x 5), (.bin .eql (.x 5) (.i .u8 (.ofNat 47)), .b true)]
def lh22 : LH := ⟨7, 7, 7, [], []⟩
def lf22 : LF := ⟨4, 40, [(0, .x 0), (1, .x 1), (5, .i .i64 (.ofNat 0))], [], (.exit 0), [(0, .x 2), (1, .x 3)], some lh22⟩
noncomputable def tabTgR_1 : Tab := addLps ({ tabk with hyp := hyTgR_1 }) 22 fi22 [lf22]
theorem runTgR_1 (e : Nat) : okA (call tabTgR_1 9000 22 [.x 0, .x 1] ⟨H0 e , 7, 0, 0⟩) (.b true) = true := by kernel_rfl
def nuTgR_1 (m t : LB) : List Value := [St' m, St' t, St' m, St' t, .int .i64 ((t.length : Int)), .int .u8 (bt t 0)]
theorem pathTgR_1 (m t : LB) (b0 : m.length ≤ 9223372036854775807) (b1 : t.length ≤ 9223372036854775807) (p0 : m.length ≤ 140737488355328) (p1 : t.length ≤ 140737488355328) (h0 : ¬ (t = [u8 42])) (h1 : t.all (msk MTs) = true) (h2 : 0 < (t.length : Int)) (h3 : bt t 0 = 47) (w : World) (hl : laidE w) : CwR 22 #[St' m, St' t] w (.bool true) := by
  have := bt_lo t 0; have := bt_hi t 0
  have ho : ∀ k r, (k, r) ∈ hyTgR_1 → HOk (cx (nuL (nuTgR_1 m t)) (fun j _ => nuL_one (l := nuTgR_1 m t) rfl j) 1 laidE laidE_stab) k r := by
    unfold hyTgR_1
    exact hc (kEqS (isX rfl) (isSx (l := [u8 42]) 1 42 rfl) (by first | exact decide_eq_true rfl | exact decide_eq_true ‹_› | exact decide_eq_false ‹_›)) <|
     hc (lnV rfl rfl (by omega)) <|
     hc (gtcT rfl (by omega)) <|
     hc (ixC rfl rfl (by omega)) <|
     hc (eqcT rfl (by omega)) <|
     hnil
  refine runC (tb := tabTgR_1) (ra := .b true) rfl (AllOk.lp1 ((tabkOk (nuL (nuTgR_1 m t)) (fun j _ => nuL_one (l := nuTgR_1 m t) rfl j)).hyps ho) (by omega) fi22_at fi22_body (lfCons (lpKnown rfl ⟨0, keyRt, lfOkRt_0 (l := lf22) (h := lh22) m t (t.all (msk MTs)) (by omega) (by assumption) (0, (0 : Int)) (mkIRt m t (t.all (msk MTs)) 0 (0 : Int) ⟨by omega, by omega, rfl, by omega⟩) rfl (by kernel_rfl) (th0 := [(0, .x 0), (1, .x 1), (2, .i .i64 (.ofNat 0))]) (sg0 := []) (fun X => thXv (v := St' m) rfl rfl (thXv (v := St' t) rfl rfl (thCons (show Is _ (.i .i64 (.ofNat 0)) (.int .i64 ((0 : Int))) from isTo (v := .int .i64 0) (isI _ _) (by first | rfl | (congr 1; omega))) (thNil)))) (by kernel_rfl) (thx := [(2, .x 0), (3, .x 1)]) (thXv (v := St' m) rfl rfl (thXv (v := St' t) rfl rfl (thNil))) (by kernel_rfl)⟩) lfNil)) rfl (get_lps (by omega)) fiB22 (fun e => runTgR_1 e ) (args := [St' m, St' t]) (by simp only [RelL, Rel]; exact ⟨_, _, rfl, rfl, ⟨_, _, rfl, rfl, rfl⟩⟩) w hl fun x hx => ?_
  simp only [Rel, RelL] at hx
  exact hx
def hyTgR_2 : LK := [(.bin .eql (.x 1) (.s 1 42), .b false), (.len (.x 3), .x 4), (.bin .gtr (.x 4) (.i .i64 (.ofNat 0)), .b true), (.idx (.x 3) (.i .i64 (.ofNat 0)), .x 5), (.bin .eql (.x 5) (.i .u8 (.ofNat 47)), .b false)]
def lh23 : LH := ⟨7, 7, 7, [], []⟩
def lf23 : LF := ⟨4, 40, [(0, .x 0), (1, .x 1), (5, .i .i64 (.ofNat 0))], [], (.exit 0), [(0, .x 2), (1, .x 3)], some lh23⟩
noncomputable def tabTgR_2 : Tab := addLps ({ tabk with hyp := hyTgR_2 }) 22 fi22 [lf23]
theorem runTgR_2 (e : Nat) : okA (call tabTgR_2 9000 22 [.x 0, .x 1] ⟨H0 e , 7, 0, 0⟩) (.b false) = true := by kernel_rfl
def nuTgR_2 (m t : LB) : List Value := [St' m, St' t, St' m, St' t, .int .i64 ((t.length : Int)), .int .u8 (bt t 0)]
theorem pathTgR_2 (m t : LB) (b0 : m.length ≤ 9223372036854775807) (b1 : t.length ≤ 9223372036854775807) (p0 : m.length ≤ 140737488355328) (p1 : t.length ≤ 140737488355328) (h0 : ¬ (t = [u8 42])) (h1 : t.all (msk MTs) = true) (h2 : 0 < (t.length : Int)) (h3 : ¬ (bt t 0 = 47)) (w : World) (hl : laidE w) : CwR 22 #[St' m, St' t] w (.bool false) := by
  have := bt_lo t 0; have := bt_hi t 0
  have ho : ∀ k r, (k, r) ∈ hyTgR_2 → HOk (cx (nuL (nuTgR_2 m t)) (fun j _ => nuL_one (l := nuTgR_2 m t) rfl j) 1 laidE laidE_stab) k r := by
    unfold hyTgR_2
    exact hc (kEqS (isX rfl) (isSx (l := [u8 42]) 1 42 rfl) (by first | exact decide_eq_true rfl | exact decide_eq_true ‹_› | exact decide_eq_false ‹_›)) <|
     hc (lnV rfl rfl (by omega)) <|
     hc (gtcT rfl (by omega)) <|
     hc (ixC rfl rfl (by omega)) <|
     hc (eqcF rfl (by omega)) <|
     hnil
  refine runC (tb := tabTgR_2) (ra := .b false) rfl (AllOk.lp1 ((tabkOk (nuL (nuTgR_2 m t)) (fun j _ => nuL_one (l := nuTgR_2 m t) rfl j)).hyps ho) (by omega) fi22_at fi22_body (lfCons (lpKnown rfl ⟨0, keyRt, lfOkRt_0 (l := lf23) (h := lh23) m t (t.all (msk MTs)) (by omega) (by assumption) (0, (0 : Int)) (mkIRt m t (t.all (msk MTs)) 0 (0 : Int) ⟨by omega, by omega, rfl, by omega⟩) rfl (by kernel_rfl) (th0 := [(0, .x 0), (1, .x 1), (2, .i .i64 (.ofNat 0))]) (sg0 := []) (fun X => thXv (v := St' m) rfl rfl (thXv (v := St' t) rfl rfl (thCons (show Is _ (.i .i64 (.ofNat 0)) (.int .i64 ((0 : Int))) from isTo (v := .int .i64 0) (isI _ _) (by first | rfl | (congr 1; omega))) (thNil)))) (by kernel_rfl) (thx := [(2, .x 0), (3, .x 1)]) (thXv (v := St' m) rfl rfl (thXv (v := St' t) rfl rfl (thNil))) (by kernel_rfl)⟩) lfNil)) rfl (get_lps (by omega)) fiB22 (fun e => runTgR_2 e ) (args := [St' m, St' t]) (by simp only [RelL, Rel]; exact ⟨_, _, rfl, rfl, ⟨_, _, rfl, rfl, rfl⟩⟩) w hl fun x hx => ?_
  simp only [Rel, RelL] at hx
  exact hx
def hyTgR_3 : LK := [(.bin .eql (.x 1) (.s 1 42), .b false)]
def lh24 : LH := ⟨7, 7, 7, [], []⟩
def lf24 : LF := ⟨4, 40, [(0, .x 0), (1, .x 1), (5, .i .i64 (.ofNat 0))], [], .ret, [(4, .b false)], some lh24⟩
noncomputable def tabTgR_3 : Tab := addLps ({ tabk with hyp := hyTgR_3 }) 22 fi22 [lf24]
theorem runTgR_3 (e : Nat) : okA (call tabTgR_3 9000 22 [.x 0, .x 1] ⟨H0 e , 7, 0, 0⟩) (.b false) = true := by kernel_rfl
def nuTgR_3 (m t : LB) : List Value := [St' m, St' t]
theorem pathTgR_3 (m t : LB) (b0 : m.length ≤ 9223372036854775807) (b1 : t.length ≤ 9223372036854775807) (p0 : m.length ≤ 140737488355328) (p1 : t.length ≤ 140737488355328) (h0 : ¬ (t = [u8 42])) (h1 : ¬ (t.all (msk MTs) = true)) (w : World) (hl : laidE w) : CwR 22 #[St' m, St' t] w (.bool false) := by
  have ho : ∀ k r, (k, r) ∈ hyTgR_3 → HOk (cx (nuL (nuTgR_3 m t)) (fun j _ => nuL_one (l := nuTgR_3 m t) rfl j) 1 laidE laidE_stab) k r := by
    unfold hyTgR_3
    exact hc (kEqS (isX rfl) (isSx (l := [u8 42]) 1 42 rfl) (by first | exact decide_eq_true rfl | exact decide_eq_true ‹_› | exact decide_eq_false ‹_›)) <|
     hnil
  refine runC (tb := tabTgR_3) (ra := .b false) rfl (AllOk.lp1 ((tabkOk (nuL (nuTgR_3 m t)) (fun j _ => nuL_one (l := nuTgR_3 m t) rfl j)).hyps ho) (by omega) fi22_at fi22_body (lfCons (lpKnown rfl ⟨0, keyRt, lfOkRt_1 (l := lf24) (h := lh24) m t (t.all (msk MTs)) (by omega) (by simpa using (by assumption : ¬ (t.all (msk MTs) = true))) (0, (0 : Int)) (mkIRt m t (t.all (msk MTs)) 0 (0 : Int) ⟨by omega, by omega, rfl, by omega⟩) rfl (by kernel_rfl) (th0 := [(0, .x 0), (1, .x 1), (2, .i .i64 (.ofNat 0))]) (sg0 := []) (fun X => thXv (v := St' m) rfl rfl (thXv (v := St' t) rfl rfl (thCons (show Is _ (.i .i64 (.ofNat 0)) (.int .i64 ((0 : Int))) from isTo (v := .int .i64 0) (isI _ _) (by first | rfl | (congr 1; omega))) (thNil)))) (by kernel_rfl) (thx := []) (thNil) (by kernel_rfl)⟩) lfNil)) rfl (get_lps (by omega)) fiB22 (fun e => runTgR_3 e ) (args := [St' m, St' t]) (by simp only [RelL, Rel]; exact ⟨_, _, rfl, rfl, ⟨_, _, rfl, rfl, rfl⟩⟩) w hl fun x hx => ?_
  simp only [Rel, RelL] at hx
  exact hx
def hyTgR_4 : LK := [(.bin .eql (.x 1) (.s 1 42), .b true), (.bin .eql (.x 0) (.s 7 23448525506629711), .b false)]
theorem runTgR_4 (e : Nat) : okA (call (tbl hyTgR_4) 9000 22 [.x 0, .x 1] ⟨H0 e , 7, 0, 0⟩) (.b false) = true := by kernel_rfl
def nuTgR_4 (m t : LB) : List Value := [St' m, St' t]
theorem pathTgR_4 (m t : LB) (b0 : m.length ≤ 9223372036854775807) (b1 : t.length ≤ 9223372036854775807) (p0 : m.length ≤ 140737488355328) (p1 : t.length ≤ 140737488355328) (h0 : t = [u8 42]) (h1 : ¬ (m = [u8 79, u8 80, u8 84, u8 73, u8 79, u8 78, u8 83])) (w : World) (hl : laidE w) : CwR 22 #[St' m, St' t] w (.bool false) := by
  have ho : ∀ k r, (k, r) ∈ hyTgR_4 → HOk (cx (nuL (nuTgR_4 m t)) (fun j _ => nuL_one (l := nuTgR_4 m t) rfl j) 1 laidE laidE_stab) k r := by
    unfold hyTgR_4
    exact hc (kEqS (isX rfl) (isSx (l := [u8 42]) 1 42 rfl) (by first | exact decide_eq_true rfl | exact decide_eq_true ‹_› | exact decide_eq_false ‹_›)) <|
     hc (kEqS (isX rfl) (isSx (l := [u8 79, u8 80, u8 84, u8 73, u8 79, u8 78, u8 83]) 7 23448525506629711 rfl) (by first | exact decide_eq_true rfl | exact decide_eq_true ‹_› | exact decide_eq_false ‹_›)) <|
     hnil
  refine runC (tb := (tbl hyTgR_4)) (ra := .b false) rfl ((tabkOk (nuL (nuTgR_4 m t)) (fun j _ => nuL_one (l := nuTgR_4 m t) rfl j)).hyps ho) rfl fiNTgR.1 fiNTgR.2 (fun e => runTgR_4 e ) (args := [St' m, St' t]) (by simp only [RelL, Rel]; exact ⟨_, _, rfl, rfl, ⟨_, _, rfl, rfl, rfl⟩⟩) w hl fun x hx => ?_
  simp only [Rel, RelL] at hx
  exact hx
def hyTgR_5 : LK := [(.bin .eql (.x 1) (.s 1 42), .b true), (.bin .eql (.x 0) (.s 7 23448525506629711), .b true)]
theorem runTgR_5 (e : Nat) : okA (call (tbl hyTgR_5) 9000 22 [.x 0, .x 1] ⟨H0 e , 7, 0, 0⟩) (.b true) = true := by kernel_rfl
def nuTgR_5 (m t : LB) : List Value := [St' m, St' t]
theorem pathTgR_5 (m t : LB) (b0 : m.length ≤ 9223372036854775807) (b1 : t.length ≤ 9223372036854775807) (p0 : m.length ≤ 140737488355328) (p1 : t.length ≤ 140737488355328) (h0 : t = [u8 42]) (h1 : m = [u8 79, u8 80, u8 84, u8 73, u8 79, u8 78, u8 83]) (w : World) (hl : laidE w) : CwR 22 #[St' m, St' t] w (.bool true) := by
  have ho : ∀ k r, (k, r) ∈ hyTgR_5 → HOk (cx (nuL (nuTgR_5 m t)) (fun j _ => nuL_one (l := nuTgR_5 m t) rfl j) 1 laidE laidE_stab) k r := by
    unfold hyTgR_5
    exact hc (kEqS (isX rfl) (isSx (l := [u8 42]) 1 42 rfl) (by first | exact decide_eq_true rfl | exact decide_eq_true ‹_› | exact decide_eq_false ‹_›)) <|
     hc (kEqS (isX rfl) (isSx (l := [u8 79, u8 80, u8 84, u8 73, u8 79, u8 78, u8 83]) 7 23448525506629711 rfl) (by first | exact decide_eq_true rfl | exact decide_eq_true ‹_› | exact decide_eq_false ‹_›)) <|
     hnil
  refine runC (tb := (tbl hyTgR_5)) (ra := .b true) rfl ((tabkOk (nuL (nuTgR_5 m t)) (fun j _ => nuL_one (l := nuTgR_5 m t) rfl j)).hyps ho) rfl fiNTgR.1 fiNTgR.2 (fun e => runTgR_5 e ) (args := [St' m, St' t]) (by simp only [RelL, Rel]; exact ⟨_, _, rfl, rfl, ⟨_, _, rfl, rfl, rfl⟩⟩) w hl fun x hx => ?_
  simp only [Rel, RelL] at hx
  exact hx
theorem callsTgR (m t : LB) (b0 : m.length ≤ 9223372036854775807) (b1 : t.length ≤ 9223372036854775807) (p0 : m.length ≤ 140737488355328) (p1 : t.length ≤ 140737488355328) (w : World) (hl : laidE w) : CwR 22 #[St' m, St' t] w (.bool (tgB m t)) := by
  by_cases h0 : t = [u8 42]
  · by_cases h1 : m = [u8 79, u8 80, u8 84, u8 73, u8 79, u8 78, u8 83]
    · rw [show (.bool (tgB m t) : Value) = (.bool true : Value) from by exact congrArg Value.bool (by first | exact tb_s (by assumption) (by assumption) | exact tb_ns (by assumption) (by assumption) | exact tb_a (by assumption) (by assumption) | exact tb_y (by assumption) (by assumption) (by omega) (by assumption) | exact tb_n (by assumption) (by omega) (by assumption) | exact tb_0 (by omega))]
      exact pathTgR_5 m t b0 b1 p0 p1 h0 h1 w hl
    · rw [show (.bool (tgB m t) : Value) = (.bool false : Value) from by exact congrArg Value.bool (by first | exact tb_s (by assumption) (by assumption) | exact tb_ns (by assumption) (by assumption) | exact tb_a (by assumption) (by assumption) | exact tb_y (by assumption) (by assumption) (by omega) (by assumption) | exact tb_n (by assumption) (by omega) (by assumption) | exact tb_0 (by omega))]
      exact pathTgR_4 m t b0 b1 p0 p1 h0 h1 w hl
  · by_cases h1 : t.all (msk MTs) = true
    · by_cases h2 : 0 < (t.length : Int)
      · by_cases h3 : bt t 0 = 47
        · rw [show (.bool (tgB m t) : Value) = (.bool true : Value) from by exact congrArg Value.bool (by first | exact tb_s (by assumption) (by assumption) | exact tb_ns (by assumption) (by assumption) | exact tb_a (by assumption) (by assumption) | exact tb_y (by assumption) (by assumption) (by omega) (by assumption) | exact tb_n (by assumption) (by omega) (by assumption) | exact tb_0 (by omega))]
          exact pathTgR_1 m t b0 b1 p0 p1 h0 h1 h2 h3 w hl
        · rw [show (.bool (tgB m t) : Value) = (.bool false : Value) from by exact congrArg Value.bool (by first | exact tb_s (by assumption) (by assumption) | exact tb_ns (by assumption) (by assumption) | exact tb_a (by assumption) (by assumption) | exact tb_y (by assumption) (by assumption) (by omega) (by assumption) | exact tb_n (by assumption) (by omega) (by assumption) | exact tb_0 (by omega))]
          exact pathTgR_2 m t b0 b1 p0 p1 h0 h1 h2 h3 w hl
      · rw [show (.bool (tgB m t) : Value) = (.bool false : Value) from by exact congrArg Value.bool (by first | exact tb_s (by assumption) (by assumption) | exact tb_ns (by assumption) (by assumption) | exact tb_a (by assumption) (by assumption) | exact tb_y (by assumption) (by assumption) (by omega) (by assumption) | exact tb_n (by assumption) (by omega) (by assumption) | exact tb_0 (by omega))]
        exact pathTgR_0 m t b0 b1 p0 p1 h0 h1 h2 w hl
    · rw [show (.bool (tgB m t) : Value) = (.bool false : Value) from by exact congrArg Value.bool (by first | exact tb_s (by assumption) (by assumption) | exact tb_ns (by assumption) (by assumption) | exact tb_a (by assumption) (by assumption) | exact tb_y (by assumption) (by assumption) (by omega) (by assumption) | exact tb_n (by assumption) (by omega) (by assumption) | exact tb_0 (by omega))]
      exact pathTgR_3 m t b0 b1 p0 p1 h0 h1 w hl
theorem hokTgR {x0 x1 r : AV} {m t : LB} (i0 : Is (cx nu one 1 laidE laidE_stab) x0 (St' m)) (i1 : Is (cx nu one 1 laidE laidE_stab) x1 (St' t)) (hr : Den (cx nu one 1 laidE laidE_stab) r (.bool (tgB m t))) (b0 : m.length ≤ 9223372036854775807) (b1 : t.length ≤ 9223372036854775807) (p0 : m.length ≤ 140737488355328) (p1 : t.length ≤ 140737488355328) : HOk (cx nu one 1 laidE laidE_stab) (.call 22 [x0, x1]) r := by
  intro ρ args ha w hl _
  simp only [RelL] at ha
  obtain ⟨v0, t0, rfl, a0, v1, t1, rfl, a1, rfl⟩ := ha
  have e0 := i0 ρ _ a0; subst e0
  have e1 := i1 ρ _ a1; subst e1
  exact (callsTgR m t b0 b1 p0 p1 w hl).mono fun e w' he => ⟨_, he.1, hr ρ, he.2⟩
noncomputable def fi7 : FI := (tabk.fn.get 7).getD default
theorem fi7_at : tabk.fn.get 7 = some fi7 := by kernel_rfl
theorem fi7_body : fi7.body = some (Tryd.f7.body.getD .skip) := by kernel_rfl
theorem fiB7 : fi7.body.isSome = true := by rw [fi7_body]; rfl
theorem cfA7 : (loopsOf (Tryd.f7.body.getD .skip)).all (fun b => !(keyEq (Go.AX.keyOf b) 8888888)) = true := by kernel_rfl
noncomputable def fi20 : FI := (tabk.fn.get 20).getD default
theorem fi20_at : tabk.fn.get 20 = some fi20 := by kernel_rfl
theorem fi20_body : fi20.body = some (Tryd.f20.body.getD .skip) := by kernel_rfl
theorem fiB20 : fi20.body.isSome = true := by rw [fi20_body]; rfl
theorem cfA20 : (loopsOf (Tryd.f20.body.getD .skip)).all (fun b => !(keyEq (Go.AX.keyOf b) 8888888)) = true := by kernel_rfl
def aPRst : List AV := [.x 0]
def hpRst : LE := []
def nuRst (ln : LB) : List Value := [St' ln, .int .i64 (((spl ln).length : Int)), .int .i64 (((spl ln).length : Int)), St' (nthS (spl ln) 0), .int .i64 (((nthS (spl ln) 0).length : Int)), St' (nthS (spl ln) 2), .int .i64 (((nthS (spl ln) 2).length : Int)), St' (List.take (Int.toNat (5)) (nthS (spl ln) 2)), St' (nthS (spl ln) 1), .int .i64 (((nthS (spl ln) 1).length : Int)), .int .i64 (((spl ln).length : Int)), St' (nthS (spl ln) 0), .int .i64 (((nthS (spl ln) 0).length : Int)), St' (nthS (spl ln) 2), .int .i64 (((nthS (spl ln) 2).length : Int)), St' (List.take (Int.toNat (5)) (nthS (spl ln) 2)), St' (nthS (spl ln) 1), .int .i64 (((nthS (spl ln) 1).length : Int)), .int .i64 (((spl ln).length : Int)), St' (nthS (spl ln) 0), .int .i64 (((spl ln).length : Int)), St' (nthS (spl ln) 0), .int .i64 (((nthS (spl ln) 0).length : Int)), .int .i64 (((spl ln).length : Int)), St' (nthS (spl ln) 0), .int .i64 (((nthS (spl ln) 0).length : Int)), St' (nthS (spl ln) 2), .int .i64 (((nthS (spl ln) 2).length : Int)), .int .i64 (((spl ln).length : Int)), St' (nthS (spl ln) 0), .int .i64 (((nthS (spl ln) 0).length : Int)), St' (nthS (spl ln) 2), .int .i64 (((nthS (spl ln) 2).length : Int)), St' (List.take (Int.toNat (5)) (nthS (spl ln) 2)), .int .i64 (((spl ln).length : Int)), St' (nthS (spl ln) 0), .int .i64 (((nthS (spl ln) 0).length : Int)), St' (nthS (spl ln) 2), .int .i64 (((nthS (spl ln) 2).length : Int)), St' (List.take (Int.toNat (5)) (nthS (spl ln) 2)), .int .i64 (((spl ln).length : Int)), St' (nthS (spl ln) 0), .int .i64 (((nthS (spl ln) 0).length : Int)), St' (nthS (spl ln) 2), .int .i64 (((nthS (spl ln) 2).length : Int)), St' (List.take (Int.toNat (5)) (nthS (spl ln) 2)), St' (nthS (spl ln) 1), .int .i64 (((spl ln).length : Int)), St' (nthS (spl ln) 0), .int .i64 (((nthS (spl ln) 0).length : Int)), St' (nthS (spl ln) 2), .int .i64 (((nthS (spl ln) 2).length : Int)), St' (List.take (Int.toNat (5)) (nthS (spl ln) 2)), St' (nthS (spl ln) 1), .int .i64 (((nthS (spl ln) 1).length : Int)), .int .i64 (((spl ln).length : Int)), St' (nthS (spl ln) 0), .int .i64 (((nthS (spl ln) 0).length : Int)), St' (nthS (spl ln) 2), .int .i64 (((nthS (spl ln) 2).length : Int)), St' (List.take (Int.toNat (5)) (nthS (spl ln) 2)), St' (nthS (spl ln) 1), .int .i64 (((spl ln).length : Int)), St' (nthS (spl ln) 0), .int .i64 (((nthS (spl ln) 0).length : Int)), St' (nthS (spl ln) 2), .int .i64 (((nthS (spl ln) 2).length : Int)), St' (List.take (Int.toNat (5)) (nthS (spl ln) 2)), St' (nthS (spl ln) 1), .int .i64 (((nthS (spl ln) 1).length : Int))]
def roRst (ln : LB) : List Value := [rwS ([] : List LB), rwS (spl ln), rwS ([] : List LB), rwS (spl ln), rwS ([] : List LB), rwS (spl ln), rwS ([] : List LB), rwS (spl ln), rwS ([] : List LB), rwS (spl ln), rwS ([] : List LB), rwS (spl ln), rwS ([] : List LB), rwS (spl ln), rwS ([] : List LB), rwS (spl ln), rwS ([] : List LB), rwS (spl ln), rwS ([] : List LB), rwS (spl ln), rwS ([] : List LB), rwS (spl ln), rwS ([] : List LB), rwS (spl ln)]
noncomputable def DRst (ln : LB) : Cx := cx (nuX (nuRst ln) (rX (roRst ln) (fun _ => .bool true))) (nuX_one (nuL_one (l := nuRst ln) rfl)) 1 laidE laidE_stab
def hyRst_c0 : LK := [(.rn, .x 2000000), (.rl (.x 2000001) 1, .x 1), (.bin .neq (.x 1) (.i .i64 (.ofNat 3)), .b true)]
def lh25 : LH := ⟨7, 110, 150, [], [(110, .r 2000001 9 1 false)]⟩
def lf25 : LF := ⟨4, 35, [(0, .x 0), (1, .i .u8 (.ofNat 32)), (5, .nils), (6, .i .i64 (.ofNat 0)), (7, .i .i64 (.ofNat 0))], [], (.exit 0), [(5, .sr 110)], some lh25⟩
noncomputable def tbRst_c0 : Tab := addLps ((tbl hyRst_c0)) 20 fi20 [lf25]
theorem runRst_c0 (e : Nat) : okCf (call tbRst_c0 3000 7 aPRst ⟨lhSet hpRst ((fun e : Nat => H0 e) e), 80, 0, 0⟩) (.tu [.ag [.s 0 0, .s 0 0, .i .i64 (.ofNat 0), .nils, .s 0 0], .x 0]) [(0, .i .i64 (.ofNat 10))] [] 80 180 [] = true := by kernel_rfl
def hyRst_c1 : LK := [(.rn, .x 2000002), (.rl (.x 2000003) 1, .x 2), (.bin .neq (.x 2) (.i .i64 (.ofNat 3)), .b false), (.el (.x 2000003) (.i .i64 (.ofNat 0)) 1 0, .x 3), (.call 21 [.x 3], .b true), (.len (.x 3), .x 4), (.bin .gtr (.x 4) (.i .i64 (.ofNat 16)), .b false), (.el (.x 2000003) (.i .i64 (.ofNat 2)) 1 0, .x 5), (.len (.x 5), .x 6), (.bin .lss (.x 6) (.i .i64 (.ofNat 5)), .b false), (.sub (.x 5) none (some (.i .i64 (.ofNat 5))), .x 7), (.bin .neq (.x 7) (.s 5 203211166792), .b false), (.bin .neq (.x 5) (.s 8 3471766442030158920), .b true), (.bin .neq (.x 5) (.s 8 3543824036068086856), .b false), (.el (.x 2000003) (.i .i64 (.ofNat 1)) 1 0, .x 8), (.call 22 [.x 3, .x 8], .b true), (.len (.x 8), .x 9), (.bin .gtr (.x 9) (.i .i64 (.ofNat 256)), .b false), (.idx (.x 5) (.i .i64 (.ofNat 7)), .i .u8 (.ofNat 49))]
def lh26 : LH := ⟨7, 110, 150, [], [(110, .r 2000003 9 1 false)]⟩
def lf26 : LF := ⟨4, 35, [(0, .x 0), (1, .i .u8 (.ofNat 32)), (5, .nils), (6, .i .i64 (.ofNat 0)), (7, .i .i64 (.ofNat 0))], [], (.exit 0), [(5, .sr 110)], some lh26⟩
noncomputable def tbRst_c1 : Tab := addLps ((tbl hyRst_c1)) 20 fi20 [lf26]
theorem runRst_c1 (e : Nat) : okCf (call tbRst_c1 3000 7 aPRst ⟨lhSet hpRst ((fun e : Nat => H0 e) e), 80, 0, 0⟩) (.tu [.ag [.x 0, .x 1, .x 2, .nils, .s 0 0], .i .i64 (.ofNat 0)]) [(0, .x 3), (1, .x 8), (2, .i .i64 (.ofNat 1))] [] 80 180 [] = true := by kernel_rfl
def hyRst_c2 : LK := [(.rn, .x 2000004), (.rl (.x 2000005) 1, .x 10), (.bin .neq (.x 10) (.i .i64 (.ofNat 3)), .b false), (.el (.x 2000005) (.i .i64 (.ofNat 0)) 1 0, .x 11), (.call 21 [.x 11], .b true), (.len (.x 11), .x 12), (.bin .gtr (.x 12) (.i .i64 (.ofNat 16)), .b false), (.el (.x 2000005) (.i .i64 (.ofNat 2)) 1 0, .x 13), (.len (.x 13), .x 14), (.bin .lss (.x 14) (.i .i64 (.ofNat 5)), .b false), (.sub (.x 13) none (some (.i .i64 (.ofNat 5))), .x 15), (.bin .neq (.x 15) (.s 5 203211166792), .b false), (.bin .neq (.x 13) (.s 8 3471766442030158920), .b false), (.el (.x 2000005) (.i .i64 (.ofNat 1)) 1 0, .x 16), (.call 22 [.x 11, .x 16], .b true), (.len (.x 16), .x 17), (.bin .gtr (.x 17) (.i .i64 (.ofNat 256)), .b false), (.idx (.x 13) (.i .i64 (.ofNat 7)), .i .u8 (.ofNat 48))]
def lh27 : LH := ⟨7, 110, 150, [], [(110, .r 2000005 9 1 false)]⟩
def lf27 : LF := ⟨4, 35, [(0, .x 0), (1, .i .u8 (.ofNat 32)), (5, .nils), (6, .i .i64 (.ofNat 0)), (7, .i .i64 (.ofNat 0))], [], (.exit 0), [(5, .sr 110)], some lh27⟩
noncomputable def tbRst_c2 : Tab := addLps ((tbl hyRst_c2)) 20 fi20 [lf27]
theorem runRst_c2 (e : Nat) : okCf (call tbRst_c2 3000 7 aPRst ⟨lhSet hpRst ((fun e : Nat => H0 e) e), 80, 0, 0⟩) (.tu [.ag [.x 0, .x 1, .x 2, .nils, .s 0 0], .i .i64 (.ofNat 0)]) [(0, .x 11), (1, .x 16), (2, .i .i64 (.ofNat 0))] [] 80 180 [] = true := by kernel_rfl
def hyRst_c3 : LK := [(.rn, .x 2000006), (.rl (.x 2000007) 1, .x 18), (.bin .neq (.x 18) (.i .i64 (.ofNat 3)), .b false), (.el (.x 2000007) (.i .i64 (.ofNat 0)) 1 0, .x 19), (.call 21 [.x 19], .b false)]
def lh28 : LH := ⟨7, 110, 150, [], [(110, .r 2000007 9 1 false)]⟩
def lf28 : LF := ⟨4, 35, [(0, .x 0), (1, .i .u8 (.ofNat 32)), (5, .nils), (6, .i .i64 (.ofNat 0)), (7, .i .i64 (.ofNat 0))], [], (.exit 0), [(5, .sr 110)], some lh28⟩
noncomputable def tbRst_c3 : Tab := addLps ((tbl hyRst_c3)) 20 fi20 [lf28]
theorem runRst_c3 (e : Nat) : okCf (call tbRst_c3 3000 7 aPRst ⟨lhSet hpRst ((fun e : Nat => H0 e) e), 80, 0, 0⟩) (.tu [.ag [.s 0 0, .s 0 0, .i .i64 (.ofNat 0), .nils, .s 0 0], .x 0]) [(0, .i .i64 (.ofNat 10))] [] 80 180 [] = true := by kernel_rfl
def hyRst_c4 : LK := [(.rn, .x 2000008), (.rl (.x 2000009) 1, .x 20), (.bin .neq (.x 20) (.i .i64 (.ofNat 3)), .b false), (.el (.x 2000009) (.i .i64 (.ofNat 0)) 1 0, .x 21), (.call 21 [.x 21], .b true), (.len (.x 21), .x 22), (.bin .gtr (.x 22) (.i .i64 (.ofNat 16)), .b true)]
def lh29 : LH := ⟨7, 110, 150, [], [(110, .r 2000009 9 1 false)]⟩
def lf29 : LF := ⟨4, 35, [(0, .x 0), (1, .i .u8 (.ofNat 32)), (5, .nils), (6, .i .i64 (.ofNat 0)), (7, .i .i64 (.ofNat 0))], [], (.exit 0), [(5, .sr 110)], some lh29⟩
noncomputable def tbRst_c4 : Tab := addLps ((tbl hyRst_c4)) 20 fi20 [lf29]
theorem runRst_c4 (e : Nat) : okCf (call tbRst_c4 3000 7 aPRst ⟨lhSet hpRst ((fun e : Nat => H0 e) e), 80, 0, 0⟩) (.tu [.ag [.s 0 0, .s 0 0, .i .i64 (.ofNat 0), .nils, .s 0 0], .x 0]) [(0, .i .i64 (.ofNat 10))] [] 80 180 [] = true := by kernel_rfl
def hyRst_c5 : LK := [(.rn, .x 2000010), (.rl (.x 2000011) 1, .x 23), (.bin .neq (.x 23) (.i .i64 (.ofNat 3)), .b false), (.el (.x 2000011) (.i .i64 (.ofNat 0)) 1 0, .x 24), (.call 21 [.x 24], .b true), (.len (.x 24), .x 25), (.bin .gtr (.x 25) (.i .i64 (.ofNat 16)), .b false), (.el (.x 2000011) (.i .i64 (.ofNat 2)) 1 0, .x 26), (.len (.x 26), .x 27), (.bin .lss (.x 27) (.i .i64 (.ofNat 5)), .b true)]
def lh30 : LH := ⟨7, 110, 150, [], [(110, .r 2000011 9 1 false)]⟩
def lf30 : LF := ⟨4, 35, [(0, .x 0), (1, .i .u8 (.ofNat 32)), (5, .nils), (6, .i .i64 (.ofNat 0)), (7, .i .i64 (.ofNat 0))], [], (.exit 0), [(5, .sr 110)], some lh30⟩
noncomputable def tbRst_c5 : Tab := addLps ((tbl hyRst_c5)) 20 fi20 [lf30]
theorem runRst_c5 (e : Nat) : okCf (call tbRst_c5 3000 7 aPRst ⟨lhSet hpRst ((fun e : Nat => H0 e) e), 80, 0, 0⟩) (.tu [.ag [.s 0 0, .s 0 0, .i .i64 (.ofNat 0), .nils, .s 0 0], .x 0]) [(0, .i .i64 (.ofNat 10))] [] 80 180 [] = true := by kernel_rfl
def hyRst_c6 : LK := [(.rn, .x 2000012), (.rl (.x 2000013) 1, .x 28), (.bin .neq (.x 28) (.i .i64 (.ofNat 3)), .b false), (.el (.x 2000013) (.i .i64 (.ofNat 0)) 1 0, .x 29), (.call 21 [.x 29], .b true), (.len (.x 29), .x 30), (.bin .gtr (.x 30) (.i .i64 (.ofNat 16)), .b false), (.el (.x 2000013) (.i .i64 (.ofNat 2)) 1 0, .x 31), (.len (.x 31), .x 32), (.bin .lss (.x 32) (.i .i64 (.ofNat 5)), .b false), (.sub (.x 31) none (some (.i .i64 (.ofNat 5))), .x 33), (.bin .neq (.x 33) (.s 5 203211166792), .b true)]
def lh31 : LH := ⟨7, 110, 150, [], [(110, .r 2000013 9 1 false)]⟩
def lf31 : LF := ⟨4, 35, [(0, .x 0), (1, .i .u8 (.ofNat 32)), (5, .nils), (6, .i .i64 (.ofNat 0)), (7, .i .i64 (.ofNat 0))], [], (.exit 0), [(5, .sr 110)], some lh31⟩
noncomputable def tbRst_c6 : Tab := addLps ((tbl hyRst_c6)) 20 fi20 [lf31]
theorem runRst_c6 (e : Nat) : okCf (call tbRst_c6 3000 7 aPRst ⟨lhSet hpRst ((fun e : Nat => H0 e) e), 80, 0, 0⟩) (.tu [.ag [.s 0 0, .s 0 0, .i .i64 (.ofNat 0), .nils, .s 0 0], .x 0]) [(0, .i .i64 (.ofNat 10))] [] 80 180 [] = true := by kernel_rfl
def hyRst_c7 : LK := [(.rn, .x 2000014), (.rl (.x 2000015) 1, .x 34), (.bin .neq (.x 34) (.i .i64 (.ofNat 3)), .b false), (.el (.x 2000015) (.i .i64 (.ofNat 0)) 1 0, .x 35), (.call 21 [.x 35], .b true), (.len (.x 35), .x 36), (.bin .gtr (.x 36) (.i .i64 (.ofNat 16)), .b false), (.el (.x 2000015) (.i .i64 (.ofNat 2)) 1 0, .x 37), (.len (.x 37), .x 38), (.bin .lss (.x 38) (.i .i64 (.ofNat 5)), .b false), (.sub (.x 37) none (some (.i .i64 (.ofNat 5))), .x 39), (.bin .neq (.x 39) (.s 5 203211166792), .b false), (.bin .neq (.x 37) (.s 8 3471766442030158920), .b true), (.bin .neq (.x 37) (.s 8 3543824036068086856), .b true)]
def lh32 : LH := ⟨7, 110, 150, [], [(110, .r 2000015 9 1 false)]⟩
def lf32 : LF := ⟨4, 35, [(0, .x 0), (1, .i .u8 (.ofNat 32)), (5, .nils), (6, .i .i64 (.ofNat 0)), (7, .i .i64 (.ofNat 0))], [], (.exit 0), [(5, .sr 110)], some lh32⟩
noncomputable def tbRst_c7 : Tab := addLps ((tbl hyRst_c7)) 20 fi20 [lf32]
theorem runRst_c7 (e : Nat) : okCf (call tbRst_c7 3000 7 aPRst ⟨lhSet hpRst ((fun e : Nat => H0 e) e), 80, 0, 0⟩) (.tu [.ag [.s 0 0, .s 0 0, .i .i64 (.ofNat 0), .nils, .s 0 0], .x 0]) [(0, .i .i64 (.ofNat 13))] [] 80 180 [] = true := by kernel_rfl
def hyRst_c8 : LK := [(.rn, .x 2000016), (.rl (.x 2000017) 1, .x 40), (.bin .neq (.x 40) (.i .i64 (.ofNat 3)), .b false), (.el (.x 2000017) (.i .i64 (.ofNat 0)) 1 0, .x 41), (.call 21 [.x 41], .b true), (.len (.x 41), .x 42), (.bin .gtr (.x 42) (.i .i64 (.ofNat 16)), .b false), (.el (.x 2000017) (.i .i64 (.ofNat 2)) 1 0, .x 43), (.len (.x 43), .x 44), (.bin .lss (.x 44) (.i .i64 (.ofNat 5)), .b false), (.sub (.x 43) none (some (.i .i64 (.ofNat 5))), .x 45), (.bin .neq (.x 45) (.s 5 203211166792), .b false), (.bin .neq (.x 43) (.s 8 3471766442030158920), .b true), (.bin .neq (.x 43) (.s 8 3543824036068086856), .b false), (.el (.x 2000017) (.i .i64 (.ofNat 1)) 1 0, .x 46), (.call 22 [.x 41, .x 46], .b false)]
def lh33 : LH := ⟨7, 110, 150, [], [(110, .r 2000017 9 1 false)]⟩
def lf33 : LF := ⟨4, 35, [(0, .x 0), (1, .i .u8 (.ofNat 32)), (5, .nils), (6, .i .i64 (.ofNat 0)), (7, .i .i64 (.ofNat 0))], [], (.exit 0), [(5, .sr 110)], some lh33⟩
noncomputable def tbRst_c8 : Tab := addLps ((tbl hyRst_c8)) 20 fi20 [lf33]
theorem runRst_c8 (e : Nat) : okCf (call tbRst_c8 3000 7 aPRst ⟨lhSet hpRst ((fun e : Nat => H0 e) e), 80, 0, 0⟩) (.tu [.ag [.s 0 0, .s 0 0, .i .i64 (.ofNat 0), .nils, .s 0 0], .x 0]) [(0, .i .i64 (.ofNat 10))] [] 80 180 [] = true := by kernel_rfl
def hyRst_c9 : LK := [(.rn, .x 2000018), (.rl (.x 2000019) 1, .x 47), (.bin .neq (.x 47) (.i .i64 (.ofNat 3)), .b false), (.el (.x 2000019) (.i .i64 (.ofNat 0)) 1 0, .x 48), (.call 21 [.x 48], .b true), (.len (.x 48), .x 49), (.bin .gtr (.x 49) (.i .i64 (.ofNat 16)), .b false), (.el (.x 2000019) (.i .i64 (.ofNat 2)) 1 0, .x 50), (.len (.x 50), .x 51), (.bin .lss (.x 51) (.i .i64 (.ofNat 5)), .b false), (.sub (.x 50) none (some (.i .i64 (.ofNat 5))), .x 52), (.bin .neq (.x 52) (.s 5 203211166792), .b false), (.bin .neq (.x 50) (.s 8 3471766442030158920), .b true), (.bin .neq (.x 50) (.s 8 3543824036068086856), .b false), (.el (.x 2000019) (.i .i64 (.ofNat 1)) 1 0, .x 53), (.call 22 [.x 48, .x 53], .b true), (.len (.x 53), .x 54), (.bin .gtr (.x 54) (.i .i64 (.ofNat 256)), .b true)]
def lh34 : LH := ⟨7, 110, 150, [], [(110, .r 2000019 9 1 false)]⟩
def lf34 : LF := ⟨4, 35, [(0, .x 0), (1, .i .u8 (.ofNat 32)), (5, .nils), (6, .i .i64 (.ofNat 0)), (7, .i .i64 (.ofNat 0))], [], (.exit 0), [(5, .sr 110)], some lh34⟩
noncomputable def tbRst_c9 : Tab := addLps ((tbl hyRst_c9)) 20 fi20 [lf34]
theorem runRst_c9 (e : Nat) : okCf (call tbRst_c9 3000 7 aPRst ⟨lhSet hpRst ((fun e : Nat => H0 e) e), 80, 0, 0⟩) (.tu [.ag [.s 0 0, .s 0 0, .i .i64 (.ofNat 0), .nils, .s 0 0], .x 0]) [(0, .i .i64 (.ofNat 12))] [] 80 180 [] = true := by kernel_rfl
def hyRst_c10 : LK := [(.rn, .x 2000020), (.rl (.x 2000021) 1, .x 55), (.bin .neq (.x 55) (.i .i64 (.ofNat 3)), .b false), (.el (.x 2000021) (.i .i64 (.ofNat 0)) 1 0, .x 56), (.call 21 [.x 56], .b true), (.len (.x 56), .x 57), (.bin .gtr (.x 57) (.i .i64 (.ofNat 16)), .b false), (.el (.x 2000021) (.i .i64 (.ofNat 2)) 1 0, .x 58), (.len (.x 58), .x 59), (.bin .lss (.x 59) (.i .i64 (.ofNat 5)), .b false), (.sub (.x 58) none (some (.i .i64 (.ofNat 5))), .x 60), (.bin .neq (.x 60) (.s 5 203211166792), .b false), (.bin .neq (.x 58) (.s 8 3471766442030158920), .b false), (.el (.x 2000021) (.i .i64 (.ofNat 1)) 1 0, .x 61), (.call 22 [.x 56, .x 61], .b false)]
def lh35 : LH := ⟨7, 110, 150, [], [(110, .r 2000021 9 1 false)]⟩
def lf35 : LF := ⟨4, 35, [(0, .x 0), (1, .i .u8 (.ofNat 32)), (5, .nils), (6, .i .i64 (.ofNat 0)), (7, .i .i64 (.ofNat 0))], [], (.exit 0), [(5, .sr 110)], some lh35⟩
noncomputable def tbRst_c10 : Tab := addLps ((tbl hyRst_c10)) 20 fi20 [lf35]
theorem runRst_c10 (e : Nat) : okCf (call tbRst_c10 3000 7 aPRst ⟨lhSet hpRst ((fun e : Nat => H0 e) e), 80, 0, 0⟩) (.tu [.ag [.s 0 0, .s 0 0, .i .i64 (.ofNat 0), .nils, .s 0 0], .x 0]) [(0, .i .i64 (.ofNat 10))] [] 80 180 [] = true := by kernel_rfl
def hyRst_c11 : LK := [(.rn, .x 2000022), (.rl (.x 2000023) 1, .x 62), (.bin .neq (.x 62) (.i .i64 (.ofNat 3)), .b false), (.el (.x 2000023) (.i .i64 (.ofNat 0)) 1 0, .x 63), (.call 21 [.x 63], .b true), (.len (.x 63), .x 64), (.bin .gtr (.x 64) (.i .i64 (.ofNat 16)), .b false), (.el (.x 2000023) (.i .i64 (.ofNat 2)) 1 0, .x 65), (.len (.x 65), .x 66), (.bin .lss (.x 66) (.i .i64 (.ofNat 5)), .b false), (.sub (.x 65) none (some (.i .i64 (.ofNat 5))), .x 67), (.bin .neq (.x 67) (.s 5 203211166792), .b false), (.bin .neq (.x 65) (.s 8 3471766442030158920), .b false), (.el (.x 2000023) (.i .i64 (.ofNat 1)) 1 0, .x 68), (.call 22 [.x 63, .x 68], .b true), (.len (.x 68), .x 69), (.bin .gtr (.x 69) (.i .i64 (.ofNat 256)), .b true)]
def lh36 : LH := ⟨7, 110, 150, [], [(110, .r 2000023 9 1 false)]⟩
def lf36 : LF := ⟨4, 35, [(0, .x 0), (1, .i .u8 (.ofNat 32)), (5, .nils), (6, .i .i64 (.ofNat 0)), (7, .i .i64 (.ofNat 0))], [], (.exit 0), [(5, .sr 110)], some lh36⟩
noncomputable def tbRst_c11 : Tab := addLps ((tbl hyRst_c11)) 20 fi20 [lf36]
theorem runRst_c11 (e : Nat) : okCf (call tbRst_c11 3000 7 aPRst ⟨lhSet hpRst ((fun e : Nat => H0 e) e), 80, 0, 0⟩) (.tu [.ag [.s 0 0, .s 0 0, .i .i64 (.ofNat 0), .nils, .s 0 0], .x 0]) [(0, .i .i64 (.ofNat 12))] [] 80 180 [] = true := by kernel_rfl
def nuERst_0 (ln : LB) : List Value := [St' (nthS (spl ln) 0), St' (nthS (spl ln) 1), .int .i64 ((stI ln))]
def roERst_0 (ln : LB) : List Value := []
noncomputable def ERst_0 (ln : LB) : Cx := cx (nuX (nuERst_0 ln) (rX (roERst_0 ln) (fun _ => .bool true))) (nuX_one (nuL_one (l := nuERst_0 ln) rfl)) 1 laidE laidE_stab
theorem cfRst_0 {l : LF} {h : LH} {q : Nat × AV} (ln : LB) (p0 : ln.length ≤ 800) (x0 : stK ln = 0) (hl : l.hp = some h) (hq : l.post = [q]) (hs : cfSame l h 7 80 180 = true) {th0 : LA} {sg0 : List (Nat × Nat)} (hth0 : ThOk (cx nu one 1 laidE laidE_stab) (DRst ln) th0) (h0 : (inAs th0 (sgB 80 80 sg0) aPRst (l.pre.map (·.2)) && inHeap 80 80 th0 sg0 (lhSet h.pre .leaf) hpRst && nodupN (numsOf 80 sg0 hpRst)) = true) {thx : LA} (hthx : ThOk (ERst_0 ln) (cx nu one 1 laidE laidE_stab) thx) (hx : (inA thx (sgB 80 180 []) 8 q.2 (.tu [.ag [.x 0, .x 1, .x 2, .nils, .s 0 0], .i .i64 (.ofNat 0)]) && inHeap 80 180 thx [] (lhSet [] .leaf) h.post && nodupN (numsOf 80 [] h.post)) = true) : CfOk (cx nu one 1 laidE laidE_stab) 7 l := by
  have hcs := spl_cnt ln
  by_cases d0 : ((spl ln).length : Int) = 3
  · by_cases d1 : tokS (nthS (spl ln) 0) = true
    · by_cases d2 : 16 < ((nthS (spl ln) 0).length : Int)
      · exfalso; (have hcs := spl_cnt ln); (have := spl_le ln 0); (have hsk : stK ln = 2 := by first | exact sK2 (by omega) (mk_t (by assumption)) | exact sK2 (by omega) (mk_l (by omega))); exact absurd x0 (by rw [hsk]; decide)
      · by_cases d3 : ((nthS (spl ln) 2).length : Int) < 5
        · exfalso; (have hcs := spl_cnt ln); (have := spl_le ln 0); (have := spl_le ln 2); (have hsk : stK ln = 4 := by first | exact sK3 (by omega) (mk_y (by assumption) (by omega)) (vr_s5 (by omega)) (by decide) | exact sK3 (by omega) (mk_y (by assumption) (by omega)) (vr_45 (by assumption)) (by decide)); exact absurd x0 (by rw [hsk]; decide)
        · by_cases d4 : (List.take (Int.toNat (5)) (nthS (spl ln) 2)) = [u8 72, u8 84, u8 84, u8 80, u8 47]
          · by_cases d5 : (nthS (spl ln) 2) = [u8 72, u8 84, u8 84, u8 80, u8 47, u8 49, u8 46, u8 48]
            · by_cases d6 : tgB (nthS (spl ln) 0) (nthS (spl ln) 1) = true
              · by_cases d7 : 256 < ((nthS (spl ln) 1).length : Int)
                · exfalso; (have hcs := spl_cnt ln); (have := spl_le ln 0); (have := spl_le ln 2); (have := lenTake (l := (nthS (spl ln) 2)) (Q := 5) (by omega) (by omega)); (have := spl_le ln 1); (have hsk : stK ln = 7 := sK4 (by omega) (mk_y (by assumption) (by omega)) (by first | exact vr_0 (by assumption) | exact vr_1 (by assumption)) (tb_7 (by assumption) (by omega))); exact absurd x0 (by rw [hsk]; decide)
                · skip
                  have hcs := spl_cnt ln
                  have := spl_le ln 0
                  have := spl_le ln 2
                  have := lenTake (l := (nthS (spl ln) 2)) (Q := 5) (by omega) (by omega)
                  have := spl_le ln 1
                  have hvl : (nthS (spl ln) 2).length = 8 := by rw [(by assumption : (nthS (spl ln) 2) = [u8 72, u8 84, u8 84, u8 80, u8 47, u8 49, u8 46, u8 48])]; rfl
                  have hsk : stK ln = 0 := sK4 (by omega) (mk_y (by assumption) (by omega)) (by first | exact vr_0 (by assumption) | exact vr_1 (by assumption)) (tb_00 (by assumption) (by omega))
                  have ho : ∀ a' r', (a', r') ∈ hyRst_c2 → HOk (DRst ln) a' r' := by
                    unfold hyRst_c2
                    exact hc (kRn (denX rfl)) <|
                     hc (kRl (isX rfl) (denX rfl) (by first | omega | (simp <;> omega))) <|
                     hc (necF rfl (by omega)) <|
                     hc (kElN (j := 0) (isX rfl) (isZ (m := 0) rfl) (denX rfl) (by omega) (by omega)) <|
                     hc (hokTokR (s := (nthS (spl ln) 0)) (isX rfl) (denBT (by assumption)) (by first | omega | (simp only [List.length_append, List.length_cons, List.length_nil, List.length_replicate]; omega)) (by first | omega | (simp only [List.length_append, List.length_cons, List.length_nil, List.length_replicate]; omega))) <|
                     hc (lnV rfl rfl (by omega)) <|
                     hc (gtcF rfl (by omega)) <|
                     hc (kElN (j := 2) (isX rfl) (isZ (m := 2) rfl) (denX rfl) (by omega) (by omega)) <|
                     hc (lnV rfl rfl (by omega)) <|
                     hc (ltcF rfl (by omega)) <|
                     hc (tkC rfl rfl (by omega)) <|
                     hc (kNeS (isX rfl) (isSx (l := [u8 72, u8 84, u8 84, u8 80, u8 47]) 5 203211166792 rfl) (bnF (by first | exact decide_eq_true rfl | exact decide_eq_true ‹_› | exact decide_eq_false ‹_›))) <|
                     hc (kNeS (isX rfl) (isSx (l := [u8 72, u8 84, u8 84, u8 80, u8 47, u8 49, u8 46, u8 48]) 8 3471766442030158920 rfl) (bnF (by first | exact decide_eq_true rfl | exact decide_eq_true ‹_› | exact decide_eq_false ‹_›))) <|
                     hc (kElN (j := 1) (isX rfl) (isZ (m := 1) rfl) (denX rfl) (by omega) (by omega)) <|
                     hc (hokTgR (m := (nthS (spl ln) 0)) (t := (nthS (spl ln) 1)) (isX rfl) (isX rfl) (denBT (by assumption)) (by omega) (by omega) (by omega) (by omega)) <|
                     hc (lnV rfl rfl (by omega)) <|
                     hc (gtcF rfl (by omega)) <|
                     hc (kIdxE (i := 7) (isX rfl) (isZ (m := 7) rfl) (denZ (m := 48) rfl) (by omega) (by omega) (by rw [(by assumption : (nthS (spl ln) 2) = [u8 72, u8 84, u8 84, u8 80, u8 47, u8 49, u8 46, u8 48])]; rfl)) <|
                     hnil
                  exact cfOkX (D := DRst ln) (E := ERst_0 ln) (Gf := (fun e : Nat => H0 e)) (f := 3000) (tb := tbRst_c2) rfl rfl rfl rfl rfl rfl hl hq hs rfl hth0 h0 hthx hx (AllOk.lp1 ((tabkOk _ _).hyps ho) (by omega) fi20_at fi20_body (lfCons (lpKnown rfl ⟨0, keyRs, lfOkRs_0 (l := lf27) (h := lh27) ln (by omega) (0, [], (0 : Int), (0 : Int)) (mkIRs ln 0 [] (0 : Int) (0 : Int) ⟨by omega, by omega, by omega, by simp, fun _ => rs_0 ln, fun h => by omega, fun _ => rfl, fun _ => by omega, by omega⟩) rfl (by kernel_rfl) (th0 := [(0, .x 0), (1, .i .i64 (.ofNat 0)), (2, .i .i64 (.ofNat 0))]) (sg0 := []) (fun X => thXv (v := St' ln) rfl rfl (thCons (show Is _ (.i .i64 (.ofNat 0)) (.int .i64 ((0 : Int))) from isTo (v := .int .i64 0) (isI _ _) (by first | rfl | (congr 1; omega))) (thCons (show Is _ (.i .i64 (.ofNat 0)) (.int .i64 ((0 : Int))) from isTo (v := .int .i64 0) (isI _ _) (by first | rfl | (congr 1; omega))) (thNil)))) (by kernel_rfl) (thx := [(2000005, .x 2000000)]) (thXv (v := rwS (spl ln)) rfl rfl (thNil)) (by kernel_rfl)⟩) lfNil)) rfl (get_lps2 (by omega) (by omega) fi7_at) fiB7 (.inr ⟨rfl, fun w hi => hGl (C := DRst ln) rfl rfl hi⟩) (thXv (v := St' (nthS (spl ln) 0)) rfl rfl (thXv (v := St' (nthS (spl ln) 1)) rfl rfl (thCons (show Is _ (.i .i64 (.ofNat 0)) (.int .i64 ((stI ln))) from isTo (v := .int .i64 0) (isI _ _) (congrArg (Value.int .i64) (by unfold stI; rw [if_neg (by first | assumption | (rw [(by assumption : (nthS (spl ln) 2) = [u8 72, u8 84, u8 84, u8 80, u8 47, u8 49, u8 46, u8 48])]; decide))]))) (thNil)))) runRst_c2
              · exfalso; (have hcs := spl_cnt ln); (have := spl_le ln 0); (have := spl_le ln 2); (have := lenTake (l := (nthS (spl ln) 2)) (Q := 5) (by omega) (by omega)); (have := spl_le ln 1); (have hsk : stK ln = 5 ∨ stK ln = 6 := by have e := sK4 (ln := ln) (by omega) (mk_y (by assumption) (by omega)) (by first | exact vr_0 (by assumption) | exact vr_1 (by assumption)) rfl; rw [e]; exact tb_56 (by assumption)); exact absurd x0 (by rcases hsk with e | e <;> rw [e] <;> decide)
            · by_cases d6 : (nthS (spl ln) 2) = [u8 72, u8 84, u8 84, u8 80, u8 47, u8 49, u8 46, u8 49]
              · by_cases d7 : tgB (nthS (spl ln) 0) (nthS (spl ln) 1) = true
                · by_cases d8 : 256 < ((nthS (spl ln) 1).length : Int)
                  · exfalso; (have hcs := spl_cnt ln); (have := spl_le ln 0); (have := spl_le ln 2); (have := lenTake (l := (nthS (spl ln) 2)) (Q := 5) (by omega) (by omega)); (have := spl_le ln 1); (have hsk : stK ln = 7 := sK4 (by omega) (mk_y (by assumption) (by omega)) (by first | exact vr_0 (by assumption) | exact vr_1 (by assumption)) (tb_7 (by assumption) (by omega))); exact absurd x0 (by rw [hsk]; decide)
                  · skip
                    have hcs := spl_cnt ln
                    have := spl_le ln 0
                    have := spl_le ln 2
                    have := lenTake (l := (nthS (spl ln) 2)) (Q := 5) (by omega) (by omega)
                    have := spl_le ln 1
                    have hvl : (nthS (spl ln) 2).length = 8 := by rw [(by assumption : (nthS (spl ln) 2) = [u8 72, u8 84, u8 84, u8 80, u8 47, u8 49, u8 46, u8 49])]; rfl
                    have hsk : stK ln = 0 := sK4 (by omega) (mk_y (by assumption) (by omega)) (by first | exact vr_0 (by assumption) | exact vr_1 (by assumption)) (tb_00 (by assumption) (by omega))
                    have ho : ∀ a' r', (a', r') ∈ hyRst_c1 → HOk (DRst ln) a' r' := by
                      unfold hyRst_c1
                      exact hc (kRn (denX rfl)) <|
                       hc (kRl (isX rfl) (denX rfl) (by first | omega | (simp <;> omega))) <|
                       hc (necF rfl (by omega)) <|
                       hc (kElN (j := 0) (isX rfl) (isZ (m := 0) rfl) (denX rfl) (by omega) (by omega)) <|
                       hc (hokTokR (s := (nthS (spl ln) 0)) (isX rfl) (denBT (by assumption)) (by first | omega | (simp only [List.length_append, List.length_cons, List.length_nil, List.length_replicate]; omega)) (by first | omega | (simp only [List.length_append, List.length_cons, List.length_nil, List.length_replicate]; omega))) <|
                       hc (lnV rfl rfl (by omega)) <|
                       hc (gtcF rfl (by omega)) <|
                       hc (kElN (j := 2) (isX rfl) (isZ (m := 2) rfl) (denX rfl) (by omega) (by omega)) <|
                       hc (lnV rfl rfl (by omega)) <|
                       hc (ltcF rfl (by omega)) <|
                       hc (tkC rfl rfl (by omega)) <|
                       hc (kNeS (isX rfl) (isSx (l := [u8 72, u8 84, u8 84, u8 80, u8 47]) 5 203211166792 rfl) (bnF (by first | exact decide_eq_true rfl | exact decide_eq_true ‹_› | exact decide_eq_false ‹_›))) <|
                       hc (kNeS (isX rfl) (isSx (l := [u8 72, u8 84, u8 84, u8 80, u8 47, u8 49, u8 46, u8 48]) 8 3471766442030158920 rfl) (bnT (by first | exact decide_eq_true rfl | exact decide_eq_true ‹_› | exact decide_eq_false ‹_›))) <|
                       hc (kNeS (isX rfl) (isSx (l := [u8 72, u8 84, u8 84, u8 80, u8 47, u8 49, u8 46, u8 49]) 8 3543824036068086856 rfl) (bnF (by first | exact decide_eq_true rfl | exact decide_eq_true ‹_› | exact decide_eq_false ‹_›))) <|
                       hc (kElN (j := 1) (isX rfl) (isZ (m := 1) rfl) (denX rfl) (by omega) (by omega)) <|
                       hc (hokTgR (m := (nthS (spl ln) 0)) (t := (nthS (spl ln) 1)) (isX rfl) (isX rfl) (denBT (by assumption)) (by omega) (by omega) (by omega) (by omega)) <|
                       hc (lnV rfl rfl (by omega)) <|
                       hc (gtcF rfl (by omega)) <|
                       hc (kIdxE (i := 7) (isX rfl) (isZ (m := 7) rfl) (denZ (m := 49) rfl) (by omega) (by omega) (by rw [(by assumption : (nthS (spl ln) 2) = [u8 72, u8 84, u8 84, u8 80, u8 47, u8 49, u8 46, u8 49])]; rfl)) <|
                       hnil
                    exact cfOkX (D := DRst ln) (E := ERst_0 ln) (Gf := (fun e : Nat => H0 e)) (f := 3000) (tb := tbRst_c1) rfl rfl rfl rfl rfl rfl hl hq hs rfl hth0 h0 hthx hx (AllOk.lp1 ((tabkOk _ _).hyps ho) (by omega) fi20_at fi20_body (lfCons (lpKnown rfl ⟨0, keyRs, lfOkRs_0 (l := lf26) (h := lh26) ln (by omega) (0, [], (0 : Int), (0 : Int)) (mkIRs ln 0 [] (0 : Int) (0 : Int) ⟨by omega, by omega, by omega, by simp, fun _ => rs_0 ln, fun h => by omega, fun _ => rfl, fun _ => by omega, by omega⟩) rfl (by kernel_rfl) (th0 := [(0, .x 0), (1, .i .i64 (.ofNat 0)), (2, .i .i64 (.ofNat 0))]) (sg0 := []) (fun X => thXv (v := St' ln) rfl rfl (thCons (show Is _ (.i .i64 (.ofNat 0)) (.int .i64 ((0 : Int))) from isTo (v := .int .i64 0) (isI _ _) (by first | rfl | (congr 1; omega))) (thCons (show Is _ (.i .i64 (.ofNat 0)) (.int .i64 ((0 : Int))) from isTo (v := .int .i64 0) (isI _ _) (by first | rfl | (congr 1; omega))) (thNil)))) (by kernel_rfl) (thx := [(2000003, .x 2000000)]) (thXv (v := rwS (spl ln)) rfl rfl (thNil)) (by kernel_rfl)⟩) lfNil)) rfl (get_lps2 (by omega) (by omega) fi7_at) fiB7 (.inr ⟨rfl, fun w hi => hGl (C := DRst ln) rfl rfl hi⟩) (thXv (v := St' (nthS (spl ln) 0)) rfl rfl (thXv (v := St' (nthS (spl ln) 1)) rfl rfl (thCons (show Is _ (.i .i64 (.ofNat 1)) (.int .i64 ((stI ln))) from isTo (v := .int .i64 1) (isI _ _) (congrArg (Value.int .i64) (by unfold stI; rw [if_pos (by assumption)]))) (thNil)))) runRst_c1
                · exfalso; (have hcs := spl_cnt ln); (have := spl_le ln 0); (have := spl_le ln 2); (have := lenTake (l := (nthS (spl ln) 2)) (Q := 5) (by omega) (by omega)); (have := spl_le ln 1); (have hsk : stK ln = 5 ∨ stK ln = 6 := by have e := sK4 (ln := ln) (by omega) (mk_y (by assumption) (by omega)) (by first | exact vr_0 (by assumption) | exact vr_1 (by assumption)) rfl; rw [e]; exact tb_56 (by assumption)); exact absurd x0 (by rcases hsk with e | e <;> rw [e] <;> decide)
              · exfalso; (have hcs := spl_cnt ln); (have := spl_le ln 0); (have := spl_le ln 2); (have := lenTake (l := (nthS (spl ln) 2)) (Q := 5) (by omega) (by omega)); (have hsk : stK ln = 3 := sK3 (by omega) (mk_y (by assumption) (by omega)) (vr_3 (by assumption) (by assumption) (by assumption)) (by decide)); exact absurd x0 (by rw [hsk]; decide)
          · exfalso; (have hcs := spl_cnt ln); (have := spl_le ln 0); (have := spl_le ln 2); (have := lenTake (l := (nthS (spl ln) 2)) (Q := 5) (by omega) (by omega)); (have hsk : stK ln = 4 := by first | exact sK3 (by omega) (mk_y (by assumption) (by omega)) (vr_s5 (by omega)) (by decide) | exact sK3 (by omega) (mk_y (by assumption) (by omega)) (vr_45 (by assumption)) (by decide)); exact absurd x0 (by rw [hsk]; decide)
    · exfalso; (have hcs := spl_cnt ln); (have := spl_le ln 0); (have hsk : stK ln = 2 := by first | exact sK2 (by omega) (mk_t (by assumption)) | exact sK2 (by omega) (mk_l (by omega))); exact absurd x0 (by rw [hsk]; decide)
  · exfalso; (have hcs := spl_cnt ln); (have hsk : stK ln = 1 := sK1 (by omega)); exact absurd x0 (by rw [hsk]; decide)
def nuERst_1 (ln : LB) : List Value := [.int .i64 ((cdK (stK ln)))]
def roERst_1 (ln : LB) : List Value := []
noncomputable def ERst_1 (ln : LB) : Cx := cx (nuX (nuERst_1 ln) (rX (roERst_1 ln) (fun _ => .bool true))) (nuX_one (nuL_one (l := nuERst_1 ln) rfl)) 1 laidE laidE_stab
theorem cfRst_1 {l : LF} {h : LH} {q : Nat × AV} (ln : LB) (p0 : ln.length ≤ 800) (x0 : ¬ stK ln = 0) (hl : l.hp = some h) (hq : l.post = [q]) (hs : cfSame l h 7 80 180 = true) {th0 : LA} {sg0 : List (Nat × Nat)} (hth0 : ThOk (cx nu one 1 laidE laidE_stab) (DRst ln) th0) (h0 : (inAs th0 (sgB 80 80 sg0) aPRst (l.pre.map (·.2)) && inHeap 80 80 th0 sg0 (lhSet h.pre .leaf) hpRst && nodupN (numsOf 80 sg0 hpRst)) = true) {thx : LA} (hthx : ThOk (ERst_1 ln) (cx nu one 1 laidE laidE_stab) thx) (hx : (inA thx (sgB 80 180 []) 8 q.2 (.tu [.ag [.s 0 0, .s 0 0, .i .i64 (.ofNat 0), .nils, .s 0 0], .x 0]) && inHeap 80 180 thx [] (lhSet [] .leaf) h.post && nodupN (numsOf 80 [] h.post)) = true) : CfOk (cx nu one 1 laidE laidE_stab) 7 l := by
  have hcs := spl_cnt ln
  by_cases d0 : ((spl ln).length : Int) = 3
  · by_cases d1 : tokS (nthS (spl ln) 0) = true
    · by_cases d2 : 16 < ((nthS (spl ln) 0).length : Int)
      · skip
        have hcs := spl_cnt ln
        have := spl_le ln 0
        have hsk : stK ln = 2 := by first | exact sK2 (by omega) (mk_t (by assumption)) | exact sK2 (by omega) (mk_l (by omega))
        have ho : ∀ a' r', (a', r') ∈ hyRst_c4 → HOk (DRst ln) a' r' := by
          unfold hyRst_c4
          exact hc (kRn (denX rfl)) <|
           hc (kRl (isX rfl) (denX rfl) (by first | omega | (simp <;> omega))) <|
           hc (necF rfl (by omega)) <|
           hc (kElN (j := 0) (isX rfl) (isZ (m := 0) rfl) (denX rfl) (by omega) (by omega)) <|
           hc (hokTokR (s := (nthS (spl ln) 0)) (isX rfl) (denBT (by assumption)) (by first | omega | (simp only [List.length_append, List.length_cons, List.length_nil, List.length_replicate]; omega)) (by first | omega | (simp only [List.length_append, List.length_cons, List.length_nil, List.length_replicate]; omega))) <|
           hc (lnV rfl rfl (by omega)) <|
           hc (gtcT rfl (by omega)) <|
           hnil
        exact cfOkX (D := DRst ln) (E := ERst_1 ln) (Gf := (fun e : Nat => H0 e)) (f := 3000) (tb := tbRst_c4) rfl rfl rfl rfl rfl rfl hl hq hs rfl hth0 h0 hthx hx (AllOk.lp1 ((tabkOk _ _).hyps ho) (by omega) fi20_at fi20_body (lfCons (lpKnown rfl ⟨0, keyRs, lfOkRs_0 (l := lf29) (h := lh29) ln (by omega) (0, [], (0 : Int), (0 : Int)) (mkIRs ln 0 [] (0 : Int) (0 : Int) ⟨by omega, by omega, by omega, by simp, fun _ => rs_0 ln, fun h => by omega, fun _ => rfl, fun _ => by omega, by omega⟩) rfl (by kernel_rfl) (th0 := [(0, .x 0), (1, .i .i64 (.ofNat 0)), (2, .i .i64 (.ofNat 0))]) (sg0 := []) (fun X => thXv (v := St' ln) rfl rfl (thCons (show Is _ (.i .i64 (.ofNat 0)) (.int .i64 ((0 : Int))) from isTo (v := .int .i64 0) (isI _ _) (by first | rfl | (congr 1; omega))) (thCons (show Is _ (.i .i64 (.ofNat 0)) (.int .i64 ((0 : Int))) from isTo (v := .int .i64 0) (isI _ _) (by first | rfl | (congr 1; omega))) (thNil)))) (by kernel_rfl) (thx := [(2000009, .x 2000000)]) (thXv (v := rwS (spl ln)) rfl rfl (thNil)) (by kernel_rfl)⟩) lfNil)) rfl (get_lps2 (by omega) (by omega) fi7_at) fiB7 (.inr ⟨rfl, fun w hi => hGl (C := DRst ln) rfl rfl hi⟩) (thCons (show Is _ (.i .i64 (.ofNat 10)) (.int .i64 ((cdK (stK ln)))) from isTo (v := .int .i64 10) (isI _ _) (congrArg (Value.int .i64) (by rw [hsk]; rfl))) (thNil)) runRst_c4
      · by_cases d3 : ((nthS (spl ln) 2).length : Int) < 5
        · skip
          have hcs := spl_cnt ln
          have := spl_le ln 0
          have := spl_le ln 2
          have hsk : stK ln = 4 := by first | exact sK3 (by omega) (mk_y (by assumption) (by omega)) (vr_s5 (by omega)) (by decide) | exact sK3 (by omega) (mk_y (by assumption) (by omega)) (vr_45 (by assumption)) (by decide)
          have ho : ∀ a' r', (a', r') ∈ hyRst_c5 → HOk (DRst ln) a' r' := by
            unfold hyRst_c5
            exact hc (kRn (denX rfl)) <|
             hc (kRl (isX rfl) (denX rfl) (by first | omega | (simp <;> omega))) <|
             hc (necF rfl (by omega)) <|
             hc (kElN (j := 0) (isX rfl) (isZ (m := 0) rfl) (denX rfl) (by omega) (by omega)) <|
             hc (hokTokR (s := (nthS (spl ln) 0)) (isX rfl) (denBT (by assumption)) (by first | omega | (simp only [List.length_append, List.length_cons, List.length_nil, List.length_replicate]; omega)) (by first | omega | (simp only [List.length_append, List.length_cons, List.length_nil, List.length_replicate]; omega))) <|
             hc (lnV rfl rfl (by omega)) <|
             hc (gtcF rfl (by omega)) <|
             hc (kElN (j := 2) (isX rfl) (isZ (m := 2) rfl) (denX rfl) (by omega) (by omega)) <|
             hc (lnV rfl rfl (by omega)) <|
             hc (ltcT rfl (by omega)) <|
             hnil
          exact cfOkX (D := DRst ln) (E := ERst_1 ln) (Gf := (fun e : Nat => H0 e)) (f := 3000) (tb := tbRst_c5) rfl rfl rfl rfl rfl rfl hl hq hs rfl hth0 h0 hthx hx (AllOk.lp1 ((tabkOk _ _).hyps ho) (by omega) fi20_at fi20_body (lfCons (lpKnown rfl ⟨0, keyRs, lfOkRs_0 (l := lf30) (h := lh30) ln (by omega) (0, [], (0 : Int), (0 : Int)) (mkIRs ln 0 [] (0 : Int) (0 : Int) ⟨by omega, by omega, by omega, by simp, fun _ => rs_0 ln, fun h => by omega, fun _ => rfl, fun _ => by omega, by omega⟩) rfl (by kernel_rfl) (th0 := [(0, .x 0), (1, .i .i64 (.ofNat 0)), (2, .i .i64 (.ofNat 0))]) (sg0 := []) (fun X => thXv (v := St' ln) rfl rfl (thCons (show Is _ (.i .i64 (.ofNat 0)) (.int .i64 ((0 : Int))) from isTo (v := .int .i64 0) (isI _ _) (by first | rfl | (congr 1; omega))) (thCons (show Is _ (.i .i64 (.ofNat 0)) (.int .i64 ((0 : Int))) from isTo (v := .int .i64 0) (isI _ _) (by first | rfl | (congr 1; omega))) (thNil)))) (by kernel_rfl) (thx := [(2000011, .x 2000000)]) (thXv (v := rwS (spl ln)) rfl rfl (thNil)) (by kernel_rfl)⟩) lfNil)) rfl (get_lps2 (by omega) (by omega) fi7_at) fiB7 (.inr ⟨rfl, fun w hi => hGl (C := DRst ln) rfl rfl hi⟩) (thCons (show Is _ (.i .i64 (.ofNat 10)) (.int .i64 ((cdK (stK ln)))) from isTo (v := .int .i64 10) (isI _ _) (congrArg (Value.int .i64) (by rw [hsk]; rfl))) (thNil)) runRst_c5
        · by_cases d4 : (List.take (Int.toNat (5)) (nthS (spl ln) 2)) = [u8 72, u8 84, u8 84, u8 80, u8 47]
          · by_cases d5 : (nthS (spl ln) 2) = [u8 72, u8 84, u8 84, u8 80, u8 47, u8 49, u8 46, u8 48]
            · by_cases d6 : tgB (nthS (spl ln) 0) (nthS (spl ln) 1) = true
              · by_cases d7 : 256 < ((nthS (spl ln) 1).length : Int)
                · skip
                  have hcs := spl_cnt ln
                  have := spl_le ln 0
                  have := spl_le ln 2
                  have := lenTake (l := (nthS (spl ln) 2)) (Q := 5) (by omega) (by omega)
                  have := spl_le ln 1
                  have hsk : stK ln = 7 := sK4 (by omega) (mk_y (by assumption) (by omega)) (by first | exact vr_0 (by assumption) | exact vr_1 (by assumption)) (tb_7 (by assumption) (by omega))
                  have ho : ∀ a' r', (a', r') ∈ hyRst_c11 → HOk (DRst ln) a' r' := by
                    unfold hyRst_c11
                    exact hc (kRn (denX rfl)) <|
                     hc (kRl (isX rfl) (denX rfl) (by first | omega | (simp <;> omega))) <|
                     hc (necF rfl (by omega)) <|
                     hc (kElN (j := 0) (isX rfl) (isZ (m := 0) rfl) (denX rfl) (by omega) (by omega)) <|
                     hc (hokTokR (s := (nthS (spl ln) 0)) (isX rfl) (denBT (by assumption)) (by first | omega | (simp only [List.length_append, List.length_cons, List.length_nil, List.length_replicate]; omega)) (by first | omega | (simp only [List.length_append, List.length_cons, List.length_nil, List.length_replicate]; omega))) <|
                     hc (lnV rfl rfl (by omega)) <|
                     hc (gtcF rfl (by omega)) <|
                     hc (kElN (j := 2) (isX rfl) (isZ (m := 2) rfl) (denX rfl) (by omega) (by omega)) <|
                     hc (lnV rfl rfl (by omega)) <|
                     hc (ltcF rfl (by omega)) <|
                     hc (tkC rfl rfl (by omega)) <|
                     hc (kNeS (isX rfl) (isSx (l := [u8 72, u8 84, u8 84, u8 80, u8 47]) 5 203211166792 rfl) (bnF (by first | exact decide_eq_true rfl | exact decide_eq_true ‹_› | exact decide_eq_false ‹_›))) <|
                     hc (kNeS (isX rfl) (isSx (l := [u8 72, u8 84, u8 84, u8 80, u8 47, u8 49, u8 46, u8 48]) 8 3471766442030158920 rfl) (bnF (by first | exact decide_eq_true rfl | exact decide_eq_true ‹_› | exact decide_eq_false ‹_›))) <|
                     hc (kElN (j := 1) (isX rfl) (isZ (m := 1) rfl) (denX rfl) (by omega) (by omega)) <|
                     hc (hokTgR (m := (nthS (spl ln) 0)) (t := (nthS (spl ln) 1)) (isX rfl) (isX rfl) (denBT (by assumption)) (by omega) (by omega) (by omega) (by omega)) <|
                     hc (lnV rfl rfl (by omega)) <|
                     hc (gtcT rfl (by omega)) <|
                     hnil
                  exact cfOkX (D := DRst ln) (E := ERst_1 ln) (Gf := (fun e : Nat => H0 e)) (f := 3000) (tb := tbRst_c11) rfl rfl rfl rfl rfl rfl hl hq hs rfl hth0 h0 hthx hx (AllOk.lp1 ((tabkOk _ _).hyps ho) (by omega) fi20_at fi20_body (lfCons (lpKnown rfl ⟨0, keyRs, lfOkRs_0 (l := lf36) (h := lh36) ln (by omega) (0, [], (0 : Int), (0 : Int)) (mkIRs ln 0 [] (0 : Int) (0 : Int) ⟨by omega, by omega, by omega, by simp, fun _ => rs_0 ln, fun h => by omega, fun _ => rfl, fun _ => by omega, by omega⟩) rfl (by kernel_rfl) (th0 := [(0, .x 0), (1, .i .i64 (.ofNat 0)), (2, .i .i64 (.ofNat 0))]) (sg0 := []) (fun X => thXv (v := St' ln) rfl rfl (thCons (show Is _ (.i .i64 (.ofNat 0)) (.int .i64 ((0 : Int))) from isTo (v := .int .i64 0) (isI _ _) (by first | rfl | (congr 1; omega))) (thCons (show Is _ (.i .i64 (.ofNat 0)) (.int .i64 ((0 : Int))) from isTo (v := .int .i64 0) (isI _ _) (by first | rfl | (congr 1; omega))) (thNil)))) (by kernel_rfl) (thx := [(2000023, .x 2000000)]) (thXv (v := rwS (spl ln)) rfl rfl (thNil)) (by kernel_rfl)⟩) lfNil)) rfl (get_lps2 (by omega) (by omega) fi7_at) fiB7 (.inr ⟨rfl, fun w hi => hGl (C := DRst ln) rfl rfl hi⟩) (thCons (show Is _ (.i .i64 (.ofNat 12)) (.int .i64 ((cdK (stK ln)))) from isTo (v := .int .i64 12) (isI _ _) (congrArg (Value.int .i64) (by rw [hsk]; rfl))) (thNil)) runRst_c11
                · exfalso; (have hcs := spl_cnt ln); (have := spl_le ln 0); (have := spl_le ln 2); (have := lenTake (l := (nthS (spl ln) 2)) (Q := 5) (by omega) (by omega)); (have := spl_le ln 1); (have hvl : (nthS (spl ln) 2).length = 8 := by rw [(by assumption : (nthS (spl ln) 2) = [u8 72, u8 84, u8 84, u8 80, u8 47, u8 49, u8 46, u8 48])]; rfl); (have hsk : stK ln = 0 := sK4 (by omega) (mk_y (by assumption) (by omega)) (by first | exact vr_0 (by assumption) | exact vr_1 (by assumption)) (tb_00 (by assumption) (by omega))); exact absurd hsk x0
              · skip
                have hcs := spl_cnt ln
                have := spl_le ln 0
                have := spl_le ln 2
                have := lenTake (l := (nthS (spl ln) 2)) (Q := 5) (by omega) (by omega)
                have := spl_le ln 1
                have hsk : stK ln = 5 ∨ stK ln = 6 := by have e := sK4 (ln := ln) (by omega) (mk_y (by assumption) (by omega)) (by first | exact vr_0 (by assumption) | exact vr_1 (by assumption)) rfl; rw [e]; exact tb_56 (by assumption)
                have ho : ∀ a' r', (a', r') ∈ hyRst_c10 → HOk (DRst ln) a' r' := by
                  unfold hyRst_c10
                  exact hc (kRn (denX rfl)) <|
                   hc (kRl (isX rfl) (denX rfl) (by first | omega | (simp <;> omega))) <|
                   hc (necF rfl (by omega)) <|
                   hc (kElN (j := 0) (isX rfl) (isZ (m := 0) rfl) (denX rfl) (by omega) (by omega)) <|
                   hc (hokTokR (s := (nthS (spl ln) 0)) (isX rfl) (denBT (by assumption)) (by first | omega | (simp only [List.length_append, List.length_cons, List.length_nil, List.length_replicate]; omega)) (by first | omega | (simp only [List.length_append, List.length_cons, List.length_nil, List.length_replicate]; omega))) <|
                   hc (lnV rfl rfl (by omega)) <|
                   hc (gtcF rfl (by omega)) <|
                   hc (kElN (j := 2) (isX rfl) (isZ (m := 2) rfl) (denX rfl) (by omega) (by omega)) <|
                   hc (lnV rfl rfl (by omega)) <|
                   hc (ltcF rfl (by omega)) <|
                   hc (tkC rfl rfl (by omega)) <|
                   hc (kNeS (isX rfl) (isSx (l := [u8 72, u8 84, u8 84, u8 80, u8 47]) 5 203211166792 rfl) (bnF (by first | exact decide_eq_true rfl | exact decide_eq_true ‹_› | exact decide_eq_false ‹_›))) <|
                   hc (kNeS (isX rfl) (isSx (l := [u8 72, u8 84, u8 84, u8 80, u8 47, u8 49, u8 46, u8 48]) 8 3471766442030158920 rfl) (bnF (by first | exact decide_eq_true rfl | exact decide_eq_true ‹_› | exact decide_eq_false ‹_›))) <|
                   hc (kElN (j := 1) (isX rfl) (isZ (m := 1) rfl) (denX rfl) (by omega) (by omega)) <|
                   hc (hokTgR (m := (nthS (spl ln) 0)) (t := (nthS (spl ln) 1)) (isX rfl) (isX rfl) (denBF (by assumption)) (by omega) (by omega) (by omega) (by omega)) <|
                   hnil
                exact cfOkX (D := DRst ln) (E := ERst_1 ln) (Gf := (fun e : Nat => H0 e)) (f := 3000) (tb := tbRst_c10) rfl rfl rfl rfl rfl rfl hl hq hs rfl hth0 h0 hthx hx (AllOk.lp1 ((tabkOk _ _).hyps ho) (by omega) fi20_at fi20_body (lfCons (lpKnown rfl ⟨0, keyRs, lfOkRs_0 (l := lf35) (h := lh35) ln (by omega) (0, [], (0 : Int), (0 : Int)) (mkIRs ln 0 [] (0 : Int) (0 : Int) ⟨by omega, by omega, by omega, by simp, fun _ => rs_0 ln, fun h => by omega, fun _ => rfl, fun _ => by omega, by omega⟩) rfl (by kernel_rfl) (th0 := [(0, .x 0), (1, .i .i64 (.ofNat 0)), (2, .i .i64 (.ofNat 0))]) (sg0 := []) (fun X => thXv (v := St' ln) rfl rfl (thCons (show Is _ (.i .i64 (.ofNat 0)) (.int .i64 ((0 : Int))) from isTo (v := .int .i64 0) (isI _ _) (by first | rfl | (congr 1; omega))) (thCons (show Is _ (.i .i64 (.ofNat 0)) (.int .i64 ((0 : Int))) from isTo (v := .int .i64 0) (isI _ _) (by first | rfl | (congr 1; omega))) (thNil)))) (by kernel_rfl) (thx := [(2000021, .x 2000000)]) (thXv (v := rwS (spl ln)) rfl rfl (thNil)) (by kernel_rfl)⟩) lfNil)) rfl (get_lps2 (by omega) (by omega) fi7_at) fiB7 (.inr ⟨rfl, fun w hi => hGl (C := DRst ln) rfl rfl hi⟩) (thCons (show Is _ (.i .i64 (.ofNat 10)) (.int .i64 ((cdK (stK ln)))) from isTo (v := .int .i64 10) (isI _ _) (congrArg (Value.int .i64) (by rcases hsk with e | e <;> rw [e] <;> rfl))) (thNil)) runRst_c10
            · by_cases d6 : (nthS (spl ln) 2) = [u8 72, u8 84, u8 84, u8 80, u8 47, u8 49, u8 46, u8 49]
              · by_cases d7 : tgB (nthS (spl ln) 0) (nthS (spl ln) 1) = true
                · by_cases d8 : 256 < ((nthS (spl ln) 1).length : Int)
                  · skip
                    have hcs := spl_cnt ln
                    have := spl_le ln 0
                    have := spl_le ln 2
                    have := lenTake (l := (nthS (spl ln) 2)) (Q := 5) (by omega) (by omega)
                    have := spl_le ln 1
                    have hsk : stK ln = 7 := sK4 (by omega) (mk_y (by assumption) (by omega)) (by first | exact vr_0 (by assumption) | exact vr_1 (by assumption)) (tb_7 (by assumption) (by omega))
                    have ho : ∀ a' r', (a', r') ∈ hyRst_c9 → HOk (DRst ln) a' r' := by
                      unfold hyRst_c9
                      exact hc (kRn (denX rfl)) <|
                       hc (kRl (isX rfl) (denX rfl) (by first | omega | (simp <;> omega))) <|
                       hc (necF rfl (by omega)) <|
                       hc (kElN (j := 0) (isX rfl) (isZ (m := 0) rfl) (denX rfl) (by omega) (by omega)) <|
                       hc (hokTokR (s := (nthS (spl ln) 0)) (isX rfl) (denBT (by assumption)) (by first | omega | (simp only [List.length_append, List.length_cons, List.length_nil, List.length_replicate]; omega)) (by first | omega | (simp only [List.length_append, List.length_cons, List.length_nil, List.length_replicate]; omega))) <|
                       hc (lnV rfl rfl (by omega)) <|
                       hc (gtcF rfl (by omega)) <|
                       hc (kElN (j := 2) (isX rfl) (isZ (m := 2) rfl) (denX rfl) (by omega) (by omega)) <|
                       hc (lnV rfl rfl (by omega)) <|
                       hc (ltcF rfl (by omega)) <|
                       hc (tkC rfl rfl (by omega)) <|
                       hc (kNeS (isX rfl) (isSx (l := [u8 72, u8 84, u8 84, u8 80, u8 47]) 5 203211166792 rfl) (bnF (by first | exact decide_eq_true rfl | exact decide_eq_true ‹_› | exact decide_eq_false ‹_›))) <|
                       hc (kNeS (isX rfl) (isSx (l := [u8 72, u8 84, u8 84, u8 80, u8 47, u8 49, u8 46, u8 48]) 8 3471766442030158920 rfl) (bnT (by first | exact decide_eq_true rfl | exact decide_eq_true ‹_› | exact decide_eq_false ‹_›))) <|
                       hc (kNeS (isX rfl) (isSx (l := [u8 72, u8 84, u8 84, u8 80, u8 47, u8 49, u8 46, u8 49]) 8 3543824036068086856 rfl) (bnF (by first | exact decide_eq_true rfl | exact decide_eq_true ‹_› | exact decide_eq_false ‹_›))) <|
                       hc (kElN (j := 1) (isX rfl) (isZ (m := 1) rfl) (denX rfl) (by omega) (by omega)) <|
                       hc (hokTgR (m := (nthS (spl ln) 0)) (t := (nthS (spl ln) 1)) (isX rfl) (isX rfl) (denBT (by assumption)) (by omega) (by omega) (by omega) (by omega)) <|
                       hc (lnV rfl rfl (by omega)) <|
                       hc (gtcT rfl (by omega)) <|
                       hnil
                    exact cfOkX (D := DRst ln) (E := ERst_1 ln) (Gf := (fun e : Nat => H0 e)) (f := 3000) (tb := tbRst_c9) rfl rfl rfl rfl rfl rfl hl hq hs rfl hth0 h0 hthx hx (AllOk.lp1 ((tabkOk _ _).hyps ho) (by omega) fi20_at fi20_body (lfCons (lpKnown rfl ⟨0, keyRs, lfOkRs_0 (l := lf34) (h := lh34) ln (by omega) (0, [], (0 : Int), (0 : Int)) (mkIRs ln 0 [] (0 : Int) (0 : Int) ⟨by omega, by omega, by omega, by simp, fun _ => rs_0 ln, fun h => by omega, fun _ => rfl, fun _ => by omega, by omega⟩) rfl (by kernel_rfl) (th0 := [(0, .x 0), (1, .i .i64 (.ofNat 0)), (2, .i .i64 (.ofNat 0))]) (sg0 := []) (fun X => thXv (v := St' ln) rfl rfl (thCons (show Is _ (.i .i64 (.ofNat 0)) (.int .i64 ((0 : Int))) from isTo (v := .int .i64 0) (isI _ _) (by first | rfl | (congr 1; omega))) (thCons (show Is _ (.i .i64 (.ofNat 0)) (.int .i64 ((0 : Int))) from isTo (v := .int .i64 0) (isI _ _) (by first | rfl | (congr 1; omega))) (thNil)))) (by kernel_rfl) (thx := [(2000019, .x 2000000)]) (thXv (v := rwS (spl ln)) rfl rfl (thNil)) (by kernel_rfl)⟩) lfNil)) rfl (get_lps2 (by omega) (by omega) fi7_at) fiB7 (.inr ⟨rfl, fun w hi => hGl (C := DRst ln) rfl rfl hi⟩) (thCons (show Is _ (.i .i64 (.ofNat 12)) (.int .i64 ((cdK (stK ln)))) from isTo (v := .int .i64 12) (isI _ _) (congrArg (Value.int .i64) (by rw [hsk]; rfl))) (thNil)) runRst_c9
                  · exfalso; (have hcs := spl_cnt ln); (have := spl_le ln 0); (have := spl_le ln 2); (have := lenTake (l := (nthS (spl ln) 2)) (Q := 5) (by omega) (by omega)); (have := spl_le ln 1); (have hvl : (nthS (spl ln) 2).length = 8 := by rw [(by assumption : (nthS (spl ln) 2) = [u8 72, u8 84, u8 84, u8 80, u8 47, u8 49, u8 46, u8 49])]; rfl); (have hsk : stK ln = 0 := sK4 (by omega) (mk_y (by assumption) (by omega)) (by first | exact vr_0 (by assumption) | exact vr_1 (by assumption)) (tb_00 (by assumption) (by omega))); exact absurd hsk x0
                · skip
                  have hcs := spl_cnt ln
                  have := spl_le ln 0
                  have := spl_le ln 2
                  have := lenTake (l := (nthS (spl ln) 2)) (Q := 5) (by omega) (by omega)
                  have := spl_le ln 1
                  have hsk : stK ln = 5 ∨ stK ln = 6 := by have e := sK4 (ln := ln) (by omega) (mk_y (by assumption) (by omega)) (by first | exact vr_0 (by assumption) | exact vr_1 (by assumption)) rfl; rw [e]; exact tb_56 (by assumption)
                  have ho : ∀ a' r', (a', r') ∈ hyRst_c8 → HOk (DRst ln) a' r' := by
                    unfold hyRst_c8
                    exact hc (kRn (denX rfl)) <|
                     hc (kRl (isX rfl) (denX rfl) (by first | omega | (simp <;> omega))) <|
                     hc (necF rfl (by omega)) <|
                     hc (kElN (j := 0) (isX rfl) (isZ (m := 0) rfl) (denX rfl) (by omega) (by omega)) <|
                     hc (hokTokR (s := (nthS (spl ln) 0)) (isX rfl) (denBT (by assumption)) (by first | omega | (simp only [List.length_append, List.length_cons, List.length_nil, List.length_replicate]; omega)) (by first | omega | (simp only [List.length_append, List.length_cons, List.length_nil, List.length_replicate]; omega))) <|
                     hc (lnV rfl rfl (by omega)) <|
                     hc (gtcF rfl (by omega)) <|
                     hc (kElN (j := 2) (isX rfl) (isZ (m := 2) rfl) (denX rfl) (by omega) (by omega)) <|
                     hc (lnV rfl rfl (by omega)) <|
                     hc (ltcF rfl (by omega)) <|
                     hc (tkC rfl rfl (by omega)) <|
                     hc (kNeS (isX rfl) (isSx (l := [u8 72, u8 84, u8 84, u8 80, u8 47]) 5 203211166792 rfl) (bnF (by first | exact decide_eq_true rfl | exact decide_eq_true ‹_› | exact decide_eq_false ‹_›))) <|
                     hc (kNeS (isX rfl) (isSx (l := [u8 72, u8 84, u8 84, u8 80, u8 47, u8 49, u8 46, u8 48]) 8 3471766442030158920 rfl) (bnT (by first | exact decide_eq_true rfl | exact decide_eq_true ‹_› | exact decide_eq_false ‹_›))) <|
                     hc (kNeS (isX rfl) (isSx (l := [u8 72, u8 84, u8 84, u8 80, u8 47, u8 49, u8 46, u8 49]) 8 3543824036068086856 rfl) (bnF (by first | exact decide_eq_true rfl | exact decide_eq_true ‹_› | exact decide_eq_false ‹_›))) <|
                     hc (kElN (j := 1) (isX rfl) (isZ (m := 1) rfl) (denX rfl) (by omega) (by omega)) <|
                     hc (hokTgR (m := (nthS (spl ln) 0)) (t := (nthS (spl ln) 1)) (isX rfl) (isX rfl) (denBF (by assumption)) (by omega) (by omega) (by omega) (by omega)) <|
                     hnil
                  exact cfOkX (D := DRst ln) (E := ERst_1 ln) (Gf := (fun e : Nat => H0 e)) (f := 3000) (tb := tbRst_c8) rfl rfl rfl rfl rfl rfl hl hq hs rfl hth0 h0 hthx hx (AllOk.lp1 ((tabkOk _ _).hyps ho) (by omega) fi20_at fi20_body (lfCons (lpKnown rfl ⟨0, keyRs, lfOkRs_0 (l := lf33) (h := lh33) ln (by omega) (0, [], (0 : Int), (0 : Int)) (mkIRs ln 0 [] (0 : Int) (0 : Int) ⟨by omega, by omega, by omega, by simp, fun _ => rs_0 ln, fun h => by omega, fun _ => rfl, fun _ => by omega, by omega⟩) rfl (by kernel_rfl) (th0 := [(0, .x 0), (1, .i .i64 (.ofNat 0)), (2, .i .i64 (.ofNat 0))]) (sg0 := []) (fun X => thXv (v := St' ln) rfl rfl (thCons (show Is _ (.i .i64 (.ofNat 0)) (.int .i64 ((0 : Int))) from isTo (v := .int .i64 0) (isI _ _) (by first | rfl | (congr 1; omega))) (thCons (show Is _ (.i .i64 (.ofNat 0)) (.int .i64 ((0 : Int))) from isTo (v := .int .i64 0) (isI _ _) (by first | rfl | (congr 1; omega))) (thNil)))) (by kernel_rfl) (thx := [(2000017, .x 2000000)]) (thXv (v := rwS (spl ln)) rfl rfl (thNil)) (by kernel_rfl)⟩) lfNil)) rfl (get_lps2 (by omega) (by omega) fi7_at) fiB7 (.inr ⟨rfl, fun w hi => hGl (C := DRst ln) rfl rfl hi⟩) (thCons (show Is _ (.i .i64 (.ofNat 10)) (.int .i64 ((cdK (stK ln)))) from isTo (v := .int .i64 10) (isI _ _) (congrArg (Value.int .i64) (by rcases hsk with e | e <;> rw [e] <;> rfl))) (thNil)) runRst_c8
              · skip
                have hcs := spl_cnt ln
                have := spl_le ln 0
                have := spl_le ln 2
                have := lenTake (l := (nthS (spl ln) 2)) (Q := 5) (by omega) (by omega)
                have hsk : stK ln = 3 := sK3 (by omega) (mk_y (by assumption) (by omega)) (vr_3 (by assumption) (by assumption) (by assumption)) (by decide)
                have ho : ∀ a' r', (a', r') ∈ hyRst_c7 → HOk (DRst ln) a' r' := by
                  unfold hyRst_c7
                  exact hc (kRn (denX rfl)) <|
                   hc (kRl (isX rfl) (denX rfl) (by first | omega | (simp <;> omega))) <|
                   hc (necF rfl (by omega)) <|
                   hc (kElN (j := 0) (isX rfl) (isZ (m := 0) rfl) (denX rfl) (by omega) (by omega)) <|
                   hc (hokTokR (s := (nthS (spl ln) 0)) (isX rfl) (denBT (by assumption)) (by first | omega | (simp only [List.length_append, List.length_cons, List.length_nil, List.length_replicate]; omega)) (by first | omega | (simp only [List.length_append, List.length_cons, List.length_nil, List.length_replicate]; omega))) <|
                   hc (lnV rfl rfl (by omega)) <|
                   hc (gtcF rfl (by omega)) <|
                   hc (kElN (j := 2) (isX rfl) (isZ (m := 2) rfl) (denX rfl) (by omega) (by omega)) <|
                   hc (lnV rfl rfl (by omega)) <|
                   hc (ltcF rfl (by omega)) <|
                   hc (tkC rfl rfl (by omega)) <|
                   hc (kNeS (isX rfl) (isSx (l := [u8 72, u8 84, u8 84, u8 80, u8 47]) 5 203211166792 rfl) (bnF (by first | exact decide_eq_true rfl | exact decide_eq_true ‹_› | exact decide_eq_false ‹_›))) <|
                   hc (kNeS (isX rfl) (isSx (l := [u8 72, u8 84, u8 84, u8 80, u8 47, u8 49, u8 46, u8 48]) 8 3471766442030158920 rfl) (bnT (by first | exact decide_eq_true rfl | exact decide_eq_true ‹_› | exact decide_eq_false ‹_›))) <|
                   hc (kNeS (isX rfl) (isSx (l := [u8 72, u8 84, u8 84, u8 80, u8 47, u8 49, u8 46, u8 49]) 8 3543824036068086856 rfl) (bnT (by first | exact decide_eq_true rfl | exact decide_eq_true ‹_› | exact decide_eq_false ‹_›))) <|
                   hnil
                exact cfOkX (D := DRst ln) (E := ERst_1 ln) (Gf := (fun e : Nat => H0 e)) (f := 3000) (tb := tbRst_c7) rfl rfl rfl rfl rfl rfl hl hq hs rfl hth0 h0 hthx hx (AllOk.lp1 ((tabkOk _ _).hyps ho) (by omega) fi20_at fi20_body (lfCons (lpKnown rfl ⟨0, keyRs, lfOkRs_0 (l := lf32) (h := lh32) ln (by omega) (0, [], (0 : Int), (0 : Int)) (mkIRs ln 0 [] (0 : Int) (0 : Int) ⟨by omega, by omega, by omega, by simp, fun _ => rs_0 ln, fun h => by omega, fun _ => rfl, fun _ => by omega, by omega⟩) rfl (by kernel_rfl) (th0 := [(0, .x 0), (1, .i .i64 (.ofNat 0)), (2, .i .i64 (.ofNat 0))]) (sg0 := []) (fun X => thXv (v := St' ln) rfl rfl (thCons (show Is _ (.i .i64 (.ofNat 0)) (.int .i64 ((0 : Int))) from isTo (v := .int .i64 0) (isI _ _) (by first | rfl | (congr 1; omega))) (thCons (show Is _ (.i .i64 (.ofNat 0)) (.int .i64 ((0 : Int))) from isTo (v := .int .i64 0) (isI _ _) (by first | rfl | (congr 1; omega))) (thNil)))) (by kernel_rfl) (thx := [(2000015, .x 2000000)]) (thXv (v := rwS (spl ln)) rfl rfl (thNil)) (by kernel_rfl)⟩) lfNil)) rfl (get_lps2 (by omega) (by omega) fi7_at) fiB7 (.inr ⟨rfl, fun w hi => hGl (C := DRst ln) rfl rfl hi⟩) (thCons (show Is _ (.i .i64 (.ofNat 13)) (.int .i64 ((cdK (stK ln)))) from isTo (v := .int .i64 13) (isI _ _) (congrArg (Value.int .i64) (by rw [hsk]; rfl))) (thNil)) runRst_c7
          · skip
            have hcs := spl_cnt ln
            have := spl_le ln 0
            have := spl_le ln 2
            have := lenTake (l := (nthS (spl ln) 2)) (Q := 5) (by omega) (by omega)
            have hsk : stK ln = 4 := by first | exact sK3 (by omega) (mk_y (by assumption) (by omega)) (vr_s5 (by omega)) (by decide) | exact sK3 (by omega) (mk_y (by assumption) (by omega)) (vr_45 (by assumption)) (by decide)
            have ho : ∀ a' r', (a', r') ∈ hyRst_c6 → HOk (DRst ln) a' r' := by
              unfold hyRst_c6
              exact hc (kRn (denX rfl)) <|
               hc (kRl (isX rfl) (denX rfl) (by first | omega | (simp <;> omega))) <|
               hc (necF rfl (by omega)) <|
               hc (kElN (j := 0) (isX rfl) (isZ (m := 0) rfl) (denX rfl) (by omega) (by omega)) <|
               hc (hokTokR (s := (nthS (spl ln) 0)) (isX rfl) (denBT (by assumption)) (by first | omega | (simp only [List.length_append, List.length_cons, List.length_nil, List.length_replicate]; omega)) (by first | omega | (simp only [List.length_append, List.length_cons, List.length_nil, List.length_replicate]; omega))) <|
               hc (lnV rfl rfl (by omega)) <|
               hc (gtcF rfl (by omega)) <|
               hc (kElN (j := 2) (isX rfl) (isZ (m := 2) rfl) (denX rfl) (by omega) (by omega)) <|
               hc (lnV rfl rfl (by omega)) <|
               hc (ltcF rfl (by omega)) <|
               hc (tkC rfl rfl (by omega)) <|
               hc (kNeS (isX rfl) (isSx (l := [u8 72, u8 84, u8 84, u8 80, u8 47]) 5 203211166792 rfl) (bnT (by first | exact decide_eq_true rfl | exact decide_eq_true ‹_› | exact decide_eq_false ‹_›))) <|
               hnil
            exact cfOkX (D := DRst ln) (E := ERst_1 ln) (Gf := (fun e : Nat => H0 e)) (f := 3000) (tb := tbRst_c6) rfl rfl rfl rfl rfl rfl hl hq hs rfl hth0 h0 hthx hx (AllOk.lp1 ((tabkOk _ _).hyps ho) (by omega) fi20_at fi20_body (lfCons (lpKnown rfl ⟨0, keyRs, lfOkRs_0 (l := lf31) (h := lh31) ln (by omega) (0, [], (0 : Int), (0 : Int)) (mkIRs ln 0 [] (0 : Int) (0 : Int) ⟨by omega, by omega, by omega, by simp, fun _ => rs_0 ln, fun h => by omega, fun _ => rfl, fun _ => by omega, by omega⟩) rfl (by kernel_rfl) (th0 := [(0, .x 0), (1, .i .i64 (.ofNat 0)), (2, .i .i64 (.ofNat 0))]) (sg0 := []) (fun X => thXv (v := St' ln) rfl rfl (thCons (show Is _ (.i .i64 (.ofNat 0)) (.int .i64 ((0 : Int))) from isTo (v := .int .i64 0) (isI _ _) (by first | rfl | (congr 1; omega))) (thCons (show Is _ (.i .i64 (.ofNat 0)) (.int .i64 ((0 : Int))) from isTo (v := .int .i64 0) (isI _ _) (by first | rfl | (congr 1; omega))) (thNil)))) (by kernel_rfl) (thx := [(2000013, .x 2000000)]) (thXv (v := rwS (spl ln)) rfl rfl (thNil)) (by kernel_rfl)⟩) lfNil)) rfl (get_lps2 (by omega) (by omega) fi7_at) fiB7 (.inr ⟨rfl, fun w hi => hGl (C := DRst ln) rfl rfl hi⟩) (thCons (show Is _ (.i .i64 (.ofNat 10)) (.int .i64 ((cdK (stK ln)))) from isTo (v := .int .i64 10) (isI _ _) (congrArg (Value.int .i64) (by rw [hsk]; rfl))) (thNil)) runRst_c6
    · skip
      have hcs := spl_cnt ln
      have := spl_le ln 0
      have hsk : stK ln = 2 := by first | exact sK2 (by omega) (mk_t (by assumption)) | exact sK2 (by omega) (mk_l (by omega))
      have ho : ∀ a' r', (a', r') ∈ hyRst_c3 → HOk (DRst ln) a' r' := by
        unfold hyRst_c3
        exact hc (kRn (denX rfl)) <|
         hc (kRl (isX rfl) (denX rfl) (by first | omega | (simp <;> omega))) <|
         hc (necF rfl (by omega)) <|
         hc (kElN (j := 0) (isX rfl) (isZ (m := 0) rfl) (denX rfl) (by omega) (by omega)) <|
         hc (hokTokR (s := (nthS (spl ln) 0)) (isX rfl) (denBF (by assumption)) (by first | omega | (simp only [List.length_append, List.length_cons, List.length_nil, List.length_replicate]; omega)) (by first | omega | (simp only [List.length_append, List.length_cons, List.length_nil, List.length_replicate]; omega))) <|
         hnil
      exact cfOkX (D := DRst ln) (E := ERst_1 ln) (Gf := (fun e : Nat => H0 e)) (f := 3000) (tb := tbRst_c3) rfl rfl rfl rfl rfl rfl hl hq hs rfl hth0 h0 hthx hx (AllOk.lp1 ((tabkOk _ _).hyps ho) (by omega) fi20_at fi20_body (lfCons (lpKnown rfl ⟨0, keyRs, lfOkRs_0 (l := lf28) (h := lh28) ln (by omega) (0, [], (0 : Int), (0 : Int)) (mkIRs ln 0 [] (0 : Int) (0 : Int) ⟨by omega, by omega, by omega, by simp, fun _ => rs_0 ln, fun h => by omega, fun _ => rfl, fun _ => by omega, by omega⟩) rfl (by kernel_rfl) (th0 := [(0, .x 0), (1, .i .i64 (.ofNat 0)), (2, .i .i64 (.ofNat 0))]) (sg0 := []) (fun X => thXv (v := St' ln) rfl rfl (thCons (show Is _ (.i .i64 (.ofNat 0)) (.int .i64 ((0 : Int))) from isTo (v := .int .i64 0) (isI _ _) (by first | rfl | (congr 1; omega))) (thCons (show Is _ (.i .i64 (.ofNat 0)) (.int .i64 ((0 : Int))) from isTo (v := .int .i64 0) (isI _ _) (by first | rfl | (congr 1; omega))) (thNil)))) (by kernel_rfl) (thx := [(2000007, .x 2000000)]) (thXv (v := rwS (spl ln)) rfl rfl (thNil)) (by kernel_rfl)⟩) lfNil)) rfl (get_lps2 (by omega) (by omega) fi7_at) fiB7 (.inr ⟨rfl, fun w hi => hGl (C := DRst ln) rfl rfl hi⟩) (thCons (show Is _ (.i .i64 (.ofNat 10)) (.int .i64 ((cdK (stK ln)))) from isTo (v := .int .i64 10) (isI _ _) (congrArg (Value.int .i64) (by rw [hsk]; rfl))) (thNil)) runRst_c3
  · skip
    have hcs := spl_cnt ln
    have hsk : stK ln = 1 := sK1 (by omega)
    have ho : ∀ a' r', (a', r') ∈ hyRst_c0 → HOk (DRst ln) a' r' := by
      unfold hyRst_c0
      exact hc (kRn (denX rfl)) <|
       hc (kRl (isX rfl) (denX rfl) (by first | omega | (simp <;> omega))) <|
       hc (necT rfl (by omega)) <|
       hnil
    exact cfOkX (D := DRst ln) (E := ERst_1 ln) (Gf := (fun e : Nat => H0 e)) (f := 3000) (tb := tbRst_c0) rfl rfl rfl rfl rfl rfl hl hq hs rfl hth0 h0 hthx hx (AllOk.lp1 ((tabkOk _ _).hyps ho) (by omega) fi20_at fi20_body (lfCons (lpKnown rfl ⟨0, keyRs, lfOkRs_0 (l := lf25) (h := lh25) ln (by omega) (0, [], (0 : Int), (0 : Int)) (mkIRs ln 0 [] (0 : Int) (0 : Int) ⟨by omega, by omega, by omega, by simp, fun _ => rs_0 ln, fun h => by omega, fun _ => rfl, fun _ => by omega, by omega⟩) rfl (by kernel_rfl) (th0 := [(0, .x 0), (1, .i .i64 (.ofNat 0)), (2, .i .i64 (.ofNat 0))]) (sg0 := []) (fun X => thXv (v := St' ln) rfl rfl (thCons (show Is _ (.i .i64 (.ofNat 0)) (.int .i64 ((0 : Int))) from isTo (v := .int .i64 0) (isI _ _) (by first | rfl | (congr 1; omega))) (thCons (show Is _ (.i .i64 (.ofNat 0)) (.int .i64 ((0 : Int))) from isTo (v := .int .i64 0) (isI _ _) (by first | rfl | (congr 1; omega))) (thNil)))) (by kernel_rfl) (thx := [(2000001, .x 2000000)]) (thXv (v := rwS (spl ln)) rfl rfl (thNil)) (by kernel_rfl)⟩) lfNil)) rfl (get_lps2 (by omega) (by omega) fi7_at) fiB7 (.inr ⟨rfl, fun w hi => hGl (C := DRst ln) rfl rfl hi⟩) (thCons (show Is _ (.i .i64 (.ofNat 10)) (.int .i64 ((cdK (stK ln)))) from isTo (v := .int .i64 10) (isI _ _) (congrArg (Value.int .i64) (by rw [hsk]; rfl))) (thNil)) runRst_c0
end Go.Proofs.YtalblkipoopdgaaDoor.startTells
