/- A part of the proof: what an interpreter answers on partly known states is what the program answers. No condition. -/
import Derived.Test.YtjkdkpdjmapieaaDoorE1FieldTellsO8
set_option maxRecDepth 100000
set_option linter.unusedVariables false
set_option linter.unusedSimpArgs false
set_option maxHeartbeats 4000000
namespace Go.Proofs.YtjkdkpdjmapieaaDoor.fieldTells
open Go Go.AX Go.Proofs Go.Proofs.YtjkdkpdjmapieaaDoor
variable {nu : Nat → Value} {one : ∀ i, i < 1000000 → (nu i).oneCell' = true} {E' : Cx} {x' : Ex} {e' : LA} {h' : LE}
noncomputable def Il : Code := cS (Tryd.f14.body.getD .skip) 0
theorem keySm0 : cU (br (Tryd.f14.body.getD .skip)) 4 0 0 = true := by kernel_rfl
def oN : List Nat := []
def ID : LA := [(0, .sr 104), (1, .sr 204), (5, .x 0)]
def HG : LE := [(104, .r 2000000 9 1 false), (204, .r 2000001 9 1 false)]
def wW (T : List LB) (i : Int) : List Value := [.int .i64 (i), .int .i64 ((T.length : Int)), St' (List.getD T i.toNat []), St' (List.getD T i.toNat []), .int .i64 (i + 1), .int .i64 ((T.length : Int))]
def aX6 (T : List LB) (i : Int) : List Value := [aO T, aO T]
def tj (st : Nat × Int) : LA := ID
def HH (st : Nat × Int) : LE := HG
def DC (T : List LB) (st : Nat × Int) : List Value := wW T (st.2)
def roSm0 (T : List LB) (st : Nat × Int) : List Value := aX6 T (st.2)
theorem onSm0 (T : List LB) (st : Nat × Int) : ∀ j, (ai (DC T st) j).oneCell' = true := by
  intro j
  unfold DC
  exact aQ (l := wW T (st.2)) rfl j
theorem ebSm0 (st : Nat × Int) : (cG (tj st) && cO oN) = true := by
  unfold tj
  rfl
noncomputable def DSm0 (T : List LB) (st : Nat × Int) (X : Nat → Value) : Cx := cx (af (DC T st) (rX (roSm0 T st) X)) (ah (onSm0 T st)) 1 aC aG
abbrev JH (T : List LB) (tag : Nat) (i : Int) : Prop := (0 ≤ i) ∧ (i ≤ (T.length : Int)) ∧ (T.length ≤ 1000) ∧ (tag < 1)
def nS (T : List LB) (st : Nat × Int) : Prop := JH T st.1 (st.2)
theorem De {T : List LB} {tag : Nat} {i : Int} (h : JH T tag i) : nS T (tag, i) := h
theorem unISm0 (T : List LB) (tag : Nat) (i : Int) (h : nS T (tag, i)) : JH T tag i := h
def xr (T : List LB) (st : Nat × Int) : Nat := (T.length - (st.2).toNat)
abbrev BV (T : List LB) (E' : Cx) (ex' : Ex) (epx' : LA) (hpx' : LE) (st : Nat × Int) (X : Nat → Value) : Prop := a6 E' Il oN 26 ex' 4 244 244 244 tj HH epx' hpx' (nS T) (xr T) (DSm0 T) st X
noncomputable abbrev Bu (T : List LB) (i : Int) (X : Nat → Value) : Cx := cx (af (wW T i) (rX (aX6 T i) X)) (ah (aQ (l := wW T i) rfl)) 1 aC aG
noncomputable abbrev BR (h : LK) (x : Ex) (th : LA) (sg : List (Nat × Nat)) (m : Nat) (ep : LA) (hp : LE) : Bool := bn (code (aV h) 900 [] Il (bc (bf ID oN) 26) ⟨ay HG .leaf, 244, 0, 0⟩) x oN 26 244 th sg 244 m ep hp
theorem stSm0_0 {T : List LB} {i : Int} {X : Nat → Value} {h : LK} (y : Nat × Int) {th : LA} {sg : List (Nat × Nat)} (ho : ∀ a' r', (a', r') ∈ h → aL (Bu T i X) a' r') (hy : nS T y) (lt : xr T y < xr T (0, i)) (ht : aw (Bu T i X) (DSm0 T y X) th) (run : BR h .normal th sg 244 (tj y) (HH y) = true) : BV T E' x' e' h' (0, i) X :=
  a6.next (tb := aV h) (L := []) (f := 900) y ((ae _ _).hyps ho) (bA.nil _) rfl hy lt ht run
theorem lvSm0_0 {T : List LB} {i : Int} {X : Nat → Value} {h : LK} {th : LA} {sg : List (Nat × Nat)} (hne : cI x' .normal = false) (ho : ∀ a' r', (a', r') ∈ h → aL (Bu T i X) a' r') (ht : aw (Bu T i X) E' th) (run : BR h x' th sg 244 e' h' = true) : BV T E' x' e' h' (0, i) X :=
  a6.leave (tb := aV h) (L := []) (f := 900) ((ae _ _).hyps ho) (bA.nil _) rfl hne ht run
def E7 : LK := [(.rl (.x 2000000) 1, .x 1), (.bin .lss (.x 0) (.x 1), .b true), (.el (.x 2000000) (.x 0) 1 0, .x 2), (.el (.x 2000001) (.x 0) 1 0, .x 3), (.bin .neq (.x 2) (.x 3), .b false), (.bin .add (.x 0) (I6 1), .x 4)]
theorem runSm0_p0 : BR E7 .normal [(0, .x 4), (2000000, .x 2000000), (2000001, .x 2000001)] [] 244 ID HG = true := by kernel_rfl
def E6 : LK := [(.rl (.x 2000000) 1, .x 5), (.bin .lss (.x 0) (.x 5), .b false)]
theorem runSm0_p1 : BR E6 (.exit 0) [(2000000, .x 2000000), (2000001, .x 2000001)] [] 244 [] [(104, .r 2000000 9 1 false), (204, .r 2000001 9 1 false)] = true := by kernel_rfl
section
variable {T : List LB} {i : Int} {X : Nat → Value}
theorem nxSm0_p0 (hI : nS T (0, i)) (h0 : i < (T.length : Int)) : BV T E' x' e' h' (0, i) X := by
  obtain ⟨i0, i1, i2, it⟩ := unISm0 T 0 i hI
  refine stSm0_0 (h := E7) (0, (i + 1)) ?_ (De ⟨by omega, by omega, by omega, by omega⟩) (by show T.length - (i + 1).toNat < T.length - i.toNat; omega) (bT (b := ((i + 1))) rfl rfl (by omega) (aB (v := aO T) rfl rfl (aB (v := aO T) rfl rfl (aI)))) runSm0_p0
  unfold E7
  exact hc (eK (aA rfl) (aE rfl) (by first | omega | (simp <;> omega))) <|hc (ba rfl rfl (by omega)) <|hc (gP (j := i.toNat) (aA rfl) (aA rfl) (aE rfl) (by omega) (by first | omega | (simp <;> omega))) <|hc (gP (j := i.toNat) (aA rfl) (aA rfl) (aE rfl) (by omega) (by first | omega | (simp <;> omega))) <|hc (ck (aA rfl) (aA rfl) (ev (decide_eq_true rfl))) <|hc (bO rfl rfl (by omega)) <|hnil
end
def aS1 (T : List LB) : List Value := []
def roESm0_0 (T : List LB) : List Value := [aO T, aO T]
noncomputable def ESm0_0 (T : List LB) : Cx := cx (af (aS1 T) (rX (roESm0_0 T) (fun _ => .bool true))) (ah (aQ (l := aS1 T) rfl)) 1 aC aG
theorem roundsSm0_0 (T : List LB) (st : Nat × Int) (X : Nat → Value) (hI : nS T st) : BV T (ESm0_0 T) (.exit 0) [] [(104, .r 2000000 9 1 false), (204, .r 2000001 9 1 false)] st X := by
  obtain ⟨tag, i⟩ := st
  have hI0 := hI
  obtain ⟨i0, i1, i2, it⟩ := unISm0 T tag i hI
  obtain rfl : tag = 0 := by omega
  skip
  by_cases h0 : i < (T.length : Int)
  · exact nxSm0_p0 hI0 h0
  · skip
    refine lvSm0_0 (h := E6) rfl ?_ (aB (v := aO T) rfl rfl (aB (v := aO T) rfl rfl (aI))) runSm0_p1
    unfold E6
    exact hc (eK (aA rfl) (aE rfl) (by first | omega | (simp <;> omega))) <|hc (dB rfl rfl (by omega)) <|hnil
theorem aL4 (T : List LB) : ax (cx nu one 1 aC aG) (ESm0_0 T) Il oN 26 (.exit 0) 4 244 244 244 tj HH [] [(104, .r 2000000 9 1 false), (204, .r 2000001 9 1 false)] (nS T) (DSm0 T) :=
  cF (xr T) (fun _ _ => rfl) (fun _ _ => rfl) (fun _ _ => rfl) (fun st X t ht => cE.trans (cD ((by decide : ∀ t, t ∈ oN → t < 1000000) t ht))) rfl rfl rfl ebSm0 rfl rfl (roundsSm0_0 T)
noncomputable def Ik : Code := cS (Tryd.f18.body.getD .skip) 0
theorem keySm1 : cU (br (Tryd.f18.body.getD .skip)) 4 0 0 = true := by kernel_rfl
def oM : List Nat := []
def IC : LA := [(0, .sr 304), (1, .sr 604), (5, .x 0)]
def HE : LE := [(304, .r 2000000 23 2 false), (604, .r 2000001 23 2 false)]
def wV (T : List (LB × LB)) (i : Int) : List Value := [.int .i64 (i), .int .i64 ((T.length : Int)), St' ((aJ T i.toNat).1), St' ((aJ T i.toNat).2), St' ((aJ T i.toNat).1), St' ((aJ T i.toNat).2), .int .i64 (i + 1), .int .i64 ((T.length : Int))]
def aX5 (T : List (LB × LB)) (i : Int) : List Value := [aM aK T, aM aK T]
def tg (st : Nat × Int) : LA := IC
def HF (st : Nat × Int) : LE := HE
def DB (T : List (LB × LB)) (st : Nat × Int) : List Value := wV T (st.2)
def roSm1 (T : List (LB × LB)) (st : Nat × Int) : List Value := aX5 T (st.2)
theorem onSm1 (T : List (LB × LB)) (st : Nat × Int) : ∀ j, (ai (DB T st) j).oneCell' = true := by
  intro j
  unfold DB
  exact aQ (l := wV T (st.2)) rfl j
theorem ebSm1 (st : Nat × Int) : (cG (tg st) && cO oM) = true := by
  unfold tg
  rfl
noncomputable def DSm1 (T : List (LB × LB)) (st : Nat × Int) (X : Nat → Value) : Cx := cx (af (DB T st) (rX (roSm1 T st) X)) (ah (onSm1 T st)) 1 aC aG
abbrev JG (T : List (LB × LB)) (tag : Nat) (i : Int) : Prop := (0 ≤ i) ∧ (i ≤ (T.length : Int)) ∧ (T.length ≤ 1000) ∧ (∀ q, q ∈ T → dH q) ∧ (tag < 1)
def nR (T : List (LB × LB)) (st : Nat × Int) : Prop := JG T st.1 (st.2)
theorem Dd {T : List (LB × LB)} {tag : Nat} {i : Int} (h : JG T tag i) : nR T (tag, i) := h
theorem unISm1 (T : List (LB × LB)) (tag : Nat) (i : Int) (h : nR T (tag, i)) : JG T tag i := h
def xq (T : List (LB × LB)) (st : Nat × Int) : Nat := (T.length - (st.2).toNat)
abbrev BU (T : List (LB × LB)) (E' : Cx) (ex' : Ex) (epx' : LA) (hpx' : LE) (st : Nat × Int) (X : Nat → Value) : Prop := a6 E' Ik oM 26 ex' 4 644 644 644 tg HF epx' hpx' (nR T) (xq T) (DSm1 T) st X
noncomputable abbrev Bt (T : List (LB × LB)) (i : Int) (X : Nat → Value) : Cx := cx (af (wV T i) (rX (aX5 T i) X)) (ah (aQ (l := wV T i) rfl)) 1 aC aG
noncomputable abbrev BQ (h : LK) (x : Ex) (th : LA) (sg : List (Nat × Nat)) (m : Nat) (ep : LA) (hp : LE) : Bool := bn (code (aV h) 900 [] Ik (bc (bf IC oM) 26) ⟨ay HE .leaf, 644, 0, 0⟩) x oM 26 644 th sg 644 m ep hp
theorem stSm1_0 {T : List (LB × LB)} {i : Int} {X : Nat → Value} {h : LK} (y : Nat × Int) {th : LA} {sg : List (Nat × Nat)} (ho : ∀ a' r', (a', r') ∈ h → aL (Bt T i X) a' r') (hy : nR T y) (lt : xq T y < xq T (0, i)) (ht : aw (Bt T i X) (DSm1 T y X) th) (run : BQ h .normal th sg 644 (tg y) (HF y) = true) : BU T E' x' e' h' (0, i) X :=
  a6.next (tb := aV h) (L := []) (f := 900) y ((ae _ _).hyps ho) (bA.nil _) rfl hy lt ht run
theorem lvSm1_0 {T : List (LB × LB)} {i : Int} {X : Nat → Value} {h : LK} {th : LA} {sg : List (Nat × Nat)} (hne : cI x' .normal = false) (ho : ∀ a' r', (a', r') ∈ h → aL (Bt T i X) a' r') (ht : aw (Bt T i X) E' th) (run : BQ h x' th sg 644 e' h' = true) : BU T E' x' e' h' (0, i) X :=
  a6.leave (tb := aV h) (L := []) (f := 900) ((ae _ _).hyps ho) (bA.nil _) rfl hne ht run
def E4 : LK := [(.rl (.x 2000000) 2, .x 1), (.bin .lss (.x 0) (.x 1), .b true), (.el (.x 2000000) (.x 0) 2 0, .x 2), (.el (.x 2000000) (.x 0) 2 1, .x 3), (.el (.x 2000001) (.x 0) 2 0, .x 4), (.el (.x 2000001) (.x 0) 2 1, .x 5), (.eq 9 (.x 2) (.x 4), .b true), (.eq 9 (.x 3) (.x 5), .b true), (.bin .add (.x 0) (I6 1), .x 6)]
theorem runSm1_p0 : BQ E4 .normal [(0, .x 6), (2000000, .x 2000000), (2000001, .x 2000001)] [] 644 IC HE = true := by kernel_rfl
def E3 : LK := [(.rl (.x 2000000) 2, .x 7), (.bin .lss (.x 0) (.x 7), .b false)]
theorem runSm1_p1 : BQ E3 (.exit 0) [(2000000, .x 2000000), (2000001, .x 2000001)] [] 644 [] [(304, .r 2000000 23 2 false), (604, .r 2000001 23 2 false)] = true := by kernel_rfl
section
variable {T : List (LB × LB)} {i : Int} {X : Nat → Value}
theorem nxSm1_p0 (hI : nR T (0, i)) (h0 : i < (T.length : Int)) : BU T E' x' e' h' (0, i) X := by
  obtain ⟨i0, i1, i2, i3, it⟩ := unISm1 T 0 i hI
  have := dI (l := T) (by assumption) i.toNat
  refine stSm1_0 (h := E4) (0, (i + 1)) ?_ (Dd ⟨by omega, by omega, by omega, i3, by omega⟩) (by show T.length - (i + 1).toNat < T.length - i.toNat; omega) (bT (b := ((i + 1))) rfl rfl (by omega) (aB (v := aM aK T) rfl rfl (aB (v := aM aK T) rfl rfl (aI)))) runSm1_p0
  unfold E4
  exact hc (bu a7 (aA rfl) (aE rfl) (by first | omega | (simp <;> omega))) <|hc (ba rfl rfl (by omega)) <|hc (bw (j := i.toNat) (d := ([], [])) a7 (by decide) (aA rfl) (aA rfl) (aE rfl) (by omega) (by omega) rfl) <|hc (bw (j := i.toNat) (d := ([], [])) a7 (by decide) (aA rfl) (aA rfl) (aE rfl) (by omega) (by omega) rfl) <|hc (bw (j := i.toNat) (d := ([], [])) a7 (by decide) (aA rfl) (aA rfl) (aE rfl) (by omega) (by omega) rfl) <|hc (bw (j := i.toNat) (d := ([], [])) a7 (by decide) (aA rfl) (aA rfl) (aE rfl) (by omega) (by omega) rfl) <|hc (ij (aA rfl) (aA rfl) iM (decide_eq_true rfl)) <|hc (ij (aA rfl) (aA rfl) iM (decide_eq_true rfl)) <|hc (bO rfl rfl (by omega)) <|hnil
end
def aS0 (T : List (LB × LB)) : List Value := []
def roESm1_0 (T : List (LB × LB)) : List Value := [aM aK T, aM aK T]
noncomputable def ESm1_0 (T : List (LB × LB)) : Cx := cx (af (aS0 T) (rX (roESm1_0 T) (fun _ => .bool true))) (ah (aQ (l := aS0 T) rfl)) 1 aC aG
theorem roundsSm1_0 (T : List (LB × LB)) (st : Nat × Int) (X : Nat → Value) (hI : nR T st) : BU T (ESm1_0 T) (.exit 0) [] [(304, .r 2000000 23 2 false), (604, .r 2000001 23 2 false)] st X := by
  obtain ⟨tag, i⟩ := st
  have hI0 := hI
  obtain ⟨i0, i1, i2, i3, it⟩ := unISm1 T tag i hI
  obtain rfl : tag = 0 := by omega
  skip
  by_cases h0 : i < (T.length : Int)
  · exact nxSm1_p0 hI0 h0
  · skip
    refine lvSm1_0 (h := E3) rfl ?_ (aB (v := aM aK T) rfl rfl (aB (v := aM aK T) rfl rfl (aI))) runSm1_p1
    unfold E3
    exact hc (bu a7 (aA rfl) (aE rfl) (by first | omega | (simp <;> omega))) <|hc (dB rfl rfl (by omega)) <|hnil
theorem aL3 (T : List (LB × LB)) : ax (cx nu one 1 aC aG) (ESm1_0 T) Ik oM 26 (.exit 0) 4 644 644 644 tg HF [] [(304, .r 2000000 23 2 false), (604, .r 2000001 23 2 false)] (nR T) (DSm1 T) :=
  cF (xq T) (fun _ _ => rfl) (fun _ _ => rfl) (fun _ _ => rfl) (fun st X t ht => cE.trans (cD ((by decide : ∀ t, t ∈ oM → t < 1000000) t ht))) rfl rfl rfl ebSm1 rfl rfl (roundsSm1_0 T)
noncomputable def A4 : Code := cS (Tryd.f7.body.getD .skip) 0
theorem EM : cU (br (Tryd.f7.body.getD .skip)) 3 0 0 = true := by kernel_rfl
def ky : List Nat := []
def bF9 : LA := [(3, .p 1104 0), (6, .sr 4), (7, .x 0), (8, .x 1)]
def bF2 : LE := [(4, .r 2000000 23 2 true), (1104, bk 51 [.bX, .aq])]
def xF (z : List (LB × LB)) (i : Int) (T : LB) : List Value := [.int .i64 ((z.length : Int)), .int .i64 (i), St' ([] : LB), St' ((aJ z i.toNat).1), St' ((aJ z i.toNat).2), St' ((aJ z i.toNat).1 ++ [u8 58, u8 32]), St' ((aJ z i.toNat).1 ++ ([u8 58, u8 32] ++ (aJ z i.toNat).2)), St' ((aJ z i.toNat).1 ++ ([u8 58, u8 32] ++ ((aJ z i.toNat).2 ++ [u8 13, u8 10]))), .int .u8 (bt ((aJ z i.toNat).1 ++ ([u8 58, u8 32] ++ ((aJ z i.toNat).2 ++ [u8 13, u8 10]))) 0), .int .i64 (((aJ z i.toNat).1.length : Int) + ((aJ z i.toNat).2.length : Int) + 4), .int .i64 (i + 1)]
def aX9 (z : List (LB × LB)) (i : Int) (T : LB) : List Value := [aM aK z, aO ([] : List LB)]
def An : LA := [(3, .p 1104 0), (6, .sr 4), (7, .x 0), (8, .x 1)]
def zm : LE := [(4, .r 2000000 23 2 true), (1104, bk 51 [.p 1104 0, .sy 1105]), (1105, .t 2 5)]
def xE (z : List (LB × LB)) (i : Int) (T : LB) : List Value := [.int .i64 ((z.length : Int)), .int .i64 (i), St' T, St' ([] : LB), St' ((aJ z i.toNat).1), St' ((aJ z i.toNat).2), St' ((aJ z i.toNat).1 ++ [u8 58, u8 32]), St' ((aJ z i.toNat).1 ++ ([u8 58, u8 32] ++ (aJ z i.toNat).2)), St' ((aJ z i.toNat).1 ++ ([u8 58, u8 32] ++ ((aJ z i.toNat).2 ++ [u8 13, u8 10]))), St' (T ++ ((aJ z i.toNat).1 ++ ([u8 58, u8 32] ++ ((aJ z i.toNat).2 ++ [u8 13, u8 10])))), .int .i64 (((aJ z i.toNat).1.length : Int) + ((aJ z i.toNat).2.length : Int) + 4), .int .i64 (i + 1), St' ([] : LB)]
def aX8 (z : List (LB × LB)) (i : Int) (T : LB) : List Value := [aM aK z, aO ([] : List LB), aO ([] : List LB)]
def pR (st : Nat × Int × LB) : LA := if st.1 = 0 then bF9 else An
def zn (st : Nat × Int × LB) : LE := if st.1 = 0 then bF2 else zm
def DM (z : List (LB × LB)) (st : Nat × Int × LB) : List Value := if st.1 = 0 then xF z (st.2.1) (st.2.2) else xE z (st.2.1) (st.2.2)
def roLn4 (z : List (LB × LB)) (st : Nat × Int × LB) : List Value := if st.1 = 0 then aX9 z (st.2.1) (st.2.2) else aX8 z (st.2.1) (st.2.2)
theorem onLn4 (z : List (LB × LB)) (st : Nat × Int × LB) : ∀ j, (ai (DM z st) j).oneCell' = true := by
  intro j
  unfold DM
  by_cases g0 : st.1 = 0
  · rw [if_pos g0]; exact aQ (l := xF z (st.2.1) (st.2.2)) rfl j
  rw [if_neg g0]
  exact aQ (l := xE z (st.2.1) (st.2.2)) rfl j
theorem ebLn4 (st : Nat × Int × LB) : (cG (pR st) && cO ky) = true := by
  unfold pR
  by_cases g0 : st.1 = 0
  · rw [if_pos g0]; rfl
  rw [if_neg g0]
  rfl
noncomputable def Bj (z : List (LB × LB)) (st : Nat × Int × LB) (X : Nat → Value) : Cx := cx (af (DM z st) (rX (roLn4 z st) X)) (ah (onLn4 z st)) 1 aC aG
abbrev JR (z : List (LB × LB)) (tag : Nat) (i : Int) (T : LB) : Prop := (0 ≤ i) ∧ (i ≤ (z.length : Int)) ∧ (z.length ≤ 40) ∧ (∀ q, q ∈ z → dH q) ∧ (dS z = true) ∧ (T = cC (z.take i.toNat)) ∧ ((T.length : Int) ≤ 1004 * i) ∧ (tag = 0 → i = 0) ∧ (1 ≤ z.length) ∧ (tag < 2)
def kK (z : List (LB × LB)) (st : Nat × Int × LB) : Prop := JR z st.1 (st.2.1) (st.2.2)
theorem rp {z : List (LB × LB)} {tag : Nat} {i : Int} {T : LB} (h : JR z tag i T) : kK z (tag, i, T) := h
theorem CZ (z : List (LB × LB)) (tag : Nat) (i : Int) (T : LB) (h : kK z (tag, i, T)) : JR z tag i T := h
def oC (z : List (LB × LB)) (st : Nat × Int × LB) : Nat := (z.length - (st.2.1).toNat)
abbrev qI (z : List (LB × LB)) (E' : Cx) (ex' : Ex) (epx' : LA) (hpx' : LE) (st : Nat × Int × LB) (X : Nat → Value) : Prop := a6 E' A4 ky 22 ex' 4 1104 1106 1144 pR zn epx' hpx' (kK z) (oC z) (Bj z) st X
noncomputable abbrev bH8 (z : List (LB × LB)) (i : Int) (T : LB) (X : Nat → Value) : Cx := cx (af (xF z i T) (rX (aX9 z i T) X)) (ah (aQ (l := xF z i T) rfl)) 1 aC aG
noncomputable abbrev bG9 (h : LK) (x : Ex) (th : LA) (sg : List (Nat × Nat)) (m : Nat) (ep : LA) (hp : LE) : Bool := bn (code (aV h) 3000 [] A4 (bc (bf bF9 ky) 22) ⟨ay bF2 .leaf, 1106, 0, 0⟩) x ky 22 1144 th sg 1104 m ep hp
theorem stLn4_0 {z : List (LB × LB)} {i : Int} {T : LB} {X : Nat → Value} {h : LK} (y : Nat × Int × LB) {th : LA} {sg : List (Nat × Nat)} (ho : ∀ a' r', (a', r') ∈ h → aL (bH8 z i T X) a' r') (hy : kK z y) (lt : oC z y < oC z (0, i, T)) (ht : aw (bH8 z i T X) (Bj z y X) th) (run : bG9 h .normal th sg 1106 (pR y) (zn y) = true) : qI z E' x' e' h' (0, i, T) X :=
  a6.next (tb := aV h) (L := []) (f := 3000) y ((ae _ _).hyps ho) (bA.nil _) rfl hy lt ht run
noncomputable abbrev B8 (z : List (LB × LB)) (i : Int) (T : LB) (X : Nat → Value) : Cx := cx (af (xE z i T) (rX (aX8 z i T) X)) (ah (aQ (l := xE z i T) rfl)) 1 aC aG
noncomputable abbrev BT (h : LK) (x : Ex) (th : LA) (sg : List (Nat × Nat)) (m : Nat) (ep : LA) (hp : LE) : Bool := bn (code (aV h) 3000 [] A4 (bc (bf An ky) 22) ⟨ay zm .leaf, 1106, 0, 0⟩) x ky 22 1144 th sg 1104 m ep hp
theorem stLn4_1 {z : List (LB × LB)} {i : Int} {T : LB} {X : Nat → Value} {h : LK} (y : Nat × Int × LB) {th : LA} {sg : List (Nat × Nat)} (ho : ∀ a' r', (a', r') ∈ h → aL (B8 z i T X) a' r') (hy : kK z y) (lt : oC z y < oC z (1, i, T)) (ht : aw (B8 z i T X) (Bj z y X) th) (run : BT h .normal th sg 1106 (pR y) (zn y) = true) : qI z E' x' e' h' (1, i, T) X :=
  a6.next (tb := aV h) (L := []) (f := 3000) y ((ae _ _).hyps ho) (bA.nil _) rfl hy lt ht run
theorem lvLn4_1 {z : List (LB × LB)} {i : Int} {T : LB} {X : Nat → Value} {h : LK} {th : LA} {sg : List (Nat × Nat)} (hne : cI x' .normal = false) (ho : ∀ a' r', (a', r') ∈ h → aL (B8 z i T X) a' r') (ht : aw (B8 z i T X) E' th) (run : BT h x' th sg 1144 e' h' = true) : qI z E' x' e' h' (1, i, T) X :=
  a6.leave (tb := aV h) (L := []) (f := 3000) ((ae _ _).hyps ho) (bA.nil _) rfl hne ht run
def GG : LK := [(.bin .lss (.x 1) (.x 0), .b true), (.el (.x 2000000) (.x 1) 2 0, .x 3), (.el (.x 2000000) (.x 1) 2 1, .x 4), (.bin .add (.x 3) (.s 2 8250), .x 5), (.bin .add (.x 5) (.x 4), .x 6), (.bin .add (.x 6) (.s 2 2573), .x 7), (.di (.x 7) (I6 0), .x 8), (.fit (.x 7), .b true), (.len (.x 7), .x 9), (.bin .add (.x 1) (I6 1), .x 10)]
theorem runLn4_p0 : bG9 GG .normal [(0, .x 0), (1, .x 10), (2, .x 7), (2000000, .x 2000000)] [(1104, 1104), (1105, 1107)] 1106 An zm = true := by kernel_rfl
def GF : LK := [(.bin .lss (.x 1) (.x 0), .b true), (.el (.x 2000000) (.x 1) 2 0, .x 4), (.el (.x 2000000) (.x 1) 2 1, .x 5), (.bin .add (.x 4) (.s 2 8250), .x 6), (.bin .add (.x 6) (.x 5), .x 7), (.bin .add (.x 7) (.s 2 2573), .x 8), (.bin .add (.x 2) (.x 8), .x 9), (.fit (.x 9), .b true), (.len (.x 8), .x 10), (.bin .add (.x 1) (I6 1), .x 11)]
theorem runLn4_p1 : BT GF .normal [(0, .x 0), (1, .x 11), (2, .x 9), (2000000, .x 2000000)] [(1104, 1104), (1105, 1107)] 1106 An zm = true := by kernel_rfl
def GD : LK := [(.bin .lss (.x 1) (.x 0), .b false)]
theorem runLn4_p2 : BT GD (.exit 0) [(0, .x 2), (2000000, .x 2000000)] [(1104, 1104), (1105, 1105)] 1144 [(3, .p 1104 0)] [(4, .r 2000000 23 2 true), (1104, bk 51 [.p 1104 0, .sy 1105]), (1105, .t 0 5)] = true := by kernel_rfl
section
variable {z : List (LB × LB)} {i : Int} {T : LB} {X : Nat → Value}
theorem nxLn4_p0 (hI : kK z (0, i, T)) : qI z E' x' e' h' (0, i, T) X := by
  obtain ⟨i0, i1, i2, i3, i4, i5, i6, i7, i8, it⟩ := CZ z 0 i T hI
  have h6 := rA i4 i0 (by omega)
  have := dI (l := z) (by assumption) i.toNat
  have := bF ((aJ z i.toNat).1 ++ ([u8 58, u8 32] ++ ((aJ z i.toNat).2 ++ [u8 13, u8 10]))) 0; have := bG ((aJ z i.toNat).1 ++ ([u8 58, u8 32] ++ ((aJ z i.toNat).2 ++ [u8 13, u8 10]))) 0
  have hsn := Dy (z := z) (T := ([] : LB)) i0 (by omega) (by rw [i7 rfl]; rfl)
  have hpl := yS (aJ z i.toNat); have hb2 : ([u8 58, u8 32] : LB).length = 2 := rfl; have hb3 : ([u8 13, u8 10] : LB).length = 2 := rfl
  have hsa : (([] : LB) ++ gJ (aJ z i.toNat)).length = ([] : LB).length + (gJ (aJ z i.toNat)).length := List.length_append
  refine stLn4_0 (h := GG) (1, (i + 1), ((aJ z i.toNat).1 ++ ([u8 58, u8 32] ++ ((aJ z i.toNat).2 ++ [u8 13, u8 10])))) ?_ (rp ⟨by omega, by omega, i2, i3, i4, hsn, by show (((gJ (aJ z i.toNat)).length : Nat) : Int) ≤ _; omega, fun h => by omega, i8, by omega⟩) (by show z.length - (i + 1).toNat < z.length - i.toNat; omega) (aB (v := .int .i64 ((z.length : Int))) rfl rfl (bT (b := ((i + 1))) rfl rfl (by omega) (aB (v := St' ((aJ z i.toNat).1 ++ ([u8 58, u8 32] ++ ((aJ z i.toNat).2 ++ [u8 13, u8 10])))) rfl rfl (aB (v := aM aK z) rfl rfl (aI))))) runLn4_p0
  unfold GG
  exact hc (ba rfl rfl (by omega)) <|hc (bw (j := i.toNat) (d := ([], [])) a7 (by decide) (aA rfl) (aA rfl) (aE rfl) (by omega) (by omega) rfl) <|hc (bw (j := i.toNat) (d := ([], [])) a7 (by decide) (aA rfl) (aA rfl) (aE rfl) (by omega) (by omega) rfl) <|hc (hR (aA rfl) (bQ (l := [u8 58, u8 32]) 2 8250 rfl) (aE rfl) (by first | rfl | (simp; done)) (by first | omega | (simp <;> omega))) <|hc (hR (aA rfl) (aA rfl) (aE rfl) (by first | rfl | (simp; done)) (by first | omega | (simp <;> omega))) <|hc (hR (aA rfl) (bQ (l := [u8 13, u8 10]) 2 2573 rfl) (aE rfl) (by first | rfl | (simp; done)) (by first | omega | (simp <;> omega))) <|hc (ik (i := 0) (aA rfl) (dr (m := 0) rfl) (aE rfl) rfl (by first | omega | (simp <;> omega)) rfl) <|hc (mc (aA rfl) (by first | omega | (simp <;> omega))) <|hc (au rfl rfl (by first | omega | (simp <;> omega))) <|hc (bO rfl rfl (by omega)) <|hnil
theorem nxLn4_p1 (hI : kK z (1, i, T)) (h0 : i < (z.length : Int)) : qI z E' x' e' h' (1, i, T) X := by
  obtain ⟨i0, i1, i2, i3, i4, i5, i6, i7, i8, it⟩ := CZ z 1 i T hI
  have h6 := rA i4 i0 (by omega)
  have := dI (l := z) (by assumption) i.toNat
  have hsn := Dy (z := z) (T := T) i0 (by omega) i5
  have hpl := yS (aJ z i.toNat); have hb2 : ([u8 58, u8 32] : LB).length = 2 := rfl; have hb3 : ([u8 13, u8 10] : LB).length = 2 := rfl
  have hsa : (T ++ gJ (aJ z i.toNat)).length = T.length + (gJ (aJ z i.toNat)).length := List.length_append
  refine stLn4_1 (h := GF) (1, (i + 1), (T ++ ((aJ z i.toNat).1 ++ ([u8 58, u8 32] ++ ((aJ z i.toNat).2 ++ [u8 13, u8 10]))))) ?_ (rp ⟨by omega, by omega, i2, i3, i4, hsn, by first | omega | (simp only [List.length_append, List.length_nil] at *; omega), fun h => by omega, i8, by omega⟩) (by show z.length - (i + 1).toNat < z.length - i.toNat; omega) (aB (v := .int .i64 ((z.length : Int))) rfl rfl (bT (b := ((i + 1))) rfl rfl (by omega) (aB (v := St' (T ++ ((aJ z i.toNat).1 ++ ([u8 58, u8 32] ++ ((aJ z i.toNat).2 ++ [u8 13, u8 10]))))) rfl rfl (aB (v := aM aK z) rfl rfl (aI))))) runLn4_p1
  unfold GF
  exact hc (ba rfl rfl (by omega)) <|hc (bw (j := i.toNat) (d := ([], [])) a7 (by decide) (aA rfl) (aA rfl) (aE rfl) (by omega) (by omega) rfl) <|hc (bw (j := i.toNat) (d := ([], [])) a7 (by decide) (aA rfl) (aA rfl) (aE rfl) (by omega) (by omega) rfl) <|hc (hR (aA rfl) (bQ (l := [u8 58, u8 32]) 2 8250 rfl) (aE rfl) (by first | rfl | (simp; done)) (by first | omega | (simp <;> omega))) <|hc (hR (aA rfl) (aA rfl) (aE rfl) (by first | rfl | (simp; done)) (by first | omega | (simp <;> omega))) <|hc (hR (aA rfl) (bQ (l := [u8 13, u8 10]) 2 2573 rfl) (aE rfl) (by first | rfl | (simp; done)) (by first | omega | (simp <;> omega))) <|hc (hR (aA rfl) (aA rfl) (aE rfl) (by first | rfl | (simp; done)) (by first | omega | (simp <;> omega))) <|hc (mc (aA rfl) (by first | omega | (simp <;> omega))) <|hc (au rfl rfl (by first | omega | (simp <;> omega))) <|hc (bO rfl rfl (by omega)) <|hnil
end
def aS7 (z : List (LB × LB)) : List Value := [St' (cC z)]
def roELn4_0 (z : List (LB × LB)) : List Value := [aM aK z]
noncomputable def ELn4_0 (z : List (LB × LB)) : Cx := cx (af (aS7 z) (rX (roELn4_0 z) (fun _ => .bool true))) (ah (aQ (l := aS7 z) rfl)) 1 aC aG
theorem roundsLn4_0 (z : List (LB × LB)) (st : Nat × Int × LB) (X : Nat → Value) (hI : kK z st) : qI z (ELn4_0 z) (.exit 0) [(3, .p 1104 0)] [(4, .r 2000000 23 2 true), (1104, bk 51 [.p 1104 0, .sy 1105]), (1105, .t 0 5)] st X := by
  obtain ⟨tag, i, T⟩ := st
  have hI0 := hI
  obtain ⟨i0, i1, i2, i3, i4, i5, i6, i7, i8, it⟩ := CZ z tag i T hI
  rcases (show tag = 0 ∨ tag = 1 from by omega) with rfl | rfl
  · skip
    exact nxLn4_p0 hI0
  · skip
    by_cases h0 : i < (z.length : Int)
    · exact nxLn4_p1 hI0 h0
    · skip
      refine lvLn4_1 (h := GD) rfl ?_ (dK (v := St' T) (u := St' (cC z)) rfl rfl (congrArg (fun l => St' l) (bE8 (by omega) i5)) (aB (v := aM aK z) rfl rfl (aI))) runLn4_p2
      unfold GD
      exact hc (dB rfl rfl (by omega)) <|hnil
theorem EF (z : List (LB × LB)) : ax (cx nu one 1 aC aG) (ELn4_0 z) A4 ky 22 (.exit 0) 4 1104 1106 1144 pR zn [(3, .p 1104 0)] [(4, .r 2000000 23 2 true), (1104, bk 51 [.p 1104 0, .sy 1105]), (1105, .t 0 5)] (kK z) (Bj z) :=
  cF (oC z) (fun _ _ => rfl) (fun _ _ => rfl) (fun _ _ => rfl) (fun st X t ht => cE.trans (cD ((by decide : ∀ t, t ∈ ky → t < 1000000) t ht))) rfl rfl rfl ebLn4 rfl rfl (roundsLn4_0 z)
noncomputable def Io : Code := cS (Tryd.f20.body.getD .skip) 0
theorem EL : cU (br (Tryd.f20.body.getD .skip)) 3 0 0 = true := by kernel_rfl
def oP : List Nat := []
def IE : LA := [(0, .sr 4), (3, .x 1), (4, .x 0)]
def HJ : LE := [(4, .r 2000000 23 2 true)]
def wY (z : List (LB × LB)) (i : Int) (T : LB) : List Value := [.int .i64 (i), St' T, St' ([] : LB), .int .i64 ((z.length : Int)), St' ((aJ z i.toNat).1), St' (T ++ (aJ z i.toNat).1), St' (T ++ ((aJ z i.toNat).1 ++ [u8 58, u8 32])), St' ((aJ z i.toNat).2), St' (T ++ ((aJ z i.toNat).1 ++ ([u8 58, u8 32] ++ (aJ z i.toNat).2))), St' (T ++ ((aJ z i.toNat).1 ++ ([u8 58, u8 32] ++ ((aJ z i.toNat).2 ++ [u8 13, u8 10])))), .int .i64 (i + 1), St' ([] : LB), .int .i64 ((z.length : Int))]
def aX7 (z : List (LB × LB)) (i : Int) (T : LB) : List Value := [aM aK z, aO ([] : List LB), aO ([] : List LB)]
def tq (st : Nat × Int × LB) : LA := IE
def HL (st : Nat × Int × LB) : LE := HJ
def DE (z : List (LB × LB)) (st : Nat × Int × LB) : List Value := wY z (st.2.1) (st.2.2)
def roRn4 (z : List (LB × LB)) (st : Nat × Int × LB) : List Value := aX7 z (st.2.1) (st.2.2)
theorem onRn4 (z : List (LB × LB)) (st : Nat × Int × LB) : ∀ j, (ai (DE z st) j).oneCell' = true := by
  intro j
  unfold DE
  exact aQ (l := wY z (st.2.1) (st.2.2)) rfl j
theorem ebRn4 (st : Nat × Int × LB) : (cG (tq st) && cO oP) = true := by
  unfold tq
  rfl
noncomputable def DRn4 (z : List (LB × LB)) (st : Nat × Int × LB) (X : Nat → Value) : Cx := cx (af (DE z st) (rX (roRn4 z st) X)) (ah (onRn4 z st)) 1 aC aG
abbrev JJ (z : List (LB × LB)) (tag : Nat) (i : Int) (T : LB) : Prop := (0 ≤ i) ∧ (i ≤ (z.length : Int)) ∧ (z.length ≤ 40) ∧ (∀ q, q ∈ z → dH q) ∧ (dS z = true) ∧ (T = cC (z.take i.toNat)) ∧ ((T.length : Int) ≤ 1004 * i) ∧ (tag < 1)
def nT (z : List (LB × LB)) (st : Nat × Int × LB) : Prop := JJ z st.1 (st.2.1) (st.2.2)
theorem yB {z : List (LB × LB)} {tag : Nat} {i : Int} {T : LB} (h : JJ z tag i T) : nT z (tag, i, T) := h
theorem unIRn4 (z : List (LB × LB)) (tag : Nat) (i : Int) (T : LB) (h : nT z (tag, i, T)) : JJ z tag i T := h
def xw (z : List (LB × LB)) (st : Nat × Int × LB) : Nat := (z.length - (st.2.1).toNat)
abbrev BW (z : List (LB × LB)) (E' : Cx) (ex' : Ex) (epx' : LA) (hpx' : LE) (st : Nat × Int × LB) (X : Nat → Value) : Prop := a6 E' Io oP 27 ex' 4 1204 1204 1244 tq HL epx' hpx' (nT z) (xw z) (DRn4 z) st X
noncomputable abbrev Bw (z : List (LB × LB)) (i : Int) (T : LB) (X : Nat → Value) : Cx := cx (af (wY z i T) (rX (aX7 z i T) X)) (ah (aQ (l := wY z i T) rfl)) 1 aC aG
noncomputable abbrev BS (h : LK) (x : Ex) (th : LA) (sg : List (Nat × Nat)) (m : Nat) (ep : LA) (hp : LE) : Bool := bn (code (aV h) 3000 [] Io (bc (bf IE oP) 27) ⟨ay HJ .leaf, 1204, 0, 0⟩) x oP 27 1244 th sg 1204 m ep hp
theorem stRn4_0 {z : List (LB × LB)} {i : Int} {T : LB} {X : Nat → Value} {h : LK} (y : Nat × Int × LB) {th : LA} {sg : List (Nat × Nat)} (ho : ∀ a' r', (a', r') ∈ h → aL (Bw z i T X) a' r') (hy : nT z y) (lt : xw z y < xw z (0, i, T)) (ht : aw (Bw z i T X) (DRn4 z y X) th) (run : BS h .normal th sg 1204 (tq y) (HL y) = true) : BW z E' x' e' h' (0, i, T) X :=
  a6.next (tb := aV h) (L := []) (f := 3000) y ((ae _ _).hyps ho) (bA.nil _) rfl hy lt ht run
theorem lvRn4_0 {z : List (LB × LB)} {i : Int} {T : LB} {X : Nat → Value} {h : LK} {th : LA} {sg : List (Nat × Nat)} (hne : cI x' .normal = false) (ho : ∀ a' r', (a', r') ∈ h → aL (Bw z i T X) a' r') (ht : aw (Bw z i T X) E' th) (run : BS h x' th sg 1244 e' h' = true) : BW z E' x' e' h' (0, i, T) X :=
  a6.leave (tb := aV h) (L := []) (f := 3000) ((ae _ _).hyps ho) (bA.nil _) rfl hne ht run
def FD : LK := [(.rl (.x 2000000) 2, .x 3), (.bin .lss (.x 0) (.x 3), .b true), (.el (.x 2000000) (.x 0) 2 0, .x 4), (.bin .add (.x 1) (.x 4), .x 5), (.bin .add (.x 5) (.s 2 8250), .x 6), (.el (.x 2000000) (.x 0) 2 1, .x 7), (.bin .add (.x 6) (.x 7), .x 8), (.bin .add (.x 8) (.s 2 2573), .x 9), (.bin .add (.x 0) (I6 1), .x 10)]
theorem runRn4_p0 : BS FD .normal [(0, .x 10), (1, .x 9), (2000000, .x 2000000)] [] 1204 IE HJ = true := by kernel_rfl
def FC : LK := [(.rl (.x 2000000) 2, .x 12), (.bin .lss (.x 0) (.x 12), .b false)]
theorem runRn4_p1 : BS FC (.exit 0) [(0, .x 1), (2000000, .x 2000000)] [] 1244 [(3, .x 0)] [(4, .r 2000000 23 2 true)] = true := by kernel_rfl
section
variable {z : List (LB × LB)} {i : Int} {T : LB} {X : Nat → Value}
theorem nxRn4_p0 (hI : nT z (0, i, T)) (h0 : i < (z.length : Int)) : BW z E' x' e' h' (0, i, T) X := by
  obtain ⟨i0, i1, i2, i3, i4, i5, i6, it⟩ := unIRn4 z 0 i T hI
  have h6 := rA i4 i0 (by omega)
  have := dI (l := z) (by assumption) i.toNat
  have hsn := Dy (z := z) (T := T) i0 (by omega) i5
  have hpl := yS (aJ z i.toNat); have hb2 : ([u8 58, u8 32] : LB).length = 2 := rfl; have hb3 : ([u8 13, u8 10] : LB).length = 2 := rfl
  have hsa : (T ++ gJ (aJ z i.toNat)).length = T.length + (gJ (aJ z i.toNat)).length := List.length_append
  refine stRn4_0 (h := FD) (0, (i + 1), (T ++ ((aJ z i.toNat).1 ++ ([u8 58, u8 32] ++ ((aJ z i.toNat).2 ++ [u8 13, u8 10]))))) ?_ (yB ⟨by omega, by omega, i2, i3, i4, hsn, by first | omega | (simp only [List.length_append, List.length_nil] at *; omega), by omega⟩) (by show z.length - (i + 1).toNat < z.length - i.toNat; omega) (bT (b := ((i + 1))) rfl rfl (by omega) (aB (v := St' (T ++ ((aJ z i.toNat).1 ++ ([u8 58, u8 32] ++ ((aJ z i.toNat).2 ++ [u8 13, u8 10]))))) rfl rfl (aB (v := aM aK z) rfl rfl (aI)))) runRn4_p0
  unfold FD
  exact hc (bu a7 (aA rfl) (aE rfl) (by first | omega | (simp <;> omega))) <|hc (ba rfl rfl (by omega)) <|hc (bw (j := i.toNat) (d := ([], [])) a7 (by decide) (aA rfl) (aA rfl) (aE rfl) (by omega) (by omega) rfl) <|hc (hR (aA rfl) (aA rfl) (aE rfl) (by first | rfl | (simp; done)) (by omega)) <|hc (hR (aA rfl) (bQ (l := [u8 58, u8 32]) 2 8250 rfl) (aE rfl) (by first | rfl | (simp; done)) (by first | omega | (simp <;> omega))) <|hc (bw (j := i.toNat) (d := ([], [])) a7 (by decide) (aA rfl) (aA rfl) (aE rfl) (by omega) (by omega) rfl) <|hc (hR (aA rfl) (aA rfl) (aE rfl) (by first | rfl | (simp; done)) (by first | omega | (simp <;> omega))) <|hc (hR (aA rfl) (bQ (l := [u8 13, u8 10]) 2 2573 rfl) (aE rfl) (by first | rfl | (simp; done)) (by first | omega | (simp <;> omega))) <|hc (bO rfl rfl (by omega)) <|hnil
end
def aS2 (z : List (LB × LB)) : List Value := [St' (cC z)]
def roERn4_0 (z : List (LB × LB)) : List Value := [aM aK z]
noncomputable def ERn4_0 (z : List (LB × LB)) : Cx := cx (af (aS2 z) (rX (roERn4_0 z) (fun _ => .bool true))) (ah (aQ (l := aS2 z) rfl)) 1 aC aG
theorem roundsRn4_0 (z : List (LB × LB)) (st : Nat × Int × LB) (X : Nat → Value) (hI : nT z st) : BW z (ERn4_0 z) (.exit 0) [(3, .x 0)] [(4, .r 2000000 23 2 true)] st X := by
  obtain ⟨tag, i, T⟩ := st
  have hI0 := hI
  obtain ⟨i0, i1, i2, i3, i4, i5, i6, it⟩ := unIRn4 z tag i T hI
  obtain rfl : tag = 0 := by omega
  skip
  by_cases h0 : i < (z.length : Int)
  · exact nxRn4_p0 hI0 h0
  · skip
    refine lvRn4_0 (h := FC) rfl ?_ (dK (v := St' T) (u := St' (cC z)) rfl rfl (congrArg (fun l => St' l) (bE8 (by omega) i5)) (aB (v := aM aK z) rfl rfl (aI))) runRn4_p1
    unfold FC
    exact hc (bu a7 (aA rfl) (aE rfl) (by first | omega | (simp <;> omega))) <|hc (dB rfl rfl (by omega)) <|hnil
theorem ED (z : List (LB × LB)) : ax (cx nu one 1 aC aG) (ERn4_0 z) Io oP 27 (.exit 0) 4 1204 1204 1244 tq HL [(3, .x 0)] [(4, .r 2000000 23 2 true)] (nT z) (DRn4 z) :=
  cF (xw z) (fun _ _ => rfl) (fun _ _ => rfl) (fun _ _ => rfl) (fun st X t ht => cE.trans (cD ((by decide : ∀ t, t ∈ oP → t < 1000000) t ht))) rfl rfl rfl ebRn4 rfl rfl (roundsRn4_0 z)
noncomputable def fi4 : FI := (bB.fn.get 4).getD default
theorem AQ : bB.fn.get 4 = some fi4 := by kernel_rfl
theorem tS : fi4.body = some (Tryd.f4.body.getD .skip) := by kernel_rfl
theorem AL : fi4.body.isSome = true := by rw [tS]; rfl
noncomputable def Ab : FI := (bB.fn.get 14).getD default
theorem bF7 : bB.fn.get 14 = some Ab := by kernel_rfl
theorem aM4 : Ab.body = some (Tryd.f14.body.getD .skip) := by kernel_rfl
noncomputable def fi9 : FI := (bB.fn.get 9).getD default
theorem Hv : bB.fn.get 9 = some fi9 := by kernel_rfl
theorem Hu : fi9.body = some (Tryd.f9.body.getD .skip) := by kernel_rfl
noncomputable def tX : FI := (bB.fn.get 19).getD default
theorem H7 : bB.fn.get 19 = some tX := by kernel_rfl
theorem H6 : tX.body = some (Tryd.f19.body.getD .skip) := by kernel_rfl
noncomputable def fi7 : FI := (bB.fn.get 7).getD default
theorem Hx : bB.fn.get 7 = some fi7 := by kernel_rfl
theorem Hw : fi7.body = some (Tryd.f7.body.getD .skip) := by kernel_rfl
noncomputable def tW : FI := (bB.fn.get 20).getD default
theorem H5 : bB.fn.get 20 = some tW := by kernel_rfl
theorem H4 : tW.body = some (Tryd.f20.body.getD .skip) := by kernel_rfl
noncomputable def Aa : FI := (bB.fn.get 18).getD default
theorem bF6 : bB.fn.get 18 = some Aa := by kernel_rfl
theorem aM3 : Aa.body = some (Tryd.f18.body.getD .skip) := by kernel_rfl
end Go.Proofs.YtjkdkpdjmapieaaDoor.fieldTells

