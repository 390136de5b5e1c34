/- A part of the proof: an interpreter of the model's own code on partly known states, and that what it answers is what the program answers. No condition of its own. -/
import Derived.Test.YtabnmohghnnjaaaGreatDoorN1AnswerBodyO
set_option maxRecDepth 100000
set_option linter.unusedVariables false
set_option linter.unusedSimpArgs false
set_option maxHeartbeats 4000000
namespace Go.Proofs.YtabnmohghnnjaaaGreatDoor.answerBody
open Go Go.AX Go.Proofs Go.Proofs.YtabnmohghnnjaaaGreatDoor
variable {nu : Nat → Value} {one : ∀ i, i < 1000000 → (nu i).oneCell' = true} {E' : Cx} {x' : Ex} {e' : LA} {h' : LE}
noncomputable def bodySpl : Code := loopNo (Tryz.f99.body.getD .skip) 0
theorem keySpl : oneKey (loopsOf (Tryz.f99.body.getD .skip)) 4 0 0 = true := by kernel_rfl
def keepSpl : List Nat := []
def epSpl_0 : LA := [(0, .x 0), (1, .i .u8 (.ofNat 59)), (5, .nils), (6, .i .i64 (.ofNat 0)), (7, .x 1)]
def hpSpl_0 : LE := []
def nuSpl_0 (n i : Int) : List Value := [St' (hexS n), .int .i64 (i), .int .i64 (((hexS n).length : Int)), .int .u8 (bt (hexS n) (Int.toNat (i))), .int .i64 (i + 1), .int .i64 (((hexS n).length : Int)), St' (hexS n), .int .i64 (i + 1)]
def roSpl_0 (n i : Int) : List Value := [rwS ([] : List LB), rwS ([] : List LB), rwS (([] : List LB) ++ [(hexS n)])]
def epSpl_1 : LA := [(0, .x 0), (5, .sr 920), (7, .x 1)]
def hpSpl_1 : LE := [(920, .r 2000000 9 1 false)]
def nuSpl_1 (n i : Int) : List Value := [St' (hexS n), .int .i64 (i), .int .i64 (((hexS n).length : Int))]
def roSpl_1 (n i : Int) : List Value := [rwS (([] : List LB) ++ [(hexS n)]), rwS ([] : List LB)]
def epSpl (st : Nat × Int) : LA := if st.1 = 0 then epSpl_0 else epSpl_1
def hpSpl (st : Nat × Int) : LE := if st.1 = 0 then hpSpl_0 else hpSpl_1
def nuSpl (n : Int) (st : Nat × Int) : List Value := if st.1 = 0 then nuSpl_0 n (st.2) else nuSpl_1 n (st.2)
def roSpl (n : Int) (st : Nat × Int) : List Value := if st.1 = 0 then roSpl_0 n (st.2) else roSpl_1 n (st.2)
theorem onSpl (n : Int) (st : Nat × Int) : ∀ j, (nuL (nuSpl n st) j).oneCell' = true := by
  intro j
  unfold nuSpl
  by_cases g0 : st.1 = 0
  · rw [if_pos g0]; exact nuL_one (l := nuSpl_0 n (st.2)) rfl j
  rw [if_neg g0]
  exact nuL_one (l := nuSpl_1 n (st.2)) rfl j
theorem ebSpl (st : Nat × Int) : (lfB (epSpl st) && lfC keepSpl) = true := by
  unfold epSpl
  by_cases g0 : st.1 = 0
  · rw [if_pos g0]; rfl
  rw [if_neg g0]
  rfl
noncomputable def DSpl (n : Int) (st : Nat × Int) (X : Nat → Value) : Cx := cx (nuX (nuSpl n st) (rX (roSpl n st) X)) (nuX_one (onSpl n st)) 7 laidE laidE_stab
def InvSpl (n : Int) (st : Nat × Int) : Prop := (0 ≤ (st.2)) ∧ ((st.2) ≤ ((hexS n).length : Int) + 1) ∧ (0 ≤ n) ∧ (n ≤ 300) ∧ ((st.1) = 0 → (st.2) ≤ ((hexS n).length : Int)) ∧ ((st.1) = 1 → (st.2) = ((hexS n).length : Int) + 1) ∧ ((st.1) < 2)
abbrev CjSpl (n : Int) (tag : Nat) (i : Int) : Prop := (0 ≤ i) ∧ (i ≤ ((hexS n).length : Int) + 1) ∧ (0 ≤ n) ∧ (n ≤ 300) ∧ (tag = 0 → i ≤ ((hexS n).length : Int)) ∧ (tag = 1 → i = ((hexS n).length : Int) + 1) ∧ (tag < 2)
theorem mkISpl (n : Int) (tag : Nat) (i : Int) (h : CjSpl n tag i) : InvSpl n (tag, i) := h
theorem unISpl (n : Int) (tag : Nat) (i : Int) (h : InvSpl n (tag, i)) : (0 ≤ i) ∧ (i ≤ ((hexS n).length : Int) + 1) ∧ (0 ≤ n) ∧ (n ≤ 300) ∧ (tag = 0 → i ≤ ((hexS n).length : Int)) ∧ (tag = 1 → i = ((hexS n).length : Int) + 1) ∧ (tag < 2) := h
def muSpl (n : Int) (st : Nat × Int) : Nat := (hexS n).length + 2 - (st.2).toNat
abbrev RHSpl (n : Int) (E' : Cx) (ex' : Ex) (epx' : LA) (hpx' : LE) (st : Nat × Int) (X : Nat → Value) : Prop := RoundH E' bodySpl keepSpl 35 ex' 7 920 921 940 epSpl hpSpl epx' hpx' (InvSpl n) (muSpl n) (DSpl n) st X
noncomputable abbrev CXSpl_0 (n i : Int) (X : Nat → Value) : Cx := cx (nuX (nuSpl_0 n i) (rX (roSpl_0 n i) X)) (nuX_one (nuL_one (l := nuSpl_0 n i) rfl)) 7 laidE laidE_stab
noncomputable abbrev RNSpl_0 (h : LK) (x : Ex) (th : LA) (sg : List (Nat × Nat)) (m : Nat) (ep : LA) (hp : LE) : Bool := okRdH (code (tbl h) 2000 [] bodySpl (envOf (headOf epSpl_0 keepSpl) 35) ⟨lhSet hpSpl_0 .leaf, 921, 0, 0⟩) x keepSpl 35 940 th sg 920 m ep hp
theorem stSpl_0 (n i : Int) {X : Nat → Value} {h : LK} (y : Nat × Int) {th : LA} {sg : List (Nat × Nat)} (ho : ∀ a' r', (a', r') ∈ h → HOk (CXSpl_0 n i X) a' r') (hy : InvSpl n y) (lt : muSpl n y < muSpl n (0, i)) (ht : ThOk (CXSpl_0 n i X) (DSpl n y X) th) (run : RNSpl_0 h .normal th sg 921 (epSpl y) (hpSpl y) = true) : RHSpl n E' x' e' h' (0, i) X :=
  RoundH.next (tb := tbl h) (L := []) (f := 2000) y ((tabkOk _ _).hyps ho) (LpOk.nil _) rfl hy lt ht run
theorem lvSpl_0 (n i : Int) {X : Nat → Value} {h : LK} {th : LA} {sg : List (Nat × Nat)} (hne : exB x' .normal = false) (ho : ∀ a' r', (a', r') ∈ h → HOk (CXSpl_0 n i X) a' r') (ht : ThOk (CXSpl_0 n i X) E' th) (run : RNSpl_0 h x' th sg 940 e' h' = true) : RHSpl n E' x' e' h' (0, i) X :=
  RoundH.leave (tb := tbl h) (L := []) (f := 2000) ((tabkOk _ _).hyps ho) (LpOk.nil _) rfl hne ht run
noncomputable abbrev CXSpl_1 (n i : Int) (X : Nat → Value) : Cx := cx (nuX (nuSpl_1 n i) (rX (roSpl_1 n i) X)) (nuX_one (nuL_one (l := nuSpl_1 n i) rfl)) 7 laidE laidE_stab
noncomputable abbrev RNSpl_1 (h : LK) (x : Ex) (th : LA) (sg : List (Nat × Nat)) (m : Nat) (ep : LA) (hp : LE) : Bool := okRdH (code (tbl h) 2000 [] bodySpl (envOf (headOf epSpl_1 keepSpl) 35) ⟨lhSet hpSpl_1 .leaf, 921, 0, 0⟩) x keepSpl 35 940 th sg 920 m ep hp
theorem stSpl_1 (n i : Int) {X : Nat → Value} {h : LK} (y : Nat × Int) {th : LA} {sg : List (Nat × Nat)} (ho : ∀ a' r', (a', r') ∈ h → HOk (CXSpl_1 n i X) a' r') (hy : InvSpl n y) (lt : muSpl n y < muSpl n (1, i)) (ht : ThOk (CXSpl_1 n i X) (DSpl n y X) th) (run : RNSpl_1 h .normal th sg 921 (epSpl y) (hpSpl y) = true) : RHSpl n E' x' e' h' (1, i) X :=
  RoundH.next (tb := tbl h) (L := []) (f := 2000) y ((tabkOk _ _).hyps ho) (LpOk.nil _) rfl hy lt ht run
theorem lvSpl_1 (n i : Int) {X : Nat → Value} {h : LK} {th : LA} {sg : List (Nat × Nat)} (hne : exB x' .normal = false) (ho : ∀ a' r', (a', r') ∈ h → HOk (CXSpl_1 n i X) a' r') (ht : ThOk (CXSpl_1 n i X) E' th) (run : RNSpl_1 h x' th sg 940 e' h' = true) : RHSpl n E' x' e' h' (1, i) X :=
  RoundH.leave (tb := tbl h) (L := []) (f := 2000) ((tabkOk _ _).hyps ho) (LpOk.nil _) rfl hne ht run
def hySpl_p0 : LK := [(.rn, .x 2000000), (.len (.x 0), .x 2), (.bin .leq (.x 1) (.x 2), .b true), (.bin .eql (.x 1) (.x 2), .b false), (.idx (.x 0) (.x 1), .x 3), (.bin .eql (.x 3) (.i .u8 (.ofNat 59)), .b false), (.bin .add (.x 1) (.i .i64 (.ofNat 1)), .x 4)]
theorem runSpl_p0 : RNSpl_0 hySpl_p0 .normal [(0, .x 0), (1, .x 4)] [] 921 epSpl_0 hpSpl_0 = true := by kernel_rfl
theorem nxSpl_p0 (n : Int) (i : Int) (X : Nat → Value) (hI : InvSpl n (0, i)) (h1 : ¬ (i = ((hexS n).length : Int))) : RHSpl n E' x' e' h' (0, i) X := by
  obtain ⟨i0, i1, i2, i3, i4, i5, it⟩ := unISpl n 0 i hI
  have hl3 := hexS_len (n := n)
  have := bt_lo (hexS n) (Int.toNat (i)); have := bt_hi (hexS n) (Int.toNat (i))
  have hdg := hexS_bt (n := n) (by omega) (by omega) (j := Int.toNat i) (by omega)
  refine stSpl_0 n i (h := hySpl_p0) (0, (i + 1)) ?_ (mkISpl n 0 (i + 1) ⟨by omega, by omega, i2, i3, fun h => by omega, fun h => by omega, by omega⟩) (by show (hexS n).length + 2 - (i + 1).toNat < (hexS n).length + 2 - i.toNat; omega) (thXv (v := St' (hexS n)) rfl rfl (thXi (b := ((i + 1))) rfl rfl (by omega) (thNil))) runSpl_p0
  unfold hySpl_p0
  exact hc (kRn (denX rfl)) <|
   hc (lnV rfl rfl (by omega)) <|
   hc (leT rfl rfl (by omega)) <|
   hc (eqXF rfl rfl (by omega)) <|
   hc (ixV rfl rfl rfl (by omega)) <|
   hc (eqcF rfl (by omega)) <|
   hc (adC rfl rfl (by omega)) <|
   hnil
def hySpl_p1 : LK := [(.rn, .x 2000001), (.len (.x 0), .x 5), (.bin .leq (.x 1) (.x 5), .b true), (.bin .eql (.x 1) (.x 5), .b true), (.sub (.x 0) (some (.i .i64 (.ofNat 0))) (some (.x 1)), .x 6), (.ra (.x 2000001) [.x 6], .x 2000002), (.rf (.x 2000002) 1 16, .b true), (.bin .add (.x 1) (.i .i64 (.ofNat 1)), .x 7)]
theorem runSpl_p1 : RNSpl_0 hySpl_p1 .normal [(0, .x 0), (1, .x 7), (2000000, .x 2000002)] [(920, 922)] 921 epSpl_1 hpSpl_1 = true := by kernel_rfl
theorem nxSpl_p1 (n : Int) (i : Int) (X : Nat → Value) (hI : InvSpl n (0, i)) (h1 : i = ((hexS n).length : Int)) : RHSpl n E' x' e' h' (0, i) X := by
  obtain ⟨i0, i1, i2, i3, i4, i5, it⟩ := unISpl n 0 i hI
  have hl3 := hexS_len (n := n)
  refine stSpl_0 n i (h := hySpl_p1) (1, (i + 1)) ?_ (mkISpl n 1 (i + 1) ⟨by omega, by omega, i2, i3, fun h => by omega, fun h => by omega, by omega⟩) (by show (hexS n).length + 2 - (i + 1).toNat < (hexS n).length + 2 - i.toNat; omega) (thXv (v := St' (hexS n)) rfl rfl (thXi (b := ((i + 1))) rfl rfl (by omega) (thXv (v := rwS (([] : List LB) ++ [(hexS n)])) rfl rfl (thNil)))) runSpl_p1
  unfold hySpl_p1
  exact hc (kRn (denX rfl)) <|
   hc (lnV rfl rfl (by omega)) <|
   hc (leT rfl rfl (by omega)) <|
   hc (eqXT rfl rfl (by omega)) <|
   hc (kMid (P := 0) (Q := i) (isX rfl) (.inr ⟨_, _, rfl, (isZ (m := 0) rfl)⟩) (.inr ⟨_, _, rfl, (isX rfl)⟩) (by omega) (by omega) (by omega) (denX (congrArg (fun l => St' l) (spl_mid (by omega))))) <|
   hc (kRa (isX rfl) (isX rfl) (denX rfl)) <|
   hc (kRf (isX rfl) (by first | omega | (simp <;> omega)) (by first | omega | (simp <;> omega))) <|
   hc (adC rfl rfl (by omega)) <|
   hnil
def hySpl_p2 : LK := [(.rn, .x 2000001), (.len (.x 0), .x 2), (.bin .leq (.x 1) (.x 2), .b false)]
theorem runSpl_p2 : RNSpl_1 hySpl_p2 (.exit 0) [(2000000, .x 2000000)] [(920, 920)] 940 [(5, .sr 920)] [(920, .r 2000000 9 1 false)] = true := by kernel_rfl
def nuESpl_0 (n : Int) : List Value := []
def roESpl_0 (n : Int) : List Value := [rwS (([] : List LB) ++ [(hexS n)])]
noncomputable def ESpl_0 (n : Int) : Cx := cx (nuX (nuESpl_0 n) (rX (roESpl_0 n) (fun _ => .bool true))) (nuX_one (nuL_one (l := nuESpl_0 n) rfl)) 7 laidE laidE_stab
theorem roundsSpl_0 (n : Int) (st : Nat × Int) (X : Nat → Value) (hI : InvSpl n st) : RHSpl n (ESpl_0 n) (.exit 0) [(5, .sr 920)] [(920, .r 2000000 9 1 false)] st X := by
  obtain ⟨tag, i⟩ := st
  have hI0 := hI
  obtain ⟨i0, i1, i2, i3, i4, i5, it⟩ := unISpl n tag i hI
  rcases (show tag = 0 ∨ tag = 1 from by omega) with rfl | rfl
  · skip
    have hl3 := hexS_len (n := n)
    by_cases h1 : i = ((hexS n).length : Int)
    · exact nxSpl_p1 n i X hI0 h1
    · exact nxSpl_p0 n i X hI0 h1
  · skip
    have hl3 := hexS_len (n := n)
    skip
    have hl3 := hexS_len (n := n)
    refine lvSpl_1 n i (h := hySpl_p2) rfl ?_ (thXv (v := rwS (([] : List LB) ++ [(hexS n)])) rfl rfl (thNil)) runSpl_p2
    unfold hySpl_p2
    exact hc (kRn (denX rfl)) <|
     hc (lnV rfl rfl (by omega)) <|
     hc (leF rfl rfl (by omega)) <|
     hnil
theorem lfOkSpl_0 {l : LF} {h : LH} (n : Int) (st : Nat × Int) (hI : InvSpl n st) (hl : l.hp = some h) (hs : lfSame l h 35 keepSpl (.exit 0) 7 920 940 = true) {th0 : LA} {sg0 : List (Nat × Nat)} (hth0 : ∀ X, ThOk (cx nu one 7 laidE laidE_stab) (DSpl n st X) th0) (h0 : startOk l h 35 920 921 th0 sg0 (epSpl st) (hpSpl st) = true) {thx : LA} (hthx : ThOk (ESpl_0 n) (cx nu one 7 laidE laidE_stab) thx) (hx : exitOk l h 35 920 940 thx [(5, .sr 920)] [(920, .r 2000000 9 1 false)] = true) : LfOk (cx nu one 7 laidE laidE_stab) bodySpl l :=
  lfOkX (E := ESpl_0 n) (InvSpl n) (muSpl n) (DSpl n) (fun _ _ => rfl) (fun _ _ => rfl) (fun _ _ => rfl) (fun st X t ht => nuX_keep.trans (rX_keep ((by decide : ∀ t, t ∈ keepSpl → t < 1000000) t ht))) rfl rfl rfl hl hs ebSpl rfl rfl st hI hth0 h0 hthx hx (roundsSpl_0 n)
end Go.Proofs.YtabnmohghnnjaaaGreatDoor.answerBody
