/- A part of the proof: an interpreter of the model's own code on partly known states, and that what it answers is what the program answers. No condition of its own. -/
import Derived.Test.YtlfmfmegnenohaaDoorG1CutterTellsO5
set_option maxRecDepth 100000
set_option linter.unusedVariables false
set_option linter.unusedSimpArgs false
set_option maxHeartbeats 4000000
namespace Go.Proofs.YtlfmfmegnenohaaDoor.cutterTells
open Go Go.AX Go.Proofs Go.Proofs.YtlfmfmegnenohaaDoor
variable {nu : Nat → Value} {one : ∀ i, i < 1000000 → (nu i).oneCell' = true} {E' : Cx} {x' : Ex} {e' : LA} {h' : LE}
noncomputable def bodySa0 : Code := loopNo (Tryd.f13.body.getD .skip) 0
theorem keySa0 : oneKey (loopsOf (Tryd.f13.body.getD .skip)) 4 0 0 = true := by kernel_rfl
def keepSa0 : List Nat := []
def epSa0_0 : LA := [(0, .sr 40), (1, .sr 200), (5, .x 0)]
def hpSa0_0 : LE := [(40, .r 2000000 26 4 false), (200, .r 2000001 26 4 false)]
def nuSa0_0 (z : List (Int × Int × LB × Int)) (i : Int) : List Value := [.int .i64 (i), .int .i64 ((z.length : Int)), .int .i64 ((nthR z (Int.toNat (i))).1), .int .i64 ((nthR z (Int.toNat (i))).2.1), St' ((nthR z (Int.toNat (i))).2.2.1), .int .i64 ((nthR z (Int.toNat (i))).2.2.2), .int .i64 ((nthR z (Int.toNat (i))).1), .int .i64 ((nthR z (Int.toNat (i))).2.1), St' ((nthR z (Int.toNat (i))).2.2.1), .int .i64 ((nthR z (Int.toNat (i))).2.2.2), .int .i64 (i + 1), .int .i64 ((z.length : Int))]
def roSa0_0 (z : List (Int × Int × LB × Int)) (i : Int) : List Value := [rwG reC z, rwG reC z]
def epSa0 (st : Nat × Int) : LA := epSa0_0
def hpSa0 (st : Nat × Int) : LE := hpSa0_0
def nuSa0 (z : List (Int × Int × LB × Int)) (st : Nat × Int) : List Value := nuSa0_0 z (st.2)
def roSa0 (z : List (Int × Int × LB × Int)) (st : Nat × Int) : List Value := roSa0_0 z (st.2)
theorem onSa0 (z : List (Int × Int × LB × Int)) (st : Nat × Int) : ∀ j, (nuL (nuSa0 z st) j).oneCell' = true := by
  intro j
  unfold nuSa0
  exact nuL_one (l := nuSa0_0 z (st.2)) rfl j
theorem ebSa0 (st : Nat × Int) : (lfB (epSa0 st) && lfC keepSa0) = true := by
  unfold epSa0
  rfl
noncomputable def DSa0 (z : List (Int × Int × LB × Int)) (st : Nat × Int) (X : Nat → Value) : Cx := cx (nuX (nuSa0 z st) (rX (roSa0 z st) X)) (nuX_one (onSa0 z st)) 1 laidE laidE_stab
def InvSa0 (z : List (Int × Int × LB × Int)) (st : Nat × Int) : Prop := (0 ≤ (st.2)) ∧ ((st.2) ≤ (z.length : Int)) ∧ (z.length ≤ 100000) ∧ (∀ q, q ∈ z → reB q) ∧ ((st.1) < 1)
abbrev CjSa0 (z : List (Int × Int × LB × Int)) (tag : Nat) (i : Int) : Prop := (0 ≤ i) ∧ (i ≤ (z.length : Int)) ∧ (z.length ≤ 100000) ∧ (∀ q, q ∈ z → reB q) ∧ (tag < 1)
theorem mkISa0 (z : List (Int × Int × LB × Int)) (tag : Nat) (i : Int) (h : CjSa0 z tag i) : InvSa0 z (tag, i) := h
theorem unISa0 (z : List (Int × Int × LB × Int)) (tag : Nat) (i : Int) (h : InvSa0 z (tag, i)) : (0 ≤ i) ∧ (i ≤ (z.length : Int)) ∧ (z.length ≤ 100000) ∧ (∀ q, q ∈ z → reB q) ∧ (tag < 1) := h
def muSa0 (z : List (Int × Int × LB × Int)) (st : Nat × Int) : Nat := (z.length - (st.2).toNat)
abbrev RHSa0 (z : List (Int × Int × LB × Int)) (E' : Cx) (ex' : Ex) (epx' : LA) (hpx' : LE) (st : Nat × Int) (X : Nat → Value) : Prop := RoundH E' bodySa0 keepSa0 26 ex' 1 300 302 302 epSa0 hpSa0 epx' hpx' (InvSa0 z) (muSa0 z) (DSa0 z) st X
noncomputable abbrev RNSa0_0 (h : LK) (x : Ex) (th : LA) (sg : List (Nat × Nat)) (m : Nat) (ep : LA) (hp : LE) : Bool := okRdH (code (tbl h) 3000 [] bodySa0 (envOf (headOf epSa0_0 keepSa0) 26) ⟨lhSet hpSa0_0 .leaf, 302, 0, 0⟩) x keepSa0 26 302 th sg 300 m ep hp
theorem stSa0_0 (z : List (Int × Int × LB × Int)) (i : Int) {X : Nat → Value} {h : LK} (y : Nat × Int) {th : LA} {sg : List (Nat × Nat)} (ho : ∀ a' r', (a', r') ∈ h → HOk (cx (nuX (nuSa0_0 z i) (rX (roSa0_0 z i) X)) (nuX_one (nuL_one (l := nuSa0_0 z i) rfl)) 1 laidE laidE_stab) a' r') (hy : InvSa0 z y) (lt : muSa0 z y < muSa0 z (0, i)) (ht : ThOk (cx (nuX (nuSa0_0 z i) (rX (roSa0_0 z i) X)) (nuX_one (nuL_one (l := nuSa0_0 z i) rfl)) 1 laidE laidE_stab) (DSa0 z y X) th) (run : RNSa0_0 h .normal th sg 302 (epSa0 y) (hpSa0 y) = true) : RHSa0 z E' x' e' h' (0, i) X :=
  RoundH.next (tb := tbl h) (L := []) (f := 3000) y ((tabkOk _ _).hyps ho) (LpOk.nil _) rfl hy lt ht run
theorem lvSa0_0 (z : List (Int × Int × LB × Int)) (i : Int) {X : Nat → Value} {h : LK} {th : LA} {sg : List (Nat × Nat)} (hne : exB x' .normal = false) (ho : ∀ a' r', (a', r') ∈ h → HOk (cx (nuX (nuSa0_0 z i) (rX (roSa0_0 z i) X)) (nuX_one (nuL_one (l := nuSa0_0 z i) rfl)) 1 laidE laidE_stab) a' r') (ht : ThOk (cx (nuX (nuSa0_0 z i) (rX (roSa0_0 z i) X)) (nuX_one (nuL_one (l := nuSa0_0 z i) rfl)) 1 laidE laidE_stab) E' th) (run : RNSa0_0 h x' th sg 302 e' h' = true) : RHSa0 z E' x' e' h' (0, i) X :=
  RoundH.leave (tb := tbl h) (L := []) (f := 3000) ((tabkOk _ _).hyps ho) (LpOk.nil _) rfl hne ht run
def hySa0_p0 : LK := [(.rl (.x 2000000) 4, .x 1), (.bin .lss (.x 0) (.x 1), .b true), (.el (.x 2000000) (.x 0) 4 0, .x 2), (.el (.x 2000000) (.x 0) 4 1, .x 3), (.el (.x 2000000) (.x 0) 4 2, .x 4), (.el (.x 2000000) (.x 0) 4 3, .x 5), (.el (.x 2000001) (.x 0) 4 0, .x 6), (.el (.x 2000001) (.x 0) 4 1, .x 7), (.el (.x 2000001) (.x 0) 4 2, .x 8), (.el (.x 2000001) (.x 0) 4 3, .x 9), (.eq 3 (.x 2) (.x 6), .b true), (.eq 3 (.x 3) (.x 7), .b true), (.eq 9 (.x 4) (.x 8), .b true), (.eq 3 (.x 5) (.x 9), .b true), (.bin .add (.x 0) (.i .i64 (.ofNat 1)), .x 10)]
theorem runSa0_p0 : RNSa0_0 hySa0_p0 .normal [(0, .x 10), (2000000, .x 2000000), (2000001, .x 2000001)] [] 302 epSa0_0 hpSa0_0 = true := by kernel_rfl
theorem nxSa0_p0 (z : List (Int × Int × LB × Int)) (i : Int) (X : Nat → Value) (hI : InvSa0 z (0, i)) (h0 : i < (z.length : Int)) : RHSa0 z E' x' e' h' (0, i) X := by
  obtain ⟨i0, i1, i2, i3, it⟩ := unISa0 z 0 i hI
  have := reAt (l := z) (by assumption) (Int.toNat (i))
  refine stSa0_0 z i (h := hySa0_p0) (0, (i + 1)) ?_ (mkISa0 z 0 (i + 1) ⟨by omega, by omega, by omega, i3, by omega⟩) (by show z.length - (i + 1).toNat < z.length - i.toNat; omega) (thXi (b := ((i + 1))) rfl rfl (by omega) (thXv (v := rwG reC z) rfl rfl (thXv (v := rwG reC z) rfl rfl (thNil)))) runSa0_p0
  unfold hySa0_p0
  exact hc (kRlG reC_len (isX rfl) (denX rfl) (by first | omega | (simp <;> omega))) <|
   hc (ltT rfl rfl (by omega)) <|
   hc (kElG (j := (Int.toNat (i))) (d := (0, 0, [], 0)) reC_len (by decide) (isX rfl) (isX rfl) (denX rfl) (by omega) (by omega) rfl) <|
   hc (kElG (j := (Int.toNat (i))) (d := (0, 0, [], 0)) reC_len (by decide) (isX rfl) (isX rfl) (denX rfl) (by omega) (by omega) rfl) <|
   hc (kElG (j := (Int.toNat (i))) (d := (0, 0, [], 0)) reC_len (by decide) (isX rfl) (isX rfl) (denX rfl) (by omega) (by omega) rfl) <|
   hc (kElG (j := (Int.toNat (i))) (d := (0, 0, [], 0)) reC_len (by decide) (isX rfl) (isX rfl) (denX rfl) (by omega) (by omega) rfl) <|
   hc (kElG (j := (Int.toNat (i))) (d := (0, 0, [], 0)) reC_len (by decide) (isX rfl) (isX rfl) (denX rfl) (by omega) (by omega) rfl) <|
   hc (kElG (j := (Int.toNat (i))) (d := (0, 0, [], 0)) reC_len (by decide) (isX rfl) (isX rfl) (denX rfl) (by omega) (by omega) rfl) <|
   hc (kElG (j := (Int.toNat (i))) (d := (0, 0, [], 0)) reC_len (by decide) (isX rfl) (isX rfl) (denX rfl) (by omega) (by omega) rfl) <|
   hc (kElG (j := (Int.toNat (i))) (d := (0, 0, [], 0)) reC_len (by decide) (isX rfl) (isX rfl) (denX rfl) (by omega) (by omega) rfl) <|
   hc (kEqT (isX rfl) (isX rfl) tu3 (decide_eq_true (by omega))) <|
   hc (kEqT (isX rfl) (isX rfl) tu3 (decide_eq_true (by omega))) <|
   hc (kEqTS (isX rfl) (isX rfl) tu9 (decide_eq_true rfl)) <|
   hc (kEqT (isX rfl) (isX rfl) tu3 (decide_eq_true (by omega))) <|
   hc (adC rfl rfl (by omega)) <|
   hnil
def hySa0_p1 : LK := [(.rl (.x 2000000) 4, .x 11), (.bin .lss (.x 0) (.x 11), .b false)]
theorem runSa0_p1 : RNSa0_0 hySa0_p1 (.exit 0) [] [] 302 [] [] = true := by kernel_rfl
def nuESa0_0 (z : List (Int × Int × LB × Int)) : List Value := []
def roESa0_0 (z : List (Int × Int × LB × Int)) : List Value := []
noncomputable def ESa0_0 (z : List (Int × Int × LB × Int)) : Cx := cx (nuX (nuESa0_0 z) (rX (roESa0_0 z) (fun _ => .bool true))) (nuX_one (nuL_one (l := nuESa0_0 z) rfl)) 1 laidE laidE_stab
theorem roundsSa0_0 (z : List (Int × Int × LB × Int)) (st : Nat × Int) (X : Nat → Value) (hI : InvSa0 z st) : RHSa0 z (ESa0_0 z) (.exit 0) [] [] st X := by
  obtain ⟨tag, i⟩ := st
  have hI0 := hI
  obtain ⟨i0, i1, i2, i3, it⟩ := unISa0 z tag i hI
  obtain rfl : tag = 0 := by omega
  skip
  by_cases h0 : i < (z.length : Int)
  · exact nxSa0_p0 z i X hI0 h0
  · skip
    refine lvSa0_0 z i (h := hySa0_p1) rfl ?_ (thNil) runSa0_p1
    unfold hySa0_p1
    exact hc (kRlG reC_len (isX rfl) (denX rfl) (by first | omega | (simp <;> omega))) <|
     hc (ltF rfl rfl (by omega)) <|
     hnil
theorem lfOkSa0_0 {l : LF} {h : LH} (z : List (Int × Int × LB × Int)) (st : Nat × Int) (hI : InvSa0 z st) (hl : l.hp = some h) (hs : lfSame l h 26 keepSa0 (.exit 0) 1 300 302 = true) {th0 : LA} {sg0 : List (Nat × Nat)} (hth0 : ∀ X, ThOk (cx nu one 1 laidE laidE_stab) (DSa0 z st X) th0) (h0 : startOk l h 26 300 302 th0 sg0 (epSa0 st) (hpSa0 st) = true) {thx : LA} (hthx : ThOk (ESa0_0 z) (cx nu one 1 laidE laidE_stab) thx) (hx : exitOk l h 26 300 302 thx [] [] = true) : LfOk (cx nu one 1 laidE laidE_stab) bodySa0 l :=
  lfOkX (E := ESa0_0 z) (InvSa0 z) (muSa0 z) (DSa0 z) (fun _ _ => rfl) (fun _ _ => rfl) (fun _ _ => rfl) (fun st X t ht => nuX_keep.trans (rX_keep ((by decide : ∀ t, t ∈ keepSa0 → t < 1000000) t ht))) rfl rfl rfl hl hs ebSa0 rfl rfl st hI hth0 h0 hthx hx (roundsSa0_0 z)
end Go.Proofs.YtlfmfmegnenohaaDoor.cutterTells
