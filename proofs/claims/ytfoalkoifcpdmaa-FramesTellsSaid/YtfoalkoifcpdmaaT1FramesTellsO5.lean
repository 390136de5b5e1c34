/- A part of the proof: an interpreter of the model's own code on partly known states, and that what it answers is what the program answers. No condition of its own. -/
import Derived.Test.YtfoalkoifcpdmaaT1FramesTellsO4
set_option maxRecDepth 100000
set_option linter.unusedVariables false
set_option linter.unusedSimpArgs false
set_option maxHeartbeats 4000000
namespace Go.Proofs.Ytfoalkoifcpdmaa.framesTells
open Go Go.AX Go.Proofs Go.Proofs.Ytfoalkoifcpdmaa
variable {nu : Nat → Value} {one : ∀ i, i < 1000000 → (nu i).oneCell' = true} {E' : Cx} {x' : Ex} {e' : LA} {h' : LE}
noncomputable def bE1 : Code := aM9 (Try.f6.body.getD .skip) 0
theorem cD8 : aL9 (aC5 (Try.f6.body.getD .skip)) 4 0 0 = true := by kernel_rfl
def aK5 : List Nat := []
def bD5 : LA := [(0, .sr 901), (1, .sr 902), (5, .x 0)]
def bD1 : LE := [(901, .r 2000000 31 4 false), (902, .r 2000001 31 4 false)]
def aF2 (z : List RC) (i : Int) : List Value := [.int .i64 (i), .int .i64 ((z.length : Int)), .int .i64 ((nthR z (Int.toNat (i))).1), .int .i64 ((nthR z (Int.toNat (i))).2.1), St' ((nthR z (Int.toNat (i))).2.2.1), .int .i64 ((nthR z (Int.toNat (i))).2.2.2), .int .i64 ((nthR z (Int.toNat (i))).1), .int .i64 ((nthR z (Int.toNat (i))).2.1), St' ((nthR z (Int.toNat (i))).2.2.1), .int .i64 ((nthR z (Int.toNat (i))).2.2.2), .int .i64 (i + 1), .int .i64 ((z.length : Int))]
def aM7 (z : List RC) (i : Int) : List Value := [rwG reC z, rwG reC z]
def bD6 (st : Nat × Int) : LA := bD5
def bW7 (st : Nat × Int) : LE := bD1
def bU7 (z : List RC) (st : Nat × Int) : List Value := aF2 z (st.2)
def roSm901 (z : List RC) (st : Nat × Int) : List Value := aM7 z (st.2)
theorem onSm901 (z : List RC) (st : Nat × Int) : ∀ j, (nuL (bU7 z st) j).oneCell' = true := by
  intro j
  unfold bU7
  exact aA6 (l := aF2 z (st.2)) rfl j
theorem ebSm901 (st : Nat × Int) : (lfB (bD6 st) && lfC aK5) = true := by
  unfold bD6
  rfl
noncomputable def cG7 (z : List RC) (st : Nat × Int) (X : Nat → Value) : Cx := cx (nuX (bU7 z st) (rX (roSm901 z st) X)) (aA7 (onSm901 z st)) 0 aA5 aA0
def aI8 (z : List RC) (st : Nat × Int) : Prop := (0 ≤ (st.2)) ∧ ((st.2) ≤ (z.length : Int)) ∧ (z.length ≤ 200000) ∧ (∀ q, q ∈ z → reB q) ∧ ((st.1) < 1)
abbrev CjSm901 (z : List RC) (tag : Nat) (i : Int) : Prop := (0 ≤ i) ∧ (i ≤ (z.length : Int)) ∧ (z.length ≤ 200000) ∧ (∀ q, q ∈ z → reB q) ∧ (tag < 1)
theorem bI8 {z : List RC} {tag : Nat} {i : Int} (h : CjSm901 z tag i) : aI8 z (tag, i) := h
theorem bY8 (z : List RC) (tag : Nat) (i : Int) (h : aI8 z (tag, i)) : (0 ≤ i) ∧ (i ≤ (z.length : Int)) ∧ (z.length ≤ 200000) ∧ (∀ q, q ∈ z → reB q) ∧ (tag < 1) := h
def bI7 (z : List RC) (st : Nat × Int) : Nat := (z.length - (st.2).toNat)
abbrev bM8 (z : List RC) (E' : Cx) (ex' : Ex) (epx' : LA) (hpx' : LE) (st : Nat × Int) (X : Nat → Value) : Prop := aC7 E' bE1 aK5 26 ex' 1 901 903 903 bD6 bW7 epx' hpx' (aI8 z) (bI7 z) (cG7 z) st X
noncomputable abbrev aU1 (h : LK) (x : Ex) (th : LA) (sg : List (Nat × Nat)) (m : Nat) (ep : LA) (hp : LE) : Bool := aP9 (code (tbl h) 3000 [] bE1 (aI0 (aF0 bD5 aK5) 26) ⟨aC4 bD1 .leaf, 903, 0, 0⟩) x aK5 26 903 th sg 901 m ep hp
theorem stSm901_0 {z : List RC} {i : Int} {X : Nat → Value} {h : LK} (y : Nat × Int) {th : LA} {sg : List (Nat × Nat)} (ho : ∀ a' r', (a', r') ∈ h → HOk (cx (nuX (aF2 z i) (rX (aM7 z i) X)) (aA7 (aA6 (l := aF2 z i) rfl)) 0 aA5 aA0) a' r') (hy : aI8 z y) (lt : bI7 z y < bI7 z (0, i)) (ht : ThOk (cx (nuX (aF2 z i) (rX (aM7 z i) X)) (aA7 (aA6 (l := aF2 z i) rfl)) 0 aA5 aA0) (cG7 z y X) th) (run : aU1 h .normal th sg 903 (bD6 y) (bW7 y) = true) : bM8 z E' x' e' h' (0, i) X :=
  aC7.next (tb := tbl h) (L := []) (f := 3000) y ((aC2 _ _).hyps ho) (LpOk.nil _) rfl hy lt ht run
theorem lvSm901_0 {z : List RC} {i : Int} {X : Nat → Value} {h : LK} {th : LA} {sg : List (Nat × Nat)} (hne : exB x' .normal = false) (ho : ∀ a' r', (a', r') ∈ h → HOk (cx (nuX (aF2 z i) (rX (aM7 z i) X)) (aA7 (aA6 (l := aF2 z i) rfl)) 0 aA5 aA0) a' r') (ht : ThOk (cx (nuX (aF2 z i) (rX (aM7 z i) X)) (aA7 (aA6 (l := aF2 z i) rfl)) 0 aA5 aA0) E' th) (run : aU1 h x' th sg 903 e' h' = true) : bM8 z E' x' e' h' (0, i) X :=
  aC7.leave (tb := tbl h) (L := []) (f := 3000) ((aC2 _ _).hyps ho) (LpOk.nil _) rfl hne ht run
def aV7 : LK := [(.rl (.x 2000000) 4, .x 1), (.bin .lss (.x 0) (.x 1), .b true), (.el (.x 2000000) (.x 0) 4 0, .x 2), (.el (.x 2000000) (.x 0) 4 1, .x 3), (.el (.x 2000000) (.x 0) 4 2, .x 4), (.el (.x 2000000) (.x 0) 4 3, .x 5), (.el (.x 2000001) (.x 0) 4 0, .x 6), (.el (.x 2000001) (.x 0) 4 1, .x 7), (.el (.x 2000001) (.x 0) 4 2, .x 8), (.el (.x 2000001) (.x 0) 4 3, .x 9), (.eq 3 (.x 2) (.x 6), .b true), (.eq 3 (.x 3) (.x 7), .b true), (.eq 9 (.x 4) (.x 8), .b true), (.eq 3 (.x 5) (.x 9), .b true), (.bin .add (.x 0) (I6 1), .x 10)]
theorem runSm901_p0 : aU1 aV7 .normal [(0, .x 10), (2000000, .x 2000000), (2000001, .x 2000001)] [(901, 901), (902, 902)] 903 bD5 bD1 = true := by kernel_rfl
def aV6 : LK := [(.rl (.x 2000000) 4, .x 11), (.bin .lss (.x 0) (.x 11), .b false)]
theorem runSm901_p1 : aU1 aV6 (.exit 0) [] [] 903 [] [] = true := by kernel_rfl
section
variable {z : List RC} {i : Int} {X : Nat → Value}
theorem nxSm901_p0 (hI : aI8 z (0, i)) (h0 : i < (z.length : Int)) : bM8 z E' x' e' h' (0, i) X := by
  obtain ⟨i0, i1, i2, i3, it⟩ := bY8 z 0 i hI
  have := reAt (l := z) (by assumption) (Int.toNat (i))
  refine stSm901_0 (h := aV7) (0, (i + 1)) ?_ (bI8 ⟨by omega, by omega, by omega, i3, by omega⟩) (by show z.length - (i + 1).toNat < z.length - i.toNat; omega) (thXi (b := ((i + 1))) rfl rfl (by omega) (thXv (v := rwG reC z) rfl rfl (thXv (v := rwG reC z) rfl rfl (aB4)))) runSm901_p0
  unfold aV7
  exact hc (kRlG aA8 (isX rfl) (denX rfl) (by first | omega | (simp <;> omega))) <|hc (ltT rfl rfl (by omega)) <|hc (kElG (j := (Int.toNat (i))) (d := (0, 0, [], 0)) aA8 (by decide) (isX rfl) (isX rfl) (denX rfl) (by omega) (by omega) rfl) <|hc (kElG (j := (Int.toNat (i))) (d := (0, 0, [], 0)) aA8 (by decide) (isX rfl) (isX rfl) (denX rfl) (by omega) (by omega) rfl) <|hc (kElG (j := (Int.toNat (i))) (d := (0, 0, [], 0)) aA8 (by decide) (isX rfl) (isX rfl) (denX rfl) (by omega) (by omega) rfl) <|hc (kElG (j := (Int.toNat (i))) (d := (0, 0, [], 0)) aA8 (by decide) (isX rfl) (isX rfl) (denX rfl) (by omega) (by omega) rfl) <|hc (kElG (j := (Int.toNat (i))) (d := (0, 0, [], 0)) aA8 (by decide) (isX rfl) (isX rfl) (denX rfl) (by omega) (by omega) rfl) <|hc (kElG (j := (Int.toNat (i))) (d := (0, 0, [], 0)) aA8 (by decide) (isX rfl) (isX rfl) (denX rfl) (by omega) (by omega) rfl) <|hc (kElG (j := (Int.toNat (i))) (d := (0, 0, [], 0)) aA8 (by decide) (isX rfl) (isX rfl) (denX rfl) (by omega) (by omega) rfl) <|hc (kElG (j := (Int.toNat (i))) (d := (0, 0, [], 0)) aA8 (by decide) (isX rfl) (isX rfl) (denX rfl) (by omega) (by omega) rfl) <|hc (kEqT (isX rfl) (isX rfl) tu3 (decide_eq_true (by omega))) <|hc (kEqT (isX rfl) (isX rfl) tu3 (decide_eq_true (by omega))) <|hc (kEqTS (isX rfl) (isX rfl) tu9 (decide_eq_true rfl)) <|hc (kEqT (isX rfl) (isX rfl) tu3 (decide_eq_true (by omega))) <|hc (adC rfl rfl (by omega)) <|hnil
end
def bF7 (z : List RC) : List Value := []
def roESm901_0 (z : List RC) : List Value := []
noncomputable def bN0 (z : List RC) : Cx := cx (nuX (bF7 z) (rX (roESm901_0 z) (fun _ => .bool true))) (aA7 (aA6 (l := bF7 z) rfl)) 0 aA5 aA0
theorem roundsSm901_0 (z : List RC) (st : Nat × Int) (X : Nat → Value) (hI : aI8 z st) : bM8 z (bN0 z) (.exit 0) [] [] st X := by
  obtain ⟨tag, i⟩ := st
  have hI0 := hI
  obtain ⟨i0, i1, i2, i3, it⟩ := bY8 z tag i hI
  obtain rfl : tag = 0 := by omega
  skip
  by_cases h0 : i < (z.length : Int)
  · exact nxSm901_p0 hI0 h0
  · skip
    refine lvSm901_0 (h := aV6) rfl ?_ (aB4) runSm901_p1
    unfold aV6
    exact hc (kRlG aA8 (isX rfl) (denX rfl) (by first | omega | (simp <;> omega))) <|hc (ltF rfl rfl (by omega)) <|hnil
theorem bB9 {l : LF} {h : LH} (z : List RC) (st : Nat × Int) (hI : aI8 z st) (hl : l.hp = some h) (hs : aM1 l h 26 aK5 (.exit 0) 1 901 903 = true) {th0 : LA} {sg0 : List (Nat × Nat)} (hth0 : ∀ X, ThOk (cx nu one 0 aA5 aA0) (cG7 z st X) th0) (h0 : aH4 l h 26 901 903 th0 sg0 (bD6 st) (bW7 st) = true) {thx : LA} (hthx : ThOk (bN0 z) (cx nu one 0 aA5 aA0) thx) (hx : aM2 l h 26 901 903 thx [] [] = true) : LfOk (cx nu one 0 aA5 aA0) bE1 l :=
  bE6 (E := bN0 z) (aI8 z) (bI7 z) (cG7 z) (fun _ _ => rfl) (fun _ _ => rfl) (fun _ _ => rfl) (fun st X t ht => aG8.trans (aJ1 ((by decide : ∀ t, t ∈ aK5 → t < 1000000) t ht))) rfl rfl rfl hl hs ebSm901 rfl rfl st hI hth0 h0 hthx hx (roundsSm901_0 z)
noncomputable def aW3 : Code := aM9 (Try.f6.body.getD .skip) 0
theorem bQ7 : aL9 (aC5 (Try.f6.body.getD .skip)) 4 0 0 = true := by kernel_rfl
def aI2 : List Nat := []
def aV9 : LA := [(0, .sr 1301), (1, .sr 1302), (5, .x 0)]
def aV8 : LE := [(1301, .r 2000000 31 4 false), (1302, .r 2000001 31 4 false)]
def aE5 (z : List RC) (i : Int) : List Value := [.int .i64 (i), .int .i64 ((z.length : Int)), .int .i64 ((nthR z (Int.toNat (i))).1), .int .i64 ((nthR z (Int.toNat (i))).2.1), St' ((nthR z (Int.toNat (i))).2.2.1), .int .i64 ((nthR z (Int.toNat (i))).2.2.2), .int .i64 ((nthR z (Int.toNat (i))).1), .int .i64 ((nthR z (Int.toNat (i))).2.1), St' ((nthR z (Int.toNat (i))).2.2.1), .int .i64 ((nthR z (Int.toNat (i))).2.2.2), .int .i64 (i + 1), .int .i64 ((z.length : Int))]
def aJ9 (z : List RC) (i : Int) : List Value := [rwG reC z, rwG reC z]
def aT9 (st : Nat × Int) : LA := aV9
def bL1 (st : Nat × Int) : LE := aV8
def bI1 (z : List RC) (st : Nat × Int) : List Value := aE5 z (st.2)
def roSm1301 (z : List RC) (st : Nat × Int) : List Value := aJ9 z (st.2)
theorem onSm1301 (z : List RC) (st : Nat × Int) : ∀ j, (nuL (bI1 z st) j).oneCell' = true := by
  intro j
  unfold bI1
  exact aA6 (l := aE5 z (st.2)) rfl j
theorem ebSm1301 (st : Nat × Int) : (lfB (aT9 st) && lfC aI2) = true := by
  unfold aT9
  rfl
noncomputable def bN1 (z : List RC) (st : Nat × Int) (X : Nat → Value) : Cx := cx (nuX (bI1 z st) (rX (roSm1301 z st) X)) (aA7 (onSm1301 z st)) 0 aA5 aA0
def aH3 (z : List RC) (st : Nat × Int) : Prop := (0 ≤ (st.2)) ∧ ((st.2) ≤ (z.length : Int)) ∧ (z.length ≤ 200000) ∧ (∀ q, q ∈ z → reB q) ∧ ((st.1) < 1)
abbrev CjSm1301 (z : List RC) (tag : Nat) (i : Int) : Prop := (0 ≤ i) ∧ (i ≤ (z.length : Int)) ∧ (z.length ≤ 200000) ∧ (∀ q, q ∈ z → reB q) ∧ (tag < 1)
theorem bB6 {z : List RC} {tag : Nat} {i : Int} (h : CjSm1301 z tag i) : aH3 z (tag, i) := h
theorem bN3 (z : List RC) (tag : Nat) (i : Int) (h : aH3 z (tag, i)) : (0 ≤ i) ∧ (i ≤ (z.length : Int)) ∧ (z.length ≤ 200000) ∧ (∀ q, q ∈ z → reB q) ∧ (tag < 1) := h
def aY8 (z : List RC) (st : Nat × Int) : Nat := (z.length - (st.2).toNat)
abbrev aZ9 (z : List RC) (E' : Cx) (ex' : Ex) (epx' : LA) (hpx' : LE) (st : Nat × Int) (X : Nat → Value) : Prop := aC7 E' aW3 aI2 26 ex' 1 1301 1303 1303 aT9 bL1 epx' hpx' (aH3 z) (aY8 z) (bN1 z) st X
noncomputable abbrev aP7 (h : LK) (x : Ex) (th : LA) (sg : List (Nat × Nat)) (m : Nat) (ep : LA) (hp : LE) : Bool := aP9 (code (tbl h) 3000 [] aW3 (aI0 (aF0 aV9 aI2) 26) ⟨aC4 aV8 .leaf, 1303, 0, 0⟩) x aI2 26 1303 th sg 1301 m ep hp
theorem stSm1301_0 {z : List RC} {i : Int} {X : Nat → Value} {h : LK} (y : Nat × Int) {th : LA} {sg : List (Nat × Nat)} (ho : ∀ a' r', (a', r') ∈ h → HOk (cx (nuX (aE5 z i) (rX (aJ9 z i) X)) (aA7 (aA6 (l := aE5 z i) rfl)) 0 aA5 aA0) a' r') (hy : aH3 z y) (lt : aY8 z y < aY8 z (0, i)) (ht : ThOk (cx (nuX (aE5 z i) (rX (aJ9 z i) X)) (aA7 (aA6 (l := aE5 z i) rfl)) 0 aA5 aA0) (bN1 z y X) th) (run : aP7 h .normal th sg 1303 (aT9 y) (bL1 y) = true) : aZ9 z E' x' e' h' (0, i) X :=
  aC7.next (tb := tbl h) (L := []) (f := 3000) y ((aC2 _ _).hyps ho) (LpOk.nil _) rfl hy lt ht run
theorem lvSm1301_0 {z : List RC} {i : Int} {X : Nat → Value} {h : LK} {th : LA} {sg : List (Nat × Nat)} (hne : exB x' .normal = false) (ho : ∀ a' r', (a', r') ∈ h → HOk (cx (nuX (aE5 z i) (rX (aJ9 z i) X)) (aA7 (aA6 (l := aE5 z i) rfl)) 0 aA5 aA0) a' r') (ht : ThOk (cx (nuX (aE5 z i) (rX (aJ9 z i) X)) (aA7 (aA6 (l := aE5 z i) rfl)) 0 aA5 aA0) E' th) (run : aP7 h x' th sg 1303 e' h' = true) : aZ9 z E' x' e' h' (0, i) X :=
  aC7.leave (tb := tbl h) (L := []) (f := 3000) ((aC2 _ _).hyps ho) (LpOk.nil _) rfl hne ht run
def aR8 : LK := [(.rl (.x 2000000) 4, .x 1), (.bin .lss (.x 0) (.x 1), .b true), (.el (.x 2000000) (.x 0) 4 0, .x 2), (.el (.x 2000000) (.x 0) 4 1, .x 3), (.el (.x 2000000) (.x 0) 4 2, .x 4), (.el (.x 2000000) (.x 0) 4 3, .x 5), (.el (.x 2000001) (.x 0) 4 0, .x 6), (.el (.x 2000001) (.x 0) 4 1, .x 7), (.el (.x 2000001) (.x 0) 4 2, .x 8), (.el (.x 2000001) (.x 0) 4 3, .x 9), (.eq 3 (.x 2) (.x 6), .b true), (.eq 3 (.x 3) (.x 7), .b true), (.eq 9 (.x 4) (.x 8), .b true), (.eq 3 (.x 5) (.x 9), .b true), (.bin .add (.x 0) (I6 1), .x 10)]
theorem runSm1301_p0 : aP7 aR8 .normal [(0, .x 10), (2000000, .x 2000000), (2000001, .x 2000001)] [(1301, 1301), (1302, 1302)] 1303 aV9 aV8 = true := by kernel_rfl
def aR7 : LK := [(.rl (.x 2000000) 4, .x 11), (.bin .lss (.x 0) (.x 11), .b false)]
theorem runSm1301_p1 : aP7 aR7 (.exit 0) [] [] 1303 [] [] = true := by kernel_rfl
section
variable {z : List RC} {i : Int} {X : Nat → Value}
theorem nxSm1301_p0 (hI : aH3 z (0, i)) (h0 : i < (z.length : Int)) : aZ9 z E' x' e' h' (0, i) X := by
  obtain ⟨i0, i1, i2, i3, it⟩ := bN3 z 0 i hI
  have := reAt (l := z) (by assumption) (Int.toNat (i))
  refine stSm1301_0 (h := aR8) (0, (i + 1)) ?_ (bB6 ⟨by omega, by omega, by omega, i3, by omega⟩) (by show z.length - (i + 1).toNat < z.length - i.toNat; omega) (thXi (b := ((i + 1))) rfl rfl (by omega) (thXv (v := rwG reC z) rfl rfl (thXv (v := rwG reC z) rfl rfl (aB4)))) runSm1301_p0
  unfold aR8
  exact hc (kRlG aA8 (isX rfl) (denX rfl) (by first | omega | (simp <;> omega))) <|hc (ltT rfl rfl (by omega)) <|hc (kElG (j := (Int.toNat (i))) (d := (0, 0, [], 0)) aA8 (by decide) (isX rfl) (isX rfl) (denX rfl) (by omega) (by omega) rfl) <|hc (kElG (j := (Int.toNat (i))) (d := (0, 0, [], 0)) aA8 (by decide) (isX rfl) (isX rfl) (denX rfl) (by omega) (by omega) rfl) <|hc (kElG (j := (Int.toNat (i))) (d := (0, 0, [], 0)) aA8 (by decide) (isX rfl) (isX rfl) (denX rfl) (by omega) (by omega) rfl) <|hc (kElG (j := (Int.toNat (i))) (d := (0, 0, [], 0)) aA8 (by decide) (isX rfl) (isX rfl) (denX rfl) (by omega) (by omega) rfl) <|hc (kElG (j := (Int.toNat (i))) (d := (0, 0, [], 0)) aA8 (by decide) (isX rfl) (isX rfl) (denX rfl) (by omega) (by omega) rfl) <|hc (kElG (j := (Int.toNat (i))) (d := (0, 0, [], 0)) aA8 (by decide) (isX rfl) (isX rfl) (denX rfl) (by omega) (by omega) rfl) <|hc (kElG (j := (Int.toNat (i))) (d := (0, 0, [], 0)) aA8 (by decide) (isX rfl) (isX rfl) (denX rfl) (by omega) (by omega) rfl) <|hc (kElG (j := (Int.toNat (i))) (d := (0, 0, [], 0)) aA8 (by decide) (isX rfl) (isX rfl) (denX rfl) (by omega) (by omega) rfl) <|hc (kEqT (isX rfl) (isX rfl) tu3 (decide_eq_true (by omega))) <|hc (kEqT (isX rfl) (isX rfl) tu3 (decide_eq_true (by omega))) <|hc (kEqTS (isX rfl) (isX rfl) tu9 (decide_eq_true rfl)) <|hc (kEqT (isX rfl) (isX rfl) tu3 (decide_eq_true (by omega))) <|hc (adC rfl rfl (by omega)) <|hnil
end
def bB5 (z : List RC) : List Value := []
def roESm1301_0 (z : List RC) : List Value := []
noncomputable def bE4 (z : List RC) : Cx := cx (nuX (bB5 z) (rX (roESm1301_0 z) (fun _ => .bool true))) (aA7 (aA6 (l := bB5 z) rfl)) 0 aA5 aA0
theorem roundsSm1301_0 (z : List RC) (st : Nat × Int) (X : Nat → Value) (hI : aH3 z st) : aZ9 z (bE4 z) (.exit 0) [] [] st X := by
  obtain ⟨tag, i⟩ := st
  have hI0 := hI
  obtain ⟨i0, i1, i2, i3, it⟩ := bN3 z tag i hI
  obtain rfl : tag = 0 := by omega
  skip
  by_cases h0 : i < (z.length : Int)
  · exact nxSm1301_p0 hI0 h0
  · skip
    refine lvSm1301_0 (h := aR7) rfl ?_ (aB4) runSm1301_p1
    unfold aR7
    exact hc (kRlG aA8 (isX rfl) (denX rfl) (by first | omega | (simp <;> omega))) <|hc (ltF rfl rfl (by omega)) <|hnil
theorem aX0 {l : LF} {h : LH} (z : List RC) (st : Nat × Int) (hI : aH3 z st) (hl : l.hp = some h) (hs : aM1 l h 26 aI2 (.exit 0) 1 1301 1303 = true) {th0 : LA} {sg0 : List (Nat × Nat)} (hth0 : ∀ X, ThOk (cx nu one 0 aA5 aA0) (bN1 z st X) th0) (h0 : aH4 l h 26 1301 1303 th0 sg0 (aT9 st) (bL1 st) = true) {thx : LA} (hthx : ThOk (bE4 z) (cx nu one 0 aA5 aA0) thx) (hx : aM2 l h 26 1301 1303 thx [] [] = true) : LfOk (cx nu one 0 aA5 aA0) aW3 l :=
  bE6 (E := bE4 z) (aH3 z) (aY8 z) (bN1 z) (fun _ _ => rfl) (fun _ _ => rfl) (fun _ _ => rfl) (fun st X t ht => aG8.trans (aJ1 ((by decide : ∀ t, t ∈ aI2 → t < 1000000) t ht))) rfl rfl rfl hl hs ebSm1301 rfl rfl st hI hth0 h0 hthx hx (roundsSm1301_0 z)
noncomputable def fi3 : FI := (tabk.fn.get 3).getD default
theorem cO8 : tabk.fn.get 3 = some fi3 := by kernel_rfl
theorem bL7 : fi3.body = some (Try.f3.body.getD .skip) := by kernel_rfl
theorem fiB3 : fi3.body.isSome = true := by rw [bL7]; rfl
theorem cfA3 : (aC5 (Try.f3.body.getD .skip)).all (fun b => !(aY0 (Go.AX.keyOf b) 8888888)) = true := by kernel_rfl
noncomputable def fi6 : FI := (tabk.fn.get 6).getD default
theorem fi6_at : tabk.fn.get 6 = some fi6 := by kernel_rfl
theorem bL6 : fi6.body = some (Try.f6.body.getD .skip) := by kernel_rfl
theorem fiB6 : fi6.body.isSome = true := by rw [bL6]; rfl
theorem cfA6 : (aC5 (Try.f6.body.getD .skip)).all (fun b => !(aY0 (Go.AX.keyOf b) 8888888)) = true := by kernel_rfl
noncomputable def fi19 : FI := (tabk.fn.get 19).getD default
theorem fi19_at : tabk.fn.get 19 = some fi19 := by kernel_rfl
theorem bR7 : fi19.body = some (Try.f19.body.getD .skip) := by kernel_rfl
theorem fiB19 : fi19.body.isSome = true := by rw [bR7]; rfl
theorem cfA19 : (aC5 (Try.f19.body.getD .skip)).all (fun b => !(aY0 (Go.AX.keyOf b) 8888888)) = true := by kernel_rfl
noncomputable def fi21 : FI := (tabk.fn.get 21).getD default
theorem fi21_at : tabk.fn.get 21 = some fi21 := by kernel_rfl
theorem bR6 : fi21.body = some (Try.f21.body.getD .skip) := by kernel_rfl
theorem fiB21 : fi21.body.isSome = true := by rw [bR6]; rfl
theorem cfA21 : (aC5 (Try.f21.body.getD .skip)).all (fun b => !(aY0 (Go.AX.keyOf b) 8888888)) = true := by kernel_rfl
end Go.Proofs.Ytfoalkoifcpdmaa.framesTells
