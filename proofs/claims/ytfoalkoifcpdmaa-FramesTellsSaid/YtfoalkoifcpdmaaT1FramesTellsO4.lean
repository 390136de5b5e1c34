/- A part of the proof: an interpreter of the model's own code on partly known states, and that what it answers is what the program answers. No condition of its own. -/
import Derived.Test.YtfoalkoifcpdmaaT1FramesTellsO3
set_option maxRecDepth 100000
set_option linter.unusedVariables false
set_option linter.unusedSimpArgs false
set_option maxHeartbeats 4000000
namespace Go.Proofs.Ytfoalkoifcpdmaa.framesTells
open Go Go.AX Go.Proofs Go.Proofs.Ytfoalkoifcpdmaa
variable {nu : Nat → Value} {one : ∀ i, i < 1000000 → (nu i).oneCell' = true} {E' : Cx} {x' : Ex} {e' : LA} {h' : LE}
noncomputable def bM1 : Code := aM9 (Try.f3.body.getD .skip) 0
theorem keyOk1 : aL9 (aC5 (Try.f3.body.getD .skip)) 6 0 0 = true := by kernel_rfl
def aN2 : List Nat := [0, 1, 3]
def bX5 : LA := [(2, .sr 1), (9, .x 0)]
def bW9 : LE := [(1, .r 2000000 25 2 true)]
def aJ4 (z : List (LB × LB)) (i : Int) : List Value := [.int .i64 (i), .int .i64 ((z.length : Int)), St' ((nthP z (Int.toNat (i))).1), .int .i64 (((nthP z (Int.toNat (i))).1.length : Int)), St' ((nthP z (Int.toNat (i))).2), .int .i64 (((nthP z (Int.toNat (i))).2.length : Int)), .int .i64 (i + 1), .int .i64 ((z.length : Int)), St' ((nthP z (Int.toNat (i))).1), .int .i64 (((nthP z (Int.toNat (i))).1.length : Int)), .int .i64 ((z.length : Int)), St' ((nthP z (Int.toNat (i))).1), .int .i64 (((nthP z (Int.toNat (i))).1.length : Int)), St' ((nthP z (Int.toNat (i))).2), .int .i64 (((nthP z (Int.toNat (i))).2.length : Int)), .int .i64 ((z.length : Int))]
def bA4 (z : List (LB × LB)) (i : Int) : List Value := [rwG prC z, rwS ([] : List LB), rwS ([] : List LB), rwS ([] : List LB), rwS ([] : List LB)]
def cH5 (st : Nat × Int) : LA := bX5
def hpOk1 (st : Nat × Int) : LE := bW9
def nuOk1 (z : List (LB × LB)) (st : Nat × Int) : List Value := aJ4 z (st.2)
def roOk1 (z : List (LB × LB)) (st : Nat × Int) : List Value := bA4 z (st.2)
theorem onOk1 (z : List (LB × LB)) (st : Nat × Int) : ∀ j, (nuL (nuOk1 z st) j).oneCell' = true := by
  intro j
  unfold nuOk1
  exact aA6 (l := aJ4 z (st.2)) rfl j
theorem ebOk1 (st : Nat × Int) : (lfB (cH5 st) && lfC aN2) = true := by
  unfold cH5
  rfl
noncomputable def DOk1 (z : List (LB × LB)) (st : Nat × Int) (X : Nat → Value) : Cx := cx (nuX (nuOk1 z st) (rX (roOk1 z st) X)) (aA7 (onOk1 z st)) 0 aA5 aA0
def aO4 (z : List (LB × LB)) (st : Nat × Int) : Prop := (0 ≤ (st.2)) ∧ ((st.2) ≤ (z.length : Int)) ∧ (z.length ≤ 40) ∧ (∀ q, q ∈ z → prB q) ∧ (ok6 (z.take (Int.toNat (st.2)))) ∧ ((st.1) < 1)
abbrev CjOk1 (z : List (LB × LB)) (tag : Nat) (i : Int) : Prop := (0 ≤ i) ∧ (i ≤ (z.length : Int)) ∧ (z.length ≤ 40) ∧ (∀ q, q ∈ z → prB q) ∧ (ok6 (z.take (Int.toNat i))) ∧ (tag < 1)
theorem cM7 {z : List (LB × LB)} {tag : Nat} {i : Int} (h : CjOk1 z tag i) : aO4 z (tag, i) := h
theorem cI2 (z : List (LB × LB)) (tag : Nat) (i : Int) (h : aO4 z (tag, i)) : (0 ≤ i) ∧ (i ≤ (z.length : Int)) ∧ (z.length ≤ 40) ∧ (∀ q, q ∈ z → prB q) ∧ (ok6 (z.take (Int.toNat i))) ∧ (tag < 1) := h
def cM5 (z : List (LB × LB)) (st : Nat × Int) : Nat := (z.length - (st.2).toNat)
abbrev cQ8 (z : List (LB × LB)) (E' : Cx) (ex' : Ex) (epx' : LA) (hpx' : LE) (st : Nat × Int) (X : Nat → Value) : Prop := aC7 E' bM1 aN2 69 ex' 1 11 11 41 cH5 hpOk1 epx' hpx' (aO4 z) (cM5 z) (DOk1 z) st X
noncomputable abbrev aW5 (h : LK) (x : Ex) (th : LA) (sg : List (Nat × Nat)) (m : Nat) (ep : LA) (hp : LE) : Bool := aP9 (code (tbl h) 3000 [] bM1 (aI0 (aF0 bX5 aN2) 69) ⟨aC4 bW9 .leaf, 11, 0, 0⟩) x aN2 69 41 th sg 11 m ep hp
theorem stOk1_0 {z : List (LB × LB)} {i : Int} {X : Nat → Value} {h : LK} (y : Nat × Int) {th : LA} {sg : List (Nat × Nat)} (ho : ∀ a' r', (a', r') ∈ h → HOk (cx (nuX (aJ4 z i) (rX (bA4 z i) X)) (aA7 (aA6 (l := aJ4 z i) rfl)) 0 aA5 aA0) a' r') (hy : aO4 z y) (lt : cM5 z y < cM5 z (0, i)) (ht : ThOk (cx (nuX (aJ4 z i) (rX (bA4 z i) X)) (aA7 (aA6 (l := aJ4 z i) rfl)) 0 aA5 aA0) (DOk1 z y X) th) (run : aW5 h .normal th sg 11 (cH5 y) (hpOk1 y) = true) : cQ8 z E' x' e' h' (0, i) X :=
  aC7.next (tb := tbl h) (L := []) (f := 3000) y ((aC2 _ _).hyps ho) (LpOk.nil _) rfl hy lt ht run
theorem bV0 {z : List (LB × LB)} {i : Int} {X : Nat → Value} {h : LK} {th : LA} {sg : List (Nat × Nat)} (hne : exB x' .normal = false) (ho : ∀ a' r', (a', r') ∈ h → HOk (cx (nuX (aJ4 z i) (rX (bA4 z i) X)) (aA7 (aA6 (l := aJ4 z i) rfl)) 0 aA5 aA0) a' r') (ht : ThOk (cx (nuX (aJ4 z i) (rX (bA4 z i) X)) (aA7 (aA6 (l := aJ4 z i) rfl)) 0 aA5 aA0) E' th) (run : aW5 h x' th sg 41 e' h' = true) : cQ8 z E' x' e' h' (0, i) X :=
  aC7.leave (tb := tbl h) (L := []) (f := 3000) ((aC2 _ _).hyps ho) (LpOk.nil _) rfl hne ht run
def bK5 : LK := [(.rl (.x 2000000) 2, .x 1), (.bin .lss (.x 0) (.x 1), .b true), (.el (.x 2000000) (.x 0) 2 0, .x 2), (.len (.x 2), .x 3), (.bin .gtr (.x 3) (I6 600), .b false), (.el (.x 2000000) (.x 0) 2 1, .x 4), (.len (.x 4), .x 5), (.bin .gtr (.x 5) (I6 600), .b false), (.bin .add (.x 0) (I6 1), .x 6)]
theorem runOk1_p0 : aW5 bK5 .normal [(0, .x 6), (2000000, .x 2000000)] [] 11 bX5 bW9 = true := by kernel_rfl
def bK4 : LK := [(.rl (.x 2000000) 2, .x 7), (.bin .lss (.x 0) (.x 7), .b true), (.el (.x 2000000) (.x 0) 2 0, .x 8), (.len (.x 8), .x 9), (.bin .gtr (.x 9) (I6 600), .b true)]
theorem runOk1_p1 : aW5 bK4 .ret [] [] 41 [(8, .b true)] [] = true := by kernel_rfl
def bK3 : LK := [(.rl (.x 2000000) 2, .x 10), (.bin .lss (.x 0) (.x 10), .b true), (.el (.x 2000000) (.x 0) 2 0, .x 11), (.len (.x 11), .x 12), (.bin .gtr (.x 12) (I6 600), .b false), (.el (.x 2000000) (.x 0) 2 1, .x 13), (.len (.x 13), .x 14), (.bin .gtr (.x 14) (I6 600), .b true)]
theorem runOk1_p2 : aW5 bK3 .ret [] [] 41 [(8, .b true)] [] = true := by kernel_rfl
def bK2 : LK := [(.rl (.x 2000000) 2, .x 15), (.bin .lss (.x 0) (.x 15), .b false)]
theorem runOk1_p3 : aW5 bK2 (.exit 0) [(2000000, .x 2000000)] [] 41 [(2, .sr 1)] [(1, .r 2000000 25 2 true)] = true := by kernel_rfl
section
variable {z : List (LB × LB)} {i : Int} {X : Nat → Value}
theorem cC0 (hI : aO4 z (0, i)) (h0 : i < (z.length : Int)) (h1 : ¬ (600 < ((nthP z (Int.toNat (i))).1.length : Int))) (h2 : ¬ (600 < ((nthP z (Int.toNat (i))).2.length : Int))) : cQ8 z E' x' e' h' (0, i) X := by
  obtain ⟨i0, i1, i2, i3, i4, it⟩ := cI2 z 0 i hI
  have := prAt (l := z) (by assumption) (Int.toNat (i))
  refine stOk1_0 (h := bK5) (0, (i + 1)) ?_ (cM7 ⟨by omega, by omega, i2, i3, ok6_snoc i0 (by omega) i4 (by omega) (by omega), by omega⟩) (by show z.length - (i + 1).toNat < z.length - i.toNat; omega) (thXi (b := ((i + 1))) rfl rfl (by omega) (thXv (v := rwG prC z) rfl rfl (aB4))) runOk1_p0
  unfold bK5
  exact hc (kRlG aD0 (isX rfl) (denX rfl) (by first | omega | (simp <;> omega))) <|hc (ltT rfl rfl (by omega)) <|hc (kElG (j := (Int.toNat (i))) (d := ([], [])) aD0 (by decide) (isX rfl) (isX rfl) (denX rfl) (by omega) (by omega) rfl) <|hc (lnV rfl rfl (by omega)) <|hc (gtcF rfl (by omega)) <|hc (kElG (j := (Int.toNat (i))) (d := ([], [])) aD0 (by decide) (isX rfl) (isX rfl) (denX rfl) (by omega) (by omega) rfl) <|hc (lnV rfl rfl (by omega)) <|hc (gtcF rfl (by omega)) <|hc (adC rfl rfl (by omega)) <|hnil
end
def cC6 (z : List (LB × LB)) : List Value := []
def roEOk1_0 (z : List (LB × LB)) : List Value := [rwG prC z]
noncomputable def cR3 (z : List (LB × LB)) : Cx := cx (nuX (cC6 z) (rX (roEOk1_0 z) (fun _ => .bool true))) (aA7 (aA6 (l := cC6 z) rfl)) 0 aA5 aA0
theorem roundsOk1_0 (z : List (LB × LB)) (x0 : ok6 z) (st : Nat × Int) (X : Nat → Value) (hI : aO4 z st) : cQ8 z (cR3 z) (.exit 0) [(2, .sr 1)] [(1, .r 2000000 25 2 true)] st X := by
  obtain ⟨tag, i⟩ := st
  have hI0 := hI
  obtain ⟨i0, i1, i2, i3, i4, it⟩ := cI2 z tag i hI
  obtain rfl : tag = 0 := by omega
  skip
  by_cases h0 : i < (z.length : Int)
  · by_cases h1 : 600 < ((nthP z (Int.toNat (i))).1.length : Int)
    · exfalso; have hC := x0 _ (aM8 (z := z) i0 (by omega)); omega
    · by_cases h2 : 600 < ((nthP z (Int.toNat (i))).2.length : Int)
      · exfalso; have hC := x0 _ (aM8 (z := z) i0 (by omega)); omega
      · exact cC0 hI0 h0 h1 h2
  · skip
    refine bV0 (h := bK2) rfl ?_ (thXv (v := rwG prC z) rfl rfl (aB4)) runOk1_p3
    unfold bK2
    exact hc (kRlG aD0 (isX rfl) (denX rfl) (by first | omega | (simp <;> omega))) <|hc (ltF rfl rfl (by omega)) <|hnil
theorem lfOkOk1_0 {l : LF} {h : LH} (z : List (LB × LB)) (x0 : ok6 z) (st : Nat × Int) (hI : aO4 z st) (hl : l.hp = some h) (hs : aM1 l h 69 aN2 (.exit 0) 1 11 41 = true) {th0 : LA} {sg0 : List (Nat × Nat)} (hth0 : ∀ X, ThOk (cx nu one 0 aA5 aA0) (DOk1 z st X) th0) (h0 : aH4 l h 69 11 11 th0 sg0 (cH5 st) (hpOk1 st) = true) {thx : LA} (hthx : ThOk (cR3 z) (cx nu one 0 aA5 aA0) thx) (hx : aM2 l h 69 11 41 thx [(2, .sr 1)] [(1, .r 2000000 25 2 true)] = true) : LfOk (cx nu one 0 aA5 aA0) bM1 l :=
  bE6 (E := cR3 z) (aO4 z) (cM5 z) (DOk1 z) (fun _ _ => rfl) (fun _ _ => rfl) (fun _ _ => rfl) (fun st X t ht => aG8.trans (aJ1 ((by decide : ∀ t, t ∈ aN2 → t < 1000000) t ht))) rfl rfl rfl hl hs ebOk1 rfl rfl st hI hth0 h0 hthx hx (roundsOk1_0 z x0)
def cC5 (z : List (LB × LB)) : List Value := []
def roEOk1_1 (z : List (LB × LB)) : List Value := []
noncomputable def cR2 (z : List (LB × LB)) : Cx := cx (nuX (cC5 z) (rX (roEOk1_1 z) (fun _ => .bool true))) (aA7 (aA6 (l := cC5 z) rfl)) 0 aA5 aA0
theorem roundsOk1_1 (z : List (LB × LB)) (x0 : ¬ ok6 z) (st : Nat × Int) (X : Nat → Value) (hI : aO4 z st) : cQ8 z (cR2 z) .ret [(8, .b true)] [] st X := by
  obtain ⟨tag, i⟩ := st
  have hI0 := hI
  obtain ⟨i0, i1, i2, i3, i4, it⟩ := cI2 z tag i hI
  obtain rfl : tag = 0 := by omega
  skip
  by_cases h0 : i < (z.length : Int)
  · by_cases h1 : 600 < ((nthP z (Int.toNat (i))).1.length : Int)
    · skip
      have := prAt (l := z) (by assumption) (Int.toNat (i))
      refine bV0 (h := bK4) rfl ?_ (aB4) runOk1_p1
      unfold bK4
      exact hc (kRlG aD0 (isX rfl) (denX rfl) (by first | omega | (simp <;> omega))) <|hc (ltT rfl rfl (by omega)) <|hc (kElG (j := (Int.toNat (i))) (d := ([], [])) aD0 (by decide) (isX rfl) (isX rfl) (denX rfl) (by omega) (by omega) rfl) <|hc (lnV rfl rfl (by omega)) <|hc (gtcT rfl (by omega)) <|hnil
    · by_cases h2 : 600 < ((nthP z (Int.toNat (i))).2.length : Int)
      · skip
        have := prAt (l := z) (by assumption) (Int.toNat (i))
        refine bV0 (h := bK3) rfl ?_ (aB4) runOk1_p2
        unfold bK3
        exact hc (kRlG aD0 (isX rfl) (denX rfl) (by first | omega | (simp <;> omega))) <|hc (ltT rfl rfl (by omega)) <|hc (kElG (j := (Int.toNat (i))) (d := ([], [])) aD0 (by decide) (isX rfl) (isX rfl) (denX rfl) (by omega) (by omega) rfl) <|hc (lnV rfl rfl (by omega)) <|hc (gtcF rfl (by omega)) <|hc (kElG (j := (Int.toNat (i))) (d := ([], [])) aD0 (by decide) (isX rfl) (isX rfl) (denX rfl) (by omega) (by omega) rfl) <|hc (lnV rfl rfl (by omega)) <|hc (gtcT rfl (by omega)) <|hnil
      · exact cC0 hI0 h0 h1 h2
  · exfalso; exact x0 (ok6_end i0 (by omega) i4)
theorem lfOkOk1_1 {l : LF} {h : LH} (z : List (LB × LB)) (x0 : ¬ ok6 z) (st : Nat × Int) (hI : aO4 z st) (hl : l.hp = some h) (hs : aM1 l h 69 aN2 .ret 1 11 41 = true) {th0 : LA} {sg0 : List (Nat × Nat)} (hth0 : ∀ X, ThOk (cx nu one 0 aA5 aA0) (DOk1 z st X) th0) (h0 : aH4 l h 69 11 11 th0 sg0 (cH5 st) (hpOk1 st) = true) {thx : LA} (hthx : ThOk (cR2 z) (cx nu one 0 aA5 aA0) thx) (hx : aM2 l h 69 11 41 thx [(8, .b true)] [] = true) : LfOk (cx nu one 0 aA5 aA0) bM1 l :=
  bE6 (E := cR2 z) (aO4 z) (cM5 z) (DOk1 z) (fun _ _ => rfl) (fun _ _ => rfl) (fun _ _ => rfl) (fun st X t ht => aG8.trans (aJ1 ((by decide : ∀ t, t ∈ aN2 → t < 1000000) t ht))) rfl rfl rfl hl hs ebOk1 rfl rfl st hI hth0 h0 hthx hx (roundsOk1_1 z x0)
noncomputable def bM2 : Code := aM9 (Try.f19.body.getD .skip) 0
theorem keyBy1 : aL9 (aC5 (Try.f19.body.getD .skip)) 3 0 0 = true := by kernel_rfl
def aN3 : List Nat := []
def cP3 : LA := [(3, .p 61 0), (6, .sr 1), (7, .x 0), (8, .x 1)]
def cO1 : LE := [(1, .r 2000000 25 2 true), (61, bk 54 [.nilp, .nils])]
def aJ6 (z : List (LB × LB)) (i : Int) (T : LB) : List Value := [.int .i64 ((z.length : Int)), .int .i64 (i), St' ([] : LB), St' ((nthP z (Int.toNat (i))).1), St' ((nthP z (Int.toNat (i))).2), .int .i64 (((nthP z (Int.toNat (i))).1.length : Int)), St' (lnB ((nthP z (Int.toNat (i))).1.length : Int)), .int .i64 (((nthP z (Int.toNat (i))).2.length : Int)), St' (lnB ((nthP z (Int.toNat (i))).2.length : Int)), St' ((lnB ((nthP z (Int.toNat (i))).1.length : Int)) ++ (lnB ((nthP z (Int.toNat (i))).2.length : Int))), St' ((lnB ((nthP z (Int.toNat (i))).1.length : Int)) ++ ((lnB ((nthP z (Int.toNat (i))).2.length : Int)) ++ (nthP z (Int.toNat (i))).1)), St' ((lnB ((nthP z (Int.toNat (i))).1.length : Int)) ++ ((lnB ((nthP z (Int.toNat (i))).2.length : Int)) ++ ((nthP z (Int.toNat (i))).1 ++ (nthP z (Int.toNat (i))).2))), .int .u8 (bt ((lnB ((nthP z (Int.toNat (i))).1.length : Int)) ++ ((lnB ((nthP z (Int.toNat (i))).2.length : Int)) ++ ((nthP z (Int.toNat (i))).1 ++ (nthP z (Int.toNat (i))).2))) 0), .int .i64 (((lnB ((nthP z (Int.toNat (i))).1.length : Int)).length : Int) + ((lnB ((nthP z (Int.toNat (i))).2.length : Int)).length : Int) + ((nthP z (Int.toNat (i))).1.length : Int) + ((nthP z (Int.toNat (i))).2.length : Int)), .int .i64 (i + 1)]
def bA6 (z : List (LB × LB)) (i : Int) (T : LB) : List Value := [rwG prC z, rwS ([] : List LB)]
def bM0 : LA := [(3, .p 61 0), (6, .sr 1), (7, .x 0), (8, .x 1)]
def bL2 : LE := [(1, .r 2000000 25 2 true), (61, bk 54 [.p 61 0, .sy 62]), (62, .t 2 5)]
def aJ5 (z : List (LB × LB)) (i : Int) (T : LB) : List Value := [.int .i64 ((z.length : Int)), .int .i64 (i), St' T, St' ([] : LB), St' ((nthP z (Int.toNat (i))).1), St' ((nthP z (Int.toNat (i))).2), .int .i64 (((nthP z (Int.toNat (i))).1.length : Int)), St' (lnB ((nthP z (Int.toNat (i))).1.length : Int)), .int .i64 (((nthP z (Int.toNat (i))).2.length : Int)), St' (lnB ((nthP z (Int.toNat (i))).2.length : Int)), St' ((lnB ((nthP z (Int.toNat (i))).1.length : Int)) ++ (lnB ((nthP z (Int.toNat (i))).2.length : Int))), St' ((lnB ((nthP z (Int.toNat (i))).1.length : Int)) ++ ((lnB ((nthP z (Int.toNat (i))).2.length : Int)) ++ (nthP z (Int.toNat (i))).1)), St' ((lnB ((nthP z (Int.toNat (i))).1.length : Int)) ++ ((lnB ((nthP z (Int.toNat (i))).2.length : Int)) ++ ((nthP z (Int.toNat (i))).1 ++ (nthP z (Int.toNat (i))).2))), St' (T ++ ((lnB ((nthP z (Int.toNat (i))).1.length : Int)) ++ ((lnB ((nthP z (Int.toNat (i))).2.length : Int)) ++ ((nthP z (Int.toNat (i))).1 ++ (nthP z (Int.toNat (i))).2)))), .int .i64 (((lnB ((nthP z (Int.toNat (i))).1.length : Int)).length : Int) + ((lnB ((nthP z (Int.toNat (i))).2.length : Int)).length : Int) + ((nthP z (Int.toNat (i))).1.length : Int) + ((nthP z (Int.toNat (i))).2.length : Int)), .int .i64 (i + 1), St' ([] : LB)]
def bA5 (z : List (LB × LB)) (i : Int) (T : LB) : List Value := [rwG prC z, rwS ([] : List LB), rwS ([] : List LB)]
def cH6 (st : Nat × Int × LB) : LA := if st.1 = 0 then cP3 else bM0
def hpBy1 (st : Nat × Int × LB) : LE := if st.1 = 0 then cO1 else bL2
def nuBy1 (z : List (LB × LB)) (st : Nat × Int × LB) : List Value := if st.1 = 0 then aJ6 z (st.2.1) (st.2.2) else aJ5 z (st.2.1) (st.2.2)
def roBy1 (z : List (LB × LB)) (st : Nat × Int × LB) : List Value := if st.1 = 0 then bA6 z (st.2.1) (st.2.2) else bA5 z (st.2.1) (st.2.2)
theorem onBy1 (z : List (LB × LB)) (st : Nat × Int × LB) : ∀ j, (nuL (nuBy1 z st) j).oneCell' = true := by
  intro j
  unfold nuBy1
  by_cases g0 : st.1 = 0
  · rw [if_pos g0]; exact aA6 (l := aJ6 z (st.2.1) (st.2.2)) rfl j
  rw [if_neg g0]
  exact aA6 (l := aJ5 z (st.2.1) (st.2.2)) rfl j
theorem ebBy1 (st : Nat × Int × LB) : (lfB (cH6 st) && lfC aN3) = true := by
  unfold cH6
  by_cases g0 : st.1 = 0
  · rw [if_pos g0]; rfl
  rw [if_neg g0]
  rfl
noncomputable def DBy1 (z : List (LB × LB)) (st : Nat × Int × LB) (X : Nat → Value) : Cx := cx (nuX (nuBy1 z st) (rX (roBy1 z st) X)) (aA7 (onBy1 z st)) 0 aA5 aA0
def aQ9 (z : List (LB × LB)) (st : Nat × Int × LB) : Prop := (0 ≤ (st.2.1)) ∧ ((st.2.1) ≤ (z.length : Int)) ∧ (z.length ≤ 40) ∧ (∀ q, q ∈ z → prB q) ∧ (ok6 z) ∧ ((st.2.2) = pS (z.take (Int.toNat (st.2.1)))) ∧ (((st.2.2).length : Int) ≤ 1208 * (st.2.1)) ∧ ((st.1) = 0 → (st.2.1) = 0) ∧ (1 ≤ z.length) ∧ ((st.1) < 2)
abbrev CjBy1 (z : List (LB × LB)) (tag : Nat) (i : Int) (T : LB) : Prop := (0 ≤ i) ∧ (i ≤ (z.length : Int)) ∧ (z.length ≤ 40) ∧ (∀ q, q ∈ z → prB q) ∧ (ok6 z) ∧ (T = pS (z.take (Int.toNat i))) ∧ ((T.length : Int) ≤ 1208 * i) ∧ (tag = 0 → i = 0) ∧ (1 ≤ z.length) ∧ (tag < 2)
theorem cM8 {z : List (LB × LB)} {tag : Nat} {i : Int} {T : LB} (h : CjBy1 z tag i T) : aQ9 z (tag, i, T) := h
theorem cI3 (z : List (LB × LB)) (tag : Nat) (i : Int) (T : LB) (h : aQ9 z (tag, i, T)) : (0 ≤ i) ∧ (i ≤ (z.length : Int)) ∧ (z.length ≤ 40) ∧ (∀ q, q ∈ z → prB q) ∧ (ok6 z) ∧ (T = pS (z.take (Int.toNat i))) ∧ ((T.length : Int) ≤ 1208 * i) ∧ (tag = 0 → i = 0) ∧ (1 ≤ z.length) ∧ (tag < 2) := h
def cH1 (z : List (LB × LB)) (st : Nat × Int × LB) : Nat := (z.length - (st.2.1).toNat)
abbrev bY4 (z : List (LB × LB)) (E' : Cx) (ex' : Ex) (epx' : LA) (hpx' : LE) (st : Nat × Int × LB) (X : Nat → Value) : Prop := aC7 E' bM2 aN3 30 ex' 1 61 63 101 cH6 hpBy1 epx' hpx' (aQ9 z) (cH1 z) (DBy1 z) st X
noncomputable abbrev bY3 (h : LK) (x : Ex) (th : LA) (sg : List (Nat × Nat)) (m : Nat) (ep : LA) (hp : LE) : Bool := aP9 (code (tbl h) 3000 [] bM2 (aI0 (aF0 cP3 aN3) 30) ⟨aC4 cO1 .leaf, 63, 0, 0⟩) x aN3 30 101 th sg 61 m ep hp
theorem stBy1_0 {z : List (LB × LB)} {i : Int} {T : LB} {X : Nat → Value} {h : LK} (y : Nat × Int × LB) {th : LA} {sg : List (Nat × Nat)} (ho : ∀ a' r', (a', r') ∈ h → HOk (cx (nuX (aJ6 z i T) (rX (bA6 z i T) X)) (aA7 (aA6 (l := aJ6 z i T) rfl)) 0 aA5 aA0) a' r') (hy : aQ9 z y) (lt : cH1 z y < cH1 z (0, i, T)) (ht : ThOk (cx (nuX (aJ6 z i T) (rX (bA6 z i T) X)) (aA7 (aA6 (l := aJ6 z i T) rfl)) 0 aA5 aA0) (DBy1 z y X) th) (run : bY3 h .normal th sg 63 (cH6 y) (hpBy1 y) = true) : bY4 z E' x' e' h' (0, i, T) X :=
  aC7.next (tb := tbl h) (L := []) (f := 3000) y ((aC2 _ _).hyps ho) (LpOk.nil _) rfl hy lt ht run
theorem lvBy1_0 {z : List (LB × LB)} {i : Int} {T : LB} {X : Nat → Value} {h : LK} {th : LA} {sg : List (Nat × Nat)} (hne : exB x' .normal = false) (ho : ∀ a' r', (a', r') ∈ h → HOk (cx (nuX (aJ6 z i T) (rX (bA6 z i T) X)) (aA7 (aA6 (l := aJ6 z i T) rfl)) 0 aA5 aA0) a' r') (ht : ThOk (cx (nuX (aJ6 z i T) (rX (bA6 z i T) X)) (aA7 (aA6 (l := aJ6 z i T) rfl)) 0 aA5 aA0) E' th) (run : bY3 h x' th sg 101 e' h' = true) : bY4 z E' x' e' h' (0, i, T) X :=
  aC7.leave (tb := tbl h) (L := []) (f := 3000) ((aC2 _ _).hyps ho) (LpOk.nil _) rfl hne ht run
noncomputable abbrev bM7 (h : LK) (x : Ex) (th : LA) (sg : List (Nat × Nat)) (m : Nat) (ep : LA) (hp : LE) : Bool := aP9 (code (tbl h) 3000 [] bM2 (aI0 (aF0 bM0 aN3) 30) ⟨aC4 bL2 .leaf, 63, 0, 0⟩) x aN3 30 101 th sg 61 m ep hp
theorem stBy1_1 {z : List (LB × LB)} {i : Int} {T : LB} {X : Nat → Value} {h : LK} (y : Nat × Int × LB) {th : LA} {sg : List (Nat × Nat)} (ho : ∀ a' r', (a', r') ∈ h → HOk (cx (nuX (aJ5 z i T) (rX (bA5 z i T) X)) (aA7 (aA6 (l := aJ5 z i T) rfl)) 0 aA5 aA0) a' r') (hy : aQ9 z y) (lt : cH1 z y < cH1 z (1, i, T)) (ht : ThOk (cx (nuX (aJ5 z i T) (rX (bA5 z i T) X)) (aA7 (aA6 (l := aJ5 z i T) rfl)) 0 aA5 aA0) (DBy1 z y X) th) (run : bM7 h .normal th sg 63 (cH6 y) (hpBy1 y) = true) : bY4 z E' x' e' h' (1, i, T) X :=
  aC7.next (tb := tbl h) (L := []) (f := 3000) y ((aC2 _ _).hyps ho) (LpOk.nil _) rfl hy lt ht run
theorem lvBy1_1 {z : List (LB × LB)} {i : Int} {T : LB} {X : Nat → Value} {h : LK} {th : LA} {sg : List (Nat × Nat)} (hne : exB x' .normal = false) (ho : ∀ a' r', (a', r') ∈ h → HOk (cx (nuX (aJ5 z i T) (rX (bA5 z i T) X)) (aA7 (aA6 (l := aJ5 z i T) rfl)) 0 aA5 aA0) a' r') (ht : ThOk (cx (nuX (aJ5 z i T) (rX (bA5 z i T) X)) (aA7 (aA6 (l := aJ5 z i T) rfl)) 0 aA5 aA0) E' th) (run : bM7 h x' th sg 101 e' h' = true) : bY4 z E' x' e' h' (1, i, T) X :=
  aC7.leave (tb := tbl h) (L := []) (f := 3000) ((aC2 _ _).hyps ho) (LpOk.nil _) rfl hne ht run
def bL0 : LK := [(.bin .lss (.x 1) (.x 0), .b true), (.el (.x 2000000) (.x 1) 2 0, .x 3), (.el (.x 2000000) (.x 1) 2 1, .x 4), (.len (.x 3), .x 5), (.call 29 [.x 5], .x 6), (.len (.x 4), .x 7), (.call 29 [.x 7], .x 8), (.bin .add (.x 6) (.x 8), .x 9), (.bin .add (.x 9) (.x 3), .x 10), (.bin .add (.x 10) (.x 4), .x 11), (.byt (.x 11) (I6 0), .x 12), (.fit (.x 11), .b true), (.len (.x 11), .x 13), (.bin .add (.x 1) (I6 1), .x 14)]
theorem runBy1_p0 : bY3 bL0 .normal [(0, .x 0), (1, .x 14), (2, .x 11), (2000000, .x 2000000)] [(61, 61), (62, 64)] 63 bM0 bL2 = true := by kernel_rfl
def bK9 : LK := [(.bin .lss (.x 1) (.x 0), .b true), (.el (.x 2000000) (.x 1) 2 0, .x 4), (.el (.x 2000000) (.x 1) 2 1, .x 5), (.len (.x 4), .x 6), (.call 29 [.x 6], .x 7), (.len (.x 5), .x 8), (.call 29 [.x 8], .x 9), (.bin .add (.x 7) (.x 9), .x 10), (.bin .add (.x 10) (.x 4), .x 11), (.bin .add (.x 11) (.x 5), .x 12), (.bin .add (.x 2) (.x 12), .x 13), (.fit (.x 13), .b true), (.len (.x 12), .x 14), (.bin .add (.x 1) (I6 1), .x 15)]
theorem runBy1_p1 : bM7 bK9 .normal [(0, .x 0), (1, .x 15), (2, .x 13), (2000000, .x 2000000)] [(61, 61), (62, 64)] 63 bM0 bL2 = true := by kernel_rfl
def bK8 : LK := [(.bin .lss (.x 1) (.x 0), .b false)]
theorem runBy1_p2 : bM7 bK8 (.exit 0) [(0, .x 2), (2000000, .x 2000000)] [(61, 61), (62, 62)] 101 [(3, .p 61 0)] [(1, .r 2000000 25 2 true), (61, bk 54 [.p 61 0, .sy 62]), (62, .t 0 5)] = true := by kernel_rfl
section
variable {z : List (LB × LB)} {i : Int} {T : LB} {X : Nat → Value}
theorem nxBy1_p0 (hI : aQ9 z (0, i, T)) : bY4 z E' x' e' h' (0, i, T) X := by
  obtain ⟨i0, i1, i2, i3, i4, i5, i6, i7, i8, it⟩ := cI3 z 0 i T hI
  have h6 := i4 _ (aM8 (z := z) i0 (by omega))
  have := prAt (l := z) (by assumption) (Int.toNat (i))
  have := aP0 ((nthP z (Int.toNat (i))).1.length : Int)
  have := aP0 ((nthP z (Int.toNat (i))).2.length : Int)
  have := cH8 ((lnB ((nthP z (Int.toNat (i))).1.length : Int)) ++ ((lnB ((nthP z (Int.toNat (i))).2.length : Int)) ++ ((nthP z (Int.toNat (i))).1 ++ (nthP z (Int.toNat (i))).2))) 0; have := cH9 ((lnB ((nthP z (Int.toNat (i))).1.length : Int)) ++ ((lnB ((nthP z (Int.toNat (i))).2.length : Int)) ++ ((nthP z (Int.toNat (i))).1 ++ (nthP z (Int.toNat (i))).2))) 0
  have hsn := bU4 (z := z) (T := ([] : LB)) i0 (by omega) (by rw [i7 rfl]; rfl)
  have hpl := cB5 (p := nthP z (Int.toNat i)) h6.1 h6.2
  have hsa : (([] : LB) ++ pB (nthP z (Int.toNat i))).length = ([] : LB).length + (pB (nthP z (Int.toNat i))).length := List.length_append
  refine stBy1_0 (h := bL0) (1, (i + 1), ((lnB ((nthP z (Int.toNat (i))).1.length : Int)) ++ ((lnB ((nthP z (Int.toNat (i))).2.length : Int)) ++ ((nthP z (Int.toNat (i))).1 ++ (nthP z (Int.toNat (i))).2)))) ?_ (cM8 ⟨by omega, by omega, i2, i3, i4, hsn, by show (((pB (nthP z (Int.toNat i))).length : Nat) : Int) ≤ _; omega, fun h => by omega, i8, by omega⟩) (by show z.length - (i + 1).toNat < z.length - i.toNat; omega) (thXv (v := .int .i64 ((z.length : Int))) rfl rfl (thXi (b := ((i + 1))) rfl rfl (by omega) (thXv (v := St' ((lnB ((nthP z (Int.toNat (i))).1.length : Int)) ++ ((lnB ((nthP z (Int.toNat (i))).2.length : Int)) ++ ((nthP z (Int.toNat (i))).1 ++ (nthP z (Int.toNat (i))).2)))) rfl rfl (thXv (v := rwG prC z) rfl rfl (aB4))))) runBy1_p0
  unfold bL0
  exact hc (ltT rfl rfl (by omega)) <|hc (kElG (j := (Int.toNat (i))) (d := ([], [])) aD0 (by decide) (isX rfl) (isX rfl) (denX rfl) (by omega) (by omega) rfl) <|hc (kElG (j := (Int.toNat (i))) (d := ([], [])) aD0 (by decide) (isX rfl) (isX rfl) (denX rfl) (by omega) (by omega) rfl) <|hc (lnV rfl rfl (by omega)) <|hc (cE9 (isX rfl) (denX rfl) (by omega) (by omega)) <|hc (lnV rfl rfl (by omega)) <|hc (cE9 (isX rfl) (denX rfl) (by omega) (by omega)) <|hc (kCat (isX rfl) (isX rfl) (denX rfl) (by first | rfl | (simp; done)) (by omega)) <|hc (kCat (isX rfl) (isX rfl) (denX rfl) (by first | rfl | (simp; done)) (by first | omega | (simp <;> omega))) <|hc (kCat (isX rfl) (isX rfl) (denX rfl) (by first | rfl | (simp; done)) (by first | omega | (simp <;> omega))) <|hc (kByt (i := 0) (isX rfl) (isZ (m := 0) rfl) (denX rfl) rfl (by first | omega | (simp <;> omega)) rfl) <|hc (kFit (isX rfl) (by first | omega | (simp <;> omega))) <|hc (lnV rfl rfl (by first | omega | (simp <;> omega))) <|hc (adC rfl rfl (by omega)) <|hnil
theorem nxBy1_p1 (hI : aQ9 z (1, i, T)) (h0 : i < (z.length : Int)) : bY4 z E' x' e' h' (1, i, T) X := by
  obtain ⟨i0, i1, i2, i3, i4, i5, i6, i7, i8, it⟩ := cI3 z 1 i T hI
  have h6 := i4 _ (aM8 (z := z) i0 (by omega))
  have := prAt (l := z) (by assumption) (Int.toNat (i))
  have := aP0 ((nthP z (Int.toNat (i))).1.length : Int)
  have := aP0 ((nthP z (Int.toNat (i))).2.length : Int)
  have hsn := bU4 (z := z) (T := T) i0 (by omega) i5
  have hpl := cB5 (p := nthP z (Int.toNat i)) h6.1 h6.2
  have hsa : (T ++ pB (nthP z (Int.toNat i))).length = T.length + (pB (nthP z (Int.toNat i))).length := List.length_append
  refine stBy1_1 (h := bK9) (1, (i + 1), (T ++ ((lnB ((nthP z (Int.toNat (i))).1.length : Int)) ++ ((lnB ((nthP z (Int.toNat (i))).2.length : Int)) ++ ((nthP z (Int.toNat (i))).1 ++ (nthP z (Int.toNat (i))).2))))) ?_ (cM8 ⟨by omega, by omega, i2, i3, i4, hsn, by first | omega | (simp only [List.length_append, List.length_nil] at *; omega), fun h => by omega, i8, by omega⟩) (by show z.length - (i + 1).toNat < z.length - i.toNat; omega) (thXv (v := .int .i64 ((z.length : Int))) rfl rfl (thXi (b := ((i + 1))) rfl rfl (by omega) (thXv (v := St' (T ++ ((lnB ((nthP z (Int.toNat (i))).1.length : Int)) ++ ((lnB ((nthP z (Int.toNat (i))).2.length : Int)) ++ ((nthP z (Int.toNat (i))).1 ++ (nthP z (Int.toNat (i))).2))))) rfl rfl (thXv (v := rwG prC z) rfl rfl (aB4))))) runBy1_p1
  unfold bK9
  exact hc (ltT rfl rfl (by omega)) <|hc (kElG (j := (Int.toNat (i))) (d := ([], [])) aD0 (by decide) (isX rfl) (isX rfl) (denX rfl) (by omega) (by omega) rfl) <|hc (kElG (j := (Int.toNat (i))) (d := ([], [])) aD0 (by decide) (isX rfl) (isX rfl) (denX rfl) (by omega) (by omega) rfl) <|hc (lnV rfl rfl (by omega)) <|hc (cE9 (isX rfl) (denX rfl) (by omega) (by omega)) <|hc (lnV rfl rfl (by omega)) <|hc (cE9 (isX rfl) (denX rfl) (by omega) (by omega)) <|hc (kCat (isX rfl) (isX rfl) (denX rfl) (by first | rfl | (simp; done)) (by omega)) <|hc (kCat (isX rfl) (isX rfl) (denX rfl) (by first | rfl | (simp; done)) (by first | omega | (simp <;> omega))) <|hc (kCat (isX rfl) (isX rfl) (denX rfl) (by first | rfl | (simp; done)) (by first | omega | (simp <;> omega))) <|hc (kCat (isX rfl) (isX rfl) (denX rfl) (by first | rfl | (simp; done)) (by first | omega | (simp <;> omega))) <|hc (kFit (isX rfl) (by first | omega | (simp <;> omega))) <|hc (lnV rfl rfl (by first | omega | (simp <;> omega))) <|hc (adC rfl rfl (by omega)) <|hnil
end
def cC7 (z : List (LB × LB)) : List Value := [St' (pS z)]
def roEBy1_0 (z : List (LB × LB)) : List Value := [rwG prC z]
noncomputable def cR4 (z : List (LB × LB)) : Cx := cx (nuX (cC7 z) (rX (roEBy1_0 z) (fun _ => .bool true))) (aA7 (aA6 (l := cC7 z) rfl)) 0 aA5 aA0
theorem roundsBy1_0 (z : List (LB × LB)) (st : Nat × Int × LB) (X : Nat → Value) (hI : aQ9 z st) : bY4 z (cR4 z) (.exit 0) [(3, .p 61 0)] [(1, .r 2000000 25 2 true), (61, bk 54 [.p 61 0, .sy 62]), (62, .t 0 5)] st X := by
  obtain ⟨tag, i, T⟩ := st
  have hI0 := hI
  obtain ⟨i0, i1, i2, i3, i4, i5, i6, i7, i8, it⟩ := cI3 z tag i T hI
  rcases (show tag = 0 ∨ tag = 1 from by omega) with rfl | rfl
  · skip
    exact nxBy1_p0 hI0
  · skip
    by_cases h0 : i < (z.length : Int)
    · exact nxBy1_p1 hI0 h0
    · skip
      refine lvBy1_1 (h := bK8) rfl ?_ (thXe (v := St' T) (u := St' (pS z)) rfl rfl (congrArg (fun l => St' l) (pS_end i0 (by omega) i5)) (thXv (v := rwG prC z) rfl rfl (aB4))) runBy1_p2
      unfold bK8
      exact hc (ltF rfl rfl (by omega)) <|hnil
theorem lfOkBy1_0 {l : LF} {h : LH} (z : List (LB × LB)) (st : Nat × Int × LB) (hI : aQ9 z st) (hl : l.hp = some h) (hs : aM1 l h 30 aN3 (.exit 0) 1 61 101 = true) {th0 : LA} {sg0 : List (Nat × Nat)} (hth0 : ∀ X, ThOk (cx nu one 0 aA5 aA0) (DBy1 z st X) th0) (h0 : aH4 l h 30 61 63 th0 sg0 (cH6 st) (hpBy1 st) = true) {thx : LA} (hthx : ThOk (cR4 z) (cx nu one 0 aA5 aA0) thx) (hx : aM2 l h 30 61 101 thx [(3, .p 61 0)] [(1, .r 2000000 25 2 true), (61, bk 54 [.p 61 0, .sy 62]), (62, .t 0 5)] = true) : LfOk (cx nu one 0 aA5 aA0) bM2 l :=
  bE6 (E := cR4 z) (aQ9 z) (cH1 z) (DBy1 z) (fun _ _ => rfl) (fun _ _ => rfl) (fun _ _ => rfl) (fun st X t ht => aG8.trans (aJ1 ((by decide : ∀ t, t ∈ aN3 → t < 1000000) t ht))) rfl rfl rfl hl hs ebBy1 rfl rfl st hI hth0 h0 hthx hx (roundsBy1_0 z)
noncomputable def bX8 : Code := aM9 (Try.f21.body.getD .skip) 0
theorem keyRp1 : aL9 (aC5 (Try.f21.body.getD .skip)) 3 0 0 = true := by kernel_rfl
def aV4 : List Nat := []
def bX4 : LA := [(0, .sr 1), (3, .x 1), (4, .x 0)]
def bW8 : LE := [(1, .r 2000000 25 2 true)]
def aJ3 (z : List (LB × LB)) (i : Int) (T : LB) : List Value := [.int .i64 (i), St' T, St' ([] : LB), .int .i64 ((z.length : Int)), St' ((nthP z (Int.toNat (i))).1), .int .i64 (((nthP z (Int.toNat (i))).1.length : Int)), St' (lnB ((nthP z (Int.toNat (i))).1.length : Int)), St' (T ++ (lnB ((nthP z (Int.toNat (i))).1.length : Int))), St' ((nthP z (Int.toNat (i))).2), .int .i64 (((nthP z (Int.toNat (i))).2.length : Int)), St' (lnB ((nthP z (Int.toNat (i))).2.length : Int)), St' (T ++ ((lnB ((nthP z (Int.toNat (i))).1.length : Int)) ++ (lnB ((nthP z (Int.toNat (i))).2.length : Int)))), St' (T ++ ((lnB ((nthP z (Int.toNat (i))).1.length : Int)) ++ ((lnB ((nthP z (Int.toNat (i))).2.length : Int)) ++ (nthP z (Int.toNat (i))).1))), St' (T ++ ((lnB ((nthP z (Int.toNat (i))).1.length : Int)) ++ ((lnB ((nthP z (Int.toNat (i))).2.length : Int)) ++ ((nthP z (Int.toNat (i))).1 ++ (nthP z (Int.toNat (i))).2)))), .int .i64 (i + 1), St' ([] : LB), .int .i64 ((z.length : Int))]
def bA3 (z : List (LB × LB)) (i : Int) (T : LB) : List Value := [rwG prC z, rwS ([] : List LB), rwS ([] : List LB)]
def cP2 (st : Nat × Int × LB) : LA := bX4
def hpRp1 (st : Nat × Int × LB) : LE := bW8
def nuRp1 (z : List (LB × LB)) (st : Nat × Int × LB) : List Value := aJ3 z (st.2.1) (st.2.2)
def roRp1 (z : List (LB × LB)) (st : Nat × Int × LB) : List Value := bA3 z (st.2.1) (st.2.2)
theorem onRp1 (z : List (LB × LB)) (st : Nat × Int × LB) : ∀ j, (nuL (nuRp1 z st) j).oneCell' = true := by
  intro j
  unfold nuRp1
  exact aA6 (l := aJ3 z (st.2.1) (st.2.2)) rfl j
theorem ebRp1 (st : Nat × Int × LB) : (lfB (cP2 st) && lfC aV4) = true := by
  unfold cP2
  rfl
noncomputable def DRp1 (z : List (LB × LB)) (st : Nat × Int × LB) (X : Nat → Value) : Cx := cx (nuX (nuRp1 z st) (rX (roRp1 z st) X)) (aA7 (onRp1 z st)) 0 aA5 aA0
def aX7 (z : List (LB × LB)) (st : Nat × Int × LB) : Prop := (0 ≤ (st.2.1)) ∧ ((st.2.1) ≤ (z.length : Int)) ∧ (z.length ≤ 40) ∧ (∀ q, q ∈ z → prB q) ∧ (ok6 z) ∧ ((st.2.2) = pS (z.take (Int.toNat (st.2.1)))) ∧ (((st.2.2).length : Int) ≤ 1208 * (st.2.1)) ∧ ((st.1) < 1)
abbrev CjRp1 (z : List (LB × LB)) (tag : Nat) (i : Int) (T : LB) : Prop := (0 ≤ i) ∧ (i ≤ (z.length : Int)) ∧ (z.length ≤ 40) ∧ (∀ q, q ∈ z → prB q) ∧ (ok6 z) ∧ (T = pS (z.take (Int.toNat i))) ∧ ((T.length : Int) ≤ 1208 * i) ∧ (tag < 1)
theorem mkIRp1 {z : List (LB × LB)} {tag : Nat} {i : Int} {T : LB} (h : CjRp1 z tag i T) : aX7 z (tag, i, T) := h
theorem unIRp1 (z : List (LB × LB)) (tag : Nat) (i : Int) (T : LB) (h : aX7 z (tag, i, T)) : (0 ≤ i) ∧ (i ≤ (z.length : Int)) ∧ (z.length ≤ 40) ∧ (∀ q, q ∈ z → prB q) ∧ (ok6 z) ∧ (T = pS (z.take (Int.toNat i))) ∧ ((T.length : Int) ≤ 1208 * i) ∧ (tag < 1) := h
def muRp1 (z : List (LB × LB)) (st : Nat × Int × LB) : Nat := (z.length - (st.2.1).toNat)
abbrev RHRp1 (z : List (LB × LB)) (E' : Cx) (ex' : Ex) (epx' : LA) (hpx' : LE) (st : Nat × Int × LB) (X : Nat → Value) : Prop := aC7 E' bX8 aV4 41 ex' 1 281 281 321 cP2 hpRp1 epx' hpx' (aX7 z) (muRp1 z) (DRp1 z) st X
noncomputable abbrev bM6 (h : LK) (x : Ex) (th : LA) (sg : List (Nat × Nat)) (m : Nat) (ep : LA) (hp : LE) : Bool := aP9 (code (tbl h) 3000 [] bX8 (aI0 (aF0 bX4 aV4) 41) ⟨aC4 bW8 .leaf, 281, 0, 0⟩) x aV4 41 321 th sg 281 m ep hp
theorem stRp1_0 {z : List (LB × LB)} {i : Int} {T : LB} {X : Nat → Value} {h : LK} (y : Nat × Int × LB) {th : LA} {sg : List (Nat × Nat)} (ho : ∀ a' r', (a', r') ∈ h → HOk (cx (nuX (aJ3 z i T) (rX (bA3 z i T) X)) (aA7 (aA6 (l := aJ3 z i T) rfl)) 0 aA5 aA0) a' r') (hy : aX7 z y) (lt : muRp1 z y < muRp1 z (0, i, T)) (ht : ThOk (cx (nuX (aJ3 z i T) (rX (bA3 z i T) X)) (aA7 (aA6 (l := aJ3 z i T) rfl)) 0 aA5 aA0) (DRp1 z y X) th) (run : bM6 h .normal th sg 281 (cP2 y) (hpRp1 y) = true) : RHRp1 z E' x' e' h' (0, i, T) X :=
  aC7.next (tb := tbl h) (L := []) (f := 3000) y ((aC2 _ _).hyps ho) (LpOk.nil _) rfl hy lt ht run
theorem lvRp1_0 {z : List (LB × LB)} {i : Int} {T : LB} {X : Nat → Value} {h : LK} {th : LA} {sg : List (Nat × Nat)} (hne : exB x' .normal = false) (ho : ∀ a' r', (a', r') ∈ h → HOk (cx (nuX (aJ3 z i T) (rX (bA3 z i T) X)) (aA7 (aA6 (l := aJ3 z i T) rfl)) 0 aA5 aA0) a' r') (ht : ThOk (cx (nuX (aJ3 z i T) (rX (bA3 z i T) X)) (aA7 (aA6 (l := aJ3 z i T) rfl)) 0 aA5 aA0) E' th) (run : bM6 h x' th sg 321 e' h' = true) : RHRp1 z E' x' e' h' (0, i, T) X :=
  aC7.leave (tb := tbl h) (L := []) (f := 3000) ((aC2 _ _).hyps ho) (LpOk.nil _) rfl hne ht run
def bK0 : LK := [(.rl (.x 2000000) 2, .x 3), (.bin .lss (.x 0) (.x 3), .b true), (.el (.x 2000000) (.x 0) 2 0, .x 4), (.len (.x 4), .x 5), (.call 31 [.x 5], .x 6), (.bin .add (.x 1) (.x 6), .x 7), (.el (.x 2000000) (.x 0) 2 1, .x 8), (.len (.x 8), .x 9), (.call 31 [.x 9], .x 10), (.bin .add (.x 7) (.x 10), .x 11), (.bin .add (.x 11) (.x 4), .x 12), (.bin .add (.x 12) (.x 8), .x 13), (.bin .add (.x 0) (I6 1), .x 14)]
theorem runRp1_p0 : bM6 bK0 .normal [(0, .x 14), (1, .x 13), (2000000, .x 2000000)] [] 281 bX4 bW8 = true := by kernel_rfl
def bJ9 : LK := [(.rl (.x 2000000) 2, .x 16), (.bin .lss (.x 0) (.x 16), .b false)]
theorem runRp1_p1 : bM6 bJ9 (.exit 0) [(0, .x 1), (2000000, .x 2000000)] [] 321 [(3, .x 0)] [(1, .r 2000000 25 2 true)] = true := by kernel_rfl
section
variable {z : List (LB × LB)} {i : Int} {T : LB} {X : Nat → Value}
theorem nxRp1_p0 (hI : aX7 z (0, i, T)) (h0 : i < (z.length : Int)) : RHRp1 z E' x' e' h' (0, i, T) X := by
  obtain ⟨i0, i1, i2, i3, i4, i5, i6, it⟩ := unIRp1 z 0 i T hI
  have h6 := i4 _ (aM8 (z := z) i0 (by omega))
  have := prAt (l := z) (by assumption) (Int.toNat (i))
  have := aP0 ((nthP z (Int.toNat (i))).1.length : Int)
  have := aP0 ((nthP z (Int.toNat (i))).2.length : Int)
  have hsn := bU4 (z := z) (T := T) i0 (by omega) i5
  have hpl := cB5 (p := nthP z (Int.toNat i)) h6.1 h6.2
  have hsa : (T ++ pB (nthP z (Int.toNat i))).length = T.length + (pB (nthP z (Int.toNat i))).length := List.length_append
  refine stRp1_0 (h := bK0) (0, (i + 1), (T ++ ((lnB ((nthP z (Int.toNat (i))).1.length : Int)) ++ ((lnB ((nthP z (Int.toNat (i))).2.length : Int)) ++ ((nthP z (Int.toNat (i))).1 ++ (nthP z (Int.toNat (i))).2))))) ?_ (mkIRp1 ⟨by omega, by omega, i2, i3, i4, hsn, by first | omega | (simp only [List.length_append, List.length_nil] at *; omega), by omega⟩) (by show z.length - (i + 1).toNat < z.length - i.toNat; omega) (thXi (b := ((i + 1))) rfl rfl (by omega) (thXv (v := St' (T ++ ((lnB ((nthP z (Int.toNat (i))).1.length : Int)) ++ ((lnB ((nthP z (Int.toNat (i))).2.length : Int)) ++ ((nthP z (Int.toNat (i))).1 ++ (nthP z (Int.toNat (i))).2))))) rfl rfl (thXv (v := rwG prC z) rfl rfl (aB4)))) runRp1_p0
  unfold bK0
  exact hc (kRlG aD0 (isX rfl) (denX rfl) (by first | omega | (simp <;> omega))) <|hc (ltT rfl rfl (by omega)) <|hc (kElG (j := (Int.toNat (i))) (d := ([], [])) aD0 (by decide) (isX rfl) (isX rfl) (denX rfl) (by omega) (by omega) rfl) <|hc (lnV rfl rfl (by omega)) <|hc (cO3 (isX rfl) (denX rfl) (by omega) (by omega)) <|hc (kCat (isX rfl) (isX rfl) (denX rfl) (by first | rfl | (simp; done)) (by omega)) <|hc (kElG (j := (Int.toNat (i))) (d := ([], [])) aD0 (by decide) (isX rfl) (isX rfl) (denX rfl) (by omega) (by omega) rfl) <|hc (lnV rfl rfl (by omega)) <|hc (cO3 (isX rfl) (denX rfl) (by omega) (by omega)) <|hc (kCat (isX rfl) (isX rfl) (denX rfl) (by first | rfl | (simp; done)) (by first | omega | (simp <;> omega))) <|hc (kCat (isX rfl) (isX rfl) (denX rfl) (by first | rfl | (simp; done)) (by first | omega | (simp <;> omega))) <|hc (kCat (isX rfl) (isX rfl) (denX rfl) (by first | rfl | (simp; done)) (by first | omega | (simp <;> omega))) <|hc (adC rfl rfl (by omega)) <|hnil
end
def cC4 (z : List (LB × LB)) : List Value := [St' (pS z)]
def roERp1_0 (z : List (LB × LB)) : List Value := [rwG prC z]
noncomputable def cR1 (z : List (LB × LB)) : Cx := cx (nuX (cC4 z) (rX (roERp1_0 z) (fun _ => .bool true))) (aA7 (aA6 (l := cC4 z) rfl)) 0 aA5 aA0
theorem roundsRp1_0 (z : List (LB × LB)) (st : Nat × Int × LB) (X : Nat → Value) (hI : aX7 z st) : RHRp1 z (cR1 z) (.exit 0) [(3, .x 0)] [(1, .r 2000000 25 2 true)] st X := by
  obtain ⟨tag, i, T⟩ := st
  have hI0 := hI
  obtain ⟨i0, i1, i2, i3, i4, i5, i6, it⟩ := unIRp1 z tag i T hI
  obtain rfl : tag = 0 := by omega
  skip
  by_cases h0 : i < (z.length : Int)
  · exact nxRp1_p0 hI0 h0
  · skip
    refine lvRp1_0 (h := bJ9) rfl ?_ (thXe (v := St' T) (u := St' (pS z)) rfl rfl (congrArg (fun l => St' l) (pS_end i0 (by omega) i5)) (thXv (v := rwG prC z) rfl rfl (aB4))) runRp1_p1
    unfold bJ9
    exact hc (kRlG aD0 (isX rfl) (denX rfl) (by first | omega | (simp <;> omega))) <|hc (ltF rfl rfl (by omega)) <|hnil
theorem lfOkRp1_0 {l : LF} {h : LH} (z : List (LB × LB)) (st : Nat × Int × LB) (hI : aX7 z st) (hl : l.hp = some h) (hs : aM1 l h 41 aV4 (.exit 0) 1 281 321 = true) {th0 : LA} {sg0 : List (Nat × Nat)} (hth0 : ∀ X, ThOk (cx nu one 0 aA5 aA0) (DRp1 z st X) th0) (h0 : aH4 l h 41 281 281 th0 sg0 (cP2 st) (hpRp1 st) = true) {thx : LA} (hthx : ThOk (cR1 z) (cx nu one 0 aA5 aA0) thx) (hx : aM2 l h 41 281 321 thx [(3, .x 0)] [(1, .r 2000000 25 2 true)] = true) : LfOk (cx nu one 0 aA5 aA0) bX8 l :=
  bE6 (E := cR1 z) (aX7 z) (muRp1 z) (DRp1 z) (fun _ _ => rfl) (fun _ _ => rfl) (fun _ _ => rfl) (fun st X t ht => aG8.trans (aJ1 ((by decide : ∀ t, t ∈ aV4 → t < 1000000) t ht))) rfl rfl rfl hl hs ebRp1 rfl rfl st hI hth0 h0 hthx hx (roundsRp1_0 z)
end Go.Proofs.Ytfoalkoifcpdmaa.framesTells
