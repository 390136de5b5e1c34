/- A part of the proof: an interpreter of the model's own code on partly known states, and that what it answers is what the program answers. No condition of its own. -/
import Derived.Test.YtfoalkoifcpdmaaT1FramesBackO2
set_option maxRecDepth 100000
set_option linter.unusedVariables false
set_option linter.unusedSimpArgs false
set_option maxHeartbeats 4000000
namespace Go.Proofs.Ytfoalkoifcpdmaa.framesBack
open Go Go.AX Go.Proofs Go.Proofs.Ytfoalkoifcpdmaa
variable {nu : Nat → Value} {one : ∀ i, i < 1000000 → (nu i).oneCell' = true} {E' : Cx} {x' : Ex} {e' : LA} {h' : LE}
noncomputable def cM0 : Code := aX8 (Try.f4.body.getD .skip) 0
theorem keyOk1 : aS8 (aE7 (Try.f4.body.getD .skip)) 6 0 0 = true := by kernel_rfl
def aT1 : List Nat := [0, 2]
def cZ6 : LA := [(1, .sr 1), (7, .x 0)]
def cY9 : LE := [(1, .r 2000000 25 2 true)]
def aO3 (z : List (LB × LB)) (i : Int) : List Value := [.int .i64 (i), .int .i64 ((z.length : Int)), St' ((nthP z (Int.toNat (i))).1), .int .i64 (((nthP z (Int.toNat (i))).1.length : Int)), St' ((nthP z (Int.toNat (i))).2), .int .i64 (((nthP z (Int.toNat (i))).2.length : Int)), .int .i64 (i + 1), .int .i64 ((z.length : Int)), St' ((nthP z (Int.toNat (i))).1), .int .i64 (((nthP z (Int.toNat (i))).1.length : Int)), .int .i64 ((z.length : Int)), St' ((nthP z (Int.toNat (i))).1), .int .i64 (((nthP z (Int.toNat (i))).1.length : Int)), St' ((nthP z (Int.toNat (i))).2), .int .i64 (((nthP z (Int.toNat (i))).2.length : Int)), .int .i64 ((z.length : Int))]
def bO7 (z : List (LB × LB)) (i : Int) : List Value := [rwG prC z, rwS ([] : List LB), rwS ([] : List LB), rwS ([] : List LB), rwS ([] : List LB)]
def dI6 (st : Nat × Int) : LA := cZ6
def hpOk1 (st : Nat × Int) : LE := cY9
def nuOk1 (z : List (LB × LB)) (st : Nat × Int) : List Value := aO3 z (st.2)
def roOk1 (z : List (LB × LB)) (st : Nat × Int) : List Value := bO7 z (st.2)
theorem onOk1 (z : List (LB × LB)) (st : Nat × Int) : ∀ j, (nuL (nuOk1 z st) j).oneCell' = true := by
  intro j
  unfold nuOk1
  exact aA9 (l := aO3 z (st.2)) rfl j
theorem ebOk1 (st : Nat × Int) : (lfB (dI6 st) && lfC aT1) = true := by
  unfold dI6
  rfl
noncomputable def DOk1 (z : List (LB × LB)) (st : Nat × Int) (X : Nat → Value) : Cx := cx (nuX (nuOk1 z st) (rX (roOk1 z st) X)) (aB3 (onOk1 z st)) 0 aB0 aA1
def aU5 (z : List (LB × LB)) (st : Nat × Int) : Prop := (0 ≤ (st.2)) ∧ ((st.2) ≤ (z.length : Int)) ∧ (z.length ≤ 40) ∧ (∀ q, q ∈ z → prB q) ∧ (ok6 (z.take (Int.toNat (st.2)))) ∧ ((st.1) < 1)
abbrev CjOk1 (z : List (LB × LB)) (tag : Nat) (i : Int) : Prop := (0 ≤ i) ∧ (i ≤ (z.length : Int)) ∧ (z.length ≤ 40) ∧ (∀ q, q ∈ z → prB q) ∧ (ok6 (z.take (Int.toNat i))) ∧ (tag < 1)
theorem dN0 {z : List (LB × LB)} {tag : Nat} {i : Int} (h : CjOk1 z tag i) : aU5 z (tag, i) := h
theorem dJ0 (z : List (LB × LB)) (tag : Nat) (i : Int) (h : aU5 z (tag, i)) : (0 ≤ i) ∧ (i ≤ (z.length : Int)) ∧ (z.length ≤ 40) ∧ (∀ q, q ∈ z → prB q) ∧ (ok6 (z.take (Int.toNat i))) ∧ (tag < 1) := h
def dM8 (z : List (LB × LB)) (st : Nat × Int) : Nat := (z.length - (st.2).toNat)
abbrev dR1 (z : List (LB × LB)) (E' : Cx) (ex' : Ex) (epx' : LA) (hpx' : LE) (st : Nat × Int) (X : Nat → Value) : Prop := aF4 E' cM0 aT1 175 ex' 1 11 11 41 dI6 hpOk1 epx' hpx' (aU5 z) (dM8 z) (DOk1 z) st X
noncomputable abbrev bG0 (h : LK) (x : Ex) (th : LA) (sg : List (Nat × Nat)) (m : Nat) (ep : LA) (hp : LE) : Bool := bA0 (code (tbl h) 3000 [] cM0 (aM6 (aH9 cZ6 aT1) 175) ⟨aE8 cY9 .leaf, 11, 0, 0⟩) x aT1 175 41 th sg 11 m ep hp
theorem stOk1_0 {z : List (LB × LB)} {i : Int} {X : Nat → Value} {h : LK} (y : Nat × Int) {th : LA} {sg : List (Nat × Nat)} (ho : ∀ a' r', (a', r') ∈ h → HOk (cx (nuX (aO3 z i) (rX (bO7 z i) X)) (aB3 (aA9 (l := aO3 z i) rfl)) 0 aB0 aA1) a' r') (hy : aU5 z y) (lt : dM8 z y < dM8 z (0, i)) (ht : ThOk (cx (nuX (aO3 z i) (rX (bO7 z i) X)) (aB3 (aA9 (l := aO3 z i) rfl)) 0 aB0 aA1) (DOk1 z y X) th) (run : bG0 h .normal th sg 11 (dI6 y) (hpOk1 y) = true) : dR1 z E' x' e' h' (0, i) X :=
  aF4.next (tb := tbl h) (L := []) (f := 3000) y ((aD2 _ _).hyps ho) (LpOk.nil _) rfl hy lt ht run
theorem cW8 {z : List (LB × LB)} {i : Int} {X : Nat → Value} {h : LK} {th : LA} {sg : List (Nat × Nat)} (hne : exB x' .normal = false) (ho : ∀ a' r', (a', r') ∈ h → HOk (cx (nuX (aO3 z i) (rX (bO7 z i) X)) (aB3 (aA9 (l := aO3 z i) rfl)) 0 aB0 aA1) a' r') (ht : ThOk (cx (nuX (aO3 z i) (rX (bO7 z i) X)) (aB3 (aA9 (l := aO3 z i) rfl)) 0 aB0 aA1) E' th) (run : bG0 h x' th sg 41 e' h' = true) : dR1 z E' x' e' h' (0, i) X :=
  aF4.leave (tb := tbl h) (L := []) (f := 3000) ((aD2 _ _).hyps ho) (LpOk.nil _) rfl hne ht run
def cJ5 : LK := [(.rl (.x 2000000) 2, .x 1), (.bin .lss (.x 0) (.x 1), .b true), (.el (.x 2000000) (.x 0) 2 0, .x 2), (.len (.x 2), .x 3), (.bin .gtr (.x 3) (I6 600), .b false), (.el (.x 2000000) (.x 0) 2 1, .x 4), (.len (.x 4), .x 5), (.bin .gtr (.x 5) (I6 600), .b false), (.bin .add (.x 0) (I6 1), .x 6)]
theorem runOk1_p0 : bG0 cJ5 .normal [(0, .x 6), (2000000, .x 2000000)] [] 11 cZ6 cY9 = true := by kernel_rfl
def cJ4 : LK := [(.rl (.x 2000000) 2, .x 7), (.bin .lss (.x 0) (.x 7), .b true), (.el (.x 2000000) (.x 0) 2 0, .x 8), (.len (.x 8), .x 9), (.bin .gtr (.x 9) (I6 600), .b true)]
theorem runOk1_p1 : bG0 cJ4 .ret [] [] 41 [(6, .b true)] [] = true := by kernel_rfl
def cI8 : LK := [(.rl (.x 2000000) 2, .x 10), (.bin .lss (.x 0) (.x 10), .b true), (.el (.x 2000000) (.x 0) 2 0, .x 11), (.len (.x 11), .x 12), (.bin .gtr (.x 12) (I6 600), .b false), (.el (.x 2000000) (.x 0) 2 1, .x 13), (.len (.x 13), .x 14), (.bin .gtr (.x 14) (I6 600), .b true)]
theorem runOk1_p2 : bG0 cI8 .ret [] [] 41 [(6, .b true)] [] = true := by kernel_rfl
def cI7 : LK := [(.rl (.x 2000000) 2, .x 15), (.bin .lss (.x 0) (.x 15), .b false)]
theorem runOk1_p3 : bG0 cI7 (.exit 0) [(2000000, .x 2000000)] [] 41 [(1, .sr 1)] [(1, .r 2000000 25 2 true)] = true := by kernel_rfl
section
variable {z : List (LB × LB)} {i : Int} {X : Nat → Value}
theorem dD2 (hI : aU5 z (0, i)) (h0 : i < (z.length : Int)) (h1 : ¬ (600 < ((nthP z (Int.toNat (i))).1.length : Int))) (h2 : ¬ (600 < ((nthP z (Int.toNat (i))).2.length : Int))) : dR1 z E' x' e' h' (0, i) X := by
  obtain ⟨i0, i1, i2, i3, i4, it⟩ := dJ0 z 0 i hI
  have := prAt (l := z) (by assumption) (Int.toNat (i))
  refine stOk1_0 (h := cJ5) (0, (i + 1)) ?_ (dN0 ⟨by omega, by omega, i2, i3, ok6_snoc i0 (by omega) i4 (by omega) (by omega), by omega⟩) (by show z.length - (i + 1).toNat < z.length - i.toNat; omega) (thXi (b := ((i + 1))) rfl rfl (by omega) (thXv (v := rwG prC z) rfl rfl (aE0))) runOk1_p0
  unfold cJ5
  exact hc (kRlG aD6 (isX rfl) (denX rfl) (by first | omega | (simp <;> omega))) <|hc (ltT rfl rfl (by omega)) <|hc (kElG (j := (Int.toNat (i))) (d := ([], [])) aD6 (by decide) (isX rfl) (isX rfl) (denX rfl) (by omega) (by omega) rfl) <|hc (lnV rfl rfl (by omega)) <|hc (gtcF rfl (by omega)) <|hc (kElG (j := (Int.toNat (i))) (d := ([], [])) aD6 (by decide) (isX rfl) (isX rfl) (denX rfl) (by omega) (by omega) rfl) <|hc (lnV rfl rfl (by omega)) <|hc (gtcF rfl (by omega)) <|hc (adC rfl rfl (by omega)) <|hnil
end
def dD6 (z : List (LB × LB)) : List Value := []
def roEOk1_0 (z : List (LB × LB)) : List Value := [rwG prC z]
noncomputable def dR5 (z : List (LB × LB)) : Cx := cx (nuX (dD6 z) (rX (roEOk1_0 z) (fun _ => .bool true))) (aB3 (aA9 (l := dD6 z) rfl)) 0 aB0 aA1
theorem roundsOk1_0 (z : List (LB × LB)) (x0 : ok6 z) (st : Nat × Int) (X : Nat → Value) (hI : aU5 z st) : dR1 z (dR5 z) (.exit 0) [(1, .sr 1)] [(1, .r 2000000 25 2 true)] st X := by
  obtain ⟨tag, i⟩ := st
  have hI0 := hI
  obtain ⟨i0, i1, i2, i3, i4, it⟩ := dJ0 z tag i hI
  obtain rfl : tag = 0 := by omega
  skip
  by_cases h0 : i < (z.length : Int)
  · by_cases h1 : 600 < ((nthP z (Int.toNat (i))).1.length : Int)
    · exfalso; have hC := x0 _ (bC5 (z := z) i0 (by omega)); omega
    · by_cases h2 : 600 < ((nthP z (Int.toNat (i))).2.length : Int)
      · exfalso; have hC := x0 _ (bC5 (z := z) i0 (by omega)); omega
      · exact dD2 hI0 h0 h1 h2
  · skip
    refine cW8 (h := cI7) rfl ?_ (thXv (v := rwG prC z) rfl rfl (aE0)) runOk1_p3
    unfold cI7
    exact hc (kRlG aD6 (isX rfl) (denX rfl) (by first | omega | (simp <;> omega))) <|hc (ltF rfl rfl (by omega)) <|hnil
theorem lfOkOk1_0 {l : LF} {h : LH} (z : List (LB × LB)) (x0 : ok6 z) (st : Nat × Int) (hI : aU5 z st) (hl : l.hp = some h) (hs : aY1 l h 175 aT1 (.exit 0) 1 11 41 = true) {th0 : LA} {sg0 : List (Nat × Nat)} (hth0 : ∀ X, ThOk (cx nu one 0 aB0 aA1) (DOk1 z st X) th0) (h0 : aN8 l h 175 11 11 th0 sg0 (dI6 st) (hpOk1 st) = true) {thx : LA} (hthx : ThOk (dR5 z) (cx nu one 0 aB0 aA1) thx) (hx : aY4 l h 175 11 41 thx [(1, .sr 1)] [(1, .r 2000000 25 2 true)] = true) : LfOk (cx nu one 0 aB0 aA1) cM0 l :=
  cR9 (E := dR5 z) (aU5 z) (dM8 z) (DOk1 z) (fun _ _ => rfl) (fun _ _ => rfl) (fun _ _ => rfl) (fun st X t ht => aN1.trans (aS7 ((by decide : ∀ t, t ∈ aT1 → t < 1000000) t ht))) rfl rfl rfl hl hs ebOk1 rfl rfl st hI hth0 h0 hthx hx (roundsOk1_0 z x0)
def dD5 (z : List (LB × LB)) : List Value := []
def roEOk1_1 (z : List (LB × LB)) : List Value := []
noncomputable def dR4 (z : List (LB × LB)) : Cx := cx (nuX (dD5 z) (rX (roEOk1_1 z) (fun _ => .bool true))) (aB3 (aA9 (l := dD5 z) rfl)) 0 aB0 aA1
theorem roundsOk1_1 (z : List (LB × LB)) (x0 : ¬ ok6 z) (st : Nat × Int) (X : Nat → Value) (hI : aU5 z st) : dR1 z (dR4 z) .ret [(6, .b true)] [] st X := by
  obtain ⟨tag, i⟩ := st
  have hI0 := hI
  obtain ⟨i0, i1, i2, i3, i4, it⟩ := dJ0 z tag i hI
  obtain rfl : tag = 0 := by omega
  skip
  by_cases h0 : i < (z.length : Int)
  · by_cases h1 : 600 < ((nthP z (Int.toNat (i))).1.length : Int)
    · skip
      have := prAt (l := z) (by assumption) (Int.toNat (i))
      refine cW8 (h := cJ4) rfl ?_ (aE0) runOk1_p1
      unfold cJ4
      exact hc (kRlG aD6 (isX rfl) (denX rfl) (by first | omega | (simp <;> omega))) <|hc (ltT rfl rfl (by omega)) <|hc (kElG (j := (Int.toNat (i))) (d := ([], [])) aD6 (by decide) (isX rfl) (isX rfl) (denX rfl) (by omega) (by omega) rfl) <|hc (lnV rfl rfl (by omega)) <|hc (gtcT rfl (by omega)) <|hnil
    · by_cases h2 : 600 < ((nthP z (Int.toNat (i))).2.length : Int)
      · skip
        have := prAt (l := z) (by assumption) (Int.toNat (i))
        refine cW8 (h := cI8) rfl ?_ (aE0) runOk1_p2
        unfold cI8
        exact hc (kRlG aD6 (isX rfl) (denX rfl) (by first | omega | (simp <;> omega))) <|hc (ltT rfl rfl (by omega)) <|hc (kElG (j := (Int.toNat (i))) (d := ([], [])) aD6 (by decide) (isX rfl) (isX rfl) (denX rfl) (by omega) (by omega) rfl) <|hc (lnV rfl rfl (by omega)) <|hc (gtcF rfl (by omega)) <|hc (kElG (j := (Int.toNat (i))) (d := ([], [])) aD6 (by decide) (isX rfl) (isX rfl) (denX rfl) (by omega) (by omega) rfl) <|hc (lnV rfl rfl (by omega)) <|hc (gtcT rfl (by omega)) <|hnil
      · exact dD2 hI0 h0 h1 h2
  · exfalso; exact x0 (ok6_end i0 (by omega) i4)
theorem lfOkOk1_1 {l : LF} {h : LH} (z : List (LB × LB)) (x0 : ¬ ok6 z) (st : Nat × Int) (hI : aU5 z st) (hl : l.hp = some h) (hs : aY1 l h 175 aT1 .ret 1 11 41 = true) {th0 : LA} {sg0 : List (Nat × Nat)} (hth0 : ∀ X, ThOk (cx nu one 0 aB0 aA1) (DOk1 z st X) th0) (h0 : aN8 l h 175 11 11 th0 sg0 (dI6 st) (hpOk1 st) = true) {thx : LA} (hthx : ThOk (dR4 z) (cx nu one 0 aB0 aA1) thx) (hx : aY4 l h 175 11 41 thx [(6, .b true)] [] = true) : LfOk (cx nu one 0 aB0 aA1) cM0 l :=
  cR9 (E := dR4 z) (aU5 z) (dM8 z) (DOk1 z) (fun _ _ => rfl) (fun _ _ => rfl) (fun _ _ => rfl) (fun st X t ht => aN1.trans (aS7 ((by decide : ∀ t, t ∈ aT1 → t < 1000000) t ht))) rfl rfl rfl hl hs ebOk1 rfl rfl st hI hth0 h0 hthx hx (roundsOk1_1 z x0)
noncomputable def cM1 : Code := aX8 (Try.f19.body.getD .skip) 0
theorem keyBy1 : aS8 (aE7 (Try.f19.body.getD .skip)) 3 0 0 = true := by kernel_rfl
def aT2 : List Nat := []
def dP2 : LA := [(3, .p 61 0), (6, .sr 1), (7, .x 0), (8, .x 1)]
def dO4 : LE := [(1, .r 2000000 25 2 true), (61, bk 54 [.nilp, .nils])]
def aO6 (z : List (LB × LB)) (i : Int) (T : LB) : List Value := [.int .i64 ((z.length : Int)), .int .i64 (i), St' ([] : LB), St' ((nthP z (Int.toNat (i))).1), St' ((nthP z (Int.toNat (i))).2), .int .i64 (((nthP z (Int.toNat (i))).1.length : Int)), St' (lnB ((nthP z (Int.toNat (i))).1.length : Int)), .int .i64 (((nthP z (Int.toNat (i))).2.length : Int)), St' (lnB ((nthP z (Int.toNat (i))).2.length : Int)), St' ((lnB ((nthP z (Int.toNat (i))).1.length : Int)) ++ (lnB ((nthP z (Int.toNat (i))).2.length : Int))), St' ((lnB ((nthP z (Int.toNat (i))).1.length : Int)) ++ ((lnB ((nthP z (Int.toNat (i))).2.length : Int)) ++ (nthP z (Int.toNat (i))).1)), St' ((lnB ((nthP z (Int.toNat (i))).1.length : Int)) ++ ((lnB ((nthP z (Int.toNat (i))).2.length : Int)) ++ ((nthP z (Int.toNat (i))).1 ++ (nthP z (Int.toNat (i))).2))), .int .u8 (bt ((lnB ((nthP z (Int.toNat (i))).1.length : Int)) ++ ((lnB ((nthP z (Int.toNat (i))).2.length : Int)) ++ ((nthP z (Int.toNat (i))).1 ++ (nthP z (Int.toNat (i))).2))) 0), .int .i64 (((lnB ((nthP z (Int.toNat (i))).1.length : Int)).length : Int) + ((lnB ((nthP z (Int.toNat (i))).2.length : Int)).length : Int) + ((nthP z (Int.toNat (i))).1.length : Int) + ((nthP z (Int.toNat (i))).2.length : Int)), .int .i64 (i + 1)]
def bP0 (z : List (LB × LB)) (i : Int) (T : LB) : List Value := [rwG prC z, rwS ([] : List LB)]
def cK6 : LA := [(3, .p 61 0), (6, .sr 1), (7, .x 0), (8, .x 1)]
def cK1 : LE := [(1, .r 2000000 25 2 true), (61, bk 54 [.p 61 0, .sy 62]), (62, .t 2 5)]
def aO5 (z : List (LB × LB)) (i : Int) (T : LB) : List Value := [.int .i64 ((z.length : Int)), .int .i64 (i), St' T, St' ([] : LB), St' ((nthP z (Int.toNat (i))).1), St' ((nthP z (Int.toNat (i))).2), .int .i64 (((nthP z (Int.toNat (i))).1.length : Int)), St' (lnB ((nthP z (Int.toNat (i))).1.length : Int)), .int .i64 (((nthP z (Int.toNat (i))).2.length : Int)), St' (lnB ((nthP z (Int.toNat (i))).2.length : Int)), St' ((lnB ((nthP z (Int.toNat (i))).1.length : Int)) ++ (lnB ((nthP z (Int.toNat (i))).2.length : Int))), St' ((lnB ((nthP z (Int.toNat (i))).1.length : Int)) ++ ((lnB ((nthP z (Int.toNat (i))).2.length : Int)) ++ (nthP z (Int.toNat (i))).1)), St' ((lnB ((nthP z (Int.toNat (i))).1.length : Int)) ++ ((lnB ((nthP z (Int.toNat (i))).2.length : Int)) ++ ((nthP z (Int.toNat (i))).1 ++ (nthP z (Int.toNat (i))).2))), St' (T ++ ((lnB ((nthP z (Int.toNat (i))).1.length : Int)) ++ ((lnB ((nthP z (Int.toNat (i))).2.length : Int)) ++ ((nthP z (Int.toNat (i))).1 ++ (nthP z (Int.toNat (i))).2)))), .int .i64 (((lnB ((nthP z (Int.toNat (i))).1.length : Int)).length : Int) + ((lnB ((nthP z (Int.toNat (i))).2.length : Int)).length : Int) + ((nthP z (Int.toNat (i))).1.length : Int) + ((nthP z (Int.toNat (i))).2.length : Int)), .int .i64 (i + 1), St' ([] : LB)]
def bO8 (z : List (LB × LB)) (i : Int) (T : LB) : List Value := [rwG prC z, rwS ([] : List LB), rwS ([] : List LB)]
def dI7 (st : Nat × Int × LB) : LA := if st.1 = 0 then dP2 else cK6
def hpBy1 (st : Nat × Int × LB) : LE := if st.1 = 0 then dO4 else cK1
def nuBy1 (z : List (LB × LB)) (st : Nat × Int × LB) : List Value := if st.1 = 0 then aO6 z (st.2.1) (st.2.2) else aO5 z (st.2.1) (st.2.2)
def roBy1 (z : List (LB × LB)) (st : Nat × Int × LB) : List Value := if st.1 = 0 then bP0 z (st.2.1) (st.2.2) else bO8 z (st.2.1) (st.2.2)
theorem onBy1 (z : List (LB × LB)) (st : Nat × Int × LB) : ∀ j, (nuL (nuBy1 z st) j).oneCell' = true := by
  intro j
  unfold nuBy1
  by_cases g0 : st.1 = 0
  · rw [if_pos g0]; exact aA9 (l := aO6 z (st.2.1) (st.2.2)) rfl j
  rw [if_neg g0]
  exact aA9 (l := aO5 z (st.2.1) (st.2.2)) rfl j
theorem ebBy1 (st : Nat × Int × LB) : (lfB (dI7 st) && lfC aT2) = true := by
  unfold dI7
  by_cases g0 : st.1 = 0
  · rw [if_pos g0]; rfl
  rw [if_neg g0]
  rfl
noncomputable def DBy1 (z : List (LB × LB)) (st : Nat × Int × LB) (X : Nat → Value) : Cx := cx (nuX (nuBy1 z st) (rX (roBy1 z st) X)) (aB3 (onBy1 z st)) 0 aB0 aA1
def aZ0 (z : List (LB × LB)) (st : Nat × Int × LB) : Prop := (0 ≤ (st.2.1)) ∧ ((st.2.1) ≤ (z.length : Int)) ∧ (z.length ≤ 40) ∧ (∀ q, q ∈ z → prB q) ∧ (ok6 z) ∧ ((st.2.2) = pS (z.take (Int.toNat (st.2.1)))) ∧ (((st.2.2).length : Int) ≤ 1208 * (st.2.1)) ∧ ((st.1) = 0 → (st.2.1) = 0) ∧ (1 ≤ z.length) ∧ ((st.1) < 2)
abbrev CjBy1 (z : List (LB × LB)) (tag : Nat) (i : Int) (T : LB) : Prop := (0 ≤ i) ∧ (i ≤ (z.length : Int)) ∧ (z.length ≤ 40) ∧ (∀ q, q ∈ z → prB q) ∧ (ok6 z) ∧ (T = pS (z.take (Int.toNat i))) ∧ ((T.length : Int) ≤ 1208 * i) ∧ (tag = 0 → i = 0) ∧ (1 ≤ z.length) ∧ (tag < 2)
theorem dN1 {z : List (LB × LB)} {tag : Nat} {i : Int} {T : LB} (h : CjBy1 z tag i T) : aZ0 z (tag, i, T) := h
theorem dJ1 (z : List (LB × LB)) (tag : Nat) (i : Int) (T : LB) (h : aZ0 z (tag, i, T)) : (0 ≤ i) ∧ (i ≤ (z.length : Int)) ∧ (z.length ≤ 40) ∧ (∀ q, q ∈ z → prB q) ∧ (ok6 z) ∧ (T = pS (z.take (Int.toNat i))) ∧ ((T.length : Int) ≤ 1208 * i) ∧ (tag = 0 → i = 0) ∧ (1 ≤ z.length) ∧ (tag < 2) := h
def dI4 (z : List (LB × LB)) (st : Nat × Int × LB) : Nat := (z.length - (st.2.1).toNat)
abbrev dA6 (z : List (LB × LB)) (E' : Cx) (ex' : Ex) (epx' : LA) (hpx' : LE) (st : Nat × Int × LB) (X : Nat → Value) : Prop := aF4 E' cM1 aT2 30 ex' 1 61 63 101 dI7 hpBy1 epx' hpx' (aZ0 z) (dI4 z) (DBy1 z) st X
noncomputable abbrev dA5 (h : LK) (x : Ex) (th : LA) (sg : List (Nat × Nat)) (m : Nat) (ep : LA) (hp : LE) : Bool := bA0 (code (tbl h) 3000 [] cM1 (aM6 (aH9 dP2 aT2) 30) ⟨aE8 dO4 .leaf, 63, 0, 0⟩) x aT2 30 101 th sg 61 m ep hp
theorem stBy1_0 {z : List (LB × LB)} {i : Int} {T : LB} {X : Nat → Value} {h : LK} (y : Nat × Int × LB) {th : LA} {sg : List (Nat × Nat)} (ho : ∀ a' r', (a', r') ∈ h → HOk (cx (nuX (aO6 z i T) (rX (bP0 z i T) X)) (aB3 (aA9 (l := aO6 z i T) rfl)) 0 aB0 aA1) a' r') (hy : aZ0 z y) (lt : dI4 z y < dI4 z (0, i, T)) (ht : ThOk (cx (nuX (aO6 z i T) (rX (bP0 z i T) X)) (aB3 (aA9 (l := aO6 z i T) rfl)) 0 aB0 aA1) (DBy1 z y X) th) (run : dA5 h .normal th sg 63 (dI7 y) (hpBy1 y) = true) : dA6 z E' x' e' h' (0, i, T) X :=
  aF4.next (tb := tbl h) (L := []) (f := 3000) y ((aD2 _ _).hyps ho) (LpOk.nil _) rfl hy lt ht run
theorem lvBy1_0 {z : List (LB × LB)} {i : Int} {T : LB} {X : Nat → Value} {h : LK} {th : LA} {sg : List (Nat × Nat)} (hne : exB x' .normal = false) (ho : ∀ a' r', (a', r') ∈ h → HOk (cx (nuX (aO6 z i T) (rX (bP0 z i T) X)) (aB3 (aA9 (l := aO6 z i T) rfl)) 0 aB0 aA1) a' r') (ht : ThOk (cx (nuX (aO6 z i T) (rX (bP0 z i T) X)) (aB3 (aA9 (l := aO6 z i T) rfl)) 0 aB0 aA1) E' th) (run : dA5 h x' th sg 101 e' h' = true) : dA6 z E' x' e' h' (0, i, T) X :=
  aF4.leave (tb := tbl h) (L := []) (f := 3000) ((aD2 _ _).hyps ho) (LpOk.nil _) rfl hne ht run
noncomputable abbrev cM9 (h : LK) (x : Ex) (th : LA) (sg : List (Nat × Nat)) (m : Nat) (ep : LA) (hp : LE) : Bool := bA0 (code (tbl h) 3000 [] cM1 (aM6 (aH9 cK6 aT2) 30) ⟨aE8 cK1 .leaf, 63, 0, 0⟩) x aT2 30 101 th sg 61 m ep hp
theorem stBy1_1 {z : List (LB × LB)} {i : Int} {T : LB} {X : Nat → Value} {h : LK} (y : Nat × Int × LB) {th : LA} {sg : List (Nat × Nat)} (ho : ∀ a' r', (a', r') ∈ h → HOk (cx (nuX (aO5 z i T) (rX (bO8 z i T) X)) (aB3 (aA9 (l := aO5 z i T) rfl)) 0 aB0 aA1) a' r') (hy : aZ0 z y) (lt : dI4 z y < dI4 z (1, i, T)) (ht : ThOk (cx (nuX (aO5 z i T) (rX (bO8 z i T) X)) (aB3 (aA9 (l := aO5 z i T) rfl)) 0 aB0 aA1) (DBy1 z y X) th) (run : cM9 h .normal th sg 63 (dI7 y) (hpBy1 y) = true) : dA6 z E' x' e' h' (1, i, T) X :=
  aF4.next (tb := tbl h) (L := []) (f := 3000) y ((aD2 _ _).hyps ho) (LpOk.nil _) rfl hy lt ht run
theorem lvBy1_1 {z : List (LB × LB)} {i : Int} {T : LB} {X : Nat → Value} {h : LK} {th : LA} {sg : List (Nat × Nat)} (hne : exB x' .normal = false) (ho : ∀ a' r', (a', r') ∈ h → HOk (cx (nuX (aO5 z i T) (rX (bO8 z i T) X)) (aB3 (aA9 (l := aO5 z i T) rfl)) 0 aB0 aA1) a' r') (ht : ThOk (cx (nuX (aO5 z i T) (rX (bO8 z i T) X)) (aB3 (aA9 (l := aO5 z i T) rfl)) 0 aB0 aA1) E' th) (run : cM9 h x' th sg 101 e' h' = true) : dA6 z E' x' e' h' (1, i, T) X :=
  aF4.leave (tb := tbl h) (L := []) (f := 3000) ((aD2 _ _).hyps ho) (LpOk.nil _) rfl hne ht run
def cK0 : LK := [(.bin .lss (.x 1) (.x 0), .b true), (.el (.x 2000000) (.x 1) 2 0, .x 3), (.el (.x 2000000) (.x 1) 2 1, .x 4), (.len (.x 3), .x 5), (.call 29 [.x 5], .x 6), (.len (.x 4), .x 7), (.call 29 [.x 7], .x 8), (.bin .add (.x 6) (.x 8), .x 9), (.bin .add (.x 9) (.x 3), .x 10), (.bin .add (.x 10) (.x 4), .x 11), (.byt (.x 11) (I6 0), .x 12), (.fit (.x 11), .b true), (.len (.x 11), .x 13), (.bin .add (.x 1) (I6 1), .x 14)]
theorem runBy1_p0 : dA5 cK0 .normal [(0, .x 0), (1, .x 14), (2, .x 11), (2000000, .x 2000000)] [(61, 61), (62, 64)] 63 cK6 cK1 = true := by kernel_rfl
def cJ9 : LK := [(.bin .lss (.x 1) (.x 0), .b true), (.el (.x 2000000) (.x 1) 2 0, .x 4), (.el (.x 2000000) (.x 1) 2 1, .x 5), (.len (.x 4), .x 6), (.call 29 [.x 6], .x 7), (.len (.x 5), .x 8), (.call 29 [.x 8], .x 9), (.bin .add (.x 7) (.x 9), .x 10), (.bin .add (.x 10) (.x 4), .x 11), (.bin .add (.x 11) (.x 5), .x 12), (.bin .add (.x 2) (.x 12), .x 13), (.fit (.x 13), .b true), (.len (.x 12), .x 14), (.bin .add (.x 1) (I6 1), .x 15)]
theorem runBy1_p1 : cM9 cJ9 .normal [(0, .x 0), (1, .x 15), (2, .x 13), (2000000, .x 2000000)] [(61, 61), (62, 64)] 63 cK6 cK1 = true := by kernel_rfl
def cJ8 : LK := [(.bin .lss (.x 1) (.x 0), .b false)]
theorem runBy1_p2 : cM9 cJ8 (.exit 0) [(0, .x 2), (2000000, .x 2000000)] [(61, 61), (62, 62)] 101 [(3, .p 61 0)] [(1, .r 2000000 25 2 true), (61, bk 54 [.p 61 0, .sy 62]), (62, .t 0 5)] = true := by kernel_rfl
section
variable {z : List (LB × LB)} {i : Int} {T : LB} {X : Nat → Value}
theorem nxBy1_p0 (hI : aZ0 z (0, i, T)) : dA6 z E' x' e' h' (0, i, T) X := by
  obtain ⟨i0, i1, i2, i3, i4, i5, i6, i7, i8, it⟩ := dJ1 z 0 i T hI
  have h6 := i4 _ (bC5 (z := z) i0 (by omega))
  have := prAt (l := z) (by assumption) (Int.toNat (i))
  have := bL3 ((nthP z (Int.toNat (i))).1.length : Int)
  have := bL3 ((nthP z (Int.toNat (i))).2.length : Int)
  have := bI9 ((lnB ((nthP z (Int.toNat (i))).1.length : Int)) ++ ((lnB ((nthP z (Int.toNat (i))).2.length : Int)) ++ ((nthP z (Int.toNat (i))).1 ++ (nthP z (Int.toNat (i))).2))) 0; have := aX1 ((lnB ((nthP z (Int.toNat (i))).1.length : Int)) ++ ((lnB ((nthP z (Int.toNat (i))).2.length : Int)) ++ ((nthP z (Int.toNat (i))).1 ++ (nthP z (Int.toNat (i))).2))) 0
  have hsn := dK8 (z := z) (T := ([] : LB)) i0 (by omega) (by rw [i7 rfl]; rfl)
  have hpl := dL1 (p := nthP z (Int.toNat i)) h6.1 h6.2
  have hsa : (([] : LB) ++ pB (nthP z (Int.toNat i))).length = ([] : LB).length + (pB (nthP z (Int.toNat i))).length := List.length_append
  refine stBy1_0 (h := cK0) (1, (i + 1), ((lnB ((nthP z (Int.toNat (i))).1.length : Int)) ++ ((lnB ((nthP z (Int.toNat (i))).2.length : Int)) ++ ((nthP z (Int.toNat (i))).1 ++ (nthP z (Int.toNat (i))).2)))) ?_ (dN1 ⟨by omega, by omega, i2, i3, i4, hsn, by show (((pB (nthP z (Int.toNat i))).length : Nat) : Int) ≤ _; omega, fun h => by omega, i8, by omega⟩) (by show z.length - (i + 1).toNat < z.length - i.toNat; omega) (thXv (v := .int .i64 ((z.length : Int))) rfl rfl (thXi (b := ((i + 1))) rfl rfl (by omega) (thXv (v := St' ((lnB ((nthP z (Int.toNat (i))).1.length : Int)) ++ ((lnB ((nthP z (Int.toNat (i))).2.length : Int)) ++ ((nthP z (Int.toNat (i))).1 ++ (nthP z (Int.toNat (i))).2)))) rfl rfl (thXv (v := rwG prC z) rfl rfl (aE0))))) runBy1_p0
  unfold cK0
  exact hc (ltT rfl rfl (by omega)) <|hc (kElG (j := (Int.toNat (i))) (d := ([], [])) aD6 (by decide) (isX rfl) (isX rfl) (denX rfl) (by omega) (by omega) rfl) <|hc (kElG (j := (Int.toNat (i))) (d := ([], [])) aD6 (by decide) (isX rfl) (isX rfl) (denX rfl) (by omega) (by omega) rfl) <|hc (lnV rfl rfl (by omega)) <|hc (dG0 (isX rfl) (denX rfl) (by omega) (by omega)) <|hc (lnV rfl rfl (by omega)) <|hc (dG0 (isX rfl) (denX rfl) (by omega) (by omega)) <|hc (kCat (isX rfl) (isX rfl) (denX rfl) (by first | rfl | (simp; done)) (by omega)) <|hc (kCat (isX rfl) (isX rfl) (denX rfl) (by first | rfl | (simp; done)) (by first | omega | (simp <;> omega))) <|hc (kCat (isX rfl) (isX rfl) (denX rfl) (by first | rfl | (simp; done)) (by first | omega | (simp <;> omega))) <|hc (kByt (i := 0) (isX rfl) (isZ (m := 0) rfl) (denX rfl) rfl (by first | omega | (simp <;> omega)) rfl) <|hc (kFit (isX rfl) (by first | omega | (simp <;> omega))) <|hc (lnV rfl rfl (by first | omega | (simp <;> omega))) <|hc (adC rfl rfl (by omega)) <|hnil
theorem nxBy1_p1 (hI : aZ0 z (1, i, T)) (h0 : i < (z.length : Int)) : dA6 z E' x' e' h' (1, i, T) X := by
  obtain ⟨i0, i1, i2, i3, i4, i5, i6, i7, i8, it⟩ := dJ1 z 1 i T hI
  have h6 := i4 _ (bC5 (z := z) i0 (by omega))
  have := prAt (l := z) (by assumption) (Int.toNat (i))
  have := bL3 ((nthP z (Int.toNat (i))).1.length : Int)
  have := bL3 ((nthP z (Int.toNat (i))).2.length : Int)
  have hsn := dK8 (z := z) (T := T) i0 (by omega) i5
  have hpl := dL1 (p := nthP z (Int.toNat i)) h6.1 h6.2
  have hsa : (T ++ pB (nthP z (Int.toNat i))).length = T.length + (pB (nthP z (Int.toNat i))).length := List.length_append
  refine stBy1_1 (h := cJ9) (1, (i + 1), (T ++ ((lnB ((nthP z (Int.toNat (i))).1.length : Int)) ++ ((lnB ((nthP z (Int.toNat (i))).2.length : Int)) ++ ((nthP z (Int.toNat (i))).1 ++ (nthP z (Int.toNat (i))).2))))) ?_ (dN1 ⟨by omega, by omega, i2, i3, i4, hsn, by first | omega | (simp only [List.length_append, List.length_nil] at *; omega), fun h => by omega, i8, by omega⟩) (by show z.length - (i + 1).toNat < z.length - i.toNat; omega) (thXv (v := .int .i64 ((z.length : Int))) rfl rfl (thXi (b := ((i + 1))) rfl rfl (by omega) (thXv (v := St' (T ++ ((lnB ((nthP z (Int.toNat (i))).1.length : Int)) ++ ((lnB ((nthP z (Int.toNat (i))).2.length : Int)) ++ ((nthP z (Int.toNat (i))).1 ++ (nthP z (Int.toNat (i))).2))))) rfl rfl (thXv (v := rwG prC z) rfl rfl (aE0))))) runBy1_p1
  unfold cJ9
  exact hc (ltT rfl rfl (by omega)) <|hc (kElG (j := (Int.toNat (i))) (d := ([], [])) aD6 (by decide) (isX rfl) (isX rfl) (denX rfl) (by omega) (by omega) rfl) <|hc (kElG (j := (Int.toNat (i))) (d := ([], [])) aD6 (by decide) (isX rfl) (isX rfl) (denX rfl) (by omega) (by omega) rfl) <|hc (lnV rfl rfl (by omega)) <|hc (dG0 (isX rfl) (denX rfl) (by omega) (by omega)) <|hc (lnV rfl rfl (by omega)) <|hc (dG0 (isX rfl) (denX rfl) (by omega) (by omega)) <|hc (kCat (isX rfl) (isX rfl) (denX rfl) (by first | rfl | (simp; done)) (by omega)) <|hc (kCat (isX rfl) (isX rfl) (denX rfl) (by first | rfl | (simp; done)) (by first | omega | (simp <;> omega))) <|hc (kCat (isX rfl) (isX rfl) (denX rfl) (by first | rfl | (simp; done)) (by first | omega | (simp <;> omega))) <|hc (kCat (isX rfl) (isX rfl) (denX rfl) (by first | rfl | (simp; done)) (by first | omega | (simp <;> omega))) <|hc (kFit (isX rfl) (by first | omega | (simp <;> omega))) <|hc (lnV rfl rfl (by first | omega | (simp <;> omega))) <|hc (adC rfl rfl (by omega)) <|hnil
end
def dD7 (z : List (LB × LB)) : List Value := [St' (pS z)]
def roEBy1_0 (z : List (LB × LB)) : List Value := [rwG prC z]
noncomputable def dR6 (z : List (LB × LB)) : Cx := cx (nuX (dD7 z) (rX (roEBy1_0 z) (fun _ => .bool true))) (aB3 (aA9 (l := dD7 z) rfl)) 0 aB0 aA1
theorem roundsBy1_0 (z : List (LB × LB)) (st : Nat × Int × LB) (X : Nat → Value) (hI : aZ0 z st) : dA6 z (dR6 z) (.exit 0) [(3, .p 61 0)] [(1, .r 2000000 25 2 true), (61, bk 54 [.p 61 0, .sy 62]), (62, .t 0 5)] st X := by
  obtain ⟨tag, i, T⟩ := st
  have hI0 := hI
  obtain ⟨i0, i1, i2, i3, i4, i5, i6, i7, i8, it⟩ := dJ1 z tag i T hI
  rcases (show tag = 0 ∨ tag = 1 from by omega) with rfl | rfl
  · skip
    exact nxBy1_p0 hI0
  · skip
    by_cases h0 : i < (z.length : Int)
    · exact nxBy1_p1 hI0 h0
    · skip
      refine lvBy1_1 (h := cJ8) rfl ?_ (thXe (v := St' T) (u := St' (pS z)) rfl rfl (congrArg (fun l => St' l) (pS_end i0 (by omega) i5)) (thXv (v := rwG prC z) rfl rfl (aE0))) runBy1_p2
      unfold cJ8
      exact hc (ltF rfl rfl (by omega)) <|hnil
theorem lfOkBy1_0 {l : LF} {h : LH} (z : List (LB × LB)) (st : Nat × Int × LB) (hI : aZ0 z st) (hl : l.hp = some h) (hs : aY1 l h 30 aT2 (.exit 0) 1 61 101 = true) {th0 : LA} {sg0 : List (Nat × Nat)} (hth0 : ∀ X, ThOk (cx nu one 0 aB0 aA1) (DBy1 z st X) th0) (h0 : aN8 l h 30 61 63 th0 sg0 (dI7 st) (hpBy1 st) = true) {thx : LA} (hthx : ThOk (dR6 z) (cx nu one 0 aB0 aA1) thx) (hx : aY4 l h 30 61 101 thx [(3, .p 61 0)] [(1, .r 2000000 25 2 true), (61, bk 54 [.p 61 0, .sy 62]), (62, .t 0 5)] = true) : LfOk (cx nu one 0 aB0 aA1) cM1 l :=
  cR9 (E := dR6 z) (aZ0 z) (dI4 z) (DBy1 z) (fun _ _ => rfl) (fun _ _ => rfl) (fun _ _ => rfl) (fun st X t ht => aN1.trans (aS7 ((by decide : ∀ t, t ∈ aT2 → t < 1000000) t ht))) rfl rfl rfl hl hs ebBy1 rfl rfl st hI hth0 h0 hthx hx (roundsBy1_0 z)
end Go.Proofs.Ytfoalkoifcpdmaa.framesBack
