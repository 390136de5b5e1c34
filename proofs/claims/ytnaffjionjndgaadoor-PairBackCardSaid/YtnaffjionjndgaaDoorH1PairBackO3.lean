/- A part of the proof: an interpreter of the model's own code on partly known states, and that what it answers is what the program answers. No condition of its own. -/
import Derived.Test.YtnaffjionjndgaaDoorH1PairBackO2
set_option maxRecDepth 100000
set_option linter.unusedVariables false
set_option linter.unusedSimpArgs false
set_option maxHeartbeats 4000000
namespace Go.Proofs.YtnaffjionjndgaaDoor.pairBack
open Go Go.AX Go.Proofs Go.Proofs.YtnaffjionjndgaaDoor
variable {nu : Nat → Value} {one : ∀ i, i < 1000000 → (nu i).oneCell' = true} {E' : Cx} {x' : Ex} {e' : LA} {h' : LE}
noncomputable def bodyOk6 : Code := loopNo (Tryd.f3.body.getD .skip) 0
theorem keyOk6 : oneKey (loopsOf (Tryd.f3.body.getD .skip)) 7 0 0 = true := by kernel_rfl
def keepOk6 : List Nat := [0, 1, 2]
def epOk6_0 : LA := [(7, .sr 6), (8, .x 0)]
def hpOk6_0 : LE := [(6, .r 2000000 26 2 false)]
def nuOk6_0 (z : List (LB × LB)) (i : Int) : List Value := [.int .i64 (i), .int .i64 ((z.length : Int)), St' ((nthP z (Int.toNat (i))).1), .int .i64 (((nthP z (Int.toNat (i))).1.length : Int)), St' ((nthP z (Int.toNat (i))).2), .int .i64 (((nthP z (Int.toNat (i))).2.length : Int)), .int .i64 (i + 1), .int .i64 ((z.length : Int)), St' ((nthP z (Int.toNat (i))).1), .int .i64 (((nthP z (Int.toNat (i))).1.length : Int)), .int .i64 ((z.length : Int)), St' ((nthP z (Int.toNat (i))).1), .int .i64 (((nthP z (Int.toNat (i))).1.length : Int)), St' ((nthP z (Int.toNat (i))).2), .int .i64 (((nthP z (Int.toNat (i))).2.length : Int)), .int .i64 ((z.length : Int))]
def roOk6_0 (z : List (LB × LB)) (i : Int) : List Value := [rwG prC z, rwS ([] : List LB), rwS ([] : List LB), rwS ([] : List LB), rwS ([] : List LB)]
def epOk6 (st : Nat × Int) : LA := epOk6_0
def hpOk6 (st : Nat × Int) : LE := hpOk6_0
def nuOk6 (z : List (LB × LB)) (st : Nat × Int) : List Value := nuOk6_0 z (st.2)
def roOk6 (z : List (LB × LB)) (st : Nat × Int) : List Value := roOk6_0 z (st.2)
theorem onOk6 (z : List (LB × LB)) (st : Nat × Int) : ∀ j, (nuL (nuOk6 z st) j).oneCell' = true := by
  intro j
  unfold nuOk6
  exact nuL_one (l := nuOk6_0 z (st.2)) rfl j
theorem ebOk6 (st : Nat × Int) : (lfB (epOk6 st) && lfC keepOk6) = true := by
  unfold epOk6
  rfl
noncomputable def DOk6 (z : List (LB × LB)) (st : Nat × Int) (X : Nat → Value) : Cx := cx (nuX (nuOk6 z st) (rX (roOk6 z st) X)) (nuX_one (onOk6 z st)) 1 laidE laidE_stab
def InvOk6 (z : List (LB × LB)) (st : Nat × Int) : Prop := (0 ≤ (st.2)) ∧ ((st.2) ≤ (z.length : Int)) ∧ (z.length ≤ 40) ∧ (∀ q, q ∈ z → prB q) ∧ (ok6 (z.take (Int.toNat (st.2)))) ∧ ((st.1) < 1)
abbrev CjOk6 (z : List (LB × LB)) (tag : Nat) (i : Int) : Prop := (0 ≤ i) ∧ (i ≤ (z.length : Int)) ∧ (z.length ≤ 40) ∧ (∀ q, q ∈ z → prB q) ∧ (ok6 (z.take (Int.toNat i))) ∧ (tag < 1)
theorem mkIOk6 (z : List (LB × LB)) (tag : Nat) (i : Int) (h : CjOk6 z tag i) : InvOk6 z (tag, i) := h
theorem unIOk6 (z : List (LB × LB)) (tag : Nat) (i : Int) (h : InvOk6 z (tag, i)) : (0 ≤ i) ∧ (i ≤ (z.length : Int)) ∧ (z.length ≤ 40) ∧ (∀ q, q ∈ z → prB q) ∧ (ok6 (z.take (Int.toNat i))) ∧ (tag < 1) := h
def muOk6 (z : List (LB × LB)) (st : Nat × Int) : Nat := (z.length - (st.2).toNat)
abbrev RHOk6 (z : List (LB × LB)) (E' : Cx) (ex' : Ex) (epx' : LA) (hpx' : LE) (st : Nat × Int) (X : Nat → Value) : Prop := RoundH E' bodyOk6 keepOk6 113 ex' 4 20 20 50 epOk6 hpOk6 epx' hpx' (InvOk6 z) (muOk6 z) (DOk6 z) st X
noncomputable abbrev RNOk6_0 (h : LK) (x : Ex) (th : LA) (sg : List (Nat × Nat)) (m : Nat) (ep : LA) (hp : LE) : Bool := okRdH (code (tbl h) 3000 [] bodyOk6 (envOf (headOf epOk6_0 keepOk6) 113) ⟨lhSet hpOk6_0 .leaf, 20, 0, 0⟩) x keepOk6 113 50 th sg 20 m ep hp
theorem stOk6_0 (z : List (LB × LB)) (i : Int) {X : Nat → Value} {h : LK} (y : Nat × Int) {th : LA} {sg : List (Nat × Nat)} (ho : ∀ a' r', (a', r') ∈ h → HOk (cx (nuX (nuOk6_0 z i) (rX (roOk6_0 z i) X)) (nuX_one (nuL_one (l := nuOk6_0 z i) rfl)) 1 laidE laidE_stab) a' r') (hy : InvOk6 z y) (lt : muOk6 z y < muOk6 z (0, i)) (ht : ThOk (cx (nuX (nuOk6_0 z i) (rX (roOk6_0 z i) X)) (nuX_one (nuL_one (l := nuOk6_0 z i) rfl)) 1 laidE laidE_stab) (DOk6 z y X) th) (run : RNOk6_0 h .normal th sg 20 (epOk6 y) (hpOk6 y) = true) : RHOk6 z E' x' e' h' (0, i) X :=
  RoundH.next (tb := tbl h) (L := []) (f := 3000) y ((tabkOk _ _).hyps ho) (LpOk.nil _) rfl hy lt ht run
theorem lvOk6_0 (z : List (LB × LB)) (i : Int) {X : Nat → Value} {h : LK} {th : LA} {sg : List (Nat × Nat)} (hne : exB x' .normal = false) (ho : ∀ a' r', (a', r') ∈ h → HOk (cx (nuX (nuOk6_0 z i) (rX (roOk6_0 z i) X)) (nuX_one (nuL_one (l := nuOk6_0 z i) rfl)) 1 laidE laidE_stab) a' r') (ht : ThOk (cx (nuX (nuOk6_0 z i) (rX (roOk6_0 z i) X)) (nuX_one (nuL_one (l := nuOk6_0 z i) rfl)) 1 laidE laidE_stab) E' th) (run : RNOk6_0 h x' th sg 50 e' h' = true) : RHOk6 z E' x' e' h' (0, i) X :=
  RoundH.leave (tb := tbl h) (L := []) (f := 3000) ((tabkOk _ _).hyps ho) (LpOk.nil _) rfl hne ht run
def hyOk6_p0 : LK := [(.rn, .x 2000001), (.rl (.x 2000000) 2, .x 1), (.bin .lss (.x 0) (.x 1), .b true), (.el (.x 2000000) (.x 0) 2 0, .x 2), (.len (.x 2), .x 3), (.bin .gtr (.x 3) (.i .i64 (.ofNat 600)), .b false), (.el (.x 2000000) (.x 0) 2 1, .x 4), (.len (.x 4), .x 5), (.bin .gtr (.x 5) (.i .i64 (.ofNat 600)), .b false), (.bin .add (.x 0) (.i .i64 (.ofNat 1)), .x 6)]
theorem runOk6_p0 : RNOk6_0 hyOk6_p0 .normal [(0, .x 6), (2000000, .x 2000000)] [] 20 epOk6_0 hpOk6_0 = true := by kernel_rfl
theorem nxOk6_p0 (z : List (LB × LB)) (i : Int) (X : Nat → Value) (hI : InvOk6 z (0, i)) (h0 : i < (z.length : Int)) (h1 : ¬ (600 < ((nthP z (Int.toNat (i))).1.length : Int))) (h2 : ¬ (600 < ((nthP z (Int.toNat (i))).2.length : Int))) : RHOk6 z E' x' e' h' (0, i) X := by
  obtain ⟨i0, i1, i2, i3, i4, it⟩ := unIOk6 z 0 i hI
  have := prAt (l := z) (by assumption) (Int.toNat (i))
  refine stOk6_0 z i (h := hyOk6_p0) (0, (i + 1)) ?_ (mkIOk6 z 0 (i + 1) ⟨by omega, by omega, i2, i3, ok6_snoc i0 (by omega) i4 (by omega) (by omega), by omega⟩) (by show z.length - (i + 1).toNat < z.length - i.toNat; omega) (thXi (b := ((i + 1))) rfl rfl (by omega) (thXv (v := rwG prC z) rfl rfl (thNil))) runOk6_p0
  unfold hyOk6_p0
  exact hc (kRn (denX rfl)) <|
   hc (kRlG prC_len (isX rfl) (denX rfl) (by first | omega | (simp <;> omega))) <|
   hc (ltT rfl rfl (by omega)) <|
   hc (kElG (j := (Int.toNat (i))) (d := ([], [])) prC_len (by decide) (isX rfl) (isX rfl) (denX rfl) (by omega) (by omega) rfl) <|
   hc (lnV rfl rfl (by omega)) <|
   hc (gtcF rfl (by omega)) <|
   hc (kElG (j := (Int.toNat (i))) (d := ([], [])) prC_len (by decide) (isX rfl) (isX rfl) (denX rfl) (by omega) (by omega) rfl) <|
   hc (lnV rfl rfl (by omega)) <|
   hc (gtcF rfl (by omega)) <|
   hc (adC rfl rfl (by omega)) <|
   hnil
def hyOk6_p1 : LK := [(.rn, .x 2000002), (.rl (.x 2000000) 2, .x 7), (.bin .lss (.x 0) (.x 7), .b true), (.el (.x 2000000) (.x 0) 2 0, .x 8), (.len (.x 8), .x 9), (.bin .gtr (.x 9) (.i .i64 (.ofNat 600)), .b true)]
theorem runOk6_p1 : RNOk6_0 hyOk6_p1 .ret [] [] 50 [(6, .b true)] [] = true := by kernel_rfl
def hyOk6_p2 : LK := [(.rn, .x 2000003), (.rl (.x 2000000) 2, .x 10), (.bin .lss (.x 0) (.x 10), .b true), (.el (.x 2000000) (.x 0) 2 0, .x 11), (.len (.x 11), .x 12), (.bin .gtr (.x 12) (.i .i64 (.ofNat 600)), .b false), (.el (.x 2000000) (.x 0) 2 1, .x 13), (.len (.x 13), .x 14), (.bin .gtr (.x 14) (.i .i64 (.ofNat 600)), .b true)]
theorem runOk6_p2 : RNOk6_0 hyOk6_p2 .ret [] [] 50 [(6, .b true)] [] = true := by kernel_rfl
def hyOk6_p3 : LK := [(.rn, .x 2000004), (.rl (.x 2000000) 2, .x 15), (.bin .lss (.x 0) (.x 15), .b false)]
theorem runOk6_p3 : RNOk6_0 hyOk6_p3 (.exit 0) [(2000000, .x 2000000)] [] 50 [(7, .sr 6)] [(6, .r 2000000 26 2 false)] = true := by kernel_rfl
def nuEOk6_0 (z : List (LB × LB)) : List Value := []
def roEOk6_0 (z : List (LB × LB)) : List Value := [rwG prC z]
noncomputable def EOk6_0 (z : List (LB × LB)) : Cx := cx (nuX (nuEOk6_0 z) (rX (roEOk6_0 z) (fun _ => .bool true))) (nuX_one (nuL_one (l := nuEOk6_0 z) rfl)) 1 laidE laidE_stab
theorem roundsOk6_0 (z : List (LB × LB)) (x0 : ok6 z) (st : Nat × Int) (X : Nat → Value) (hI : InvOk6 z st) : RHOk6 z (EOk6_0 z) (.exit 0) [(7, .sr 6)] [(6, .r 2000000 26 2 false)] st X := by
  obtain ⟨tag, i⟩ := st
  have hI0 := hI
  obtain ⟨i0, i1, i2, i3, i4, it⟩ := unIOk6 z tag i hI
  obtain rfl : tag = 0 := by omega
  skip
  by_cases h0 : i < (z.length : Int)
  · by_cases h1 : 600 < ((nthP z (Int.toNat (i))).1.length : Int)
    · exfalso; have hC := x0 _ (nthP_memI (z := z) i0 (by omega)); omega
    · by_cases h2 : 600 < ((nthP z (Int.toNat (i))).2.length : Int)
      · exfalso; have hC := x0 _ (nthP_memI (z := z) i0 (by omega)); omega
      · exact nxOk6_p0 z i X hI0 h0 h1 h2
  · skip
    refine lvOk6_0 z i (h := hyOk6_p3) rfl ?_ (thXv (v := rwG prC z) rfl rfl (thNil)) runOk6_p3
    unfold hyOk6_p3
    exact hc (kRn (denX rfl)) <|
     hc (kRlG prC_len (isX rfl) (denX rfl) (by first | omega | (simp <;> omega))) <|
     hc (ltF rfl rfl (by omega)) <|
     hnil
theorem lfOkOk6_0 {l : LF} {h : LH} (z : List (LB × LB)) (x0 : ok6 z) (st : Nat × Int) (hI : InvOk6 z st) (hl : l.hp = some h) (hs : lfSame l h 113 keepOk6 (.exit 0) 4 20 50 = true) {th0 : LA} {sg0 : List (Nat × Nat)} (hth0 : ∀ X, ThOk (cx nu one 1 laidE laidE_stab) (DOk6 z st X) th0) (h0 : startOk l h 113 20 20 th0 sg0 (epOk6 st) (hpOk6 st) = true) {thx : LA} (hthx : ThOk (EOk6_0 z) (cx nu one 1 laidE laidE_stab) thx) (hx : exitOk l h 113 20 50 thx [(7, .sr 6)] [(6, .r 2000000 26 2 false)] = true) : LfOk (cx nu one 1 laidE laidE_stab) bodyOk6 l :=
  lfOkX (E := EOk6_0 z) (InvOk6 z) (muOk6 z) (DOk6 z) (fun _ _ => rfl) (fun _ _ => rfl) (fun _ _ => rfl) (fun st X t ht => nuX_keep.trans (rX_keep ((by decide : ∀ t, t ∈ keepOk6 → t < 1000000) t ht))) rfl rfl rfl hl hs ebOk6 rfl rfl st hI hth0 h0 hthx hx (roundsOk6_0 z x0)
def nuEOk6_1 (z : List (LB × LB)) : List Value := []
def roEOk6_1 (z : List (LB × LB)) : List Value := []
noncomputable def EOk6_1 (z : List (LB × LB)) : Cx := cx (nuX (nuEOk6_1 z) (rX (roEOk6_1 z) (fun _ => .bool true))) (nuX_one (nuL_one (l := nuEOk6_1 z) rfl)) 1 laidE laidE_stab
theorem roundsOk6_1 (z : List (LB × LB)) (x0 : ¬ ok6 z) (st : Nat × Int) (X : Nat → Value) (hI : InvOk6 z st) : RHOk6 z (EOk6_1 z) .ret [(6, .b true)] [] st X := by
  obtain ⟨tag, i⟩ := st
  have hI0 := hI
  obtain ⟨i0, i1, i2, i3, i4, it⟩ := unIOk6 z tag i hI
  obtain rfl : tag = 0 := by omega
  skip
  by_cases h0 : i < (z.length : Int)
  · by_cases h1 : 600 < ((nthP z (Int.toNat (i))).1.length : Int)
    · skip
      have := prAt (l := z) (by assumption) (Int.toNat (i))
      refine lvOk6_0 z i (h := hyOk6_p1) rfl ?_ (thNil) runOk6_p1
      unfold hyOk6_p1
      exact hc (kRn (denX rfl)) <|
       hc (kRlG prC_len (isX rfl) (denX rfl) (by first | omega | (simp <;> omega))) <|
       hc (ltT rfl rfl (by omega)) <|
       hc (kElG (j := (Int.toNat (i))) (d := ([], [])) prC_len (by decide) (isX rfl) (isX rfl) (denX rfl) (by omega) (by omega) rfl) <|
       hc (lnV rfl rfl (by omega)) <|
       hc (gtcT rfl (by omega)) <|
       hnil
    · by_cases h2 : 600 < ((nthP z (Int.toNat (i))).2.length : Int)
      · skip
        have := prAt (l := z) (by assumption) (Int.toNat (i))
        refine lvOk6_0 z i (h := hyOk6_p2) rfl ?_ (thNil) runOk6_p2
        unfold hyOk6_p2
        exact hc (kRn (denX rfl)) <|
         hc (kRlG prC_len (isX rfl) (denX rfl) (by first | omega | (simp <;> omega))) <|
         hc (ltT rfl rfl (by omega)) <|
         hc (kElG (j := (Int.toNat (i))) (d := ([], [])) prC_len (by decide) (isX rfl) (isX rfl) (denX rfl) (by omega) (by omega) rfl) <|
         hc (lnV rfl rfl (by omega)) <|
         hc (gtcF rfl (by omega)) <|
         hc (kElG (j := (Int.toNat (i))) (d := ([], [])) prC_len (by decide) (isX rfl) (isX rfl) (denX rfl) (by omega) (by omega) rfl) <|
         hc (lnV rfl rfl (by omega)) <|
         hc (gtcT rfl (by omega)) <|
         hnil
      · exact nxOk6_p0 z i X hI0 h0 h1 h2
  · exfalso; exact x0 (ok6_end i0 (by omega) i4)
theorem lfOkOk6_1 {l : LF} {h : LH} (z : List (LB × LB)) (x0 : ¬ ok6 z) (st : Nat × Int) (hI : InvOk6 z st) (hl : l.hp = some h) (hs : lfSame l h 113 keepOk6 .ret 4 20 50 = true) {th0 : LA} {sg0 : List (Nat × Nat)} (hth0 : ∀ X, ThOk (cx nu one 1 laidE laidE_stab) (DOk6 z st X) th0) (h0 : startOk l h 113 20 20 th0 sg0 (epOk6 st) (hpOk6 st) = true) {thx : LA} (hthx : ThOk (EOk6_1 z) (cx nu one 1 laidE laidE_stab) thx) (hx : exitOk l h 113 20 50 thx [(6, .b true)] [] = true) : LfOk (cx nu one 1 laidE laidE_stab) bodyOk6 l :=
  lfOkX (E := EOk6_1 z) (InvOk6 z) (muOk6 z) (DOk6 z) (fun _ _ => rfl) (fun _ _ => rfl) (fun _ _ => rfl) (fun st X t ht => nuX_keep.trans (rX_keep ((by decide : ∀ t, t ∈ keepOk6 → t < 1000000) t ht))) rfl rfl rfl hl hs ebOk6 rfl rfl st hI hth0 h0 hthx hx (roundsOk6_1 z x0)
noncomputable def bodyOk7 : Code := loopNo (Tryd.f3.body.getD .skip) 0
theorem keyOk7 : oneKey (loopsOf (Tryd.f3.body.getD .skip)) 7 0 0 = true := by kernel_rfl
def keepOk7 : List Nat := [0, 1, 2]
def epOk7_0 : LA := [(7, .sr 7), (8, .x 0)]
def hpOk7_0 : LE := [(7, .r 2000000 26 2 false)]
def nuOk7_0 (z : List (LB × LB)) (i : Int) : List Value := [.int .i64 (i), .int .i64 ((z.length : Int)), St' ((nthP z (Int.toNat (i))).1), .int .i64 (((nthP z (Int.toNat (i))).1.length : Int)), St' ((nthP z (Int.toNat (i))).2), .int .i64 (((nthP z (Int.toNat (i))).2.length : Int)), .int .i64 (i + 1), .int .i64 ((z.length : Int)), St' ((nthP z (Int.toNat (i))).1), .int .i64 (((nthP z (Int.toNat (i))).1.length : Int)), .int .i64 ((z.length : Int)), St' ((nthP z (Int.toNat (i))).1), .int .i64 (((nthP z (Int.toNat (i))).1.length : Int)), St' ((nthP z (Int.toNat (i))).2), .int .i64 (((nthP z (Int.toNat (i))).2.length : Int)), .int .i64 ((z.length : Int))]
def roOk7_0 (z : List (LB × LB)) (i : Int) : List Value := [rwG prC z, rwS ([] : List LB), rwS ([] : List LB), rwS ([] : List LB), rwS ([] : List LB)]
def epOk7 (st : Nat × Int) : LA := epOk7_0
def hpOk7 (st : Nat × Int) : LE := hpOk7_0
def nuOk7 (z : List (LB × LB)) (st : Nat × Int) : List Value := nuOk7_0 z (st.2)
def roOk7 (z : List (LB × LB)) (st : Nat × Int) : List Value := roOk7_0 z (st.2)
theorem onOk7 (z : List (LB × LB)) (st : Nat × Int) : ∀ j, (nuL (nuOk7 z st) j).oneCell' = true := by
  intro j
  unfold nuOk7
  exact nuL_one (l := nuOk7_0 z (st.2)) rfl j
theorem ebOk7 (st : Nat × Int) : (lfB (epOk7 st) && lfC keepOk7) = true := by
  unfold epOk7
  rfl
noncomputable def DOk7 (z : List (LB × LB)) (st : Nat × Int) (X : Nat → Value) : Cx := cx (nuX (nuOk7 z st) (rX (roOk7 z st) X)) (nuX_one (onOk7 z st)) 1 laidE laidE_stab
def InvOk7 (z : List (LB × LB)) (st : Nat × Int) : Prop := (0 ≤ (st.2)) ∧ ((st.2) ≤ (z.length : Int)) ∧ (z.length ≤ 40) ∧ (∀ q, q ∈ z → prB q) ∧ (ok6 (z.take (Int.toNat (st.2)))) ∧ ((st.1) < 1)
abbrev CjOk7 (z : List (LB × LB)) (tag : Nat) (i : Int) : Prop := (0 ≤ i) ∧ (i ≤ (z.length : Int)) ∧ (z.length ≤ 40) ∧ (∀ q, q ∈ z → prB q) ∧ (ok6 (z.take (Int.toNat i))) ∧ (tag < 1)
theorem mkIOk7 (z : List (LB × LB)) (tag : Nat) (i : Int) (h : CjOk7 z tag i) : InvOk7 z (tag, i) := h
theorem unIOk7 (z : List (LB × LB)) (tag : Nat) (i : Int) (h : InvOk7 z (tag, i)) : (0 ≤ i) ∧ (i ≤ (z.length : Int)) ∧ (z.length ≤ 40) ∧ (∀ q, q ∈ z → prB q) ∧ (ok6 (z.take (Int.toNat i))) ∧ (tag < 1) := h
def muOk7 (z : List (LB × LB)) (st : Nat × Int) : Nat := (z.length - (st.2).toNat)
abbrev RHOk7 (z : List (LB × LB)) (E' : Cx) (ex' : Ex) (epx' : LA) (hpx' : LE) (st : Nat × Int) (X : Nat → Value) : Prop := RoundH E' bodyOk7 keepOk7 113 ex' 4 20 20 50 epOk7 hpOk7 epx' hpx' (InvOk7 z) (muOk7 z) (DOk7 z) st X
noncomputable abbrev RNOk7_0 (h : LK) (x : Ex) (th : LA) (sg : List (Nat × Nat)) (m : Nat) (ep : LA) (hp : LE) : Bool := okRdH (code (tbl h) 3000 [] bodyOk7 (envOf (headOf epOk7_0 keepOk7) 113) ⟨lhSet hpOk7_0 .leaf, 20, 0, 0⟩) x keepOk7 113 50 th sg 20 m ep hp
theorem stOk7_0 (z : List (LB × LB)) (i : Int) {X : Nat → Value} {h : LK} (y : Nat × Int) {th : LA} {sg : List (Nat × Nat)} (ho : ∀ a' r', (a', r') ∈ h → HOk (cx (nuX (nuOk7_0 z i) (rX (roOk7_0 z i) X)) (nuX_one (nuL_one (l := nuOk7_0 z i) rfl)) 1 laidE laidE_stab) a' r') (hy : InvOk7 z y) (lt : muOk7 z y < muOk7 z (0, i)) (ht : ThOk (cx (nuX (nuOk7_0 z i) (rX (roOk7_0 z i) X)) (nuX_one (nuL_one (l := nuOk7_0 z i) rfl)) 1 laidE laidE_stab) (DOk7 z y X) th) (run : RNOk7_0 h .normal th sg 20 (epOk7 y) (hpOk7 y) = true) : RHOk7 z E' x' e' h' (0, i) X :=
  RoundH.next (tb := tbl h) (L := []) (f := 3000) y ((tabkOk _ _).hyps ho) (LpOk.nil _) rfl hy lt ht run
theorem lvOk7_0 (z : List (LB × LB)) (i : Int) {X : Nat → Value} {h : LK} {th : LA} {sg : List (Nat × Nat)} (hne : exB x' .normal = false) (ho : ∀ a' r', (a', r') ∈ h → HOk (cx (nuX (nuOk7_0 z i) (rX (roOk7_0 z i) X)) (nuX_one (nuL_one (l := nuOk7_0 z i) rfl)) 1 laidE laidE_stab) a' r') (ht : ThOk (cx (nuX (nuOk7_0 z i) (rX (roOk7_0 z i) X)) (nuX_one (nuL_one (l := nuOk7_0 z i) rfl)) 1 laidE laidE_stab) E' th) (run : RNOk7_0 h x' th sg 50 e' h' = true) : RHOk7 z E' x' e' h' (0, i) X :=
  RoundH.leave (tb := tbl h) (L := []) (f := 3000) ((tabkOk _ _).hyps ho) (LpOk.nil _) rfl hne ht run
def hyOk7_p0 : LK := [(.rn, .x 2000001), (.rl (.x 2000000) 2, .x 1), (.bin .lss (.x 0) (.x 1), .b true), (.el (.x 2000000) (.x 0) 2 0, .x 2), (.len (.x 2), .x 3), (.bin .gtr (.x 3) (.i .i64 (.ofNat 600)), .b false), (.el (.x 2000000) (.x 0) 2 1, .x 4), (.len (.x 4), .x 5), (.bin .gtr (.x 5) (.i .i64 (.ofNat 600)), .b false), (.bin .add (.x 0) (.i .i64 (.ofNat 1)), .x 6)]
theorem runOk7_p0 : RNOk7_0 hyOk7_p0 .normal [(0, .x 6), (2000000, .x 2000000)] [] 20 epOk7_0 hpOk7_0 = true := by kernel_rfl
theorem nxOk7_p0 (z : List (LB × LB)) (i : Int) (X : Nat → Value) (hI : InvOk7 z (0, i)) (h0 : i < (z.length : Int)) (h1 : ¬ (600 < ((nthP z (Int.toNat (i))).1.length : Int))) (h2 : ¬ (600 < ((nthP z (Int.toNat (i))).2.length : Int))) : RHOk7 z E' x' e' h' (0, i) X := by
  obtain ⟨i0, i1, i2, i3, i4, it⟩ := unIOk7 z 0 i hI
  have := prAt (l := z) (by assumption) (Int.toNat (i))
  refine stOk7_0 z i (h := hyOk7_p0) (0, (i + 1)) ?_ (mkIOk7 z 0 (i + 1) ⟨by omega, by omega, i2, i3, ok6_snoc i0 (by omega) i4 (by omega) (by omega), by omega⟩) (by show z.length - (i + 1).toNat < z.length - i.toNat; omega) (thXi (b := ((i + 1))) rfl rfl (by omega) (thXv (v := rwG prC z) rfl rfl (thNil))) runOk7_p0
  unfold hyOk7_p0
  exact hc (kRn (denX rfl)) <|
   hc (kRlG prC_len (isX rfl) (denX rfl) (by first | omega | (simp <;> omega))) <|
   hc (ltT rfl rfl (by omega)) <|
   hc (kElG (j := (Int.toNat (i))) (d := ([], [])) prC_len (by decide) (isX rfl) (isX rfl) (denX rfl) (by omega) (by omega) rfl) <|
   hc (lnV rfl rfl (by omega)) <|
   hc (gtcF rfl (by omega)) <|
   hc (kElG (j := (Int.toNat (i))) (d := ([], [])) prC_len (by decide) (isX rfl) (isX rfl) (denX rfl) (by omega) (by omega) rfl) <|
   hc (lnV rfl rfl (by omega)) <|
   hc (gtcF rfl (by omega)) <|
   hc (adC rfl rfl (by omega)) <|
   hnil
def hyOk7_p1 : LK := [(.rn, .x 2000002), (.rl (.x 2000000) 2, .x 7), (.bin .lss (.x 0) (.x 7), .b true), (.el (.x 2000000) (.x 0) 2 0, .x 8), (.len (.x 8), .x 9), (.bin .gtr (.x 9) (.i .i64 (.ofNat 600)), .b true)]
theorem runOk7_p1 : RNOk7_0 hyOk7_p1 .ret [] [] 50 [(6, .b true)] [] = true := by kernel_rfl
def hyOk7_p2 : LK := [(.rn, .x 2000003), (.rl (.x 2000000) 2, .x 10), (.bin .lss (.x 0) (.x 10), .b true), (.el (.x 2000000) (.x 0) 2 0, .x 11), (.len (.x 11), .x 12), (.bin .gtr (.x 12) (.i .i64 (.ofNat 600)), .b false), (.el (.x 2000000) (.x 0) 2 1, .x 13), (.len (.x 13), .x 14), (.bin .gtr (.x 14) (.i .i64 (.ofNat 600)), .b true)]
theorem runOk7_p2 : RNOk7_0 hyOk7_p2 .ret [] [] 50 [(6, .b true)] [] = true := by kernel_rfl
def hyOk7_p3 : LK := [(.rn, .x 2000004), (.rl (.x 2000000) 2, .x 15), (.bin .lss (.x 0) (.x 15), .b false)]
theorem runOk7_p3 : RNOk7_0 hyOk7_p3 (.exit 0) [(2000000, .x 2000000)] [] 50 [(7, .sr 7)] [(7, .r 2000000 26 2 false)] = true := by kernel_rfl
def nuEOk7_0 (z : List (LB × LB)) : List Value := []
def roEOk7_0 (z : List (LB × LB)) : List Value := [rwG prC z]
noncomputable def EOk7_0 (z : List (LB × LB)) : Cx := cx (nuX (nuEOk7_0 z) (rX (roEOk7_0 z) (fun _ => .bool true))) (nuX_one (nuL_one (l := nuEOk7_0 z) rfl)) 1 laidE laidE_stab
theorem roundsOk7_0 (z : List (LB × LB)) (x0 : ok6 z) (st : Nat × Int) (X : Nat → Value) (hI : InvOk7 z st) : RHOk7 z (EOk7_0 z) (.exit 0) [(7, .sr 7)] [(7, .r 2000000 26 2 false)] st X := by
  obtain ⟨tag, i⟩ := st
  have hI0 := hI
  obtain ⟨i0, i1, i2, i3, i4, it⟩ := unIOk7 z tag i hI
  obtain rfl : tag = 0 := by omega
  skip
  by_cases h0 : i < (z.length : Int)
  · by_cases h1 : 600 < ((nthP z (Int.toNat (i))).1.length : Int)
    · exfalso; have hC := x0 _ (nthP_memI (z := z) i0 (by omega)); omega
    · by_cases h2 : 600 < ((nthP z (Int.toNat (i))).2.length : Int)
      · exfalso; have hC := x0 _ (nthP_memI (z := z) i0 (by omega)); omega
      · exact nxOk7_p0 z i X hI0 h0 h1 h2
  · skip
    refine lvOk7_0 z i (h := hyOk7_p3) rfl ?_ (thXv (v := rwG prC z) rfl rfl (thNil)) runOk7_p3
    unfold hyOk7_p3
    exact hc (kRn (denX rfl)) <|
     hc (kRlG prC_len (isX rfl) (denX rfl) (by first | omega | (simp <;> omega))) <|
     hc (ltF rfl rfl (by omega)) <|
     hnil
theorem lfOkOk7_0 {l : LF} {h : LH} (z : List (LB × LB)) (x0 : ok6 z) (st : Nat × Int) (hI : InvOk7 z st) (hl : l.hp = some h) (hs : lfSame l h 113 keepOk7 (.exit 0) 4 20 50 = true) {th0 : LA} {sg0 : List (Nat × Nat)} (hth0 : ∀ X, ThOk (cx nu one 1 laidE laidE_stab) (DOk7 z st X) th0) (h0 : startOk l h 113 20 20 th0 sg0 (epOk7 st) (hpOk7 st) = true) {thx : LA} (hthx : ThOk (EOk7_0 z) (cx nu one 1 laidE laidE_stab) thx) (hx : exitOk l h 113 20 50 thx [(7, .sr 7)] [(7, .r 2000000 26 2 false)] = true) : LfOk (cx nu one 1 laidE laidE_stab) bodyOk7 l :=
  lfOkX (E := EOk7_0 z) (InvOk7 z) (muOk7 z) (DOk7 z) (fun _ _ => rfl) (fun _ _ => rfl) (fun _ _ => rfl) (fun st X t ht => nuX_keep.trans (rX_keep ((by decide : ∀ t, t ∈ keepOk7 → t < 1000000) t ht))) rfl rfl rfl hl hs ebOk7 rfl rfl st hI hth0 h0 hthx hx (roundsOk7_0 z x0)
def nuEOk7_1 (z : List (LB × LB)) : List Value := []
def roEOk7_1 (z : List (LB × LB)) : List Value := []
noncomputable def EOk7_1 (z : List (LB × LB)) : Cx := cx (nuX (nuEOk7_1 z) (rX (roEOk7_1 z) (fun _ => .bool true))) (nuX_one (nuL_one (l := nuEOk7_1 z) rfl)) 1 laidE laidE_stab
theorem roundsOk7_1 (z : List (LB × LB)) (x0 : ¬ ok6 z) (st : Nat × Int) (X : Nat → Value) (hI : InvOk7 z st) : RHOk7 z (EOk7_1 z) .ret [(6, .b true)] [] st X := by
  obtain ⟨tag, i⟩ := st
  have hI0 := hI
  obtain ⟨i0, i1, i2, i3, i4, it⟩ := unIOk7 z tag i hI
  obtain rfl : tag = 0 := by omega
  skip
  by_cases h0 : i < (z.length : Int)
  · by_cases h1 : 600 < ((nthP z (Int.toNat (i))).1.length : Int)
    · skip
      have := prAt (l := z) (by assumption) (Int.toNat (i))
      refine lvOk7_0 z i (h := hyOk7_p1) rfl ?_ (thNil) runOk7_p1
      unfold hyOk7_p1
      exact hc (kRn (denX rfl)) <|
       hc (kRlG prC_len (isX rfl) (denX rfl) (by first | omega | (simp <;> omega))) <|
       hc (ltT rfl rfl (by omega)) <|
       hc (kElG (j := (Int.toNat (i))) (d := ([], [])) prC_len (by decide) (isX rfl) (isX rfl) (denX rfl) (by omega) (by omega) rfl) <|
       hc (lnV rfl rfl (by omega)) <|
       hc (gtcT rfl (by omega)) <|
       hnil
    · by_cases h2 : 600 < ((nthP z (Int.toNat (i))).2.length : Int)
      · skip
        have := prAt (l := z) (by assumption) (Int.toNat (i))
        refine lvOk7_0 z i (h := hyOk7_p2) rfl ?_ (thNil) runOk7_p2
        unfold hyOk7_p2
        exact hc (kRn (denX rfl)) <|
         hc (kRlG prC_len (isX rfl) (denX rfl) (by first | omega | (simp <;> omega))) <|
         hc (ltT rfl rfl (by omega)) <|
         hc (kElG (j := (Int.toNat (i))) (d := ([], [])) prC_len (by decide) (isX rfl) (isX rfl) (denX rfl) (by omega) (by omega) rfl) <|
         hc (lnV rfl rfl (by omega)) <|
         hc (gtcF rfl (by omega)) <|
         hc (kElG (j := (Int.toNat (i))) (d := ([], [])) prC_len (by decide) (isX rfl) (isX rfl) (denX rfl) (by omega) (by omega) rfl) <|
         hc (lnV rfl rfl (by omega)) <|
         hc (gtcT rfl (by omega)) <|
         hnil
      · exact nxOk7_p0 z i X hI0 h0 h1 h2
  · exfalso; exact x0 (ok6_end i0 (by omega) i4)
theorem lfOkOk7_1 {l : LF} {h : LH} (z : List (LB × LB)) (x0 : ¬ ok6 z) (st : Nat × Int) (hI : InvOk7 z st) (hl : l.hp = some h) (hs : lfSame l h 113 keepOk7 .ret 4 20 50 = true) {th0 : LA} {sg0 : List (Nat × Nat)} (hth0 : ∀ X, ThOk (cx nu one 1 laidE laidE_stab) (DOk7 z st X) th0) (h0 : startOk l h 113 20 20 th0 sg0 (epOk7 st) (hpOk7 st) = true) {thx : LA} (hthx : ThOk (EOk7_1 z) (cx nu one 1 laidE laidE_stab) thx) (hx : exitOk l h 113 20 50 thx [(6, .b true)] [] = true) : LfOk (cx nu one 1 laidE laidE_stab) bodyOk7 l :=
  lfOkX (E := EOk7_1 z) (InvOk7 z) (muOk7 z) (DOk7 z) (fun _ _ => rfl) (fun _ _ => rfl) (fun _ _ => rfl) (fun st X t ht => nuX_keep.trans (rX_keep ((by decide : ∀ t, t ∈ keepOk7 → t < 1000000) t ht))) rfl rfl rfl hl hs ebOk7 rfl rfl st hI hth0 h0 hthx hx (roundsOk7_1 z x0)
noncomputable def bodyBy6x80 : Code := loopNo (Tryd.f5.body.getD .skip) 0
theorem keyBy6x80 : oneKey (loopsOf (Tryd.f5.body.getD .skip)) 3 0 0 = true := by kernel_rfl
def keepBy6x80 : List Nat := []
def epBy6x80_0 : LA := [(3, .p 80 0), (6, .sr 6), (7, .x 0), (8, .x 1)]
def hpBy6x80_0 : LE := [(6, .r 2000000 26 2 false), (80, .b ⟨40, .l [.nilp, .nils], 0, 0, 0, false, false⟩)]
def nuBy6x80_0 (z : List (LB × LB)) (i : Int) (T : LB) : List Value := [.int .i64 ((z.length : Int)), .int .i64 (i), St' ([] : LB), St' ((nthP z (Int.toNat (i))).1), St' ((nthP z (Int.toNat (i))).2), .int .i64 (((nthP z (Int.toNat (i))).1.length : Int)), St' (lnB ((nthP z (Int.toNat (i))).1.length : Int)), .int .i64 (((nthP z (Int.toNat (i))).2.length : Int)), St' (lnB ((nthP z (Int.toNat (i))).2.length : Int)), St' ((lnB ((nthP z (Int.toNat (i))).1.length : Int)) ++ (lnB ((nthP z (Int.toNat (i))).2.length : Int))), St' ((lnB ((nthP z (Int.toNat (i))).1.length : Int)) ++ ((lnB ((nthP z (Int.toNat (i))).2.length : Int)) ++ (nthP z (Int.toNat (i))).1)), St' ((lnB ((nthP z (Int.toNat (i))).1.length : Int)) ++ ((lnB ((nthP z (Int.toNat (i))).2.length : Int)) ++ ((nthP z (Int.toNat (i))).1 ++ (nthP z (Int.toNat (i))).2))), .int .u8 (bt ((lnB ((nthP z (Int.toNat (i))).1.length : Int)) ++ ((lnB ((nthP z (Int.toNat (i))).2.length : Int)) ++ ((nthP z (Int.toNat (i))).1 ++ (nthP z (Int.toNat (i))).2))) 0), .int .i64 (((lnB ((nthP z (Int.toNat (i))).1.length : Int)).length : Int) + ((lnB ((nthP z (Int.toNat (i))).2.length : Int)).length : Int) + ((nthP z (Int.toNat (i))).1.length : Int) + ((nthP z (Int.toNat (i))).2.length : Int)), .int .i64 (i + 1)]
def roBy6x80_0 (z : List (LB × LB)) (i : Int) (T : LB) : List Value := [rwG prC z, rwS ([] : List LB)]
def epBy6x80_1 : LA := [(3, .p 80 0), (6, .sr 6), (7, .x 0), (8, .x 1)]
def hpBy6x80_1 : LE := [(6, .r 2000000 26 2 false), (80, .b ⟨40, .l [.p 80 0, .sy 81], 0, 0, 0, false, false⟩), (81, .t 2 5)]
def nuBy6x80_1 (z : List (LB × LB)) (i : Int) (T : LB) : List Value := [.int .i64 ((z.length : Int)), .int .i64 (i), St' T, St' ([] : LB), St' ((nthP z (Int.toNat (i))).1), St' ((nthP z (Int.toNat (i))).2), .int .i64 (((nthP z (Int.toNat (i))).1.length : Int)), St' (lnB ((nthP z (Int.toNat (i))).1.length : Int)), .int .i64 (((nthP z (Int.toNat (i))).2.length : Int)), St' (lnB ((nthP z (Int.toNat (i))).2.length : Int)), St' ((lnB ((nthP z (Int.toNat (i))).1.length : Int)) ++ (lnB ((nthP z (Int.toNat (i))).2.length : Int))), St' ((lnB ((nthP z (Int.toNat (i))).1.length : Int)) ++ ((lnB ((nthP z (Int.toNat (i))).2.length : Int)) ++ (nthP z (Int.toNat (i))).1)), St' ((lnB ((nthP z (Int.toNat (i))).1.length : Int)) ++ ((lnB ((nthP z (Int.toNat (i))).2.length : Int)) ++ ((nthP z (Int.toNat (i))).1 ++ (nthP z (Int.toNat (i))).2))), St' (T ++ ((lnB ((nthP z (Int.toNat (i))).1.length : Int)) ++ ((lnB ((nthP z (Int.toNat (i))).2.length : Int)) ++ ((nthP z (Int.toNat (i))).1 ++ (nthP z (Int.toNat (i))).2)))), .int .i64 (((lnB ((nthP z (Int.toNat (i))).1.length : Int)).length : Int) + ((lnB ((nthP z (Int.toNat (i))).2.length : Int)).length : Int) + ((nthP z (Int.toNat (i))).1.length : Int) + ((nthP z (Int.toNat (i))).2.length : Int)), .int .i64 (i + 1), St' ([] : LB)]
def roBy6x80_1 (z : List (LB × LB)) (i : Int) (T : LB) : List Value := [rwG prC z, rwS ([] : List LB), rwS ([] : List LB)]
def epBy6x80 (st : Nat × Int × LB) : LA := if st.1 = 0 then epBy6x80_0 else epBy6x80_1
def hpBy6x80 (st : Nat × Int × LB) : LE := if st.1 = 0 then hpBy6x80_0 else hpBy6x80_1
def nuBy6x80 (z : List (LB × LB)) (st : Nat × Int × LB) : List Value := if st.1 = 0 then nuBy6x80_0 z (st.2.1) (st.2.2) else nuBy6x80_1 z (st.2.1) (st.2.2)
def roBy6x80 (z : List (LB × LB)) (st : Nat × Int × LB) : List Value := if st.1 = 0 then roBy6x80_0 z (st.2.1) (st.2.2) else roBy6x80_1 z (st.2.1) (st.2.2)
theorem onBy6x80 (z : List (LB × LB)) (st : Nat × Int × LB) : ∀ j, (nuL (nuBy6x80 z st) j).oneCell' = true := by
  intro j
  unfold nuBy6x80
  by_cases g0 : st.1 = 0
  · rw [if_pos g0]; exact nuL_one (l := nuBy6x80_0 z (st.2.1) (st.2.2)) rfl j
  rw [if_neg g0]
  exact nuL_one (l := nuBy6x80_1 z (st.2.1) (st.2.2)) rfl j
theorem ebBy6x80 (st : Nat × Int × LB) : (lfB (epBy6x80 st) && lfC keepBy6x80) = true := by
  unfold epBy6x80
  by_cases g0 : st.1 = 0
  · rw [if_pos g0]; rfl
  rw [if_neg g0]
  rfl
noncomputable def DBy6x80 (z : List (LB × LB)) (st : Nat × Int × LB) (X : Nat → Value) : Cx := cx (nuX (nuBy6x80 z st) (rX (roBy6x80 z st) X)) (nuX_one (onBy6x80 z st)) 1 laidE laidE_stab
def InvBy6x80 (z : List (LB × LB)) (st : Nat × Int × LB) : Prop := (0 ≤ (st.2.1)) ∧ ((st.2.1) ≤ (z.length : Int)) ∧ (z.length ≤ 40) ∧ (∀ q, q ∈ z → prB q) ∧ (ok6 z) ∧ ((st.2.2) = pS (z.take (Int.toNat (st.2.1)))) ∧ (((st.2.2).length : Int) ≤ 1208 * (st.2.1)) ∧ ((st.1) = 0 → (st.2.1) = 0) ∧ (1 ≤ z.length) ∧ ((st.1) < 2)
abbrev CjBy6x80 (z : List (LB × LB)) (tag : Nat) (i : Int) (T : LB) : Prop := (0 ≤ i) ∧ (i ≤ (z.length : Int)) ∧ (z.length ≤ 40) ∧ (∀ q, q ∈ z → prB q) ∧ (ok6 z) ∧ (T = pS (z.take (Int.toNat i))) ∧ ((T.length : Int) ≤ 1208 * i) ∧ (tag = 0 → i = 0) ∧ (1 ≤ z.length) ∧ (tag < 2)
theorem mkIBy6x80 (z : List (LB × LB)) (tag : Nat) (i : Int) (T : LB) (h : CjBy6x80 z tag i T) : InvBy6x80 z (tag, i, T) := h
theorem unIBy6x80 (z : List (LB × LB)) (tag : Nat) (i : Int) (T : LB) (h : InvBy6x80 z (tag, i, T)) : (0 ≤ i) ∧ (i ≤ (z.length : Int)) ∧ (z.length ≤ 40) ∧ (∀ q, q ∈ z → prB q) ∧ (ok6 z) ∧ (T = pS (z.take (Int.toNat i))) ∧ ((T.length : Int) ≤ 1208 * i) ∧ (tag = 0 → i = 0) ∧ (1 ≤ z.length) ∧ (tag < 2) := h
def muBy6x80 (z : List (LB × LB)) (st : Nat × Int × LB) : Nat := (z.length - (st.2.1).toNat)
abbrev RHBy6x80 (z : List (LB × LB)) (E' : Cx) (ex' : Ex) (epx' : LA) (hpx' : LE) (st : Nat × Int × LB) (X : Nat → Value) : Prop := RoundH E' bodyBy6x80 keepBy6x80 30 ex' 4 80 82 120 epBy6x80 hpBy6x80 epx' hpx' (InvBy6x80 z) (muBy6x80 z) (DBy6x80 z) st X
noncomputable abbrev RNBy6x80_0 (h : LK) (x : Ex) (th : LA) (sg : List (Nat × Nat)) (m : Nat) (ep : LA) (hp : LE) : Bool := okRdH (code (tbl h) 3000 [] bodyBy6x80 (envOf (headOf epBy6x80_0 keepBy6x80) 30) ⟨lhSet hpBy6x80_0 .leaf, 82, 0, 0⟩) x keepBy6x80 30 120 th sg 80 m ep hp
theorem stBy6x80_0 (z : List (LB × LB)) (i : Int) (T : LB) {X : Nat → Value} {h : LK} (y : Nat × Int × LB) {th : LA} {sg : List (Nat × Nat)} (ho : ∀ a' r', (a', r') ∈ h → HOk (cx (nuX (nuBy6x80_0 z i T) (rX (roBy6x80_0 z i T) X)) (nuX_one (nuL_one (l := nuBy6x80_0 z i T) rfl)) 1 laidE laidE_stab) a' r') (hy : InvBy6x80 z y) (lt : muBy6x80 z y < muBy6x80 z (0, i, T)) (ht : ThOk (cx (nuX (nuBy6x80_0 z i T) (rX (roBy6x80_0 z i T) X)) (nuX_one (nuL_one (l := nuBy6x80_0 z i T) rfl)) 1 laidE laidE_stab) (DBy6x80 z y X) th) (run : RNBy6x80_0 h .normal th sg 82 (epBy6x80 y) (hpBy6x80 y) = true) : RHBy6x80 z E' x' e' h' (0, i, T) X :=
  RoundH.next (tb := tbl h) (L := []) (f := 3000) y ((tabkOk _ _).hyps ho) (LpOk.nil _) rfl hy lt ht run
theorem lvBy6x80_0 (z : List (LB × LB)) (i : Int) (T : LB) {X : Nat → Value} {h : LK} {th : LA} {sg : List (Nat × Nat)} (hne : exB x' .normal = false) (ho : ∀ a' r', (a', r') ∈ h → HOk (cx (nuX (nuBy6x80_0 z i T) (rX (roBy6x80_0 z i T) X)) (nuX_one (nuL_one (l := nuBy6x80_0 z i T) rfl)) 1 laidE laidE_stab) a' r') (ht : ThOk (cx (nuX (nuBy6x80_0 z i T) (rX (roBy6x80_0 z i T) X)) (nuX_one (nuL_one (l := nuBy6x80_0 z i T) rfl)) 1 laidE laidE_stab) E' th) (run : RNBy6x80_0 h x' th sg 120 e' h' = true) : RHBy6x80 z E' x' e' h' (0, i, T) X :=
  RoundH.leave (tb := tbl h) (L := []) (f := 3000) ((tabkOk _ _).hyps ho) (LpOk.nil _) rfl hne ht run
noncomputable abbrev RNBy6x80_1 (h : LK) (x : Ex) (th : LA) (sg : List (Nat × Nat)) (m : Nat) (ep : LA) (hp : LE) : Bool := okRdH (code (tbl h) 3000 [] bodyBy6x80 (envOf (headOf epBy6x80_1 keepBy6x80) 30) ⟨lhSet hpBy6x80_1 .leaf, 82, 0, 0⟩) x keepBy6x80 30 120 th sg 80 m ep hp
theorem stBy6x80_1 (z : List (LB × LB)) (i : Int) (T : LB) {X : Nat → Value} {h : LK} (y : Nat × Int × LB) {th : LA} {sg : List (Nat × Nat)} (ho : ∀ a' r', (a', r') ∈ h → HOk (cx (nuX (nuBy6x80_1 z i T) (rX (roBy6x80_1 z i T) X)) (nuX_one (nuL_one (l := nuBy6x80_1 z i T) rfl)) 1 laidE laidE_stab) a' r') (hy : InvBy6x80 z y) (lt : muBy6x80 z y < muBy6x80 z (1, i, T)) (ht : ThOk (cx (nuX (nuBy6x80_1 z i T) (rX (roBy6x80_1 z i T) X)) (nuX_one (nuL_one (l := nuBy6x80_1 z i T) rfl)) 1 laidE laidE_stab) (DBy6x80 z y X) th) (run : RNBy6x80_1 h .normal th sg 82 (epBy6x80 y) (hpBy6x80 y) = true) : RHBy6x80 z E' x' e' h' (1, i, T) X :=
  RoundH.next (tb := tbl h) (L := []) (f := 3000) y ((tabkOk _ _).hyps ho) (LpOk.nil _) rfl hy lt ht run
theorem lvBy6x80_1 (z : List (LB × LB)) (i : Int) (T : LB) {X : Nat → Value} {h : LK} {th : LA} {sg : List (Nat × Nat)} (hne : exB x' .normal = false) (ho : ∀ a' r', (a', r') ∈ h → HOk (cx (nuX (nuBy6x80_1 z i T) (rX (roBy6x80_1 z i T) X)) (nuX_one (nuL_one (l := nuBy6x80_1 z i T) rfl)) 1 laidE laidE_stab) a' r') (ht : ThOk (cx (nuX (nuBy6x80_1 z i T) (rX (roBy6x80_1 z i T) X)) (nuX_one (nuL_one (l := nuBy6x80_1 z i T) rfl)) 1 laidE laidE_stab) E' th) (run : RNBy6x80_1 h x' th sg 120 e' h' = true) : RHBy6x80 z E' x' e' h' (1, i, T) X :=
  RoundH.leave (tb := tbl h) (L := []) (f := 3000) ((tabkOk _ _).hyps ho) (LpOk.nil _) rfl hne ht run
def hyBy6x80_p0 : LK := [(.rn, .x 2000001), (.bytes [], .x 2), (.bin .lss (.x 1) (.x 0), .b true), (.el (.x 2000000) (.x 1) 2 0, .x 3), (.el (.x 2000000) (.x 1) 2 1, .x 4), (.len (.x 3), .x 5), (.call 9 [.x 5], .x 6), (.len (.x 4), .x 7), (.call 9 [.x 7], .x 8), (.bin .add (.x 6) (.x 8), .x 9), (.bin .add (.x 9) (.x 3), .x 10), (.bin .add (.x 10) (.x 4), .x 11), (.byt (.x 11) (.i .i64 (.ofNat 0)), .x 12), (.fit (.x 11), .b true), (.len (.x 11), .x 13), (.bin .add (.x 1) (.i .i64 (.ofNat 1)), .x 14)]
theorem runBy6x80_p0 : RNBy6x80_0 hyBy6x80_p0 .normal [(0, .x 0), (1, .x 14), (2, .x 11), (2000000, .x 2000000)] [(80, 80), (81, 83)] 82 epBy6x80_1 hpBy6x80_1 = true := by kernel_rfl
theorem nxBy6x80_p0 (z : List (LB × LB)) (i : Int) (T : LB) (X : Nat → Value) (hI : InvBy6x80 z (0, i, T)) : RHBy6x80 z E' x' e' h' (0, i, T) X := by
  obtain ⟨i0, i1, i2, i3, i4, i5, i6, i7, i8, it⟩ := unIBy6x80 z 0 i T hI
  have h6 := i4 _ (nthP_memI (z := z) i0 (by omega))
  have := prAt (l := z) (by assumption) (Int.toNat (i))
  have := lnB_lenB ((nthP z (Int.toNat (i))).1.length : Int)
  have := lnB_lenB ((nthP z (Int.toNat (i))).2.length : Int)
  have := bt_lo ((lnB ((nthP z (Int.toNat (i))).1.length : Int)) ++ ((lnB ((nthP z (Int.toNat (i))).2.length : Int)) ++ ((nthP z (Int.toNat (i))).1 ++ (nthP z (Int.toNat (i))).2))) 0; have := bt_hi ((lnB ((nthP z (Int.toNat (i))).1.length : Int)) ++ ((lnB ((nthP z (Int.toNat (i))).2.length : Int)) ++ ((nthP z (Int.toNat (i))).1 ++ (nthP z (Int.toNat (i))).2))) 0
  have hsn := pS_snoc (z := z) (T := ([] : LB)) i0 (by omega) (by rw [i7 rfl]; rfl)
  have hpl := pB_len (p := nthP z (Int.toNat i)) h6.1 h6.2
  have hsl := congrArg List.length hsn
  have hsa : (([] : LB) ++ pB (nthP z (Int.toNat i))).length = ([] : LB).length + (pB (nthP z (Int.toNat i))).length := List.length_append
  refine stBy6x80_0 z i T (h := hyBy6x80_p0) (1, (i + 1), ((lnB ((nthP z (Int.toNat (i))).1.length : Int)) ++ ((lnB ((nthP z (Int.toNat (i))).2.length : Int)) ++ ((nthP z (Int.toNat (i))).1 ++ (nthP z (Int.toNat (i))).2)))) ?_ (mkIBy6x80 z 1 (i + 1) ((lnB ((nthP z (Int.toNat (i))).1.length : Int)) ++ ((lnB ((nthP z (Int.toNat (i))).2.length : Int)) ++ ((nthP z (Int.toNat (i))).1 ++ (nthP z (Int.toNat (i))).2))) ⟨by omega, by omega, i2, i3, i4, hsn, by show (((pB (nthP z (Int.toNat i))).length : Nat) : Int) ≤ _; omega, fun h => by omega, i8, by omega⟩) (by show z.length - (i + 1).toNat < z.length - i.toNat; omega) (thXv (v := .int .i64 ((z.length : Int))) rfl rfl (thXi (b := ((i + 1))) rfl rfl (by omega) (thXv (v := St' ((lnB ((nthP z (Int.toNat (i))).1.length : Int)) ++ ((lnB ((nthP z (Int.toNat (i))).2.length : Int)) ++ ((nthP z (Int.toNat (i))).1 ++ (nthP z (Int.toNat (i))).2)))) rfl rfl (thXv (v := rwG prC z) rfl rfl (thNil))))) runBy6x80_p0
  unfold hyBy6x80_p0
  exact hc (kRn (denX rfl)) <|
   hc (kBytesB (bs := ([] : LB)) .nil (denX rfl)) <|
   hc (ltT rfl rfl (by omega)) <|
   hc (kElG (j := (Int.toNat (i))) (d := ([], [])) prC_len (by decide) (isX rfl) (isX rfl) (denX rfl) (by omega) (by omega) rfl) <|
   hc (kElG (j := (Int.toNat (i))) (d := ([], [])) prC_len (by decide) (isX rfl) (isX rfl) (denX rfl) (by omega) (by omega) rfl) <|
   hc (lnV rfl rfl (by omega)) <|
   hc (hokLen (isX rfl) (denX rfl) (by omega) (by omega)) <|
   hc (lnV rfl rfl (by omega)) <|
   hc (hokLen (isX rfl) (denX rfl) (by omega) (by omega)) <|
   hc (kCat (isX rfl) (isX rfl) (denX rfl) (by first | rfl | (simp; done)) (by omega)) <|
   hc (kCat (isX rfl) (isX rfl) (denX rfl) (by first | rfl | (simp; done)) (by first | omega | (simp <;> omega))) <|
   hc (kCat (isX rfl) (isX rfl) (denX rfl) (by first | rfl | (simp; done)) (by first | omega | (simp <;> omega))) <|
   hc (kByt (i := 0) (isX rfl) (isZ (m := 0) rfl) (denX rfl) rfl (by first | omega | (simp <;> omega)) rfl) <|
   hc (kFit (isX rfl) (by first | omega | (simp <;> omega))) <|
   hc (lnV rfl rfl (by first | omega | (simp <;> omega))) <|
   hc (adC rfl rfl (by omega)) <|
   hnil
def hyBy6x80_p1 : LK := [(.rn, .x 2000001), (.bytes [], .x 3), (.bin .lss (.x 1) (.x 0), .b true), (.el (.x 2000000) (.x 1) 2 0, .x 4), (.el (.x 2000000) (.x 1) 2 1, .x 5), (.len (.x 4), .x 6), (.call 9 [.x 6], .x 7), (.len (.x 5), .x 8), (.call 9 [.x 8], .x 9), (.bin .add (.x 7) (.x 9), .x 10), (.bin .add (.x 10) (.x 4), .x 11), (.bin .add (.x 11) (.x 5), .x 12), (.bin .add (.x 2) (.x 12), .x 13), (.fit (.x 13), .b true), (.len (.x 12), .x 14), (.bin .add (.x 1) (.i .i64 (.ofNat 1)), .x 15)]
theorem runBy6x80_p1 : RNBy6x80_1 hyBy6x80_p1 .normal [(0, .x 0), (1, .x 15), (2, .x 13), (2000000, .x 2000000)] [(80, 80), (81, 83)] 82 epBy6x80_1 hpBy6x80_1 = true := by kernel_rfl
theorem nxBy6x80_p1 (z : List (LB × LB)) (i : Int) (T : LB) (X : Nat → Value) (hI : InvBy6x80 z (1, i, T)) (h0 : i < (z.length : Int)) : RHBy6x80 z E' x' e' h' (1, i, T) X := by
  obtain ⟨i0, i1, i2, i3, i4, i5, i6, i7, i8, it⟩ := unIBy6x80 z 1 i T hI
  have h6 := i4 _ (nthP_memI (z := z) i0 (by omega))
  have := prAt (l := z) (by assumption) (Int.toNat (i))
  have := lnB_lenB ((nthP z (Int.toNat (i))).1.length : Int)
  have := lnB_lenB ((nthP z (Int.toNat (i))).2.length : Int)
  have hsn := pS_snoc (z := z) (T := T) i0 (by omega) i5
  have hpl := pB_len (p := nthP z (Int.toNat i)) h6.1 h6.2
  have hsl := congrArg List.length hsn
  have hsa : (T ++ pB (nthP z (Int.toNat i))).length = T.length + (pB (nthP z (Int.toNat i))).length := List.length_append
  refine stBy6x80_1 z i T (h := hyBy6x80_p1) (1, (i + 1), (T ++ ((lnB ((nthP z (Int.toNat (i))).1.length : Int)) ++ ((lnB ((nthP z (Int.toNat (i))).2.length : Int)) ++ ((nthP z (Int.toNat (i))).1 ++ (nthP z (Int.toNat (i))).2))))) ?_ (mkIBy6x80 z 1 (i + 1) (T ++ ((lnB ((nthP z (Int.toNat (i))).1.length : Int)) ++ ((lnB ((nthP z (Int.toNat (i))).2.length : Int)) ++ ((nthP z (Int.toNat (i))).1 ++ (nthP z (Int.toNat (i))).2)))) ⟨by omega, by omega, i2, i3, i4, hsn, by first | omega | (simp only [List.length_append, List.length_nil] at *; omega), fun h => by omega, i8, by omega⟩) (by show z.length - (i + 1).toNat < z.length - i.toNat; omega) (thXv (v := .int .i64 ((z.length : Int))) rfl rfl (thXi (b := ((i + 1))) rfl rfl (by omega) (thXv (v := St' (T ++ ((lnB ((nthP z (Int.toNat (i))).1.length : Int)) ++ ((lnB ((nthP z (Int.toNat (i))).2.length : Int)) ++ ((nthP z (Int.toNat (i))).1 ++ (nthP z (Int.toNat (i))).2))))) rfl rfl (thXv (v := rwG prC z) rfl rfl (thNil))))) runBy6x80_p1
  unfold hyBy6x80_p1
  exact hc (kRn (denX rfl)) <|
   hc (kBytesB (bs := ([] : LB)) .nil (denX rfl)) <|
   hc (ltT rfl rfl (by omega)) <|
   hc (kElG (j := (Int.toNat (i))) (d := ([], [])) prC_len (by decide) (isX rfl) (isX rfl) (denX rfl) (by omega) (by omega) rfl) <|
   hc (kElG (j := (Int.toNat (i))) (d := ([], [])) prC_len (by decide) (isX rfl) (isX rfl) (denX rfl) (by omega) (by omega) rfl) <|
   hc (lnV rfl rfl (by omega)) <|
   hc (hokLen (isX rfl) (denX rfl) (by omega) (by omega)) <|
   hc (lnV rfl rfl (by omega)) <|
   hc (hokLen (isX rfl) (denX rfl) (by omega) (by omega)) <|
   hc (kCat (isX rfl) (isX rfl) (denX rfl) (by first | rfl | (simp; done)) (by omega)) <|
   hc (kCat (isX rfl) (isX rfl) (denX rfl) (by first | rfl | (simp; done)) (by first | omega | (simp <;> omega))) <|
   hc (kCat (isX rfl) (isX rfl) (denX rfl) (by first | rfl | (simp; done)) (by first | omega | (simp <;> omega))) <|
   hc (kCat (isX rfl) (isX rfl) (denX rfl) (by first | rfl | (simp; done)) (by first | omega | (simp <;> omega))) <|
   hc (kFit (isX rfl) (by first | omega | (simp <;> omega))) <|
   hc (lnV rfl rfl (by first | omega | (simp <;> omega))) <|
   hc (adC rfl rfl (by omega)) <|
   hnil
def hyBy6x80_p2 : LK := [(.rn, .x 2000002), (.bytes [], .x 16), (.bin .lss (.x 1) (.x 0), .b false)]
theorem runBy6x80_p2 : RNBy6x80_1 hyBy6x80_p2 (.exit 0) [(0, .x 2), (2000000, .x 2000000)] [(80, 80), (81, 81)] 120 [(3, .p 80 0)] [(6, .r 2000000 26 2 false), (80, .b ⟨40, .l [.p 80 0, .sy 81], 0, 0, 0, false, false⟩), (81, .t 0 5)] = true := by kernel_rfl
def nuEBy6x80_0 (z : List (LB × LB)) : List Value := [St' (pS z)]
def roEBy6x80_0 (z : List (LB × LB)) : List Value := [rwG prC z]
noncomputable def EBy6x80_0 (z : List (LB × LB)) : Cx := cx (nuX (nuEBy6x80_0 z) (rX (roEBy6x80_0 z) (fun _ => .bool true))) (nuX_one (nuL_one (l := nuEBy6x80_0 z) rfl)) 1 laidE laidE_stab
theorem roundsBy6x80_0 (z : List (LB × LB)) (st : Nat × Int × LB) (X : Nat → Value) (hI : InvBy6x80 z st) : RHBy6x80 z (EBy6x80_0 z) (.exit 0) [(3, .p 80 0)] [(6, .r 2000000 26 2 false), (80, .b ⟨40, .l [.p 80 0, .sy 81], 0, 0, 0, false, false⟩), (81, .t 0 5)] st X := by
  obtain ⟨tag, i, T⟩ := st
  have hI0 := hI
  obtain ⟨i0, i1, i2, i3, i4, i5, i6, i7, i8, it⟩ := unIBy6x80 z tag i T hI
  rcases (show tag = 0 ∨ tag = 1 from by omega) with rfl | rfl
  · skip
    exact nxBy6x80_p0 z i T X hI0
  · skip
    by_cases h0 : i < (z.length : Int)
    · exact nxBy6x80_p1 z i T X hI0 h0
    · skip
      refine lvBy6x80_1 z i T (h := hyBy6x80_p2) rfl ?_ (thXe (v := St' T) (u := St' (pS z)) rfl rfl (congrArg (fun l => St' l) (pS_end i0 (by omega) i5)) (thXv (v := rwG prC z) rfl rfl (thNil))) runBy6x80_p2
      unfold hyBy6x80_p2
      exact hc (kRn (denX rfl)) <|
       hc (kBytesB (bs := ([] : LB)) .nil (denX rfl)) <|
       hc (ltF rfl rfl (by omega)) <|
       hnil
theorem lfOkBy6x80_0 {l : LF} {h : LH} (z : List (LB × LB)) (st : Nat × Int × LB) (hI : InvBy6x80 z st) (hl : l.hp = some h) (hs : lfSame l h 30 keepBy6x80 (.exit 0) 4 80 120 = true) {th0 : LA} {sg0 : List (Nat × Nat)} (hth0 : ∀ X, ThOk (cx nu one 1 laidE laidE_stab) (DBy6x80 z st X) th0) (h0 : startOk l h 30 80 82 th0 sg0 (epBy6x80 st) (hpBy6x80 st) = true) {thx : LA} (hthx : ThOk (EBy6x80_0 z) (cx nu one 1 laidE laidE_stab) thx) (hx : exitOk l h 30 80 120 thx [(3, .p 80 0)] [(6, .r 2000000 26 2 false), (80, .b ⟨40, .l [.p 80 0, .sy 81], 0, 0, 0, false, false⟩), (81, .t 0 5)] = true) : LfOk (cx nu one 1 laidE laidE_stab) bodyBy6x80 l :=
  lfOkX (E := EBy6x80_0 z) (InvBy6x80 z) (muBy6x80 z) (DBy6x80 z) (fun _ _ => rfl) (fun _ _ => rfl) (fun _ _ => rfl) (fun st X t ht => nuX_keep.trans (rX_keep ((by decide : ∀ t, t ∈ keepBy6x80 → t < 1000000) t ht))) rfl rfl rfl hl hs ebBy6x80 rfl rfl st hI hth0 h0 hthx hx (roundsBy6x80_0 z)
noncomputable def bodyBy5x340 : Code := loopNo (Tryd.f5.body.getD .skip) 0
theorem keyBy5x340 : oneKey (loopsOf (Tryd.f5.body.getD .skip)) 3 0 0 = true := by kernel_rfl
def keepBy5x340 : List Nat := []
def epBy5x340_0 : LA := [(3, .p 340 0), (6, .sr 5), (7, .x 0), (8, .x 1)]
def hpBy5x340_0 : LE := [(5, .r 2000000 26 2 true), (340, .b ⟨40, .l [.nilp, .nils], 0, 0, 0, false, false⟩)]
def nuBy5x340_0 (z : List (LB × LB)) (i : Int) (T : LB) : List Value := [.int .i64 ((z.length : Int)), .int .i64 (i), St' ([] : LB), St' ((nthP z (Int.toNat (i))).1), St' ((nthP z (Int.toNat (i))).2), .int .i64 (((nthP z (Int.toNat (i))).1.length : Int)), St' (lnB ((nthP z (Int.toNat (i))).1.length : Int)), .int .i64 (((nthP z (Int.toNat (i))).2.length : Int)), St' (lnB ((nthP z (Int.toNat (i))).2.length : Int)), St' ((lnB ((nthP z (Int.toNat (i))).1.length : Int)) ++ (lnB ((nthP z (Int.toNat (i))).2.length : Int))), St' ((lnB ((nthP z (Int.toNat (i))).1.length : Int)) ++ ((lnB ((nthP z (Int.toNat (i))).2.length : Int)) ++ (nthP z (Int.toNat (i))).1)), St' ((lnB ((nthP z (Int.toNat (i))).1.length : Int)) ++ ((lnB ((nthP z (Int.toNat (i))).2.length : Int)) ++ ((nthP z (Int.toNat (i))).1 ++ (nthP z (Int.toNat (i))).2))), .int .u8 (bt ((lnB ((nthP z (Int.toNat (i))).1.length : Int)) ++ ((lnB ((nthP z (Int.toNat (i))).2.length : Int)) ++ ((nthP z (Int.toNat (i))).1 ++ (nthP z (Int.toNat (i))).2))) 0), .int .i64 (((lnB ((nthP z (Int.toNat (i))).1.length : Int)).length : Int) + ((lnB ((nthP z (Int.toNat (i))).2.length : Int)).length : Int) + ((nthP z (Int.toNat (i))).1.length : Int) + ((nthP z (Int.toNat (i))).2.length : Int)), .int .i64 (i + 1)]
def roBy5x340_0 (z : List (LB × LB)) (i : Int) (T : LB) : List Value := [rwG prC z, rwS ([] : List LB)]
def epBy5x340_1 : LA := [(3, .p 340 0), (6, .sr 5), (7, .x 0), (8, .x 1)]
def hpBy5x340_1 : LE := [(5, .r 2000000 26 2 true), (340, .b ⟨40, .l [.p 340 0, .sy 341], 0, 0, 0, false, false⟩), (341, .t 2 5)]
def nuBy5x340_1 (z : List (LB × LB)) (i : Int) (T : LB) : List Value := [.int .i64 ((z.length : Int)), .int .i64 (i), St' T, St' ([] : LB), St' ((nthP z (Int.toNat (i))).1), St' ((nthP z (Int.toNat (i))).2), .int .i64 (((nthP z (Int.toNat (i))).1.length : Int)), St' (lnB ((nthP z (Int.toNat (i))).1.length : Int)), .int .i64 (((nthP z (Int.toNat (i))).2.length : Int)), St' (lnB ((nthP z (Int.toNat (i))).2.length : Int)), St' ((lnB ((nthP z (Int.toNat (i))).1.length : Int)) ++ (lnB ((nthP z (Int.toNat (i))).2.length : Int))), St' ((lnB ((nthP z (Int.toNat (i))).1.length : Int)) ++ ((lnB ((nthP z (Int.toNat (i))).2.length : Int)) ++ (nthP z (Int.toNat (i))).1)), St' ((lnB ((nthP z (Int.toNat (i))).1.length : Int)) ++ ((lnB ((nthP z (Int.toNat (i))).2.length : Int)) ++ ((nthP z (Int.toNat (i))).1 ++ (nthP z (Int.toNat (i))).2))), St' (T ++ ((lnB ((nthP z (Int.toNat (i))).1.length : Int)) ++ ((lnB ((nthP z (Int.toNat (i))).2.length : Int)) ++ ((nthP z (Int.toNat (i))).1 ++ (nthP z (Int.toNat (i))).2)))), .int .i64 (((lnB ((nthP z (Int.toNat (i))).1.length : Int)).length : Int) + ((lnB ((nthP z (Int.toNat (i))).2.length : Int)).length : Int) + ((nthP z (Int.toNat (i))).1.length : Int) + ((nthP z (Int.toNat (i))).2.length : Int)), .int .i64 (i + 1), St' ([] : LB)]
def roBy5x340_1 (z : List (LB × LB)) (i : Int) (T : LB) : List Value := [rwG prC z, rwS ([] : List LB), rwS ([] : List LB)]
def epBy5x340 (st : Nat × Int × LB) : LA := if st.1 = 0 then epBy5x340_0 else epBy5x340_1
def hpBy5x340 (st : Nat × Int × LB) : LE := if st.1 = 0 then hpBy5x340_0 else hpBy5x340_1
def nuBy5x340 (z : List (LB × LB)) (st : Nat × Int × LB) : List Value := if st.1 = 0 then nuBy5x340_0 z (st.2.1) (st.2.2) else nuBy5x340_1 z (st.2.1) (st.2.2)
def roBy5x340 (z : List (LB × LB)) (st : Nat × Int × LB) : List Value := if st.1 = 0 then roBy5x340_0 z (st.2.1) (st.2.2) else roBy5x340_1 z (st.2.1) (st.2.2)
theorem onBy5x340 (z : List (LB × LB)) (st : Nat × Int × LB) : ∀ j, (nuL (nuBy5x340 z st) j).oneCell' = true := by
  intro j
  unfold nuBy5x340
  by_cases g0 : st.1 = 0
  · rw [if_pos g0]; exact nuL_one (l := nuBy5x340_0 z (st.2.1) (st.2.2)) rfl j
  rw [if_neg g0]
  exact nuL_one (l := nuBy5x340_1 z (st.2.1) (st.2.2)) rfl j
theorem ebBy5x340 (st : Nat × Int × LB) : (lfB (epBy5x340 st) && lfC keepBy5x340) = true := by
  unfold epBy5x340
  by_cases g0 : st.1 = 0
  · rw [if_pos g0]; rfl
  rw [if_neg g0]
  rfl
noncomputable def DBy5x340 (z : List (LB × LB)) (st : Nat × Int × LB) (X : Nat → Value) : Cx := cx (nuX (nuBy5x340 z st) (rX (roBy5x340 z st) X)) (nuX_one (onBy5x340 z st)) 1 laidE laidE_stab
def InvBy5x340 (z : List (LB × LB)) (st : Nat × Int × LB) : Prop := (0 ≤ (st.2.1)) ∧ ((st.2.1) ≤ (z.length : Int)) ∧ (z.length ≤ 40) ∧ (∀ q, q ∈ z → prB q) ∧ (ok6 z) ∧ ((st.2.2) = pS (z.take (Int.toNat (st.2.1)))) ∧ (((st.2.2).length : Int) ≤ 1208 * (st.2.1)) ∧ ((st.1) = 0 → (st.2.1) = 0) ∧ (1 ≤ z.length) ∧ ((st.1) < 2)
abbrev CjBy5x340 (z : List (LB × LB)) (tag : Nat) (i : Int) (T : LB) : Prop := (0 ≤ i) ∧ (i ≤ (z.length : Int)) ∧ (z.length ≤ 40) ∧ (∀ q, q ∈ z → prB q) ∧ (ok6 z) ∧ (T = pS (z.take (Int.toNat i))) ∧ ((T.length : Int) ≤ 1208 * i) ∧ (tag = 0 → i = 0) ∧ (1 ≤ z.length) ∧ (tag < 2)
theorem mkIBy5x340 (z : List (LB × LB)) (tag : Nat) (i : Int) (T : LB) (h : CjBy5x340 z tag i T) : InvBy5x340 z (tag, i, T) := h
theorem unIBy5x340 (z : List (LB × LB)) (tag : Nat) (i : Int) (T : LB) (h : InvBy5x340 z (tag, i, T)) : (0 ≤ i) ∧ (i ≤ (z.length : Int)) ∧ (z.length ≤ 40) ∧ (∀ q, q ∈ z → prB q) ∧ (ok6 z) ∧ (T = pS (z.take (Int.toNat i))) ∧ ((T.length : Int) ≤ 1208 * i) ∧ (tag = 0 → i = 0) ∧ (1 ≤ z.length) ∧ (tag < 2) := h
def muBy5x340 (z : List (LB × LB)) (st : Nat × Int × LB) : Nat := (z.length - (st.2.1).toNat)
abbrev RHBy5x340 (z : List (LB × LB)) (E' : Cx) (ex' : Ex) (epx' : LA) (hpx' : LE) (st : Nat × Int × LB) (X : Nat → Value) : Prop := RoundH E' bodyBy5x340 keepBy5x340 30 ex' 4 340 342 380 epBy5x340 hpBy5x340 epx' hpx' (InvBy5x340 z) (muBy5x340 z) (DBy5x340 z) st X
noncomputable abbrev RNBy5x340_0 (h : LK) (x : Ex) (th : LA) (sg : List (Nat × Nat)) (m : Nat) (ep : LA) (hp : LE) : Bool := okRdH (code (tbl h) 3000 [] bodyBy5x340 (envOf (headOf epBy5x340_0 keepBy5x340) 30) ⟨lhSet hpBy5x340_0 .leaf, 342, 0, 0⟩) x keepBy5x340 30 380 th sg 340 m ep hp
theorem stBy5x340_0 (z : List (LB × LB)) (i : Int) (T : LB) {X : Nat → Value} {h : LK} (y : Nat × Int × LB) {th : LA} {sg : List (Nat × Nat)} (ho : ∀ a' r', (a', r') ∈ h → HOk (cx (nuX (nuBy5x340_0 z i T) (rX (roBy5x340_0 z i T) X)) (nuX_one (nuL_one (l := nuBy5x340_0 z i T) rfl)) 1 laidE laidE_stab) a' r') (hy : InvBy5x340 z y) (lt : muBy5x340 z y < muBy5x340 z (0, i, T)) (ht : ThOk (cx (nuX (nuBy5x340_0 z i T) (rX (roBy5x340_0 z i T) X)) (nuX_one (nuL_one (l := nuBy5x340_0 z i T) rfl)) 1 laidE laidE_stab) (DBy5x340 z y X) th) (run : RNBy5x340_0 h .normal th sg 342 (epBy5x340 y) (hpBy5x340 y) = true) : RHBy5x340 z E' x' e' h' (0, i, T) X :=
  RoundH.next (tb := tbl h) (L := []) (f := 3000) y ((tabkOk _ _).hyps ho) (LpOk.nil _) rfl hy lt ht run
theorem lvBy5x340_0 (z : List (LB × LB)) (i : Int) (T : LB) {X : Nat → Value} {h : LK} {th : LA} {sg : List (Nat × Nat)} (hne : exB x' .normal = false) (ho : ∀ a' r', (a', r') ∈ h → HOk (cx (nuX (nuBy5x340_0 z i T) (rX (roBy5x340_0 z i T) X)) (nuX_one (nuL_one (l := nuBy5x340_0 z i T) rfl)) 1 laidE laidE_stab) a' r') (ht : ThOk (cx (nuX (nuBy5x340_0 z i T) (rX (roBy5x340_0 z i T) X)) (nuX_one (nuL_one (l := nuBy5x340_0 z i T) rfl)) 1 laidE laidE_stab) E' th) (run : RNBy5x340_0 h x' th sg 380 e' h' = true) : RHBy5x340 z E' x' e' h' (0, i, T) X :=
  RoundH.leave (tb := tbl h) (L := []) (f := 3000) ((tabkOk _ _).hyps ho) (LpOk.nil _) rfl hne ht run
noncomputable abbrev RNBy5x340_1 (h : LK) (x : Ex) (th : LA) (sg : List (Nat × Nat)) (m : Nat) (ep : LA) (hp : LE) : Bool := okRdH (code (tbl h) 3000 [] bodyBy5x340 (envOf (headOf epBy5x340_1 keepBy5x340) 30) ⟨lhSet hpBy5x340_1 .leaf, 342, 0, 0⟩) x keepBy5x340 30 380 th sg 340 m ep hp
theorem stBy5x340_1 (z : List (LB × LB)) (i : Int) (T : LB) {X : Nat → Value} {h : LK} (y : Nat × Int × LB) {th : LA} {sg : List (Nat × Nat)} (ho : ∀ a' r', (a', r') ∈ h → HOk (cx (nuX (nuBy5x340_1 z i T) (rX (roBy5x340_1 z i T) X)) (nuX_one (nuL_one (l := nuBy5x340_1 z i T) rfl)) 1 laidE laidE_stab) a' r') (hy : InvBy5x340 z y) (lt : muBy5x340 z y < muBy5x340 z (1, i, T)) (ht : ThOk (cx (nuX (nuBy5x340_1 z i T) (rX (roBy5x340_1 z i T) X)) (nuX_one (nuL_one (l := nuBy5x340_1 z i T) rfl)) 1 laidE laidE_stab) (DBy5x340 z y X) th) (run : RNBy5x340_1 h .normal th sg 342 (epBy5x340 y) (hpBy5x340 y) = true) : RHBy5x340 z E' x' e' h' (1, i, T) X :=
  RoundH.next (tb := tbl h) (L := []) (f := 3000) y ((tabkOk _ _).hyps ho) (LpOk.nil _) rfl hy lt ht run
theorem lvBy5x340_1 (z : List (LB × LB)) (i : Int) (T : LB) {X : Nat → Value} {h : LK} {th : LA} {sg : List (Nat × Nat)} (hne : exB x' .normal = false) (ho : ∀ a' r', (a', r') ∈ h → HOk (cx (nuX (nuBy5x340_1 z i T) (rX (roBy5x340_1 z i T) X)) (nuX_one (nuL_one (l := nuBy5x340_1 z i T) rfl)) 1 laidE laidE_stab) a' r') (ht : ThOk (cx (nuX (nuBy5x340_1 z i T) (rX (roBy5x340_1 z i T) X)) (nuX_one (nuL_one (l := nuBy5x340_1 z i T) rfl)) 1 laidE laidE_stab) E' th) (run : RNBy5x340_1 h x' th sg 380 e' h' = true) : RHBy5x340 z E' x' e' h' (1, i, T) X :=
  RoundH.leave (tb := tbl h) (L := []) (f := 3000) ((tabkOk _ _).hyps ho) (LpOk.nil _) rfl hne ht run
def hyBy5x340_p0 : LK := [(.rn, .x 2000001), (.bytes [], .x 2), (.bin .lss (.x 1) (.x 0), .b true), (.el (.x 2000000) (.x 1) 2 0, .x 3), (.el (.x 2000000) (.x 1) 2 1, .x 4), (.len (.x 3), .x 5), (.call 9 [.x 5], .x 6), (.len (.x 4), .x 7), (.call 9 [.x 7], .x 8), (.bin .add (.x 6) (.x 8), .x 9), (.bin .add (.x 9) (.x 3), .x 10), (.bin .add (.x 10) (.x 4), .x 11), (.byt (.x 11) (.i .i64 (.ofNat 0)), .x 12), (.fit (.x 11), .b true), (.len (.x 11), .x 13), (.bin .add (.x 1) (.i .i64 (.ofNat 1)), .x 14)]
theorem runBy5x340_p0 : RNBy5x340_0 hyBy5x340_p0 .normal [(0, .x 0), (1, .x 14), (2, .x 11), (2000000, .x 2000000)] [(340, 340), (341, 343)] 342 epBy5x340_1 hpBy5x340_1 = true := by kernel_rfl
theorem nxBy5x340_p0 (z : List (LB × LB)) (i : Int) (T : LB) (X : Nat → Value) (hI : InvBy5x340 z (0, i, T)) : RHBy5x340 z E' x' e' h' (0, i, T) X := by
  obtain ⟨i0, i1, i2, i3, i4, i5, i6, i7, i8, it⟩ := unIBy5x340 z 0 i T hI
  have h6 := i4 _ (nthP_memI (z := z) i0 (by omega))
  have := prAt (l := z) (by assumption) (Int.toNat (i))
  have := lnB_lenB ((nthP z (Int.toNat (i))).1.length : Int)
  have := lnB_lenB ((nthP z (Int.toNat (i))).2.length : Int)
  have := bt_lo ((lnB ((nthP z (Int.toNat (i))).1.length : Int)) ++ ((lnB ((nthP z (Int.toNat (i))).2.length : Int)) ++ ((nthP z (Int.toNat (i))).1 ++ (nthP z (Int.toNat (i))).2))) 0; have := bt_hi ((lnB ((nthP z (Int.toNat (i))).1.length : Int)) ++ ((lnB ((nthP z (Int.toNat (i))).2.length : Int)) ++ ((nthP z (Int.toNat (i))).1 ++ (nthP z (Int.toNat (i))).2))) 0
  have hsn := pS_snoc (z := z) (T := ([] : LB)) i0 (by omega) (by rw [i7 rfl]; rfl)
  have hpl := pB_len (p := nthP z (Int.toNat i)) h6.1 h6.2
  have hsl := congrArg List.length hsn
  have hsa : (([] : LB) ++ pB (nthP z (Int.toNat i))).length = ([] : LB).length + (pB (nthP z (Int.toNat i))).length := List.length_append
  refine stBy5x340_0 z i T (h := hyBy5x340_p0) (1, (i + 1), ((lnB ((nthP z (Int.toNat (i))).1.length : Int)) ++ ((lnB ((nthP z (Int.toNat (i))).2.length : Int)) ++ ((nthP z (Int.toNat (i))).1 ++ (nthP z (Int.toNat (i))).2)))) ?_ (mkIBy5x340 z 1 (i + 1) ((lnB ((nthP z (Int.toNat (i))).1.length : Int)) ++ ((lnB ((nthP z (Int.toNat (i))).2.length : Int)) ++ ((nthP z (Int.toNat (i))).1 ++ (nthP z (Int.toNat (i))).2))) ⟨by omega, by omega, i2, i3, i4, hsn, by show (((pB (nthP z (Int.toNat i))).length : Nat) : Int) ≤ _; omega, fun h => by omega, i8, by omega⟩) (by show z.length - (i + 1).toNat < z.length - i.toNat; omega) (thXv (v := .int .i64 ((z.length : Int))) rfl rfl (thXi (b := ((i + 1))) rfl rfl (by omega) (thXv (v := St' ((lnB ((nthP z (Int.toNat (i))).1.length : Int)) ++ ((lnB ((nthP z (Int.toNat (i))).2.length : Int)) ++ ((nthP z (Int.toNat (i))).1 ++ (nthP z (Int.toNat (i))).2)))) rfl rfl (thXv (v := rwG prC z) rfl rfl (thNil))))) runBy5x340_p0
  unfold hyBy5x340_p0
  exact hc (kRn (denX rfl)) <|
   hc (kBytesB (bs := ([] : LB)) .nil (denX rfl)) <|
   hc (ltT rfl rfl (by omega)) <|
   hc (kElG (j := (Int.toNat (i))) (d := ([], [])) prC_len (by decide) (isX rfl) (isX rfl) (denX rfl) (by omega) (by omega) rfl) <|
   hc (kElG (j := (Int.toNat (i))) (d := ([], [])) prC_len (by decide) (isX rfl) (isX rfl) (denX rfl) (by omega) (by omega) rfl) <|
   hc (lnV rfl rfl (by omega)) <|
   hc (hokLen (isX rfl) (denX rfl) (by omega) (by omega)) <|
   hc (lnV rfl rfl (by omega)) <|
   hc (hokLen (isX rfl) (denX rfl) (by omega) (by omega)) <|
   hc (kCat (isX rfl) (isX rfl) (denX rfl) (by first | rfl | (simp; done)) (by omega)) <|
   hc (kCat (isX rfl) (isX rfl) (denX rfl) (by first | rfl | (simp; done)) (by first | omega | (simp <;> omega))) <|
   hc (kCat (isX rfl) (isX rfl) (denX rfl) (by first | rfl | (simp; done)) (by first | omega | (simp <;> omega))) <|
   hc (kByt (i := 0) (isX rfl) (isZ (m := 0) rfl) (denX rfl) rfl (by first | omega | (simp <;> omega)) rfl) <|
   hc (kFit (isX rfl) (by first | omega | (simp <;> omega))) <|
   hc (lnV rfl rfl (by first | omega | (simp <;> omega))) <|
   hc (adC rfl rfl (by omega)) <|
   hnil
def hyBy5x340_p1 : LK := [(.rn, .x 2000001), (.bytes [], .x 3), (.bin .lss (.x 1) (.x 0), .b true), (.el (.x 2000000) (.x 1) 2 0, .x 4), (.el (.x 2000000) (.x 1) 2 1, .x 5), (.len (.x 4), .x 6), (.call 9 [.x 6], .x 7), (.len (.x 5), .x 8), (.call 9 [.x 8], .x 9), (.bin .add (.x 7) (.x 9), .x 10), (.bin .add (.x 10) (.x 4), .x 11), (.bin .add (.x 11) (.x 5), .x 12), (.bin .add (.x 2) (.x 12), .x 13), (.fit (.x 13), .b true), (.len (.x 12), .x 14), (.bin .add (.x 1) (.i .i64 (.ofNat 1)), .x 15)]
theorem runBy5x340_p1 : RNBy5x340_1 hyBy5x340_p1 .normal [(0, .x 0), (1, .x 15), (2, .x 13), (2000000, .x 2000000)] [(340, 340), (341, 343)] 342 epBy5x340_1 hpBy5x340_1 = true := by kernel_rfl
theorem nxBy5x340_p1 (z : List (LB × LB)) (i : Int) (T : LB) (X : Nat → Value) (hI : InvBy5x340 z (1, i, T)) (h0 : i < (z.length : Int)) : RHBy5x340 z E' x' e' h' (1, i, T) X := by
  obtain ⟨i0, i1, i2, i3, i4, i5, i6, i7, i8, it⟩ := unIBy5x340 z 1 i T hI
  have h6 := i4 _ (nthP_memI (z := z) i0 (by omega))
  have := prAt (l := z) (by assumption) (Int.toNat (i))
  have := lnB_lenB ((nthP z (Int.toNat (i))).1.length : Int)
  have := lnB_lenB ((nthP z (Int.toNat (i))).2.length : Int)
  have hsn := pS_snoc (z := z) (T := T) i0 (by omega) i5
  have hpl := pB_len (p := nthP z (Int.toNat i)) h6.1 h6.2
  have hsl := congrArg List.length hsn
  have hsa : (T ++ pB (nthP z (Int.toNat i))).length = T.length + (pB (nthP z (Int.toNat i))).length := List.length_append
  refine stBy5x340_1 z i T (h := hyBy5x340_p1) (1, (i + 1), (T ++ ((lnB ((nthP z (Int.toNat (i))).1.length : Int)) ++ ((lnB ((nthP z (Int.toNat (i))).2.length : Int)) ++ ((nthP z (Int.toNat (i))).1 ++ (nthP z (Int.toNat (i))).2))))) ?_ (mkIBy5x340 z 1 (i + 1) (T ++ ((lnB ((nthP z (Int.toNat (i))).1.length : Int)) ++ ((lnB ((nthP z (Int.toNat (i))).2.length : Int)) ++ ((nthP z (Int.toNat (i))).1 ++ (nthP z (Int.toNat (i))).2)))) ⟨by omega, by omega, i2, i3, i4, hsn, by first | omega | (simp only [List.length_append, List.length_nil] at *; omega), fun h => by omega, i8, by omega⟩) (by show z.length - (i + 1).toNat < z.length - i.toNat; omega) (thXv (v := .int .i64 ((z.length : Int))) rfl rfl (thXi (b := ((i + 1))) rfl rfl (by omega) (thXv (v := St' (T ++ ((lnB ((nthP z (Int.toNat (i))).1.length : Int)) ++ ((lnB ((nthP z (Int.toNat (i))).2.length : Int)) ++ ((nthP z (Int.toNat (i))).1 ++ (nthP z (Int.toNat (i))).2))))) rfl rfl (thXv (v := rwG prC z) rfl rfl (thNil))))) runBy5x340_p1
  unfold hyBy5x340_p1
  exact hc (kRn (denX rfl)) <|
   hc (kBytesB (bs := ([] : LB)) .nil (denX rfl)) <|
   hc (ltT rfl rfl (by omega)) <|
   hc (kElG (j := (Int.toNat (i))) (d := ([], [])) prC_len (by decide) (isX rfl) (isX rfl) (denX rfl) (by omega) (by omega) rfl) <|
   hc (kElG (j := (Int.toNat (i))) (d := ([], [])) prC_len (by decide) (isX rfl) (isX rfl) (denX rfl) (by omega) (by omega) rfl) <|
   hc (lnV rfl rfl (by omega)) <|
   hc (hokLen (isX rfl) (denX rfl) (by omega) (by omega)) <|
   hc (lnV rfl rfl (by omega)) <|
   hc (hokLen (isX rfl) (denX rfl) (by omega) (by omega)) <|
   hc (kCat (isX rfl) (isX rfl) (denX rfl) (by first | rfl | (simp; done)) (by omega)) <|
   hc (kCat (isX rfl) (isX rfl) (denX rfl) (by first | rfl | (simp; done)) (by first | omega | (simp <;> omega))) <|
   hc (kCat (isX rfl) (isX rfl) (denX rfl) (by first | rfl | (simp; done)) (by first | omega | (simp <;> omega))) <|
   hc (kCat (isX rfl) (isX rfl) (denX rfl) (by first | rfl | (simp; done)) (by first | omega | (simp <;> omega))) <|
   hc (kFit (isX rfl) (by first | omega | (simp <;> omega))) <|
   hc (lnV rfl rfl (by first | omega | (simp <;> omega))) <|
   hc (adC rfl rfl (by omega)) <|
   hnil
def hyBy5x340_p2 : LK := [(.rn, .x 2000002), (.bytes [], .x 16), (.bin .lss (.x 1) (.x 0), .b false)]
theorem runBy5x340_p2 : RNBy5x340_1 hyBy5x340_p2 (.exit 0) [(0, .x 2), (2000000, .x 2000000)] [(340, 340), (341, 341)] 380 [(3, .p 340 0)] [(5, .r 2000000 26 2 true), (340, .b ⟨40, .l [.p 340 0, .sy 341], 0, 0, 0, false, false⟩), (341, .t 0 5)] = true := by kernel_rfl
def nuEBy5x340_0 (z : List (LB × LB)) : List Value := [St' (pS z)]
def roEBy5x340_0 (z : List (LB × LB)) : List Value := [rwG prC z]
noncomputable def EBy5x340_0 (z : List (LB × LB)) : Cx := cx (nuX (nuEBy5x340_0 z) (rX (roEBy5x340_0 z) (fun _ => .bool true))) (nuX_one (nuL_one (l := nuEBy5x340_0 z) rfl)) 1 laidE laidE_stab
theorem roundsBy5x340_0 (z : List (LB × LB)) (st : Nat × Int × LB) (X : Nat → Value) (hI : InvBy5x340 z st) : RHBy5x340 z (EBy5x340_0 z) (.exit 0) [(3, .p 340 0)] [(5, .r 2000000 26 2 true), (340, .b ⟨40, .l [.p 340 0, .sy 341], 0, 0, 0, false, false⟩), (341, .t 0 5)] st X := by
  obtain ⟨tag, i, T⟩ := st
  have hI0 := hI
  obtain ⟨i0, i1, i2, i3, i4, i5, i6, i7, i8, it⟩ := unIBy5x340 z tag i T hI
  rcases (show tag = 0 ∨ tag = 1 from by omega) with rfl | rfl
  · skip
    exact nxBy5x340_p0 z i T X hI0
  · skip
    by_cases h0 : i < (z.length : Int)
    · exact nxBy5x340_p1 z i T X hI0 h0
    · skip
      refine lvBy5x340_1 z i T (h := hyBy5x340_p2) rfl ?_ (thXe (v := St' T) (u := St' (pS z)) rfl rfl (congrArg (fun l => St' l) (pS_end i0 (by omega) i5)) (thXv (v := rwG prC z) rfl rfl (thNil))) runBy5x340_p2
      unfold hyBy5x340_p2
      exact hc (kRn (denX rfl)) <|
       hc (kBytesB (bs := ([] : LB)) .nil (denX rfl)) <|
       hc (ltF rfl rfl (by omega)) <|
       hnil
theorem lfOkBy5x340_0 {l : LF} {h : LH} (z : List (LB × LB)) (st : Nat × Int × LB) (hI : InvBy5x340 z st) (hl : l.hp = some h) (hs : lfSame l h 30 keepBy5x340 (.exit 0) 4 340 380 = true) {th0 : LA} {sg0 : List (Nat × Nat)} (hth0 : ∀ X, ThOk (cx nu one 1 laidE laidE_stab) (DBy5x340 z st X) th0) (h0 : startOk l h 30 340 342 th0 sg0 (epBy5x340 st) (hpBy5x340 st) = true) {thx : LA} (hthx : ThOk (EBy5x340_0 z) (cx nu one 1 laidE laidE_stab) thx) (hx : exitOk l h 30 340 380 thx [(3, .p 340 0)] [(5, .r 2000000 26 2 true), (340, .b ⟨40, .l [.p 340 0, .sy 341], 0, 0, 0, false, false⟩), (341, .t 0 5)] = true) : LfOk (cx nu one 1 laidE laidE_stab) bodyBy5x340 l :=
  lfOkX (E := EBy5x340_0 z) (InvBy5x340 z) (muBy5x340 z) (DBy5x340 z) (fun _ _ => rfl) (fun _ _ => rfl) (fun _ _ => rfl) (fun st X t ht => nuX_keep.trans (rX_keep ((by decide : ∀ t, t ∈ keepBy5x340 → t < 1000000) t ht))) rfl rfl rfl hl hs ebBy5x340 rfl rfl st hI hth0 h0 hthx hx (roundsBy5x340_0 z)
noncomputable def bodyBy4x340 : Code := loopNo (Tryd.f5.body.getD .skip) 0
theorem keyBy4x340 : oneKey (loopsOf (Tryd.f5.body.getD .skip)) 3 0 0 = true := by kernel_rfl
def keepBy4x340 : List Nat := []
def epBy4x340_0 : LA := [(3, .p 340 0), (6, .sr 4), (7, .x 0), (8, .x 1)]
def hpBy4x340_0 : LE := [(4, .r 2000000 26 2 true), (340, .b ⟨40, .l [.nilp, .nils], 0, 0, 0, false, false⟩)]
def nuBy4x340_0 (z : List (LB × LB)) (i : Int) (T : LB) : List Value := [.int .i64 ((z.length : Int)), .int .i64 (i), St' ([] : LB), St' ((nthP z (Int.toNat (i))).1), St' ((nthP z (Int.toNat (i))).2), .int .i64 (((nthP z (Int.toNat (i))).1.length : Int)), St' (lnB ((nthP z (Int.toNat (i))).1.length : Int)), .int .i64 (((nthP z (Int.toNat (i))).2.length : Int)), St' (lnB ((nthP z (Int.toNat (i))).2.length : Int)), St' ((lnB ((nthP z (Int.toNat (i))).1.length : Int)) ++ (lnB ((nthP z (Int.toNat (i))).2.length : Int))), St' ((lnB ((nthP z (Int.toNat (i))).1.length : Int)) ++ ((lnB ((nthP z (Int.toNat (i))).2.length : Int)) ++ (nthP z (Int.toNat (i))).1)), St' ((lnB ((nthP z (Int.toNat (i))).1.length : Int)) ++ ((lnB ((nthP z (Int.toNat (i))).2.length : Int)) ++ ((nthP z (Int.toNat (i))).1 ++ (nthP z (Int.toNat (i))).2))), .int .u8 (bt ((lnB ((nthP z (Int.toNat (i))).1.length : Int)) ++ ((lnB ((nthP z (Int.toNat (i))).2.length : Int)) ++ ((nthP z (Int.toNat (i))).1 ++ (nthP z (Int.toNat (i))).2))) 0), .int .i64 (((lnB ((nthP z (Int.toNat (i))).1.length : Int)).length : Int) + ((lnB ((nthP z (Int.toNat (i))).2.length : Int)).length : Int) + ((nthP z (Int.toNat (i))).1.length : Int) + ((nthP z (Int.toNat (i))).2.length : Int)), .int .i64 (i + 1)]
def roBy4x340_0 (z : List (LB × LB)) (i : Int) (T : LB) : List Value := [rwG prC z, rwS ([] : List LB)]
def epBy4x340_1 : LA := [(3, .p 340 0), (6, .sr 4), (7, .x 0), (8, .x 1)]
def hpBy4x340_1 : LE := [(4, .r 2000000 26 2 true), (340, .b ⟨40, .l [.p 340 0, .sy 341], 0, 0, 0, false, false⟩), (341, .t 2 5)]
def nuBy4x340_1 (z : List (LB × LB)) (i : Int) (T : LB) : List Value := [.int .i64 ((z.length : Int)), .int .i64 (i), St' T, St' ([] : LB), St' ((nthP z (Int.toNat (i))).1), St' ((nthP z (Int.toNat (i))).2), .int .i64 (((nthP z (Int.toNat (i))).1.length : Int)), St' (lnB ((nthP z (Int.toNat (i))).1.length : Int)), .int .i64 (((nthP z (Int.toNat (i))).2.length : Int)), St' (lnB ((nthP z (Int.toNat (i))).2.length : Int)), St' ((lnB ((nthP z (Int.toNat (i))).1.length : Int)) ++ (lnB ((nthP z (Int.toNat (i))).2.length : Int))), St' ((lnB ((nthP z (Int.toNat (i))).1.length : Int)) ++ ((lnB ((nthP z (Int.toNat (i))).2.length : Int)) ++ (nthP z (Int.toNat (i))).1)), St' ((lnB ((nthP z (Int.toNat (i))).1.length : Int)) ++ ((lnB ((nthP z (Int.toNat (i))).2.length : Int)) ++ ((nthP z (Int.toNat (i))).1 ++ (nthP z (Int.toNat (i))).2))), St' (T ++ ((lnB ((nthP z (Int.toNat (i))).1.length : Int)) ++ ((lnB ((nthP z (Int.toNat (i))).2.length : Int)) ++ ((nthP z (Int.toNat (i))).1 ++ (nthP z (Int.toNat (i))).2)))), .int .i64 (((lnB ((nthP z (Int.toNat (i))).1.length : Int)).length : Int) + ((lnB ((nthP z (Int.toNat (i))).2.length : Int)).length : Int) + ((nthP z (Int.toNat (i))).1.length : Int) + ((nthP z (Int.toNat (i))).2.length : Int)), .int .i64 (i + 1), St' ([] : LB)]
def roBy4x340_1 (z : List (LB × LB)) (i : Int) (T : LB) : List Value := [rwG prC z, rwS ([] : List LB), rwS ([] : List LB)]
def epBy4x340 (st : Nat × Int × LB) : LA := if st.1 = 0 then epBy4x340_0 else epBy4x340_1
def hpBy4x340 (st : Nat × Int × LB) : LE := if st.1 = 0 then hpBy4x340_0 else hpBy4x340_1
def nuBy4x340 (z : List (LB × LB)) (st : Nat × Int × LB) : List Value := if st.1 = 0 then nuBy4x340_0 z (st.2.1) (st.2.2) else nuBy4x340_1 z (st.2.1) (st.2.2)
def roBy4x340 (z : List (LB × LB)) (st : Nat × Int × LB) : List Value := if st.1 = 0 then roBy4x340_0 z (st.2.1) (st.2.2) else roBy4x340_1 z (st.2.1) (st.2.2)
theorem onBy4x340 (z : List (LB × LB)) (st : Nat × Int × LB) : ∀ j, (nuL (nuBy4x340 z st) j).oneCell' = true := by
  intro j
  unfold nuBy4x340
  by_cases g0 : st.1 = 0
  · rw [if_pos g0]; exact nuL_one (l := nuBy4x340_0 z (st.2.1) (st.2.2)) rfl j
  rw [if_neg g0]
  exact nuL_one (l := nuBy4x340_1 z (st.2.1) (st.2.2)) rfl j
theorem ebBy4x340 (st : Nat × Int × LB) : (lfB (epBy4x340 st) && lfC keepBy4x340) = true := by
  unfold epBy4x340
  by_cases g0 : st.1 = 0
  · rw [if_pos g0]; rfl
  rw [if_neg g0]
  rfl
noncomputable def DBy4x340 (z : List (LB × LB)) (st : Nat × Int × LB) (X : Nat → Value) : Cx := cx (nuX (nuBy4x340 z st) (rX (roBy4x340 z st) X)) (nuX_one (onBy4x340 z st)) 1 laidE laidE_stab
def InvBy4x340 (z : List (LB × LB)) (st : Nat × Int × LB) : Prop := (0 ≤ (st.2.1)) ∧ ((st.2.1) ≤ (z.length : Int)) ∧ (z.length ≤ 40) ∧ (∀ q, q ∈ z → prB q) ∧ (ok6 z) ∧ ((st.2.2) = pS (z.take (Int.toNat (st.2.1)))) ∧ (((st.2.2).length : Int) ≤ 1208 * (st.2.1)) ∧ ((st.1) = 0 → (st.2.1) = 0) ∧ (1 ≤ z.length) ∧ ((st.1) < 2)
abbrev CjBy4x340 (z : List (LB × LB)) (tag : Nat) (i : Int) (T : LB) : Prop := (0 ≤ i) ∧ (i ≤ (z.length : Int)) ∧ (z.length ≤ 40) ∧ (∀ q, q ∈ z → prB q) ∧ (ok6 z) ∧ (T = pS (z.take (Int.toNat i))) ∧ ((T.length : Int) ≤ 1208 * i) ∧ (tag = 0 → i = 0) ∧ (1 ≤ z.length) ∧ (tag < 2)
theorem mkIBy4x340 (z : List (LB × LB)) (tag : Nat) (i : Int) (T : LB) (h : CjBy4x340 z tag i T) : InvBy4x340 z (tag, i, T) := h
theorem unIBy4x340 (z : List (LB × LB)) (tag : Nat) (i : Int) (T : LB) (h : InvBy4x340 z (tag, i, T)) : (0 ≤ i) ∧ (i ≤ (z.length : Int)) ∧ (z.length ≤ 40) ∧ (∀ q, q ∈ z → prB q) ∧ (ok6 z) ∧ (T = pS (z.take (Int.toNat i))) ∧ ((T.length : Int) ≤ 1208 * i) ∧ (tag = 0 → i = 0) ∧ (1 ≤ z.length) ∧ (tag < 2) := h
def muBy4x340 (z : List (LB × LB)) (st : Nat × Int × LB) : Nat := (z.length - (st.2.1).toNat)
abbrev RHBy4x340 (z : List (LB × LB)) (E' : Cx) (ex' : Ex) (epx' : LA) (hpx' : LE) (st : Nat × Int × LB) (X : Nat → Value) : Prop := RoundH E' bodyBy4x340 keepBy4x340 30 ex' 4 340 342 380 epBy4x340 hpBy4x340 epx' hpx' (InvBy4x340 z) (muBy4x340 z) (DBy4x340 z) st X
noncomputable abbrev RNBy4x340_0 (h : LK) (x : Ex) (th : LA) (sg : List (Nat × Nat)) (m : Nat) (ep : LA) (hp : LE) : Bool := okRdH (code (tbl h) 3000 [] bodyBy4x340 (envOf (headOf epBy4x340_0 keepBy4x340) 30) ⟨lhSet hpBy4x340_0 .leaf, 342, 0, 0⟩) x keepBy4x340 30 380 th sg 340 m ep hp
theorem stBy4x340_0 (z : List (LB × LB)) (i : Int) (T : LB) {X : Nat → Value} {h : LK} (y : Nat × Int × LB) {th : LA} {sg : List (Nat × Nat)} (ho : ∀ a' r', (a', r') ∈ h → HOk (cx (nuX (nuBy4x340_0 z i T) (rX (roBy4x340_0 z i T) X)) (nuX_one (nuL_one (l := nuBy4x340_0 z i T) rfl)) 1 laidE laidE_stab) a' r') (hy : InvBy4x340 z y) (lt : muBy4x340 z y < muBy4x340 z (0, i, T)) (ht : ThOk (cx (nuX (nuBy4x340_0 z i T) (rX (roBy4x340_0 z i T) X)) (nuX_one (nuL_one (l := nuBy4x340_0 z i T) rfl)) 1 laidE laidE_stab) (DBy4x340 z y X) th) (run : RNBy4x340_0 h .normal th sg 342 (epBy4x340 y) (hpBy4x340 y) = true) : RHBy4x340 z E' x' e' h' (0, i, T) X :=
  RoundH.next (tb := tbl h) (L := []) (f := 3000) y ((tabkOk _ _).hyps ho) (LpOk.nil _) rfl hy lt ht run
theorem lvBy4x340_0 (z : List (LB × LB)) (i : Int) (T : LB) {X : Nat → Value} {h : LK} {th : LA} {sg : List (Nat × Nat)} (hne : exB x' .normal = false) (ho : ∀ a' r', (a', r') ∈ h → HOk (cx (nuX (nuBy4x340_0 z i T) (rX (roBy4x340_0 z i T) X)) (nuX_one (nuL_one (l := nuBy4x340_0 z i T) rfl)) 1 laidE laidE_stab) a' r') (ht : ThOk (cx (nuX (nuBy4x340_0 z i T) (rX (roBy4x340_0 z i T) X)) (nuX_one (nuL_one (l := nuBy4x340_0 z i T) rfl)) 1 laidE laidE_stab) E' th) (run : RNBy4x340_0 h x' th sg 380 e' h' = true) : RHBy4x340 z E' x' e' h' (0, i, T) X :=
  RoundH.leave (tb := tbl h) (L := []) (f := 3000) ((tabkOk _ _).hyps ho) (LpOk.nil _) rfl hne ht run
noncomputable abbrev RNBy4x340_1 (h : LK) (x : Ex) (th : LA) (sg : List (Nat × Nat)) (m : Nat) (ep : LA) (hp : LE) : Bool := okRdH (code (tbl h) 3000 [] bodyBy4x340 (envOf (headOf epBy4x340_1 keepBy4x340) 30) ⟨lhSet hpBy4x340_1 .leaf, 342, 0, 0⟩) x keepBy4x340 30 380 th sg 340 m ep hp
theorem stBy4x340_1 (z : List (LB × LB)) (i : Int) (T : LB) {X : Nat → Value} {h : LK} (y : Nat × Int × LB) {th : LA} {sg : List (Nat × Nat)} (ho : ∀ a' r', (a', r') ∈ h → HOk (cx (nuX (nuBy4x340_1 z i T) (rX (roBy4x340_1 z i T) X)) (nuX_one (nuL_one (l := nuBy4x340_1 z i T) rfl)) 1 laidE laidE_stab) a' r') (hy : InvBy4x340 z y) (lt : muBy4x340 z y < muBy4x340 z (1, i, T)) (ht : ThOk (cx (nuX (nuBy4x340_1 z i T) (rX (roBy4x340_1 z i T) X)) (nuX_one (nuL_one (l := nuBy4x340_1 z i T) rfl)) 1 laidE laidE_stab) (DBy4x340 z y X) th) (run : RNBy4x340_1 h .normal th sg 342 (epBy4x340 y) (hpBy4x340 y) = true) : RHBy4x340 z E' x' e' h' (1, i, T) X :=
  RoundH.next (tb := tbl h) (L := []) (f := 3000) y ((tabkOk _ _).hyps ho) (LpOk.nil _) rfl hy lt ht run
theorem lvBy4x340_1 (z : List (LB × LB)) (i : Int) (T : LB) {X : Nat → Value} {h : LK} {th : LA} {sg : List (Nat × Nat)} (hne : exB x' .normal = false) (ho : ∀ a' r', (a', r') ∈ h → HOk (cx (nuX (nuBy4x340_1 z i T) (rX (roBy4x340_1 z i T) X)) (nuX_one (nuL_one (l := nuBy4x340_1 z i T) rfl)) 1 laidE laidE_stab) a' r') (ht : ThOk (cx (nuX (nuBy4x340_1 z i T) (rX (roBy4x340_1 z i T) X)) (nuX_one (nuL_one (l := nuBy4x340_1 z i T) rfl)) 1 laidE laidE_stab) E' th) (run : RNBy4x340_1 h x' th sg 380 e' h' = true) : RHBy4x340 z E' x' e' h' (1, i, T) X :=
  RoundH.leave (tb := tbl h) (L := []) (f := 3000) ((tabkOk _ _).hyps ho) (LpOk.nil _) rfl hne ht run
def hyBy4x340_p0 : LK := [(.rn, .x 2000001), (.bytes [], .x 2), (.bin .lss (.x 1) (.x 0), .b true), (.el (.x 2000000) (.x 1) 2 0, .x 3), (.el (.x 2000000) (.x 1) 2 1, .x 4), (.len (.x 3), .x 5), (.call 9 [.x 5], .x 6), (.len (.x 4), .x 7), (.call 9 [.x 7], .x 8), (.bin .add (.x 6) (.x 8), .x 9), (.bin .add (.x 9) (.x 3), .x 10), (.bin .add (.x 10) (.x 4), .x 11), (.byt (.x 11) (.i .i64 (.ofNat 0)), .x 12), (.fit (.x 11), .b true), (.len (.x 11), .x 13), (.bin .add (.x 1) (.i .i64 (.ofNat 1)), .x 14)]
theorem runBy4x340_p0 : RNBy4x340_0 hyBy4x340_p0 .normal [(0, .x 0), (1, .x 14), (2, .x 11), (2000000, .x 2000000)] [(340, 340), (341, 343)] 342 epBy4x340_1 hpBy4x340_1 = true := by kernel_rfl
theorem nxBy4x340_p0 (z : List (LB × LB)) (i : Int) (T : LB) (X : Nat → Value) (hI : InvBy4x340 z (0, i, T)) : RHBy4x340 z E' x' e' h' (0, i, T) X := by
  obtain ⟨i0, i1, i2, i3, i4, i5, i6, i7, i8, it⟩ := unIBy4x340 z 0 i T hI
  have h6 := i4 _ (nthP_memI (z := z) i0 (by omega))
  have := prAt (l := z) (by assumption) (Int.toNat (i))
  have := lnB_lenB ((nthP z (Int.toNat (i))).1.length : Int)
  have := lnB_lenB ((nthP z (Int.toNat (i))).2.length : Int)
  have := bt_lo ((lnB ((nthP z (Int.toNat (i))).1.length : Int)) ++ ((lnB ((nthP z (Int.toNat (i))).2.length : Int)) ++ ((nthP z (Int.toNat (i))).1 ++ (nthP z (Int.toNat (i))).2))) 0; have := bt_hi ((lnB ((nthP z (Int.toNat (i))).1.length : Int)) ++ ((lnB ((nthP z (Int.toNat (i))).2.length : Int)) ++ ((nthP z (Int.toNat (i))).1 ++ (nthP z (Int.toNat (i))).2))) 0
  have hsn := pS_snoc (z := z) (T := ([] : LB)) i0 (by omega) (by rw [i7 rfl]; rfl)
  have hpl := pB_len (p := nthP z (Int.toNat i)) h6.1 h6.2
  have hsl := congrArg List.length hsn
  have hsa : (([] : LB) ++ pB (nthP z (Int.toNat i))).length = ([] : LB).length + (pB (nthP z (Int.toNat i))).length := List.length_append
  refine stBy4x340_0 z i T (h := hyBy4x340_p0) (1, (i + 1), ((lnB ((nthP z (Int.toNat (i))).1.length : Int)) ++ ((lnB ((nthP z (Int.toNat (i))).2.length : Int)) ++ ((nthP z (Int.toNat (i))).1 ++ (nthP z (Int.toNat (i))).2)))) ?_ (mkIBy4x340 z 1 (i + 1) ((lnB ((nthP z (Int.toNat (i))).1.length : Int)) ++ ((lnB ((nthP z (Int.toNat (i))).2.length : Int)) ++ ((nthP z (Int.toNat (i))).1 ++ (nthP z (Int.toNat (i))).2))) ⟨by omega, by omega, i2, i3, i4, hsn, by show (((pB (nthP z (Int.toNat i))).length : Nat) : Int) ≤ _; omega, fun h => by omega, i8, by omega⟩) (by show z.length - (i + 1).toNat < z.length - i.toNat; omega) (thXv (v := .int .i64 ((z.length : Int))) rfl rfl (thXi (b := ((i + 1))) rfl rfl (by omega) (thXv (v := St' ((lnB ((nthP z (Int.toNat (i))).1.length : Int)) ++ ((lnB ((nthP z (Int.toNat (i))).2.length : Int)) ++ ((nthP z (Int.toNat (i))).1 ++ (nthP z (Int.toNat (i))).2)))) rfl rfl (thXv (v := rwG prC z) rfl rfl (thNil))))) runBy4x340_p0
  unfold hyBy4x340_p0
  exact hc (kRn (denX rfl)) <|
   hc (kBytesB (bs := ([] : LB)) .nil (denX rfl)) <|
   hc (ltT rfl rfl (by omega)) <|
   hc (kElG (j := (Int.toNat (i))) (d := ([], [])) prC_len (by decide) (isX rfl) (isX rfl) (denX rfl) (by omega) (by omega) rfl) <|
   hc (kElG (j := (Int.toNat (i))) (d := ([], [])) prC_len (by decide) (isX rfl) (isX rfl) (denX rfl) (by omega) (by omega) rfl) <|
   hc (lnV rfl rfl (by omega)) <|
   hc (hokLen (isX rfl) (denX rfl) (by omega) (by omega)) <|
   hc (lnV rfl rfl (by omega)) <|
   hc (hokLen (isX rfl) (denX rfl) (by omega) (by omega)) <|
   hc (kCat (isX rfl) (isX rfl) (denX rfl) (by first | rfl | (simp; done)) (by omega)) <|
   hc (kCat (isX rfl) (isX rfl) (denX rfl) (by first | rfl | (simp; done)) (by first | omega | (simp <;> omega))) <|
   hc (kCat (isX rfl) (isX rfl) (denX rfl) (by first | rfl | (simp; done)) (by first | omega | (simp <;> omega))) <|
   hc (kByt (i := 0) (isX rfl) (isZ (m := 0) rfl) (denX rfl) rfl (by first | omega | (simp <;> omega)) rfl) <|
   hc (kFit (isX rfl) (by first | omega | (simp <;> omega))) <|
   hc (lnV rfl rfl (by first | omega | (simp <;> omega))) <|
   hc (adC rfl rfl (by omega)) <|
   hnil
def hyBy4x340_p1 : LK := [(.rn, .x 2000001), (.bytes [], .x 3), (.bin .lss (.x 1) (.x 0), .b true), (.el (.x 2000000) (.x 1) 2 0, .x 4), (.el (.x 2000000) (.x 1) 2 1, .x 5), (.len (.x 4), .x 6), (.call 9 [.x 6], .x 7), (.len (.x 5), .x 8), (.call 9 [.x 8], .x 9), (.bin .add (.x 7) (.x 9), .x 10), (.bin .add (.x 10) (.x 4), .x 11), (.bin .add (.x 11) (.x 5), .x 12), (.bin .add (.x 2) (.x 12), .x 13), (.fit (.x 13), .b true), (.len (.x 12), .x 14), (.bin .add (.x 1) (.i .i64 (.ofNat 1)), .x 15)]
theorem runBy4x340_p1 : RNBy4x340_1 hyBy4x340_p1 .normal [(0, .x 0), (1, .x 15), (2, .x 13), (2000000, .x 2000000)] [(340, 340), (341, 343)] 342 epBy4x340_1 hpBy4x340_1 = true := by kernel_rfl
theorem nxBy4x340_p1 (z : List (LB × LB)) (i : Int) (T : LB) (X : Nat → Value) (hI : InvBy4x340 z (1, i, T)) (h0 : i < (z.length : Int)) : RHBy4x340 z E' x' e' h' (1, i, T) X := by
  obtain ⟨i0, i1, i2, i3, i4, i5, i6, i7, i8, it⟩ := unIBy4x340 z 1 i T hI
  have h6 := i4 _ (nthP_memI (z := z) i0 (by omega))
  have := prAt (l := z) (by assumption) (Int.toNat (i))
  have := lnB_lenB ((nthP z (Int.toNat (i))).1.length : Int)
  have := lnB_lenB ((nthP z (Int.toNat (i))).2.length : Int)
  have hsn := pS_snoc (z := z) (T := T) i0 (by omega) i5
  have hpl := pB_len (p := nthP z (Int.toNat i)) h6.1 h6.2
  have hsl := congrArg List.length hsn
  have hsa : (T ++ pB (nthP z (Int.toNat i))).length = T.length + (pB (nthP z (Int.toNat i))).length := List.length_append
  refine stBy4x340_1 z i T (h := hyBy4x340_p1) (1, (i + 1), (T ++ ((lnB ((nthP z (Int.toNat (i))).1.length : Int)) ++ ((lnB ((nthP z (Int.toNat (i))).2.length : Int)) ++ ((nthP z (Int.toNat (i))).1 ++ (nthP z (Int.toNat (i))).2))))) ?_ (mkIBy4x340 z 1 (i + 1) (T ++ ((lnB ((nthP z (Int.toNat (i))).1.length : Int)) ++ ((lnB ((nthP z (Int.toNat (i))).2.length : Int)) ++ ((nthP z (Int.toNat (i))).1 ++ (nthP z (Int.toNat (i))).2)))) ⟨by omega, by omega, i2, i3, i4, hsn, by first | omega | (simp only [List.length_append, List.length_nil] at *; omega), fun h => by omega, i8, by omega⟩) (by show z.length - (i + 1).toNat < z.length - i.toNat; omega) (thXv (v := .int .i64 ((z.length : Int))) rfl rfl (thXi (b := ((i + 1))) rfl rfl (by omega) (thXv (v := St' (T ++ ((lnB ((nthP z (Int.toNat (i))).1.length : Int)) ++ ((lnB ((nthP z (Int.toNat (i))).2.length : Int)) ++ ((nthP z (Int.toNat (i))).1 ++ (nthP z (Int.toNat (i))).2))))) rfl rfl (thXv (v := rwG prC z) rfl rfl (thNil))))) runBy4x340_p1
  unfold hyBy4x340_p1
  exact hc (kRn (denX rfl)) <|
   hc (kBytesB (bs := ([] : LB)) .nil (denX rfl)) <|
   hc (ltT rfl rfl (by omega)) <|
   hc (kElG (j := (Int.toNat (i))) (d := ([], [])) prC_len (by decide) (isX rfl) (isX rfl) (denX rfl) (by omega) (by omega) rfl) <|
   hc (kElG (j := (Int.toNat (i))) (d := ([], [])) prC_len (by decide) (isX rfl) (isX rfl) (denX rfl) (by omega) (by omega) rfl) <|
   hc (lnV rfl rfl (by omega)) <|
   hc (hokLen (isX rfl) (denX rfl) (by omega) (by omega)) <|
   hc (lnV rfl rfl (by omega)) <|
   hc (hokLen (isX rfl) (denX rfl) (by omega) (by omega)) <|
   hc (kCat (isX rfl) (isX rfl) (denX rfl) (by first | rfl | (simp; done)) (by omega)) <|
   hc (kCat (isX rfl) (isX rfl) (denX rfl) (by first | rfl | (simp; done)) (by first | omega | (simp <;> omega))) <|
   hc (kCat (isX rfl) (isX rfl) (denX rfl) (by first | rfl | (simp; done)) (by first | omega | (simp <;> omega))) <|
   hc (kCat (isX rfl) (isX rfl) (denX rfl) (by first | rfl | (simp; done)) (by first | omega | (simp <;> omega))) <|
   hc (kFit (isX rfl) (by first | omega | (simp <;> omega))) <|
   hc (lnV rfl rfl (by first | omega | (simp <;> omega))) <|
   hc (adC rfl rfl (by omega)) <|
   hnil
def hyBy4x340_p2 : LK := [(.rn, .x 2000002), (.bytes [], .x 16), (.bin .lss (.x 1) (.x 0), .b false)]
theorem runBy4x340_p2 : RNBy4x340_1 hyBy4x340_p2 (.exit 0) [(0, .x 2), (2000000, .x 2000000)] [(340, 340), (341, 341)] 380 [(3, .p 340 0)] [(4, .r 2000000 26 2 true), (340, .b ⟨40, .l [.p 340 0, .sy 341], 0, 0, 0, false, false⟩), (341, .t 0 5)] = true := by kernel_rfl
def nuEBy4x340_0 (z : List (LB × LB)) : List Value := [St' (pS z)]
def roEBy4x340_0 (z : List (LB × LB)) : List Value := [rwG prC z]
noncomputable def EBy4x340_0 (z : List (LB × LB)) : Cx := cx (nuX (nuEBy4x340_0 z) (rX (roEBy4x340_0 z) (fun _ => .bool true))) (nuX_one (nuL_one (l := nuEBy4x340_0 z) rfl)) 1 laidE laidE_stab
theorem roundsBy4x340_0 (z : List (LB × LB)) (st : Nat × Int × LB) (X : Nat → Value) (hI : InvBy4x340 z st) : RHBy4x340 z (EBy4x340_0 z) (.exit 0) [(3, .p 340 0)] [(4, .r 2000000 26 2 true), (340, .b ⟨40, .l [.p 340 0, .sy 341], 0, 0, 0, false, false⟩), (341, .t 0 5)] st X := by
  obtain ⟨tag, i, T⟩ := st
  have hI0 := hI
  obtain ⟨i0, i1, i2, i3, i4, i5, i6, i7, i8, it⟩ := unIBy4x340 z tag i T hI
  rcases (show tag = 0 ∨ tag = 1 from by omega) with rfl | rfl
  · skip
    exact nxBy4x340_p0 z i T X hI0
  · skip
    by_cases h0 : i < (z.length : Int)
    · exact nxBy4x340_p1 z i T X hI0 h0
    · skip
      refine lvBy4x340_1 z i T (h := hyBy4x340_p2) rfl ?_ (thXe (v := St' T) (u := St' (pS z)) rfl rfl (congrArg (fun l => St' l) (pS_end i0 (by omega) i5)) (thXv (v := rwG prC z) rfl rfl (thNil))) runBy4x340_p2
      unfold hyBy4x340_p2
      exact hc (kRn (denX rfl)) <|
       hc (kBytesB (bs := ([] : LB)) .nil (denX rfl)) <|
       hc (ltF rfl rfl (by omega)) <|
       hnil
theorem lfOkBy4x340_0 {l : LF} {h : LH} (z : List (LB × LB)) (st : Nat × Int × LB) (hI : InvBy4x340 z st) (hl : l.hp = some h) (hs : lfSame l h 30 keepBy4x340 (.exit 0) 4 340 380 = true) {th0 : LA} {sg0 : List (Nat × Nat)} (hth0 : ∀ X, ThOk (cx nu one 1 laidE laidE_stab) (DBy4x340 z st X) th0) (h0 : startOk l h 30 340 342 th0 sg0 (epBy4x340 st) (hpBy4x340 st) = true) {thx : LA} (hthx : ThOk (EBy4x340_0 z) (cx nu one 1 laidE laidE_stab) thx) (hx : exitOk l h 30 340 380 thx [(3, .p 340 0)] [(4, .r 2000000 26 2 true), (340, .b ⟨40, .l [.p 340 0, .sy 341], 0, 0, 0, false, false⟩), (341, .t 0 5)] = true) : LfOk (cx nu one 1 laidE laidE_stab) bodyBy4x340 l :=
  lfOkX (E := EBy4x340_0 z) (InvBy4x340 z) (muBy4x340 z) (DBy4x340 z) (fun _ _ => rfl) (fun _ _ => rfl) (fun _ _ => rfl) (fun st X t ht => nuX_keep.trans (rX_keep ((by decide : ∀ t, t ∈ keepBy4x340 → t < 1000000) t ht))) rfl rfl rfl hl hs ebBy4x340 rfl rfl st hI hth0 h0 hthx hx (roundsBy4x340_0 z)
noncomputable def bodyBy7x80 : Code := loopNo (Tryd.f5.body.getD .skip) 0
theorem keyBy7x80 : oneKey (loopsOf (Tryd.f5.body.getD .skip)) 3 0 0 = true := by kernel_rfl
def keepBy7x80 : List Nat := []
def epBy7x80_0 : LA := [(3, .p 80 0), (6, .sr 7), (7, .x 0), (8, .x 1)]
def hpBy7x80_0 : LE := [(7, .r 2000000 26 2 false), (80, .b ⟨40, .l [.nilp, .nils], 0, 0, 0, false, false⟩)]
def nuBy7x80_0 (z : List (LB × LB)) (i : Int) (T : LB) : List Value := [.int .i64 ((z.length : Int)), .int .i64 (i), St' ([] : LB), St' ((nthP z (Int.toNat (i))).1), St' ((nthP z (Int.toNat (i))).2), .int .i64 (((nthP z (Int.toNat (i))).1.length : Int)), St' (lnB ((nthP z (Int.toNat (i))).1.length : Int)), .int .i64 (((nthP z (Int.toNat (i))).2.length : Int)), St' (lnB ((nthP z (Int.toNat (i))).2.length : Int)), St' ((lnB ((nthP z (Int.toNat (i))).1.length : Int)) ++ (lnB ((nthP z (Int.toNat (i))).2.length : Int))), St' ((lnB ((nthP z (Int.toNat (i))).1.length : Int)) ++ ((lnB ((nthP z (Int.toNat (i))).2.length : Int)) ++ (nthP z (Int.toNat (i))).1)), St' ((lnB ((nthP z (Int.toNat (i))).1.length : Int)) ++ ((lnB ((nthP z (Int.toNat (i))).2.length : Int)) ++ ((nthP z (Int.toNat (i))).1 ++ (nthP z (Int.toNat (i))).2))), .int .u8 (bt ((lnB ((nthP z (Int.toNat (i))).1.length : Int)) ++ ((lnB ((nthP z (Int.toNat (i))).2.length : Int)) ++ ((nthP z (Int.toNat (i))).1 ++ (nthP z (Int.toNat (i))).2))) 0), .int .i64 (((lnB ((nthP z (Int.toNat (i))).1.length : Int)).length : Int) + ((lnB ((nthP z (Int.toNat (i))).2.length : Int)).length : Int) + ((nthP z (Int.toNat (i))).1.length : Int) + ((nthP z (Int.toNat (i))).2.length : Int)), .int .i64 (i + 1)]
def roBy7x80_0 (z : List (LB × LB)) (i : Int) (T : LB) : List Value := [rwG prC z, rwS ([] : List LB)]
def epBy7x80_1 : LA := [(3, .p 80 0), (6, .sr 7), (7, .x 0), (8, .x 1)]
def hpBy7x80_1 : LE := [(7, .r 2000000 26 2 false), (80, .b ⟨40, .l [.p 80 0, .sy 81], 0, 0, 0, false, false⟩), (81, .t 2 5)]
def nuBy7x80_1 (z : List (LB × LB)) (i : Int) (T : LB) : List Value := [.int .i64 ((z.length : Int)), .int .i64 (i), St' T, St' ([] : LB), St' ((nthP z (Int.toNat (i))).1), St' ((nthP z (Int.toNat (i))).2), .int .i64 (((nthP z (Int.toNat (i))).1.length : Int)), St' (lnB ((nthP z (Int.toNat (i))).1.length : Int)), .int .i64 (((nthP z (Int.toNat (i))).2.length : Int)), St' (lnB ((nthP z (Int.toNat (i))).2.length : Int)), St' ((lnB ((nthP z (Int.toNat (i))).1.length : Int)) ++ (lnB ((nthP z (Int.toNat (i))).2.length : Int))), St' ((lnB ((nthP z (Int.toNat (i))).1.length : Int)) ++ ((lnB ((nthP z (Int.toNat (i))).2.length : Int)) ++ (nthP z (Int.toNat (i))).1)), St' ((lnB ((nthP z (Int.toNat (i))).1.length : Int)) ++ ((lnB ((nthP z (Int.toNat (i))).2.length : Int)) ++ ((nthP z (Int.toNat (i))).1 ++ (nthP z (Int.toNat (i))).2))), St' (T ++ ((lnB ((nthP z (Int.toNat (i))).1.length : Int)) ++ ((lnB ((nthP z (Int.toNat (i))).2.length : Int)) ++ ((nthP z (Int.toNat (i))).1 ++ (nthP z (Int.toNat (i))).2)))), .int .i64 (((lnB ((nthP z (Int.toNat (i))).1.length : Int)).length : Int) + ((lnB ((nthP z (Int.toNat (i))).2.length : Int)).length : Int) + ((nthP z (Int.toNat (i))).1.length : Int) + ((nthP z (Int.toNat (i))).2.length : Int)), .int .i64 (i + 1), St' ([] : LB)]
def roBy7x80_1 (z : List (LB × LB)) (i : Int) (T : LB) : List Value := [rwG prC z, rwS ([] : List LB), rwS ([] : List LB)]
def epBy7x80 (st : Nat × Int × LB) : LA := if st.1 = 0 then epBy7x80_0 else epBy7x80_1
def hpBy7x80 (st : Nat × Int × LB) : LE := if st.1 = 0 then hpBy7x80_0 else hpBy7x80_1
def nuBy7x80 (z : List (LB × LB)) (st : Nat × Int × LB) : List Value := if st.1 = 0 then nuBy7x80_0 z (st.2.1) (st.2.2) else nuBy7x80_1 z (st.2.1) (st.2.2)
def roBy7x80 (z : List (LB × LB)) (st : Nat × Int × LB) : List Value := if st.1 = 0 then roBy7x80_0 z (st.2.1) (st.2.2) else roBy7x80_1 z (st.2.1) (st.2.2)
theorem onBy7x80 (z : List (LB × LB)) (st : Nat × Int × LB) : ∀ j, (nuL (nuBy7x80 z st) j).oneCell' = true := by
  intro j
  unfold nuBy7x80
  by_cases g0 : st.1 = 0
  · rw [if_pos g0]; exact nuL_one (l := nuBy7x80_0 z (st.2.1) (st.2.2)) rfl j
  rw [if_neg g0]
  exact nuL_one (l := nuBy7x80_1 z (st.2.1) (st.2.2)) rfl j
theorem ebBy7x80 (st : Nat × Int × LB) : (lfB (epBy7x80 st) && lfC keepBy7x80) = true := by
  unfold epBy7x80
  by_cases g0 : st.1 = 0
  · rw [if_pos g0]; rfl
  rw [if_neg g0]
  rfl
noncomputable def DBy7x80 (z : List (LB × LB)) (st : Nat × Int × LB) (X : Nat → Value) : Cx := cx (nuX (nuBy7x80 z st) (rX (roBy7x80 z st) X)) (nuX_one (onBy7x80 z st)) 1 laidE laidE_stab
def InvBy7x80 (z : List (LB × LB)) (st : Nat × Int × LB) : Prop := (0 ≤ (st.2.1)) ∧ ((st.2.1) ≤ (z.length : Int)) ∧ (z.length ≤ 40) ∧ (∀ q, q ∈ z → prB q) ∧ (ok6 z) ∧ ((st.2.2) = pS (z.take (Int.toNat (st.2.1)))) ∧ (((st.2.2).length : Int) ≤ 1208 * (st.2.1)) ∧ ((st.1) = 0 → (st.2.1) = 0) ∧ (1 ≤ z.length) ∧ ((st.1) < 2)
abbrev CjBy7x80 (z : List (LB × LB)) (tag : Nat) (i : Int) (T : LB) : Prop := (0 ≤ i) ∧ (i ≤ (z.length : Int)) ∧ (z.length ≤ 40) ∧ (∀ q, q ∈ z → prB q) ∧ (ok6 z) ∧ (T = pS (z.take (Int.toNat i))) ∧ ((T.length : Int) ≤ 1208 * i) ∧ (tag = 0 → i = 0) ∧ (1 ≤ z.length) ∧ (tag < 2)
theorem mkIBy7x80 (z : List (LB × LB)) (tag : Nat) (i : Int) (T : LB) (h : CjBy7x80 z tag i T) : InvBy7x80 z (tag, i, T) := h
theorem unIBy7x80 (z : List (LB × LB)) (tag : Nat) (i : Int) (T : LB) (h : InvBy7x80 z (tag, i, T)) : (0 ≤ i) ∧ (i ≤ (z.length : Int)) ∧ (z.length ≤ 40) ∧ (∀ q, q ∈ z → prB q) ∧ (ok6 z) ∧ (T = pS (z.take (Int.toNat i))) ∧ ((T.length : Int) ≤ 1208 * i) ∧ (tag = 0 → i = 0) ∧ (1 ≤ z.length) ∧ (tag < 2) := h
def muBy7x80 (z : List (LB × LB)) (st : Nat × Int × LB) : Nat := (z.length - (st.2.1).toNat)
abbrev RHBy7x80 (z : List (LB × LB)) (E' : Cx) (ex' : Ex) (epx' : LA) (hpx' : LE) (st : Nat × Int × LB) (X : Nat → Value) : Prop := RoundH E' bodyBy7x80 keepBy7x80 30 ex' 4 80 82 120 epBy7x80 hpBy7x80 epx' hpx' (InvBy7x80 z) (muBy7x80 z) (DBy7x80 z) st X
noncomputable abbrev RNBy7x80_0 (h : LK) (x : Ex) (th : LA) (sg : List (Nat × Nat)) (m : Nat) (ep : LA) (hp : LE) : Bool := okRdH (code (tbl h) 3000 [] bodyBy7x80 (envOf (headOf epBy7x80_0 keepBy7x80) 30) ⟨lhSet hpBy7x80_0 .leaf, 82, 0, 0⟩) x keepBy7x80 30 120 th sg 80 m ep hp
theorem stBy7x80_0 (z : List (LB × LB)) (i : Int) (T : LB) {X : Nat → Value} {h : LK} (y : Nat × Int × LB) {th : LA} {sg : List (Nat × Nat)} (ho : ∀ a' r', (a', r') ∈ h → HOk (cx (nuX (nuBy7x80_0 z i T) (rX (roBy7x80_0 z i T) X)) (nuX_one (nuL_one (l := nuBy7x80_0 z i T) rfl)) 1 laidE laidE_stab) a' r') (hy : InvBy7x80 z y) (lt : muBy7x80 z y < muBy7x80 z (0, i, T)) (ht : ThOk (cx (nuX (nuBy7x80_0 z i T) (rX (roBy7x80_0 z i T) X)) (nuX_one (nuL_one (l := nuBy7x80_0 z i T) rfl)) 1 laidE laidE_stab) (DBy7x80 z y X) th) (run : RNBy7x80_0 h .normal th sg 82 (epBy7x80 y) (hpBy7x80 y) = true) : RHBy7x80 z E' x' e' h' (0, i, T) X :=
  RoundH.next (tb := tbl h) (L := []) (f := 3000) y ((tabkOk _ _).hyps ho) (LpOk.nil _) rfl hy lt ht run
theorem lvBy7x80_0 (z : List (LB × LB)) (i : Int) (T : LB) {X : Nat → Value} {h : LK} {th : LA} {sg : List (Nat × Nat)} (hne : exB x' .normal = false) (ho : ∀ a' r', (a', r') ∈ h → HOk (cx (nuX (nuBy7x80_0 z i T) (rX (roBy7x80_0 z i T) X)) (nuX_one (nuL_one (l := nuBy7x80_0 z i T) rfl)) 1 laidE laidE_stab) a' r') (ht : ThOk (cx (nuX (nuBy7x80_0 z i T) (rX (roBy7x80_0 z i T) X)) (nuX_one (nuL_one (l := nuBy7x80_0 z i T) rfl)) 1 laidE laidE_stab) E' th) (run : RNBy7x80_0 h x' th sg 120 e' h' = true) : RHBy7x80 z E' x' e' h' (0, i, T) X :=
  RoundH.leave (tb := tbl h) (L := []) (f := 3000) ((tabkOk _ _).hyps ho) (LpOk.nil _) rfl hne ht run
noncomputable abbrev RNBy7x80_1 (h : LK) (x : Ex) (th : LA) (sg : List (Nat × Nat)) (m : Nat) (ep : LA) (hp : LE) : Bool := okRdH (code (tbl h) 3000 [] bodyBy7x80 (envOf (headOf epBy7x80_1 keepBy7x80) 30) ⟨lhSet hpBy7x80_1 .leaf, 82, 0, 0⟩) x keepBy7x80 30 120 th sg 80 m ep hp
theorem stBy7x80_1 (z : List (LB × LB)) (i : Int) (T : LB) {X : Nat → Value} {h : LK} (y : Nat × Int × LB) {th : LA} {sg : List (Nat × Nat)} (ho : ∀ a' r', (a', r') ∈ h → HOk (cx (nuX (nuBy7x80_1 z i T) (rX (roBy7x80_1 z i T) X)) (nuX_one (nuL_one (l := nuBy7x80_1 z i T) rfl)) 1 laidE laidE_stab) a' r') (hy : InvBy7x80 z y) (lt : muBy7x80 z y < muBy7x80 z (1, i, T)) (ht : ThOk (cx (nuX (nuBy7x80_1 z i T) (rX (roBy7x80_1 z i T) X)) (nuX_one (nuL_one (l := nuBy7x80_1 z i T) rfl)) 1 laidE laidE_stab) (DBy7x80 z y X) th) (run : RNBy7x80_1 h .normal th sg 82 (epBy7x80 y) (hpBy7x80 y) = true) : RHBy7x80 z E' x' e' h' (1, i, T) X :=
  RoundH.next (tb := tbl h) (L := []) (f := 3000) y ((tabkOk _ _).hyps ho) (LpOk.nil _) rfl hy lt ht run
theorem lvBy7x80_1 (z : List (LB × LB)) (i : Int) (T : LB) {X : Nat → Value} {h : LK} {th : LA} {sg : List (Nat × Nat)} (hne : exB x' .normal = false) (ho : ∀ a' r', (a', r') ∈ h → HOk (cx (nuX (nuBy7x80_1 z i T) (rX (roBy7x80_1 z i T) X)) (nuX_one (nuL_one (l := nuBy7x80_1 z i T) rfl)) 1 laidE laidE_stab) a' r') (ht : ThOk (cx (nuX (nuBy7x80_1 z i T) (rX (roBy7x80_1 z i T) X)) (nuX_one (nuL_one (l := nuBy7x80_1 z i T) rfl)) 1 laidE laidE_stab) E' th) (run : RNBy7x80_1 h x' th sg 120 e' h' = true) : RHBy7x80 z E' x' e' h' (1, i, T) X :=
  RoundH.leave (tb := tbl h) (L := []) (f := 3000) ((tabkOk _ _).hyps ho) (LpOk.nil _) rfl hne ht run
def hyBy7x80_p0 : LK := [(.rn, .x 2000001), (.bytes [], .x 2), (.bin .lss (.x 1) (.x 0), .b true), (.el (.x 2000000) (.x 1) 2 0, .x 3), (.el (.x 2000000) (.x 1) 2 1, .x 4), (.len (.x 3), .x 5), (.call 9 [.x 5], .x 6), (.len (.x 4), .x 7), (.call 9 [.x 7], .x 8), (.bin .add (.x 6) (.x 8), .x 9), (.bin .add (.x 9) (.x 3), .x 10), (.bin .add (.x 10) (.x 4), .x 11), (.byt (.x 11) (.i .i64 (.ofNat 0)), .x 12), (.fit (.x 11), .b true), (.len (.x 11), .x 13), (.bin .add (.x 1) (.i .i64 (.ofNat 1)), .x 14)]
theorem runBy7x80_p0 : RNBy7x80_0 hyBy7x80_p0 .normal [(0, .x 0), (1, .x 14), (2, .x 11), (2000000, .x 2000000)] [(80, 80), (81, 83)] 82 epBy7x80_1 hpBy7x80_1 = true := by kernel_rfl
theorem nxBy7x80_p0 (z : List (LB × LB)) (i : Int) (T : LB) (X : Nat → Value) (hI : InvBy7x80 z (0, i, T)) : RHBy7x80 z E' x' e' h' (0, i, T) X := by
  obtain ⟨i0, i1, i2, i3, i4, i5, i6, i7, i8, it⟩ := unIBy7x80 z 0 i T hI
  have h6 := i4 _ (nthP_memI (z := z) i0 (by omega))
  have := prAt (l := z) (by assumption) (Int.toNat (i))
  have := lnB_lenB ((nthP z (Int.toNat (i))).1.length : Int)
  have := lnB_lenB ((nthP z (Int.toNat (i))).2.length : Int)
  have := bt_lo ((lnB ((nthP z (Int.toNat (i))).1.length : Int)) ++ ((lnB ((nthP z (Int.toNat (i))).2.length : Int)) ++ ((nthP z (Int.toNat (i))).1 ++ (nthP z (Int.toNat (i))).2))) 0; have := bt_hi ((lnB ((nthP z (Int.toNat (i))).1.length : Int)) ++ ((lnB ((nthP z (Int.toNat (i))).2.length : Int)) ++ ((nthP z (Int.toNat (i))).1 ++ (nthP z (Int.toNat (i))).2))) 0
  have hsn := pS_snoc (z := z) (T := ([] : LB)) i0 (by omega) (by rw [i7 rfl]; rfl)
  have hpl := pB_len (p := nthP z (Int.toNat i)) h6.1 h6.2
  have hsl := congrArg List.length hsn
  have hsa : (([] : LB) ++ pB (nthP z (Int.toNat i))).length = ([] : LB).length + (pB (nthP z (Int.toNat i))).length := List.length_append
  refine stBy7x80_0 z i T (h := hyBy7x80_p0) (1, (i + 1), ((lnB ((nthP z (Int.toNat (i))).1.length : Int)) ++ ((lnB ((nthP z (Int.toNat (i))).2.length : Int)) ++ ((nthP z (Int.toNat (i))).1 ++ (nthP z (Int.toNat (i))).2)))) ?_ (mkIBy7x80 z 1 (i + 1) ((lnB ((nthP z (Int.toNat (i))).1.length : Int)) ++ ((lnB ((nthP z (Int.toNat (i))).2.length : Int)) ++ ((nthP z (Int.toNat (i))).1 ++ (nthP z (Int.toNat (i))).2))) ⟨by omega, by omega, i2, i3, i4, hsn, by show (((pB (nthP z (Int.toNat i))).length : Nat) : Int) ≤ _; omega, fun h => by omega, i8, by omega⟩) (by show z.length - (i + 1).toNat < z.length - i.toNat; omega) (thXv (v := .int .i64 ((z.length : Int))) rfl rfl (thXi (b := ((i + 1))) rfl rfl (by omega) (thXv (v := St' ((lnB ((nthP z (Int.toNat (i))).1.length : Int)) ++ ((lnB ((nthP z (Int.toNat (i))).2.length : Int)) ++ ((nthP z (Int.toNat (i))).1 ++ (nthP z (Int.toNat (i))).2)))) rfl rfl (thXv (v := rwG prC z) rfl rfl (thNil))))) runBy7x80_p0
  unfold hyBy7x80_p0
  exact hc (kRn (denX rfl)) <|
   hc (kBytesB (bs := ([] : LB)) .nil (denX rfl)) <|
   hc (ltT rfl rfl (by omega)) <|
   hc (kElG (j := (Int.toNat (i))) (d := ([], [])) prC_len (by decide) (isX rfl) (isX rfl) (denX rfl) (by omega) (by omega) rfl) <|
   hc (kElG (j := (Int.toNat (i))) (d := ([], [])) prC_len (by decide) (isX rfl) (isX rfl) (denX rfl) (by omega) (by omega) rfl) <|
   hc (lnV rfl rfl (by omega)) <|
   hc (hokLen (isX rfl) (denX rfl) (by omega) (by omega)) <|
   hc (lnV rfl rfl (by omega)) <|
   hc (hokLen (isX rfl) (denX rfl) (by omega) (by omega)) <|
   hc (kCat (isX rfl) (isX rfl) (denX rfl) (by first | rfl | (simp; done)) (by omega)) <|
   hc (kCat (isX rfl) (isX rfl) (denX rfl) (by first | rfl | (simp; done)) (by first | omega | (simp <;> omega))) <|
   hc (kCat (isX rfl) (isX rfl) (denX rfl) (by first | rfl | (simp; done)) (by first | omega | (simp <;> omega))) <|
   hc (kByt (i := 0) (isX rfl) (isZ (m := 0) rfl) (denX rfl) rfl (by first | omega | (simp <;> omega)) rfl) <|
   hc (kFit (isX rfl) (by first | omega | (simp <;> omega))) <|
   hc (lnV rfl rfl (by first | omega | (simp <;> omega))) <|
   hc (adC rfl rfl (by omega)) <|
   hnil
def hyBy7x80_p1 : LK := [(.rn, .x 2000001), (.bytes [], .x 3), (.bin .lss (.x 1) (.x 0), .b true), (.el (.x 2000000) (.x 1) 2 0, .x 4), (.el (.x 2000000) (.x 1) 2 1, .x 5), (.len (.x 4), .x 6), (.call 9 [.x 6], .x 7), (.len (.x 5), .x 8), (.call 9 [.x 8], .x 9), (.bin .add (.x 7) (.x 9), .x 10), (.bin .add (.x 10) (.x 4), .x 11), (.bin .add (.x 11) (.x 5), .x 12), (.bin .add (.x 2) (.x 12), .x 13), (.fit (.x 13), .b true), (.len (.x 12), .x 14), (.bin .add (.x 1) (.i .i64 (.ofNat 1)), .x 15)]
theorem runBy7x80_p1 : RNBy7x80_1 hyBy7x80_p1 .normal [(0, .x 0), (1, .x 15), (2, .x 13), (2000000, .x 2000000)] [(80, 80), (81, 83)] 82 epBy7x80_1 hpBy7x80_1 = true := by kernel_rfl
theorem nxBy7x80_p1 (z : List (LB × LB)) (i : Int) (T : LB) (X : Nat → Value) (hI : InvBy7x80 z (1, i, T)) (h0 : i < (z.length : Int)) : RHBy7x80 z E' x' e' h' (1, i, T) X := by
  obtain ⟨i0, i1, i2, i3, i4, i5, i6, i7, i8, it⟩ := unIBy7x80 z 1 i T hI
  have h6 := i4 _ (nthP_memI (z := z) i0 (by omega))
  have := prAt (l := z) (by assumption) (Int.toNat (i))
  have := lnB_lenB ((nthP z (Int.toNat (i))).1.length : Int)
  have := lnB_lenB ((nthP z (Int.toNat (i))).2.length : Int)
  have hsn := pS_snoc (z := z) (T := T) i0 (by omega) i5
  have hpl := pB_len (p := nthP z (Int.toNat i)) h6.1 h6.2
  have hsl := congrArg List.length hsn
  have hsa : (T ++ pB (nthP z (Int.toNat i))).length = T.length + (pB (nthP z (Int.toNat i))).length := List.length_append
  refine stBy7x80_1 z i T (h := hyBy7x80_p1) (1, (i + 1), (T ++ ((lnB ((nthP z (Int.toNat (i))).1.length : Int)) ++ ((lnB ((nthP z (Int.toNat (i))).2.length : Int)) ++ ((nthP z (Int.toNat (i))).1 ++ (nthP z (Int.toNat (i))).2))))) ?_ (mkIBy7x80 z 1 (i + 1) (T ++ ((lnB ((nthP z (Int.toNat (i))).1.length : Int)) ++ ((lnB ((nthP z (Int.toNat (i))).2.length : Int)) ++ ((nthP z (Int.toNat (i))).1 ++ (nthP z (Int.toNat (i))).2)))) ⟨by omega, by omega, i2, i3, i4, hsn, by first | omega | (simp only [List.length_append, List.length_nil] at *; omega), fun h => by omega, i8, by omega⟩) (by show z.length - (i + 1).toNat < z.length - i.toNat; omega) (thXv (v := .int .i64 ((z.length : Int))) rfl rfl (thXi (b := ((i + 1))) rfl rfl (by omega) (thXv (v := St' (T ++ ((lnB ((nthP z (Int.toNat (i))).1.length : Int)) ++ ((lnB ((nthP z (Int.toNat (i))).2.length : Int)) ++ ((nthP z (Int.toNat (i))).1 ++ (nthP z (Int.toNat (i))).2))))) rfl rfl (thXv (v := rwG prC z) rfl rfl (thNil))))) runBy7x80_p1
  unfold hyBy7x80_p1
  exact hc (kRn (denX rfl)) <|
   hc (kBytesB (bs := ([] : LB)) .nil (denX rfl)) <|
   hc (ltT rfl rfl (by omega)) <|
   hc (kElG (j := (Int.toNat (i))) (d := ([], [])) prC_len (by decide) (isX rfl) (isX rfl) (denX rfl) (by omega) (by omega) rfl) <|
   hc (kElG (j := (Int.toNat (i))) (d := ([], [])) prC_len (by decide) (isX rfl) (isX rfl) (denX rfl) (by omega) (by omega) rfl) <|
   hc (lnV rfl rfl (by omega)) <|
   hc (hokLen (isX rfl) (denX rfl) (by omega) (by omega)) <|
   hc (lnV rfl rfl (by omega)) <|
   hc (hokLen (isX rfl) (denX rfl) (by omega) (by omega)) <|
   hc (kCat (isX rfl) (isX rfl) (denX rfl) (by first | rfl | (simp; done)) (by omega)) <|
   hc (kCat (isX rfl) (isX rfl) (denX rfl) (by first | rfl | (simp; done)) (by first | omega | (simp <;> omega))) <|
   hc (kCat (isX rfl) (isX rfl) (denX rfl) (by first | rfl | (simp; done)) (by first | omega | (simp <;> omega))) <|
   hc (kCat (isX rfl) (isX rfl) (denX rfl) (by first | rfl | (simp; done)) (by first | omega | (simp <;> omega))) <|
   hc (kFit (isX rfl) (by first | omega | (simp <;> omega))) <|
   hc (lnV rfl rfl (by first | omega | (simp <;> omega))) <|
   hc (adC rfl rfl (by omega)) <|
   hnil
def hyBy7x80_p2 : LK := [(.rn, .x 2000002), (.bytes [], .x 16), (.bin .lss (.x 1) (.x 0), .b false)]
theorem runBy7x80_p2 : RNBy7x80_1 hyBy7x80_p2 (.exit 0) [(0, .x 2), (2000000, .x 2000000)] [(80, 80), (81, 81)] 120 [(3, .p 80 0)] [(7, .r 2000000 26 2 false), (80, .b ⟨40, .l [.p 80 0, .sy 81], 0, 0, 0, false, false⟩), (81, .t 0 5)] = true := by kernel_rfl
def nuEBy7x80_0 (z : List (LB × LB)) : List Value := [St' (pS z)]
def roEBy7x80_0 (z : List (LB × LB)) : List Value := [rwG prC z]
noncomputable def EBy7x80_0 (z : List (LB × LB)) : Cx := cx (nuX (nuEBy7x80_0 z) (rX (roEBy7x80_0 z) (fun _ => .bool true))) (nuX_one (nuL_one (l := nuEBy7x80_0 z) rfl)) 1 laidE laidE_stab
theorem roundsBy7x80_0 (z : List (LB × LB)) (st : Nat × Int × LB) (X : Nat → Value) (hI : InvBy7x80 z st) : RHBy7x80 z (EBy7x80_0 z) (.exit 0) [(3, .p 80 0)] [(7, .r 2000000 26 2 false), (80, .b ⟨40, .l [.p 80 0, .sy 81], 0, 0, 0, false, false⟩), (81, .t 0 5)] st X := by
  obtain ⟨tag, i, T⟩ := st
  have hI0 := hI
  obtain ⟨i0, i1, i2, i3, i4, i5, i6, i7, i8, it⟩ := unIBy7x80 z tag i T hI
  rcases (show tag = 0 ∨ tag = 1 from by omega) with rfl | rfl
  · skip
    exact nxBy7x80_p0 z i T X hI0
  · skip
    by_cases h0 : i < (z.length : Int)
    · exact nxBy7x80_p1 z i T X hI0 h0
    · skip
      refine lvBy7x80_1 z i T (h := hyBy7x80_p2) rfl ?_ (thXe (v := St' T) (u := St' (pS z)) rfl rfl (congrArg (fun l => St' l) (pS_end i0 (by omega) i5)) (thXv (v := rwG prC z) rfl rfl (thNil))) runBy7x80_p2
      unfold hyBy7x80_p2
      exact hc (kRn (denX rfl)) <|
       hc (kBytesB (bs := ([] : LB)) .nil (denX rfl)) <|
       hc (ltF rfl rfl (by omega)) <|
       hnil
theorem lfOkBy7x80_0 {l : LF} {h : LH} (z : List (LB × LB)) (st : Nat × Int × LB) (hI : InvBy7x80 z st) (hl : l.hp = some h) (hs : lfSame l h 30 keepBy7x80 (.exit 0) 4 80 120 = true) {th0 : LA} {sg0 : List (Nat × Nat)} (hth0 : ∀ X, ThOk (cx nu one 1 laidE laidE_stab) (DBy7x80 z st X) th0) (h0 : startOk l h 30 80 82 th0 sg0 (epBy7x80 st) (hpBy7x80 st) = true) {thx : LA} (hthx : ThOk (EBy7x80_0 z) (cx nu one 1 laidE laidE_stab) thx) (hx : exitOk l h 30 80 120 thx [(3, .p 80 0)] [(7, .r 2000000 26 2 false), (80, .b ⟨40, .l [.p 80 0, .sy 81], 0, 0, 0, false, false⟩), (81, .t 0 5)] = true) : LfOk (cx nu one 1 laidE laidE_stab) bodyBy7x80 l :=
  lfOkX (E := EBy7x80_0 z) (InvBy7x80 z) (muBy7x80 z) (DBy7x80 z) (fun _ _ => rfl) (fun _ _ => rfl) (fun _ _ => rfl) (fun st X t ht => nuX_keep.trans (rX_keep ((by decide : ∀ t, t ∈ keepBy7x80 → t < 1000000) t ht))) rfl rfl rfl hl hs ebBy7x80 rfl rfl st hI hth0 h0 hthx hx (roundsBy7x80_0 z)
noncomputable def bodyBy5x400 : Code := loopNo (Tryd.f5.body.getD .skip) 0
theorem keyBy5x400 : oneKey (loopsOf (Tryd.f5.body.getD .skip)) 3 0 0 = true := by kernel_rfl
def keepBy5x400 : List Nat := []
def epBy5x400_0 : LA := [(3, .p 400 0), (6, .sr 5), (7, .x 0), (8, .x 1)]
def hpBy5x400_0 : LE := [(5, .r 2000000 26 2 true), (400, .b ⟨40, .l [.nilp, .nils], 0, 0, 0, false, false⟩)]
def nuBy5x400_0 (z : List (LB × LB)) (i : Int) (T : LB) : List Value := [.int .i64 ((z.length : Int)), .int .i64 (i), St' ([] : LB), St' ((nthP z (Int.toNat (i))).1), St' ((nthP z (Int.toNat (i))).2), .int .i64 (((nthP z (Int.toNat (i))).1.length : Int)), St' (lnB ((nthP z (Int.toNat (i))).1.length : Int)), .int .i64 (((nthP z (Int.toNat (i))).2.length : Int)), St' (lnB ((nthP z (Int.toNat (i))).2.length : Int)), St' ((lnB ((nthP z (Int.toNat (i))).1.length : Int)) ++ (lnB ((nthP z (Int.toNat (i))).2.length : Int))), St' ((lnB ((nthP z (Int.toNat (i))).1.length : Int)) ++ ((lnB ((nthP z (Int.toNat (i))).2.length : Int)) ++ (nthP z (Int.toNat (i))).1)), St' ((lnB ((nthP z (Int.toNat (i))).1.length : Int)) ++ ((lnB ((nthP z (Int.toNat (i))).2.length : Int)) ++ ((nthP z (Int.toNat (i))).1 ++ (nthP z (Int.toNat (i))).2))), .int .u8 (bt ((lnB ((nthP z (Int.toNat (i))).1.length : Int)) ++ ((lnB ((nthP z (Int.toNat (i))).2.length : Int)) ++ ((nthP z (Int.toNat (i))).1 ++ (nthP z (Int.toNat (i))).2))) 0), .int .i64 (((lnB ((nthP z (Int.toNat (i))).1.length : Int)).length : Int) + ((lnB ((nthP z (Int.toNat (i))).2.length : Int)).length : Int) + ((nthP z (Int.toNat (i))).1.length : Int) + ((nthP z (Int.toNat (i))).2.length : Int)), .int .i64 (i + 1)]
def roBy5x400_0 (z : List (LB × LB)) (i : Int) (T : LB) : List Value := [rwG prC z, rwS ([] : List LB)]
def epBy5x400_1 : LA := [(3, .p 400 0), (6, .sr 5), (7, .x 0), (8, .x 1)]
def hpBy5x400_1 : LE := [(5, .r 2000000 26 2 true), (400, .b ⟨40, .l [.p 400 0, .sy 401], 0, 0, 0, false, false⟩), (401, .t 2 5)]
def nuBy5x400_1 (z : List (LB × LB)) (i : Int) (T : LB) : List Value := [.int .i64 ((z.length : Int)), .int .i64 (i), St' T, St' ([] : LB), St' ((nthP z (Int.toNat (i))).1), St' ((nthP z (Int.toNat (i))).2), .int .i64 (((nthP z (Int.toNat (i))).1.length : Int)), St' (lnB ((nthP z (Int.toNat (i))).1.length : Int)), .int .i64 (((nthP z (Int.toNat (i))).2.length : Int)), St' (lnB ((nthP z (Int.toNat (i))).2.length : Int)), St' ((lnB ((nthP z (Int.toNat (i))).1.length : Int)) ++ (lnB ((nthP z (Int.toNat (i))).2.length : Int))), St' ((lnB ((nthP z (Int.toNat (i))).1.length : Int)) ++ ((lnB ((nthP z (Int.toNat (i))).2.length : Int)) ++ (nthP z (Int.toNat (i))).1)), St' ((lnB ((nthP z (Int.toNat (i))).1.length : Int)) ++ ((lnB ((nthP z (Int.toNat (i))).2.length : Int)) ++ ((nthP z (Int.toNat (i))).1 ++ (nthP z (Int.toNat (i))).2))), St' (T ++ ((lnB ((nthP z (Int.toNat (i))).1.length : Int)) ++ ((lnB ((nthP z (Int.toNat (i))).2.length : Int)) ++ ((nthP z (Int.toNat (i))).1 ++ (nthP z (Int.toNat (i))).2)))), .int .i64 (((lnB ((nthP z (Int.toNat (i))).1.length : Int)).length : Int) + ((lnB ((nthP z (Int.toNat (i))).2.length : Int)).length : Int) + ((nthP z (Int.toNat (i))).1.length : Int) + ((nthP z (Int.toNat (i))).2.length : Int)), .int .i64 (i + 1), St' ([] : LB)]
def roBy5x400_1 (z : List (LB × LB)) (i : Int) (T : LB) : List Value := [rwG prC z, rwS ([] : List LB), rwS ([] : List LB)]
def epBy5x400 (st : Nat × Int × LB) : LA := if st.1 = 0 then epBy5x400_0 else epBy5x400_1
def hpBy5x400 (st : Nat × Int × LB) : LE := if st.1 = 0 then hpBy5x400_0 else hpBy5x400_1
def nuBy5x400 (z : List (LB × LB)) (st : Nat × Int × LB) : List Value := if st.1 = 0 then nuBy5x400_0 z (st.2.1) (st.2.2) else nuBy5x400_1 z (st.2.1) (st.2.2)
def roBy5x400 (z : List (LB × LB)) (st : Nat × Int × LB) : List Value := if st.1 = 0 then roBy5x400_0 z (st.2.1) (st.2.2) else roBy5x400_1 z (st.2.1) (st.2.2)
theorem onBy5x400 (z : List (LB × LB)) (st : Nat × Int × LB) : ∀ j, (nuL (nuBy5x400 z st) j).oneCell' = true := by
  intro j
  unfold nuBy5x400
  by_cases g0 : st.1 = 0
  · rw [if_pos g0]; exact nuL_one (l := nuBy5x400_0 z (st.2.1) (st.2.2)) rfl j
  rw [if_neg g0]
  exact nuL_one (l := nuBy5x400_1 z (st.2.1) (st.2.2)) rfl j
theorem ebBy5x400 (st : Nat × Int × LB) : (lfB (epBy5x400 st) && lfC keepBy5x400) = true := by
  unfold epBy5x400
  by_cases g0 : st.1 = 0
  · rw [if_pos g0]; rfl
  rw [if_neg g0]
  rfl
noncomputable def DBy5x400 (z : List (LB × LB)) (st : Nat × Int × LB) (X : Nat → Value) : Cx := cx (nuX (nuBy5x400 z st) (rX (roBy5x400 z st) X)) (nuX_one (onBy5x400 z st)) 1 laidE laidE_stab
def InvBy5x400 (z : List (LB × LB)) (st : Nat × Int × LB) : Prop := (0 ≤ (st.2.1)) ∧ ((st.2.1) ≤ (z.length : Int)) ∧ (z.length ≤ 40) ∧ (∀ q, q ∈ z → prB q) ∧ (ok6 z) ∧ ((st.2.2) = pS (z.take (Int.toNat (st.2.1)))) ∧ (((st.2.2).length : Int) ≤ 1208 * (st.2.1)) ∧ ((st.1) = 0 → (st.2.1) = 0) ∧ (1 ≤ z.length) ∧ ((st.1) < 2)
abbrev CjBy5x400 (z : List (LB × LB)) (tag : Nat) (i : Int) (T : LB) : Prop := (0 ≤ i) ∧ (i ≤ (z.length : Int)) ∧ (z.length ≤ 40) ∧ (∀ q, q ∈ z → prB q) ∧ (ok6 z) ∧ (T = pS (z.take (Int.toNat i))) ∧ ((T.length : Int) ≤ 1208 * i) ∧ (tag = 0 → i = 0) ∧ (1 ≤ z.length) ∧ (tag < 2)
theorem mkIBy5x400 (z : List (LB × LB)) (tag : Nat) (i : Int) (T : LB) (h : CjBy5x400 z tag i T) : InvBy5x400 z (tag, i, T) := h
theorem unIBy5x400 (z : List (LB × LB)) (tag : Nat) (i : Int) (T : LB) (h : InvBy5x400 z (tag, i, T)) : (0 ≤ i) ∧ (i ≤ (z.length : Int)) ∧ (z.length ≤ 40) ∧ (∀ q, q ∈ z → prB q) ∧ (ok6 z) ∧ (T = pS (z.take (Int.toNat i))) ∧ ((T.length : Int) ≤ 1208 * i) ∧ (tag = 0 → i = 0) ∧ (1 ≤ z.length) ∧ (tag < 2) := h
def muBy5x400 (z : List (LB × LB)) (st : Nat × Int × LB) : Nat := (z.length - (st.2.1).toNat)
abbrev RHBy5x400 (z : List (LB × LB)) (E' : Cx) (ex' : Ex) (epx' : LA) (hpx' : LE) (st : Nat × Int × LB) (X : Nat → Value) : Prop := RoundH E' bodyBy5x400 keepBy5x400 30 ex' 4 400 402 440 epBy5x400 hpBy5x400 epx' hpx' (InvBy5x400 z) (muBy5x400 z) (DBy5x400 z) st X
noncomputable abbrev RNBy5x400_0 (h : LK) (x : Ex) (th : LA) (sg : List (Nat × Nat)) (m : Nat) (ep : LA) (hp : LE) : Bool := okRdH (code (tbl h) 3000 [] bodyBy5x400 (envOf (headOf epBy5x400_0 keepBy5x400) 30) ⟨lhSet hpBy5x400_0 .leaf, 402, 0, 0⟩) x keepBy5x400 30 440 th sg 400 m ep hp
theorem stBy5x400_0 (z : List (LB × LB)) (i : Int) (T : LB) {X : Nat → Value} {h : LK} (y : Nat × Int × LB) {th : LA} {sg : List (Nat × Nat)} (ho : ∀ a' r', (a', r') ∈ h → HOk (cx (nuX (nuBy5x400_0 z i T) (rX (roBy5x400_0 z i T) X)) (nuX_one (nuL_one (l := nuBy5x400_0 z i T) rfl)) 1 laidE laidE_stab) a' r') (hy : InvBy5x400 z y) (lt : muBy5x400 z y < muBy5x400 z (0, i, T)) (ht : ThOk (cx (nuX (nuBy5x400_0 z i T) (rX (roBy5x400_0 z i T) X)) (nuX_one (nuL_one (l := nuBy5x400_0 z i T) rfl)) 1 laidE laidE_stab) (DBy5x400 z y X) th) (run : RNBy5x400_0 h .normal th sg 402 (epBy5x400 y) (hpBy5x400 y) = true) : RHBy5x400 z E' x' e' h' (0, i, T) X :=
  RoundH.next (tb := tbl h) (L := []) (f := 3000) y ((tabkOk _ _).hyps ho) (LpOk.nil _) rfl hy lt ht run
theorem lvBy5x400_0 (z : List (LB × LB)) (i : Int) (T : LB) {X : Nat → Value} {h : LK} {th : LA} {sg : List (Nat × Nat)} (hne : exB x' .normal = false) (ho : ∀ a' r', (a', r') ∈ h → HOk (cx (nuX (nuBy5x400_0 z i T) (rX (roBy5x400_0 z i T) X)) (nuX_one (nuL_one (l := nuBy5x400_0 z i T) rfl)) 1 laidE laidE_stab) a' r') (ht : ThOk (cx (nuX (nuBy5x400_0 z i T) (rX (roBy5x400_0 z i T) X)) (nuX_one (nuL_one (l := nuBy5x400_0 z i T) rfl)) 1 laidE laidE_stab) E' th) (run : RNBy5x400_0 h x' th sg 440 e' h' = true) : RHBy5x400 z E' x' e' h' (0, i, T) X :=
  RoundH.leave (tb := tbl h) (L := []) (f := 3000) ((tabkOk _ _).hyps ho) (LpOk.nil _) rfl hne ht run
noncomputable abbrev RNBy5x400_1 (h : LK) (x : Ex) (th : LA) (sg : List (Nat × Nat)) (m : Nat) (ep : LA) (hp : LE) : Bool := okRdH (code (tbl h) 3000 [] bodyBy5x400 (envOf (headOf epBy5x400_1 keepBy5x400) 30) ⟨lhSet hpBy5x400_1 .leaf, 402, 0, 0⟩) x keepBy5x400 30 440 th sg 400 m ep hp
theorem stBy5x400_1 (z : List (LB × LB)) (i : Int) (T : LB) {X : Nat → Value} {h : LK} (y : Nat × Int × LB) {th : LA} {sg : List (Nat × Nat)} (ho : ∀ a' r', (a', r') ∈ h → HOk (cx (nuX (nuBy5x400_1 z i T) (rX (roBy5x400_1 z i T) X)) (nuX_one (nuL_one (l := nuBy5x400_1 z i T) rfl)) 1 laidE laidE_stab) a' r') (hy : InvBy5x400 z y) (lt : muBy5x400 z y < muBy5x400 z (1, i, T)) (ht : ThOk (cx (nuX (nuBy5x400_1 z i T) (rX (roBy5x400_1 z i T) X)) (nuX_one (nuL_one (l := nuBy5x400_1 z i T) rfl)) 1 laidE laidE_stab) (DBy5x400 z y X) th) (run : RNBy5x400_1 h .normal th sg 402 (epBy5x400 y) (hpBy5x400 y) = true) : RHBy5x400 z E' x' e' h' (1, i, T) X :=
  RoundH.next (tb := tbl h) (L := []) (f := 3000) y ((tabkOk _ _).hyps ho) (LpOk.nil _) rfl hy lt ht run
theorem lvBy5x400_1 (z : List (LB × LB)) (i : Int) (T : LB) {X : Nat → Value} {h : LK} {th : LA} {sg : List (Nat × Nat)} (hne : exB x' .normal = false) (ho : ∀ a' r', (a', r') ∈ h → HOk (cx (nuX (nuBy5x400_1 z i T) (rX (roBy5x400_1 z i T) X)) (nuX_one (nuL_one (l := nuBy5x400_1 z i T) rfl)) 1 laidE laidE_stab) a' r') (ht : ThOk (cx (nuX (nuBy5x400_1 z i T) (rX (roBy5x400_1 z i T) X)) (nuX_one (nuL_one (l := nuBy5x400_1 z i T) rfl)) 1 laidE laidE_stab) E' th) (run : RNBy5x400_1 h x' th sg 440 e' h' = true) : RHBy5x400 z E' x' e' h' (1, i, T) X :=
  RoundH.leave (tb := tbl h) (L := []) (f := 3000) ((tabkOk _ _).hyps ho) (LpOk.nil _) rfl hne ht run
def hyBy5x400_p0 : LK := [(.rn, .x 2000001), (.bytes [], .x 2), (.bin .lss (.x 1) (.x 0), .b true), (.el (.x 2000000) (.x 1) 2 0, .x 3), (.el (.x 2000000) (.x 1) 2 1, .x 4), (.len (.x 3), .x 5), (.call 9 [.x 5], .x 6), (.len (.x 4), .x 7), (.call 9 [.x 7], .x 8), (.bin .add (.x 6) (.x 8), .x 9), (.bin .add (.x 9) (.x 3), .x 10), (.bin .add (.x 10) (.x 4), .x 11), (.byt (.x 11) (.i .i64 (.ofNat 0)), .x 12), (.fit (.x 11), .b true), (.len (.x 11), .x 13), (.bin .add (.x 1) (.i .i64 (.ofNat 1)), .x 14)]
theorem runBy5x400_p0 : RNBy5x400_0 hyBy5x400_p0 .normal [(0, .x 0), (1, .x 14), (2, .x 11), (2000000, .x 2000000)] [(400, 400), (401, 403)] 402 epBy5x400_1 hpBy5x400_1 = true := by kernel_rfl
theorem nxBy5x400_p0 (z : List (LB × LB)) (i : Int) (T : LB) (X : Nat → Value) (hI : InvBy5x400 z (0, i, T)) : RHBy5x400 z E' x' e' h' (0, i, T) X := by
  obtain ⟨i0, i1, i2, i3, i4, i5, i6, i7, i8, it⟩ := unIBy5x400 z 0 i T hI
  have h6 := i4 _ (nthP_memI (z := z) i0 (by omega))
  have := prAt (l := z) (by assumption) (Int.toNat (i))
  have := lnB_lenB ((nthP z (Int.toNat (i))).1.length : Int)
  have := lnB_lenB ((nthP z (Int.toNat (i))).2.length : Int)
  have := bt_lo ((lnB ((nthP z (Int.toNat (i))).1.length : Int)) ++ ((lnB ((nthP z (Int.toNat (i))).2.length : Int)) ++ ((nthP z (Int.toNat (i))).1 ++ (nthP z (Int.toNat (i))).2))) 0; have := bt_hi ((lnB ((nthP z (Int.toNat (i))).1.length : Int)) ++ ((lnB ((nthP z (Int.toNat (i))).2.length : Int)) ++ ((nthP z (Int.toNat (i))).1 ++ (nthP z (Int.toNat (i))).2))) 0
  have hsn := pS_snoc (z := z) (T := ([] : LB)) i0 (by omega) (by rw [i7 rfl]; rfl)
  have hpl := pB_len (p := nthP z (Int.toNat i)) h6.1 h6.2
  have hsl := congrArg List.length hsn
  have hsa : (([] : LB) ++ pB (nthP z (Int.toNat i))).length = ([] : LB).length + (pB (nthP z (Int.toNat i))).length := List.length_append
  refine stBy5x400_0 z i T (h := hyBy5x400_p0) (1, (i + 1), ((lnB ((nthP z (Int.toNat (i))).1.length : Int)) ++ ((lnB ((nthP z (Int.toNat (i))).2.length : Int)) ++ ((nthP z (Int.toNat (i))).1 ++ (nthP z (Int.toNat (i))).2)))) ?_ (mkIBy5x400 z 1 (i + 1) ((lnB ((nthP z (Int.toNat (i))).1.length : Int)) ++ ((lnB ((nthP z (Int.toNat (i))).2.length : Int)) ++ ((nthP z (Int.toNat (i))).1 ++ (nthP z (Int.toNat (i))).2))) ⟨by omega, by omega, i2, i3, i4, hsn, by show (((pB (nthP z (Int.toNat i))).length : Nat) : Int) ≤ _; omega, fun h => by omega, i8, by omega⟩) (by show z.length - (i + 1).toNat < z.length - i.toNat; omega) (thXv (v := .int .i64 ((z.length : Int))) rfl rfl (thXi (b := ((i + 1))) rfl rfl (by omega) (thXv (v := St' ((lnB ((nthP z (Int.toNat (i))).1.length : Int)) ++ ((lnB ((nthP z (Int.toNat (i))).2.length : Int)) ++ ((nthP z (Int.toNat (i))).1 ++ (nthP z (Int.toNat (i))).2)))) rfl rfl (thXv (v := rwG prC z) rfl rfl (thNil))))) runBy5x400_p0
  unfold hyBy5x400_p0
  exact hc (kRn (denX rfl)) <|
   hc (kBytesB (bs := ([] : LB)) .nil (denX rfl)) <|
   hc (ltT rfl rfl (by omega)) <|
   hc (kElG (j := (Int.toNat (i))) (d := ([], [])) prC_len (by decide) (isX rfl) (isX rfl) (denX rfl) (by omega) (by omega) rfl) <|
   hc (kElG (j := (Int.toNat (i))) (d := ([], [])) prC_len (by decide) (isX rfl) (isX rfl) (denX rfl) (by omega) (by omega) rfl) <|
   hc (lnV rfl rfl (by omega)) <|
   hc (hokLen (isX rfl) (denX rfl) (by omega) (by omega)) <|
   hc (lnV rfl rfl (by omega)) <|
   hc (hokLen (isX rfl) (denX rfl) (by omega) (by omega)) <|
   hc (kCat (isX rfl) (isX rfl) (denX rfl) (by first | rfl | (simp; done)) (by omega)) <|
   hc (kCat (isX rfl) (isX rfl) (denX rfl) (by first | rfl | (simp; done)) (by first | omega | (simp <;> omega))) <|
   hc (kCat (isX rfl) (isX rfl) (denX rfl) (by first | rfl | (simp; done)) (by first | omega | (simp <;> omega))) <|
   hc (kByt (i := 0) (isX rfl) (isZ (m := 0) rfl) (denX rfl) rfl (by first | omega | (simp <;> omega)) rfl) <|
   hc (kFit (isX rfl) (by first | omega | (simp <;> omega))) <|
   hc (lnV rfl rfl (by first | omega | (simp <;> omega))) <|
   hc (adC rfl rfl (by omega)) <|
   hnil
def hyBy5x400_p1 : LK := [(.rn, .x 2000001), (.bytes [], .x 3), (.bin .lss (.x 1) (.x 0), .b true), (.el (.x 2000000) (.x 1) 2 0, .x 4), (.el (.x 2000000) (.x 1) 2 1, .x 5), (.len (.x 4), .x 6), (.call 9 [.x 6], .x 7), (.len (.x 5), .x 8), (.call 9 [.x 8], .x 9), (.bin .add (.x 7) (.x 9), .x 10), (.bin .add (.x 10) (.x 4), .x 11), (.bin .add (.x 11) (.x 5), .x 12), (.bin .add (.x 2) (.x 12), .x 13), (.fit (.x 13), .b true), (.len (.x 12), .x 14), (.bin .add (.x 1) (.i .i64 (.ofNat 1)), .x 15)]
theorem runBy5x400_p1 : RNBy5x400_1 hyBy5x400_p1 .normal [(0, .x 0), (1, .x 15), (2, .x 13), (2000000, .x 2000000)] [(400, 400), (401, 403)] 402 epBy5x400_1 hpBy5x400_1 = true := by kernel_rfl
theorem nxBy5x400_p1 (z : List (LB × LB)) (i : Int) (T : LB) (X : Nat → Value) (hI : InvBy5x400 z (1, i, T)) (h0 : i < (z.length : Int)) : RHBy5x400 z E' x' e' h' (1, i, T) X := by
  obtain ⟨i0, i1, i2, i3, i4, i5, i6, i7, i8, it⟩ := unIBy5x400 z 1 i T hI
  have h6 := i4 _ (nthP_memI (z := z) i0 (by omega))
  have := prAt (l := z) (by assumption) (Int.toNat (i))
  have := lnB_lenB ((nthP z (Int.toNat (i))).1.length : Int)
  have := lnB_lenB ((nthP z (Int.toNat (i))).2.length : Int)
  have hsn := pS_snoc (z := z) (T := T) i0 (by omega) i5
  have hpl := pB_len (p := nthP z (Int.toNat i)) h6.1 h6.2
  have hsl := congrArg List.length hsn
  have hsa : (T ++ pB (nthP z (Int.toNat i))).length = T.length + (pB (nthP z (Int.toNat i))).length := List.length_append
  refine stBy5x400_1 z i T (h := hyBy5x400_p1) (1, (i + 1), (T ++ ((lnB ((nthP z (Int.toNat (i))).1.length : Int)) ++ ((lnB ((nthP z (Int.toNat (i))).2.length : Int)) ++ ((nthP z (Int.toNat (i))).1 ++ (nthP z (Int.toNat (i))).2))))) ?_ (mkIBy5x400 z 1 (i + 1) (T ++ ((lnB ((nthP z (Int.toNat (i))).1.length : Int)) ++ ((lnB ((nthP z (Int.toNat (i))).2.length : Int)) ++ ((nthP z (Int.toNat (i))).1 ++ (nthP z (Int.toNat (i))).2)))) ⟨by omega, by omega, i2, i3, i4, hsn, by first | omega | (simp only [List.length_append, List.length_nil] at *; omega), fun h => by omega, i8, by omega⟩) (by show z.length - (i + 1).toNat < z.length - i.toNat; omega) (thXv (v := .int .i64 ((z.length : Int))) rfl rfl (thXi (b := ((i + 1))) rfl rfl (by omega) (thXv (v := St' (T ++ ((lnB ((nthP z (Int.toNat (i))).1.length : Int)) ++ ((lnB ((nthP z (Int.toNat (i))).2.length : Int)) ++ ((nthP z (Int.toNat (i))).1 ++ (nthP z (Int.toNat (i))).2))))) rfl rfl (thXv (v := rwG prC z) rfl rfl (thNil))))) runBy5x400_p1
  unfold hyBy5x400_p1
  exact hc (kRn (denX rfl)) <|
   hc (kBytesB (bs := ([] : LB)) .nil (denX rfl)) <|
   hc (ltT rfl rfl (by omega)) <|
   hc (kElG (j := (Int.toNat (i))) (d := ([], [])) prC_len (by decide) (isX rfl) (isX rfl) (denX rfl) (by omega) (by omega) rfl) <|
   hc (kElG (j := (Int.toNat (i))) (d := ([], [])) prC_len (by decide) (isX rfl) (isX rfl) (denX rfl) (by omega) (by omega) rfl) <|
   hc (lnV rfl rfl (by omega)) <|
   hc (hokLen (isX rfl) (denX rfl) (by omega) (by omega)) <|
   hc (lnV rfl rfl (by omega)) <|
   hc (hokLen (isX rfl) (denX rfl) (by omega) (by omega)) <|
   hc (kCat (isX rfl) (isX rfl) (denX rfl) (by first | rfl | (simp; done)) (by omega)) <|
   hc (kCat (isX rfl) (isX rfl) (denX rfl) (by first | rfl | (simp; done)) (by first | omega | (simp <;> omega))) <|
   hc (kCat (isX rfl) (isX rfl) (denX rfl) (by first | rfl | (simp; done)) (by first | omega | (simp <;> omega))) <|
   hc (kCat (isX rfl) (isX rfl) (denX rfl) (by first | rfl | (simp; done)) (by first | omega | (simp <;> omega))) <|
   hc (kFit (isX rfl) (by first | omega | (simp <;> omega))) <|
   hc (lnV rfl rfl (by first | omega | (simp <;> omega))) <|
   hc (adC rfl rfl (by omega)) <|
   hnil
def hyBy5x400_p2 : LK := [(.rn, .x 2000002), (.bytes [], .x 16), (.bin .lss (.x 1) (.x 0), .b false)]
theorem runBy5x400_p2 : RNBy5x400_1 hyBy5x400_p2 (.exit 0) [(0, .x 2), (2000000, .x 2000000)] [(400, 400), (401, 401)] 440 [(3, .p 400 0)] [(5, .r 2000000 26 2 true), (400, .b ⟨40, .l [.p 400 0, .sy 401], 0, 0, 0, false, false⟩), (401, .t 0 5)] = true := by kernel_rfl
def nuEBy5x400_0 (z : List (LB × LB)) : List Value := [St' (pS z)]
def roEBy5x400_0 (z : List (LB × LB)) : List Value := [rwG prC z]
noncomputable def EBy5x400_0 (z : List (LB × LB)) : Cx := cx (nuX (nuEBy5x400_0 z) (rX (roEBy5x400_0 z) (fun _ => .bool true))) (nuX_one (nuL_one (l := nuEBy5x400_0 z) rfl)) 1 laidE laidE_stab
theorem roundsBy5x400_0 (z : List (LB × LB)) (st : Nat × Int × LB) (X : Nat → Value) (hI : InvBy5x400 z st) : RHBy5x400 z (EBy5x400_0 z) (.exit 0) [(3, .p 400 0)] [(5, .r 2000000 26 2 true), (400, .b ⟨40, .l [.p 400 0, .sy 401], 0, 0, 0, false, false⟩), (401, .t 0 5)] st X := by
  obtain ⟨tag, i, T⟩ := st
  have hI0 := hI
  obtain ⟨i0, i1, i2, i3, i4, i5, i6, i7, i8, it⟩ := unIBy5x400 z tag i T hI
  rcases (show tag = 0 ∨ tag = 1 from by omega) with rfl | rfl
  · skip
    exact nxBy5x400_p0 z i T X hI0
  · skip
    by_cases h0 : i < (z.length : Int)
    · exact nxBy5x400_p1 z i T X hI0 h0
    · skip
      refine lvBy5x400_1 z i T (h := hyBy5x400_p2) rfl ?_ (thXe (v := St' T) (u := St' (pS z)) rfl rfl (congrArg (fun l => St' l) (pS_end i0 (by omega) i5)) (thXv (v := rwG prC z) rfl rfl (thNil))) runBy5x400_p2
      unfold hyBy5x400_p2
      exact hc (kRn (denX rfl)) <|
       hc (kBytesB (bs := ([] : LB)) .nil (denX rfl)) <|
       hc (ltF rfl rfl (by omega)) <|
       hnil
theorem lfOkBy5x400_0 {l : LF} {h : LH} (z : List (LB × LB)) (st : Nat × Int × LB) (hI : InvBy5x400 z st) (hl : l.hp = some h) (hs : lfSame l h 30 keepBy5x400 (.exit 0) 4 400 440 = true) {th0 : LA} {sg0 : List (Nat × Nat)} (hth0 : ∀ X, ThOk (cx nu one 1 laidE laidE_stab) (DBy5x400 z st X) th0) (h0 : startOk l h 30 400 402 th0 sg0 (epBy5x400 st) (hpBy5x400 st) = true) {thx : LA} (hthx : ThOk (EBy5x400_0 z) (cx nu one 1 laidE laidE_stab) thx) (hx : exitOk l h 30 400 440 thx [(3, .p 400 0)] [(5, .r 2000000 26 2 true), (400, .b ⟨40, .l [.p 400 0, .sy 401], 0, 0, 0, false, false⟩), (401, .t 0 5)] = true) : LfOk (cx nu one 1 laidE laidE_stab) bodyBy5x400 l :=
  lfOkX (E := EBy5x400_0 z) (InvBy5x400 z) (muBy5x400 z) (DBy5x400 z) (fun _ _ => rfl) (fun _ _ => rfl) (fun _ _ => rfl) (fun st X t ht => nuX_keep.trans (rX_keep ((by decide : ∀ t, t ∈ keepBy5x400 → t < 1000000) t ht))) rfl rfl rfl hl hs ebBy5x400 rfl rfl st hI hth0 h0 hthx hx (roundsBy5x400_0 z)
noncomputable def bodyBe : Code := loopNo (Tryd.f5.body.getD .skip) 0
theorem keyBe : oneKey (loopsOf (Tryd.f5.body.getD .skip)) 3 0 0 = true := by kernel_rfl
def keepBe : List Nat := []
def epBe_0 : LA := [(3, .p 300 0), (6, .es), (7, .i .i64 (.ofNat 0)), (8, .i .i64 (.ofNat 0))]
def hpBe_0 : LE := [(300, .b ⟨40, .l [.nilp, .nils], 0, 0, 0, false, false⟩)]
def nuBe_0 (u : Nat) : List Value := [St' ([] : LB)]
def roBe_0 (u : Nat) : List Value := [rwS ([] : List LB)]
def epBe (st : Nat × Nat) : LA := epBe_0
def hpBe (st : Nat × Nat) : LE := hpBe_0
def nuBe (st : Nat × Nat) : List Value := nuBe_0 (st.2)
def roBe (st : Nat × Nat) : List Value := roBe_0 (st.2)
theorem onBe (st : Nat × Nat) : ∀ j, (nuL (nuBe st) j).oneCell' = true := by
  intro j
  unfold nuBe
  exact nuL_one (l := nuBe_0 (st.2)) rfl j
theorem ebBe (st : Nat × Nat) : (lfB (epBe st) && lfC keepBe) = true := by
  unfold epBe
  rfl
noncomputable def DBe (st : Nat × Nat) (X : Nat → Value) : Cx := cx (nuX (nuBe st) (rX (roBe st) X)) (nuX_one (onBe st)) 1 laidE laidE_stab
def InvBe (st : Nat × Nat) : Prop := (True) ∧ ((st.1) < 1)
abbrev CjBe (tag : Nat) (u : Nat) : Prop := (True) ∧ (tag < 1)
theorem mkIBe (tag : Nat) (u : Nat) (h : CjBe tag u) : InvBe (tag, u) := h
theorem unIBe (tag : Nat) (u : Nat) (h : InvBe (tag, u)) : (True) ∧ (tag < 1) := h
def muBe (st : Nat × Nat) : Nat := 0
abbrev RHBe (E' : Cx) (ex' : Ex) (epx' : LA) (hpx' : LE) (st : Nat × Nat) (X : Nat → Value) : Prop := RoundH E' bodyBe keepBe 30 ex' 4 300 301 320 epBe hpBe epx' hpx' (InvBe) (muBe) (DBe) st X
noncomputable abbrev RNBe_0 (h : LK) (x : Ex) (th : LA) (sg : List (Nat × Nat)) (m : Nat) (ep : LA) (hp : LE) : Bool := okRdH (code (tbl h) 900 [] bodyBe (envOf (headOf epBe_0 keepBe) 30) ⟨lhSet hpBe_0 .leaf, 301, 0, 0⟩) x keepBe 30 320 th sg 300 m ep hp
theorem stBe_0 (u : Nat) {X : Nat → Value} {h : LK} (y : Nat × Nat) {th : LA} {sg : List (Nat × Nat)} (ho : ∀ a' r', (a', r') ∈ h → HOk (cx (nuX (nuBe_0 u) (rX (roBe_0 u) X)) (nuX_one (nuL_one (l := nuBe_0 u) rfl)) 1 laidE laidE_stab) a' r') (hy : InvBe y) (lt : muBe y < muBe (0, u)) (ht : ThOk (cx (nuX (nuBe_0 u) (rX (roBe_0 u) X)) (nuX_one (nuL_one (l := nuBe_0 u) rfl)) 1 laidE laidE_stab) (DBe y X) th) (run : RNBe_0 h .normal th sg 301 (epBe y) (hpBe y) = true) : RHBe E' x' e' h' (0, u) X :=
  RoundH.next (tb := tbl h) (L := []) (f := 900) y ((tabkOk _ _).hyps ho) (LpOk.nil _) rfl hy lt ht run
theorem lvBe_0 (u : Nat) {X : Nat → Value} {h : LK} {th : LA} {sg : List (Nat × Nat)} (hne : exB x' .normal = false) (ho : ∀ a' r', (a', r') ∈ h → HOk (cx (nuX (nuBe_0 u) (rX (roBe_0 u) X)) (nuX_one (nuL_one (l := nuBe_0 u) rfl)) 1 laidE laidE_stab) a' r') (ht : ThOk (cx (nuX (nuBe_0 u) (rX (roBe_0 u) X)) (nuX_one (nuL_one (l := nuBe_0 u) rfl)) 1 laidE laidE_stab) E' th) (run : RNBe_0 h x' th sg 320 e' h' = true) : RHBe E' x' e' h' (0, u) X :=
  RoundH.leave (tb := tbl h) (L := []) (f := 900) ((tabkOk _ _).hyps ho) (LpOk.nil _) rfl hne ht run
def hyBe_p0 : LK := [(.rn, .x 2000000), (.bytes [], .x 0)]
theorem runBe_p0 : RNBe_0 hyBe_p0 (.exit 0) [] [(300, 300)] 320 [(3, .p 300 0)] [(300, .b ⟨40, .l [.nilp, .nils], 0, 0, 0, false, false⟩)] = true := by kernel_rfl
def nuEBe_0 : List Value := []
def roEBe_0 : List Value := []
noncomputable def EBe_0 : Cx := cx (nuX (nuEBe_0) (rX (roEBe_0) (fun _ => .bool true))) (nuX_one (nuL_one (l := nuEBe_0) rfl)) 1 laidE laidE_stab
theorem roundsBe_0 (st : Nat × Nat) (X : Nat → Value) (hI : InvBe st) : RHBe (EBe_0) (.exit 0) [(3, .p 300 0)] [(300, .b ⟨40, .l [.nilp, .nils], 0, 0, 0, false, false⟩)] st X := by
  obtain ⟨tag, u⟩ := st
  have hI0 := hI
  obtain ⟨i0, it⟩ := unIBe tag u hI
  obtain rfl : tag = 0 := by omega
  skip
  skip
  refine lvBe_0 u (h := hyBe_p0) rfl ?_ (thNil) runBe_p0
  unfold hyBe_p0
  exact hc (kRn (denX rfl)) <|
   hc (kBytesB (bs := ([] : LB)) .nil (denX rfl)) <|
   hnil
theorem lfOkBe_0 {l : LF} {h : LH} (st : Nat × Nat) (hI : InvBe st) (hl : l.hp = some h) (hs : lfSame l h 30 keepBe (.exit 0) 4 300 320 = true) {th0 : LA} {sg0 : List (Nat × Nat)} (hth0 : ∀ X, ThOk (cx nu one 1 laidE laidE_stab) (DBe st X) th0) (h0 : startOk l h 30 300 301 th0 sg0 (epBe st) (hpBe st) = true) {thx : LA} (hthx : ThOk (EBe_0) (cx nu one 1 laidE laidE_stab) thx) (hx : exitOk l h 30 300 320 thx [(3, .p 300 0)] [(300, .b ⟨40, .l [.nilp, .nils], 0, 0, 0, false, false⟩)] = true) : LfOk (cx nu one 1 laidE laidE_stab) bodyBe l :=
  lfOkX (E := EBe_0) (InvBe) (muBe) (DBe) (fun _ _ => rfl) (fun _ _ => rfl) (fun _ _ => rfl) (fun st X t ht => nuX_keep.trans (rX_keep ((by decide : ∀ t, t ∈ keepBe → t < 1000000) t ht))) rfl rfl rfl hl hs ebBe rfl rfl st hI hth0 h0 hthx hx (roundsBe_0)
noncomputable def bodySp6 : Code := loopNo (Tryd.f7.body.getD .skip) 0
theorem keySp6 : oneKey (loopsOf (Tryd.f7.body.getD .skip)) 4 0 0 = true := by kernel_rfl
def keepSp6 : List Nat := []
def epSp6_0 : LA := [(0, .sr 280), (1, .sr 6), (5, .x 0)]
def hpSp6_0 : LE := [(280, .r 2000000 26 2 false), (6, .r 2000001 26 2 false)]
def nuSp6_0 (z : List (LB × LB)) (i : Int) : List Value := [.int .i64 (i), .int .i64 ((z.length : Int)), St' ((nthP z (Int.toNat (i))).1), St' ((nthP z (Int.toNat (i))).2), St' ((nthP z (Int.toNat (i))).1), St' ((nthP z (Int.toNat (i))).2), .int .i64 (i + 1), .int .i64 ((z.length : Int))]
def roSp6_0 (z : List (LB × LB)) (i : Int) : List Value := [rwG prC z, rwG prC z]
def epSp6 (st : Nat × Int) : LA := epSp6_0
def hpSp6 (st : Nat × Int) : LE := hpSp6_0
def nuSp6 (z : List (LB × LB)) (st : Nat × Int) : List Value := nuSp6_0 z (st.2)
def roSp6 (z : List (LB × LB)) (st : Nat × Int) : List Value := roSp6_0 z (st.2)
theorem onSp6 (z : List (LB × LB)) (st : Nat × Int) : ∀ j, (nuL (nuSp6 z st) j).oneCell' = true := by
  intro j
  unfold nuSp6
  exact nuL_one (l := nuSp6_0 z (st.2)) rfl j
theorem ebSp6 (st : Nat × Int) : (lfB (epSp6 st) && lfC keepSp6) = true := by
  unfold epSp6
  rfl
noncomputable def DSp6 (z : List (LB × LB)) (st : Nat × Int) (X : Nat → Value) : Cx := cx (nuX (nuSp6 z st) (rX (roSp6 z st) X)) (nuX_one (onSp6 z st)) 1 laidE laidE_stab
def InvSp6 (z : List (LB × LB)) (st : Nat × Int) : Prop := (0 ≤ (st.2)) ∧ ((st.2) ≤ (z.length : Int)) ∧ (z.length ≤ 40) ∧ (∀ q, q ∈ z → prB q) ∧ ((st.1) < 1)
abbrev CjSp6 (z : List (LB × LB)) (tag : Nat) (i : Int) : Prop := (0 ≤ i) ∧ (i ≤ (z.length : Int)) ∧ (z.length ≤ 40) ∧ (∀ q, q ∈ z → prB q) ∧ (tag < 1)
theorem mkISp6 (z : List (LB × LB)) (tag : Nat) (i : Int) (h : CjSp6 z tag i) : InvSp6 z (tag, i) := h
theorem unISp6 (z : List (LB × LB)) (tag : Nat) (i : Int) (h : InvSp6 z (tag, i)) : (0 ≤ i) ∧ (i ≤ (z.length : Int)) ∧ (z.length ≤ 40) ∧ (∀ q, q ∈ z → prB q) ∧ (tag < 1) := h
def muSp6 (z : List (LB × LB)) (st : Nat × Int) : Nat := (z.length - (st.2).toNat)
abbrev RHSp6 (z : List (LB × LB)) (E' : Cx) (ex' : Ex) (epx' : LA) (hpx' : LE) (st : Nat × Int) (X : Nat → Value) : Prop := RoundH E' bodySp6 keepSp6 26 ex' 4 280 281 282 epSp6 hpSp6 epx' hpx' (InvSp6 z) (muSp6 z) (DSp6 z) st X
noncomputable abbrev RNSp6_0 (h : LK) (x : Ex) (th : LA) (sg : List (Nat × Nat)) (m : Nat) (ep : LA) (hp : LE) : Bool := okRdH (code (tbl h) 3000 [] bodySp6 (envOf (headOf epSp6_0 keepSp6) 26) ⟨lhSet hpSp6_0 .leaf, 281, 0, 0⟩) x keepSp6 26 282 th sg 280 m ep hp
theorem stSp6_0 (z : List (LB × LB)) (i : Int) {X : Nat → Value} {h : LK} (y : Nat × Int) {th : LA} {sg : List (Nat × Nat)} (ho : ∀ a' r', (a', r') ∈ h → HOk (cx (nuX (nuSp6_0 z i) (rX (roSp6_0 z i) X)) (nuX_one (nuL_one (l := nuSp6_0 z i) rfl)) 1 laidE laidE_stab) a' r') (hy : InvSp6 z y) (lt : muSp6 z y < muSp6 z (0, i)) (ht : ThOk (cx (nuX (nuSp6_0 z i) (rX (roSp6_0 z i) X)) (nuX_one (nuL_one (l := nuSp6_0 z i) rfl)) 1 laidE laidE_stab) (DSp6 z y X) th) (run : RNSp6_0 h .normal th sg 281 (epSp6 y) (hpSp6 y) = true) : RHSp6 z E' x' e' h' (0, i) X :=
  RoundH.next (tb := tbl h) (L := []) (f := 3000) y ((tabkOk _ _).hyps ho) (LpOk.nil _) rfl hy lt ht run
theorem lvSp6_0 (z : List (LB × LB)) (i : Int) {X : Nat → Value} {h : LK} {th : LA} {sg : List (Nat × Nat)} (hne : exB x' .normal = false) (ho : ∀ a' r', (a', r') ∈ h → HOk (cx (nuX (nuSp6_0 z i) (rX (roSp6_0 z i) X)) (nuX_one (nuL_one (l := nuSp6_0 z i) rfl)) 1 laidE laidE_stab) a' r') (ht : ThOk (cx (nuX (nuSp6_0 z i) (rX (roSp6_0 z i) X)) (nuX_one (nuL_one (l := nuSp6_0 z i) rfl)) 1 laidE laidE_stab) E' th) (run : RNSp6_0 h x' th sg 282 e' h' = true) : RHSp6 z E' x' e' h' (0, i) X :=
  RoundH.leave (tb := tbl h) (L := []) (f := 3000) ((tabkOk _ _).hyps ho) (LpOk.nil _) rfl hne ht run
def hySp6_p0 : LK := [(.rl (.x 2000000) 2, .x 1), (.bin .lss (.x 0) (.x 1), .b true), (.el (.x 2000000) (.x 0) 2 0, .x 2), (.el (.x 2000000) (.x 0) 2 1, .x 3), (.el (.x 2000001) (.x 0) 2 0, .x 4), (.el (.x 2000001) (.x 0) 2 1, .x 5), (.eq 9 (.x 2) (.x 4), .b true), (.eq 9 (.x 3) (.x 5), .b true), (.bin .add (.x 0) (.i .i64 (.ofNat 1)), .x 6)]
theorem runSp6_p0 : RNSp6_0 hySp6_p0 .normal [(0, .x 6), (2000000, .x 2000000), (2000001, .x 2000001)] [(280, 280)] 281 epSp6_0 hpSp6_0 = true := by kernel_rfl
theorem nxSp6_p0 (z : List (LB × LB)) (i : Int) (X : Nat → Value) (hI : InvSp6 z (0, i)) (h0 : i < (z.length : Int)) : RHSp6 z E' x' e' h' (0, i) X := by
  obtain ⟨i0, i1, i2, i3, it⟩ := unISp6 z 0 i hI
  have := prAt (l := z) (by assumption) (Int.toNat (i))
  refine stSp6_0 z i (h := hySp6_p0) (0, (i + 1)) ?_ (mkISp6 z 0 (i + 1) ⟨by omega, by omega, by omega, i3, by omega⟩) (by show z.length - (i + 1).toNat < z.length - i.toNat; omega) (thXi (b := ((i + 1))) rfl rfl (by omega) (thXv (v := rwG prC z) rfl rfl (thXv (v := rwG prC z) rfl rfl (thNil)))) runSp6_p0
  unfold hySp6_p0
  exact hc (kRlG prC_len (isX rfl) (denX rfl) (by first | omega | (simp <;> omega))) <|
   hc (ltT rfl rfl (by omega)) <|
   hc (kElG (j := (Int.toNat (i))) (d := ([], [])) prC_len (by decide) (isX rfl) (isX rfl) (denX rfl) (by omega) (by omega) rfl) <|
   hc (kElG (j := (Int.toNat (i))) (d := ([], [])) prC_len (by decide) (isX rfl) (isX rfl) (denX rfl) (by omega) (by omega) rfl) <|
   hc (kElG (j := (Int.toNat (i))) (d := ([], [])) prC_len (by decide) (isX rfl) (isX rfl) (denX rfl) (by omega) (by omega) rfl) <|
   hc (kElG (j := (Int.toNat (i))) (d := ([], [])) prC_len (by decide) (isX rfl) (isX rfl) (denX rfl) (by omega) (by omega) rfl) <|
   hc (kEqTS (isX rfl) (isX rfl) tu9 (decide_eq_true rfl)) <|
   hc (kEqTS (isX rfl) (isX rfl) tu9 (decide_eq_true rfl)) <|
   hc (adC rfl rfl (by omega)) <|
   hnil
def hySp6_p1 : LK := [(.rl (.x 2000000) 2, .x 7), (.bin .lss (.x 0) (.x 7), .b false)]
theorem runSp6_p1 : RNSp6_0 hySp6_p1 (.exit 0) [(2000000, .x 2000001)] [] 282 [] [(6, .r 2000000 26 2 false)] = true := by kernel_rfl
def nuESp6_0 (z : List (LB × LB)) : List Value := []
def roESp6_0 (z : List (LB × LB)) : List Value := [rwG prC z]
noncomputable def ESp6_0 (z : List (LB × LB)) : Cx := cx (nuX (nuESp6_0 z) (rX (roESp6_0 z) (fun _ => .bool true))) (nuX_one (nuL_one (l := nuESp6_0 z) rfl)) 1 laidE laidE_stab
theorem roundsSp6_0 (z : List (LB × LB)) (st : Nat × Int) (X : Nat → Value) (hI : InvSp6 z st) : RHSp6 z (ESp6_0 z) (.exit 0) [] [(6, .r 2000000 26 2 false)] st X := by
  obtain ⟨tag, i⟩ := st
  have hI0 := hI
  obtain ⟨i0, i1, i2, i3, it⟩ := unISp6 z tag i hI
  obtain rfl : tag = 0 := by omega
  skip
  by_cases h0 : i < (z.length : Int)
  · exact nxSp6_p0 z i X hI0 h0
  · skip
    refine lvSp6_0 z i (h := hySp6_p1) rfl ?_ (thXv (v := rwG prC z) rfl rfl (thNil)) runSp6_p1
    unfold hySp6_p1
    exact hc (kRlG prC_len (isX rfl) (denX rfl) (by first | omega | (simp <;> omega))) <|
     hc (ltF rfl rfl (by omega)) <|
     hnil
theorem lfOkSp6_0 {l : LF} {h : LH} (z : List (LB × LB)) (st : Nat × Int) (hI : InvSp6 z st) (hl : l.hp = some h) (hs : lfSame l h 26 keepSp6 (.exit 0) 4 280 282 = true) {th0 : LA} {sg0 : List (Nat × Nat)} (hth0 : ∀ X, ThOk (cx nu one 1 laidE laidE_stab) (DSp6 z st X) th0) (h0 : startOk l h 26 280 281 th0 sg0 (epSp6 st) (hpSp6 st) = true) {thx : LA} (hthx : ThOk (ESp6_0 z) (cx nu one 1 laidE laidE_stab) thx) (hx : exitOk l h 26 280 282 thx [] [(6, .r 2000000 26 2 false)] = true) : LfOk (cx nu one 1 laidE laidE_stab) bodySp6 l :=
  lfOkX (E := ESp6_0 z) (InvSp6 z) (muSp6 z) (DSp6 z) (fun _ _ => rfl) (fun _ _ => rfl) (fun _ _ => rfl) (fun st X t ht => nuX_keep.trans (rX_keep ((by decide : ∀ t, t ∈ keepSp6 → t < 1000000) t ht))) rfl rfl rfl hl hs ebSp6 rfl rfl st hI hth0 h0 hthx hx (roundsSp6_0 z)
noncomputable def bodySq : Code := loopNo (Tryd.f7.body.getD .skip) 0
theorem keySq : oneKey (loopsOf (Tryd.f7.body.getD .skip)) 4 0 0 = true := by kernel_rfl
def keepSq : List Nat := []
def epSq_0 : LA := [(0, .sr 600), (1, .sr 601), (5, .x 0)]
def hpSq_0 : LE := [(600, .r 2000000 26 2 false), (601, .r 2000001 26 2 false)]
def nuSq_0 (z : List (LB × LB)) (i : Int) : List Value := [.int .i64 (i), .int .i64 ((z.length : Int)), St' ((nthP z (Int.toNat (i))).1), St' ((nthP z (Int.toNat (i))).2), St' ((nthP z (Int.toNat (i))).1), St' ((nthP z (Int.toNat (i))).2), .int .i64 (i + 1), .int .i64 ((z.length : Int))]
def roSq_0 (z : List (LB × LB)) (i : Int) : List Value := [rwG prC z, rwG prC z]
def epSq (st : Nat × Int) : LA := epSq_0
def hpSq (st : Nat × Int) : LE := hpSq_0
def nuSq (z : List (LB × LB)) (st : Nat × Int) : List Value := nuSq_0 z (st.2)
def roSq (z : List (LB × LB)) (st : Nat × Int) : List Value := roSq_0 z (st.2)
theorem onSq (z : List (LB × LB)) (st : Nat × Int) : ∀ j, (nuL (nuSq z st) j).oneCell' = true := by
  intro j
  unfold nuSq
  exact nuL_one (l := nuSq_0 z (st.2)) rfl j
theorem ebSq (st : Nat × Int) : (lfB (epSq st) && lfC keepSq) = true := by
  unfold epSq
  rfl
noncomputable def DSq (z : List (LB × LB)) (st : Nat × Int) (X : Nat → Value) : Cx := cx (nuX (nuSq z st) (rX (roSq z st) X)) (nuX_one (onSq z st)) 1 laidE laidE_stab
def InvSq (z : List (LB × LB)) (st : Nat × Int) : Prop := (0 ≤ (st.2)) ∧ ((st.2) ≤ (z.length : Int)) ∧ (z.length ≤ 40) ∧ (∀ q, q ∈ z → prB q) ∧ ((st.1) < 1)
abbrev CjSq (z : List (LB × LB)) (tag : Nat) (i : Int) : Prop := (0 ≤ i) ∧ (i ≤ (z.length : Int)) ∧ (z.length ≤ 40) ∧ (∀ q, q ∈ z → prB q) ∧ (tag < 1)
theorem mkISq (z : List (LB × LB)) (tag : Nat) (i : Int) (h : CjSq z tag i) : InvSq z (tag, i) := h
theorem unISq (z : List (LB × LB)) (tag : Nat) (i : Int) (h : InvSq z (tag, i)) : (0 ≤ i) ∧ (i ≤ (z.length : Int)) ∧ (z.length ≤ 40) ∧ (∀ q, q ∈ z → prB q) ∧ (tag < 1) := h
def muSq (z : List (LB × LB)) (st : Nat × Int) : Nat := (z.length - (st.2).toNat)
abbrev RHSq (z : List (LB × LB)) (E' : Cx) (ex' : Ex) (epx' : LA) (hpx' : LE) (st : Nat × Int) (X : Nat → Value) : Prop := RoundH E' bodySq keepSq 26 ex' 4 600 602 602 epSq hpSq epx' hpx' (InvSq z) (muSq z) (DSq z) st X
noncomputable abbrev RNSq_0 (h : LK) (x : Ex) (th : LA) (sg : List (Nat × Nat)) (m : Nat) (ep : LA) (hp : LE) : Bool := okRdH (code (tbl h) 3000 [] bodySq (envOf (headOf epSq_0 keepSq) 26) ⟨lhSet hpSq_0 .leaf, 602, 0, 0⟩) x keepSq 26 602 th sg 600 m ep hp
theorem stSq_0 (z : List (LB × LB)) (i : Int) {X : Nat → Value} {h : LK} (y : Nat × Int) {th : LA} {sg : List (Nat × Nat)} (ho : ∀ a' r', (a', r') ∈ h → HOk (cx (nuX (nuSq_0 z i) (rX (roSq_0 z i) X)) (nuX_one (nuL_one (l := nuSq_0 z i) rfl)) 1 laidE laidE_stab) a' r') (hy : InvSq z y) (lt : muSq z y < muSq z (0, i)) (ht : ThOk (cx (nuX (nuSq_0 z i) (rX (roSq_0 z i) X)) (nuX_one (nuL_one (l := nuSq_0 z i) rfl)) 1 laidE laidE_stab) (DSq z y X) th) (run : RNSq_0 h .normal th sg 602 (epSq y) (hpSq y) = true) : RHSq z E' x' e' h' (0, i) X :=
  RoundH.next (tb := tbl h) (L := []) (f := 3000) y ((tabkOk _ _).hyps ho) (LpOk.nil _) rfl hy lt ht run
theorem lvSq_0 (z : List (LB × LB)) (i : Int) {X : Nat → Value} {h : LK} {th : LA} {sg : List (Nat × Nat)} (hne : exB x' .normal = false) (ho : ∀ a' r', (a', r') ∈ h → HOk (cx (nuX (nuSq_0 z i) (rX (roSq_0 z i) X)) (nuX_one (nuL_one (l := nuSq_0 z i) rfl)) 1 laidE laidE_stab) a' r') (ht : ThOk (cx (nuX (nuSq_0 z i) (rX (roSq_0 z i) X)) (nuX_one (nuL_one (l := nuSq_0 z i) rfl)) 1 laidE laidE_stab) E' th) (run : RNSq_0 h x' th sg 602 e' h' = true) : RHSq z E' x' e' h' (0, i) X :=
  RoundH.leave (tb := tbl h) (L := []) (f := 3000) ((tabkOk _ _).hyps ho) (LpOk.nil _) rfl hne ht run
def hySq_p0 : LK := [(.rl (.x 2000000) 2, .x 1), (.bin .lss (.x 0) (.x 1), .b true), (.el (.x 2000000) (.x 0) 2 0, .x 2), (.el (.x 2000000) (.x 0) 2 1, .x 3), (.el (.x 2000001) (.x 0) 2 0, .x 4), (.el (.x 2000001) (.x 0) 2 1, .x 5), (.eq 9 (.x 2) (.x 4), .b true), (.eq 9 (.x 3) (.x 5), .b true), (.bin .add (.x 0) (.i .i64 (.ofNat 1)), .x 6)]
theorem runSq_p0 : RNSq_0 hySq_p0 .normal [(0, .x 6), (2000000, .x 2000000), (2000001, .x 2000001)] [(600, 600), (601, 601)] 602 epSq_0 hpSq_0 = true := by kernel_rfl
theorem nxSq_p0 (z : List (LB × LB)) (i : Int) (X : Nat → Value) (hI : InvSq z (0, i)) (h0 : i < (z.length : Int)) : RHSq z E' x' e' h' (0, i) X := by
  obtain ⟨i0, i1, i2, i3, it⟩ := unISq z 0 i hI
  have := prAt (l := z) (by assumption) (Int.toNat (i))
  refine stSq_0 z i (h := hySq_p0) (0, (i + 1)) ?_ (mkISq z 0 (i + 1) ⟨by omega, by omega, by omega, i3, by omega⟩) (by show z.length - (i + 1).toNat < z.length - i.toNat; omega) (thXi (b := ((i + 1))) rfl rfl (by omega) (thXv (v := rwG prC z) rfl rfl (thXv (v := rwG prC z) rfl rfl (thNil)))) runSq_p0
  unfold hySq_p0
  exact hc (kRlG prC_len (isX rfl) (denX rfl) (by first | omega | (simp <;> omega))) <|
   hc (ltT rfl rfl (by omega)) <|
   hc (kElG (j := (Int.toNat (i))) (d := ([], [])) prC_len (by decide) (isX rfl) (isX rfl) (denX rfl) (by omega) (by omega) rfl) <|
   hc (kElG (j := (Int.toNat (i))) (d := ([], [])) prC_len (by decide) (isX rfl) (isX rfl) (denX rfl) (by omega) (by omega) rfl) <|
   hc (kElG (j := (Int.toNat (i))) (d := ([], [])) prC_len (by decide) (isX rfl) (isX rfl) (denX rfl) (by omega) (by omega) rfl) <|
   hc (kElG (j := (Int.toNat (i))) (d := ([], [])) prC_len (by decide) (isX rfl) (isX rfl) (denX rfl) (by omega) (by omega) rfl) <|
   hc (kEqTS (isX rfl) (isX rfl) tu9 (decide_eq_true rfl)) <|
   hc (kEqTS (isX rfl) (isX rfl) tu9 (decide_eq_true rfl)) <|
   hc (adC rfl rfl (by omega)) <|
   hnil
def hySq_p1 : LK := [(.rl (.x 2000000) 2, .x 7), (.bin .lss (.x 0) (.x 7), .b false)]
theorem runSq_p1 : RNSq_0 hySq_p1 (.exit 0) [] [] 602 [] [] = true := by kernel_rfl
def nuESq_0 (z : List (LB × LB)) : List Value := []
def roESq_0 (z : List (LB × LB)) : List Value := []
noncomputable def ESq_0 (z : List (LB × LB)) : Cx := cx (nuX (nuESq_0 z) (rX (roESq_0 z) (fun _ => .bool true))) (nuX_one (nuL_one (l := nuESq_0 z) rfl)) 1 laidE laidE_stab
theorem roundsSq_0 (z : List (LB × LB)) (st : Nat × Int) (X : Nat → Value) (hI : InvSq z st) : RHSq z (ESq_0 z) (.exit 0) [] [] st X := by
  obtain ⟨tag, i⟩ := st
  have hI0 := hI
  obtain ⟨i0, i1, i2, i3, it⟩ := unISq z tag i hI
  obtain rfl : tag = 0 := by omega
  skip
  by_cases h0 : i < (z.length : Int)
  · exact nxSq_p0 z i X hI0 h0
  · skip
    refine lvSq_0 z i (h := hySq_p1) rfl ?_ (thNil) runSq_p1
    unfold hySq_p1
    exact hc (kRlG prC_len (isX rfl) (denX rfl) (by first | omega | (simp <;> omega))) <|
     hc (ltF rfl rfl (by omega)) <|
     hnil
theorem lfOkSq_0 {l : LF} {h : LH} (z : List (LB × LB)) (st : Nat × Int) (hI : InvSq z st) (hl : l.hp = some h) (hs : lfSame l h 26 keepSq (.exit 0) 4 600 602 = true) {th0 : LA} {sg0 : List (Nat × Nat)} (hth0 : ∀ X, ThOk (cx nu one 1 laidE laidE_stab) (DSq z st X) th0) (h0 : startOk l h 26 600 602 th0 sg0 (epSq st) (hpSq st) = true) {thx : LA} (hthx : ThOk (ESq_0 z) (cx nu one 1 laidE laidE_stab) thx) (hx : exitOk l h 26 600 602 thx [] [] = true) : LfOk (cx nu one 1 laidE laidE_stab) bodySq l :=
  lfOkX (E := ESq_0 z) (InvSq z) (muSq z) (DSq z) (fun _ _ => rfl) (fun _ _ => rfl) (fun _ _ => rfl) (fun st X t ht => nuX_keep.trans (rX_keep ((by decide : ∀ t, t ∈ keepSq → t < 1000000) t ht))) rfl rfl rfl hl hs ebSq rfl rfl st hI hth0 h0 hthx hx (roundsSq_0 z)
noncomputable def bodySp7 : Code := loopNo (Tryd.f7.body.getD .skip) 0
theorem keySp7 : oneKey (loopsOf (Tryd.f7.body.getD .skip)) 4 0 0 = true := by kernel_rfl
def keepSp7 : List Nat := []
def epSp7_0 : LA := [(0, .sr 280), (1, .sr 7), (5, .x 0)]
def hpSp7_0 : LE := [(280, .r 2000000 26 2 false), (7, .r 2000001 26 2 false)]
def nuSp7_0 (z : List (LB × LB)) (i : Int) : List Value := [.int .i64 (i), .int .i64 ((z.length : Int)), St' ((nthP z (Int.toNat (i))).1), St' ((nthP z (Int.toNat (i))).2), St' ((nthP z (Int.toNat (i))).1), St' ((nthP z (Int.toNat (i))).2), .int .i64 (i + 1), .int .i64 ((z.length : Int))]
def roSp7_0 (z : List (LB × LB)) (i : Int) : List Value := [rwG prC z, rwG prC z]
def epSp7 (st : Nat × Int) : LA := epSp7_0
def hpSp7 (st : Nat × Int) : LE := hpSp7_0
def nuSp7 (z : List (LB × LB)) (st : Nat × Int) : List Value := nuSp7_0 z (st.2)
def roSp7 (z : List (LB × LB)) (st : Nat × Int) : List Value := roSp7_0 z (st.2)
theorem onSp7 (z : List (LB × LB)) (st : Nat × Int) : ∀ j, (nuL (nuSp7 z st) j).oneCell' = true := by
  intro j
  unfold nuSp7
  exact nuL_one (l := nuSp7_0 z (st.2)) rfl j
theorem ebSp7 (st : Nat × Int) : (lfB (epSp7 st) && lfC keepSp7) = true := by
  unfold epSp7
  rfl
noncomputable def DSp7 (z : List (LB × LB)) (st : Nat × Int) (X : Nat → Value) : Cx := cx (nuX (nuSp7 z st) (rX (roSp7 z st) X)) (nuX_one (onSp7 z st)) 1 laidE laidE_stab
def InvSp7 (z : List (LB × LB)) (st : Nat × Int) : Prop := (0 ≤ (st.2)) ∧ ((st.2) ≤ (z.length : Int)) ∧ (z.length ≤ 40) ∧ (∀ q, q ∈ z → prB q) ∧ ((st.1) < 1)
abbrev CjSp7 (z : List (LB × LB)) (tag : Nat) (i : Int) : Prop := (0 ≤ i) ∧ (i ≤ (z.length : Int)) ∧ (z.length ≤ 40) ∧ (∀ q, q ∈ z → prB q) ∧ (tag < 1)
theorem mkISp7 (z : List (LB × LB)) (tag : Nat) (i : Int) (h : CjSp7 z tag i) : InvSp7 z (tag, i) := h
theorem unISp7 (z : List (LB × LB)) (tag : Nat) (i : Int) (h : InvSp7 z (tag, i)) : (0 ≤ i) ∧ (i ≤ (z.length : Int)) ∧ (z.length ≤ 40) ∧ (∀ q, q ∈ z → prB q) ∧ (tag < 1) := h
def muSp7 (z : List (LB × LB)) (st : Nat × Int) : Nat := (z.length - (st.2).toNat)
abbrev RHSp7 (z : List (LB × LB)) (E' : Cx) (ex' : Ex) (epx' : LA) (hpx' : LE) (st : Nat × Int) (X : Nat → Value) : Prop := RoundH E' bodySp7 keepSp7 26 ex' 4 280 281 282 epSp7 hpSp7 epx' hpx' (InvSp7 z) (muSp7 z) (DSp7 z) st X
noncomputable abbrev RNSp7_0 (h : LK) (x : Ex) (th : LA) (sg : List (Nat × Nat)) (m : Nat) (ep : LA) (hp : LE) : Bool := okRdH (code (tbl h) 3000 [] bodySp7 (envOf (headOf epSp7_0 keepSp7) 26) ⟨lhSet hpSp7_0 .leaf, 281, 0, 0⟩) x keepSp7 26 282 th sg 280 m ep hp
theorem stSp7_0 (z : List (LB × LB)) (i : Int) {X : Nat → Value} {h : LK} (y : Nat × Int) {th : LA} {sg : List (Nat × Nat)} (ho : ∀ a' r', (a', r') ∈ h → HOk (cx (nuX (nuSp7_0 z i) (rX (roSp7_0 z i) X)) (nuX_one (nuL_one (l := nuSp7_0 z i) rfl)) 1 laidE laidE_stab) a' r') (hy : InvSp7 z y) (lt : muSp7 z y < muSp7 z (0, i)) (ht : ThOk (cx (nuX (nuSp7_0 z i) (rX (roSp7_0 z i) X)) (nuX_one (nuL_one (l := nuSp7_0 z i) rfl)) 1 laidE laidE_stab) (DSp7 z y X) th) (run : RNSp7_0 h .normal th sg 281 (epSp7 y) (hpSp7 y) = true) : RHSp7 z E' x' e' h' (0, i) X :=
  RoundH.next (tb := tbl h) (L := []) (f := 3000) y ((tabkOk _ _).hyps ho) (LpOk.nil _) rfl hy lt ht run
theorem lvSp7_0 (z : List (LB × LB)) (i : Int) {X : Nat → Value} {h : LK} {th : LA} {sg : List (Nat × Nat)} (hne : exB x' .normal = false) (ho : ∀ a' r', (a', r') ∈ h → HOk (cx (nuX (nuSp7_0 z i) (rX (roSp7_0 z i) X)) (nuX_one (nuL_one (l := nuSp7_0 z i) rfl)) 1 laidE laidE_stab) a' r') (ht : ThOk (cx (nuX (nuSp7_0 z i) (rX (roSp7_0 z i) X)) (nuX_one (nuL_one (l := nuSp7_0 z i) rfl)) 1 laidE laidE_stab) E' th) (run : RNSp7_0 h x' th sg 282 e' h' = true) : RHSp7 z E' x' e' h' (0, i) X :=
  RoundH.leave (tb := tbl h) (L := []) (f := 3000) ((tabkOk _ _).hyps ho) (LpOk.nil _) rfl hne ht run
def hySp7_p0 : LK := [(.rl (.x 2000000) 2, .x 1), (.bin .lss (.x 0) (.x 1), .b true), (.el (.x 2000000) (.x 0) 2 0, .x 2), (.el (.x 2000000) (.x 0) 2 1, .x 3), (.el (.x 2000001) (.x 0) 2 0, .x 4), (.el (.x 2000001) (.x 0) 2 1, .x 5), (.eq 9 (.x 2) (.x 4), .b true), (.eq 9 (.x 3) (.x 5), .b true), (.bin .add (.x 0) (.i .i64 (.ofNat 1)), .x 6)]
theorem runSp7_p0 : RNSp7_0 hySp7_p0 .normal [(0, .x 6), (2000000, .x 2000000), (2000001, .x 2000001)] [(280, 280)] 281 epSp7_0 hpSp7_0 = true := by kernel_rfl
theorem nxSp7_p0 (z : List (LB × LB)) (i : Int) (X : Nat → Value) (hI : InvSp7 z (0, i)) (h0 : i < (z.length : Int)) : RHSp7 z E' x' e' h' (0, i) X := by
  obtain ⟨i0, i1, i2, i3, it⟩ := unISp7 z 0 i hI
  have := prAt (l := z) (by assumption) (Int.toNat (i))
  refine stSp7_0 z i (h := hySp7_p0) (0, (i + 1)) ?_ (mkISp7 z 0 (i + 1) ⟨by omega, by omega, by omega, i3, by omega⟩) (by show z.length - (i + 1).toNat < z.length - i.toNat; omega) (thXi (b := ((i + 1))) rfl rfl (by omega) (thXv (v := rwG prC z) rfl rfl (thXv (v := rwG prC z) rfl rfl (thNil)))) runSp7_p0
  unfold hySp7_p0
  exact hc (kRlG prC_len (isX rfl) (denX rfl) (by first | omega | (simp <;> omega))) <|
   hc (ltT rfl rfl (by omega)) <|
   hc (kElG (j := (Int.toNat (i))) (d := ([], [])) prC_len (by decide) (isX rfl) (isX rfl) (denX rfl) (by omega) (by omega) rfl) <|
   hc (kElG (j := (Int.toNat (i))) (d := ([], [])) prC_len (by decide) (isX rfl) (isX rfl) (denX rfl) (by omega) (by omega) rfl) <|
   hc (kElG (j := (Int.toNat (i))) (d := ([], [])) prC_len (by decide) (isX rfl) (isX rfl) (denX rfl) (by omega) (by omega) rfl) <|
   hc (kElG (j := (Int.toNat (i))) (d := ([], [])) prC_len (by decide) (isX rfl) (isX rfl) (denX rfl) (by omega) (by omega) rfl) <|
   hc (kEqTS (isX rfl) (isX rfl) tu9 (decide_eq_true rfl)) <|
   hc (kEqTS (isX rfl) (isX rfl) tu9 (decide_eq_true rfl)) <|
   hc (adC rfl rfl (by omega)) <|
   hnil
def hySp7_p1 : LK := [(.rl (.x 2000000) 2, .x 7), (.bin .lss (.x 0) (.x 7), .b false)]
theorem runSp7_p1 : RNSp7_0 hySp7_p1 (.exit 0) [(2000000, .x 2000001)] [] 282 [] [(7, .r 2000000 26 2 false)] = true := by kernel_rfl
def nuESp7_0 (z : List (LB × LB)) : List Value := []
def roESp7_0 (z : List (LB × LB)) : List Value := [rwG prC z]
noncomputable def ESp7_0 (z : List (LB × LB)) : Cx := cx (nuX (nuESp7_0 z) (rX (roESp7_0 z) (fun _ => .bool true))) (nuX_one (nuL_one (l := nuESp7_0 z) rfl)) 1 laidE laidE_stab
theorem roundsSp7_0 (z : List (LB × LB)) (st : Nat × Int) (X : Nat → Value) (hI : InvSp7 z st) : RHSp7 z (ESp7_0 z) (.exit 0) [] [(7, .r 2000000 26 2 false)] st X := by
  obtain ⟨tag, i⟩ := st
  have hI0 := hI
  obtain ⟨i0, i1, i2, i3, it⟩ := unISp7 z tag i hI
  obtain rfl : tag = 0 := by omega
  skip
  by_cases h0 : i < (z.length : Int)
  · exact nxSp7_p0 z i X hI0 h0
  · skip
    refine lvSp7_0 z i (h := hySp7_p1) rfl ?_ (thXv (v := rwG prC z) rfl rfl (thNil)) runSp7_p1
    unfold hySp7_p1
    exact hc (kRlG prC_len (isX rfl) (denX rfl) (by first | omega | (simp <;> omega))) <|
     hc (ltF rfl rfl (by omega)) <|
     hnil
theorem lfOkSp7_0 {l : LF} {h : LH} (z : List (LB × LB)) (st : Nat × Int) (hI : InvSp7 z st) (hl : l.hp = some h) (hs : lfSame l h 26 keepSp7 (.exit 0) 4 280 282 = true) {th0 : LA} {sg0 : List (Nat × Nat)} (hth0 : ∀ X, ThOk (cx nu one 1 laidE laidE_stab) (DSp7 z st X) th0) (h0 : startOk l h 26 280 281 th0 sg0 (epSp7 st) (hpSp7 st) = true) {thx : LA} (hthx : ThOk (ESp7_0 z) (cx nu one 1 laidE laidE_stab) thx) (hx : exitOk l h 26 280 282 thx [] [(7, .r 2000000 26 2 false)] = true) : LfOk (cx nu one 1 laidE laidE_stab) bodySp7 l :=
  lfOkX (E := ESp7_0 z) (InvSp7 z) (muSp7 z) (DSp7 z) (fun _ _ => rfl) (fun _ _ => rfl) (fun _ _ => rfl) (fun st X t ht => nuX_keep.trans (rX_keep ((by decide : ∀ t, t ∈ keepSp7 → t < 1000000) t ht))) rfl rfl rfl hl hs ebSp7 rfl rfl st hI hth0 h0 hthx hx (roundsSp7_0 z)
end Go.Proofs.YtnaffjionjndgaaDoor.pairBack
