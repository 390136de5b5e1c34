/- A part of the proof: an interpreter of the model's own code on partly known states, and that what it answers is what the program answers. No condition of its own. -/
import Derived.Test.YtamjghigoipbeaaDoorK1ChunkBackO
set_option maxRecDepth 100000
set_option linter.unusedVariables false
set_option linter.unusedSimpArgs false
set_option maxHeartbeats 4000000
namespace Go.Proofs.YtamjghigoipbeaaDoor.chunkBack
open Go Go.AX Go.Proofs Go.Proofs.YtamjghigoipbeaaDoor
variable {nu : Nat → Value} {one : ∀ i, i < 1000000 → (nu i).oneCell' = true} {E' : Cx} {x' : Ex} {e' : LA} {h' : LE}
noncomputable def bodyLw : Code := loopNo (Tryd.f3.body.getD .skip) 0
theorem keyLw : oneKey (loopsOf (Tryd.f3.body.getD .skip)) 7 0 0 = true := by kernel_rfl
def keepLw : List Nat := [1, 2]
def epLw_0 : LA := [(0, .sr 4), (7, .x 0), (8, .x 1), (9, .x 2)]
def hpLw_0 : LE := [(4, .r 2000000 9 1 true)]
def nuLw_0 (ll : List LB) (i : Int) (T U : LB) : List Value := [St' T, St' U, .int .i64 (i), St' ([] : LB), .int .i64 ((ll.length : Int)), St' (nthS ll (Int.toNat (i))), .int .i64 (((nthS ll (Int.toNat (i))).length : Int)), St' (hexS ((nthS ll (Int.toNat (i))).length : Int)), St' ((hexS ((nthS ll (Int.toNat (i))).length : Int)) ++ [u8 13, u8 10]), St' ((hexS ((nthS ll (Int.toNat (i))).length : Int)) ++ ([u8 13, u8 10] ++ (nthS ll (Int.toNat (i))))), St' ((hexS ((nthS ll (Int.toNat (i))).length : Int)) ++ ([u8 13, u8 10] ++ ((nthS ll (Int.toNat (i))) ++ [u8 13, u8 10]))), St' (T ++ ((hexS ((nthS ll (Int.toNat (i))).length : Int)) ++ ([u8 13, u8 10] ++ ((nthS ll (Int.toNat (i))) ++ [u8 13, u8 10])))), St' (U ++ (nthS ll (Int.toNat (i)))), .int .i64 (i + 1), St' ([] : LB), .int .i64 ((ll.length : Int)), St' (nthS ll (Int.toNat (i))), .int .i64 (((nthS ll (Int.toNat (i))).length : Int)), St' T, St' (U ++ (nthS ll (Int.toNat (i)))), .int .i64 (i + 1), St' ([] : LB), .int .i64 ((ll.length : Int)), St' (nthS ll (Int.toNat (i))), .int .i64 (((nthS ll (Int.toNat (i))).length : Int)), St' ([] : LB), .int .i64 ((ll.length : Int))]
def roLw_0 (ll : List LB) (i : Int) (T U : LB) : List Value := [rwS ll, rwS ([] : List LB), rwS ([] : List LB), rwS ([] : List LB), rwS ([] : List LB)]
def epLw (st : Nat × Int × LB × LB) : LA := epLw_0
def hpLw (st : Nat × Int × LB × LB) : LE := hpLw_0
def nuLw (ll : List LB) (st : Nat × Int × LB × LB) : List Value := nuLw_0 ll (st.2.1) (st.2.2.1) (st.2.2.2)
def roLw (ll : List LB) (st : Nat × Int × LB × LB) : List Value := roLw_0 ll (st.2.1) (st.2.2.1) (st.2.2.2)
theorem onLw (ll : List LB) (st : Nat × Int × LB × LB) : ∀ j, (nuL (nuLw ll st) j).oneCell' = true := by
  intro j
  unfold nuLw
  exact nuL_one (l := nuLw_0 ll (st.2.1) (st.2.2.1) (st.2.2.2)) rfl j
theorem ebLw (st : Nat × Int × LB × LB) : (lfB (epLw st) && lfC keepLw) = true := by
  unfold epLw
  rfl
noncomputable def DLw (ll : List LB) (st : Nat × Int × LB × LB) (X : Nat → Value) : Cx := cx (nuX (nuLw ll st) (rX (roLw ll st) X)) (nuX_one (onLw ll st)) 3 laidE laidE_stab
def InvLw (ll : List LB) (st : Nat × Int × LB × LB) : Prop := (0 ≤ (st.2.1)) ∧ ((st.2.1) ≤ (ll.length : Int)) ∧ (ll.length ≤ 10) ∧ (∀ q, q ∈ ll → q.length ≤ 140737488351232) ∧ ((st.2.2.1) = List.flatMap wrS (ll.take (Int.toNat (st.2.1)))) ∧ ((st.2.2.2) = List.flatten (ll.take (Int.toNat (st.2.1)))) ∧ (ok3 (ll.take (Int.toNat (st.2.1)))) ∧ (((st.2.2.1).length : Int) ≤ 307 * (st.2.1)) ∧ (((st.2.2.2).length : Int) ≤ 300 * (st.2.1)) ∧ ((st.1) < 1)
abbrev CjLw (ll : List LB) (tag : Nat) (i : Int) (T U : LB) : Prop := (0 ≤ i) ∧ (i ≤ (ll.length : Int)) ∧ (ll.length ≤ 10) ∧ (∀ q, q ∈ ll → q.length ≤ 140737488351232) ∧ (T = List.flatMap wrS (ll.take (Int.toNat i))) ∧ (U = List.flatten (ll.take (Int.toNat i))) ∧ (ok3 (ll.take (Int.toNat i))) ∧ ((T.length : Int) ≤ 307 * i) ∧ ((U.length : Int) ≤ 300 * i) ∧ (tag < 1)
theorem mkILw (ll : List LB) (tag : Nat) (i : Int) (T U : LB) (h : CjLw ll tag i T U) : InvLw ll (tag, i, T, U) := h
theorem unILw (ll : List LB) (tag : Nat) (i : Int) (T U : LB) (h : InvLw ll (tag, i, T, U)) : (0 ≤ i) ∧ (i ≤ (ll.length : Int)) ∧ (ll.length ≤ 10) ∧ (∀ q, q ∈ ll → q.length ≤ 140737488351232) ∧ (T = List.flatMap wrS (ll.take (Int.toNat i))) ∧ (U = List.flatten (ll.take (Int.toNat i))) ∧ (ok3 (ll.take (Int.toNat i))) ∧ ((T.length : Int) ≤ 307 * i) ∧ ((U.length : Int) ≤ 300 * i) ∧ (tag < 1) := h
def muLw (ll : List LB) (st : Nat × Int × LB × LB) : Nat := (ll.length - (st.2.1).toNat)
abbrev RHLw (ll : List LB) (E' : Cx) (ex' : Ex) (epx' : LA) (hpx' : LE) (st : Nat × Int × LB × LB) (X : Nat → Value) : Prop := RoundH E' bodyLw keepLw 117 ex' 4 20 20 30 epLw hpLw epx' hpx' (InvLw ll) (muLw ll) (DLw ll) st X
noncomputable abbrev CXLw_0 (ll : List LB) (i : Int) (T U : LB) (X : Nat → Value) : Cx := cx (nuX (nuLw_0 ll i T U) (rX (roLw_0 ll i T U) X)) (nuX_one (nuL_one (l := nuLw_0 ll i T U) rfl)) 3 laidE laidE_stab
noncomputable abbrev RNLw_0 (h : LK) (x : Ex) (th : LA) (sg : List (Nat × Nat)) (m : Nat) (ep : LA) (hp : LE) : Bool := okRdH (code (tbl h) 4000 [] bodyLw (envOf (headOf epLw_0 keepLw) 117) ⟨lhSet hpLw_0 .leaf, 20, 0, 0⟩) x keepLw 117 30 th sg 20 m ep hp
theorem stLw_0 (ll : List LB) (i : Int) (T U : LB) {X : Nat → Value} {h : LK} (y : Nat × Int × LB × LB) {th : LA} {sg : List (Nat × Nat)} (ho : ∀ a' r', (a', r') ∈ h → HOk (CXLw_0 ll i T U X) a' r') (hy : InvLw ll y) (lt : muLw ll y < muLw ll (0, i, T, U)) (ht : ThOk (CXLw_0 ll i T U X) (DLw ll y X) th) (run : RNLw_0 h .normal th sg 20 (epLw y) (hpLw y) = true) : RHLw ll E' x' e' h' (0, i, T, U) X :=
  RoundH.next (tb := tbl h) (L := []) (f := 4000) y ((tabkOk _ _).hyps ho) (LpOk.nil _) rfl hy lt ht run
theorem lvLw_0 (ll : List LB) (i : Int) (T U : LB) {X : Nat → Value} {h : LK} {th : LA} {sg : List (Nat × Nat)} (hne : exB x' .normal = false) (ho : ∀ a' r', (a', r') ∈ h → HOk (CXLw_0 ll i T U X) a' r') (ht : ThOk (CXLw_0 ll i T U X) E' th) (run : RNLw_0 h x' th sg 30 e' h' = true) : RHLw ll E' x' e' h' (0, i, T, U) X :=
  RoundH.leave (tb := tbl h) (L := []) (f := 4000) ((tabkOk _ _).hyps ho) (LpOk.nil _) rfl hne ht run
def hyLw_p0 : LK := [(.rn, .x 2000001), (.bytes [], .x 3), (.rl (.x 2000000) 1, .x 4), (.bin .lss (.x 2) (.x 4), .b true), (.el (.x 2000000) (.x 2) 1 0, .x 5), (.len (.x 5), .x 6), (.bin .gtr (.x 6) (.i .i64 (.ofNat 300)), .b false), (.bin .eql (.x 5) (.s 0 0), .b false), (.call 12 [.x 6, .i .i64 (.ofNat 16)], .x 7), (.bin .add (.x 7) (.s 2 2573), .x 8), (.bin .add (.x 8) (.x 5), .x 9), (.bin .add (.x 9) (.s 2 2573), .x 10), (.bin .add (.x 0) (.x 10), .x 11), (.bin .add (.x 1) (.x 5), .x 12), (.bin .add (.x 2) (.i .i64 (.ofNat 1)), .x 13)]
theorem runLw_p0 : RNLw_0 hyLw_p0 .normal [(0, .x 11), (1, .x 12), (2, .x 13), (2000000, .x 2000000)] [] 20 epLw_0 hpLw_0 = true := by kernel_rfl
theorem nxLw_p0 (ll : List LB) (i : Int) (T U : LB) (X : Nat → Value) (hI : InvLw ll (0, i, T, U)) (h0 : i < (ll.length : Int)) (h1 : ¬ (300 < ((nthS ll (Int.toNat (i))).length : Int))) (h2 : ¬ (((nthS ll (Int.toNat (i))).length : Int) = 0)) : RHLw ll E' x' e' h' (0, i, T, U) X := by
  obtain ⟨i0, i1, i2, i3, i4, i5, i6, i7, i8, it⟩ := unILw ll 0 i T U hI
  have hn0 : ([] : LB).length = 0 := rfl
  have hli : (nthS ll (Int.toNat i)).length ≤ 140737488351232 := nthS_at (P := fun q => q.length ≤ 140737488351232) i3 (by omega)
  have hpl := wr_len (nthS ll (Int.toNat i))
  have hhl := hexS_len (n := ((nthS ll (Int.toNat (i))).length : Int))
  have hpt := wr_snoc i0 (by omega) i4
  have hpe : wrS (nthS ll (Int.toNat i)) = _ := wr_1 (by omega)
  have hT2 := hpt; rw [hpe] at hT2
  have hTl := congrArg List.length hpt; rw [List.length_append] at hTl
  have hT3 := congrArg List.length hT2
  refine stLw_0 ll i T U (h := hyLw_p0) (0, (i + 1), (T ++ ((hexS ((nthS ll (Int.toNat (i))).length : Int)) ++ ([u8 13, u8 10] ++ ((nthS ll (Int.toNat (i))) ++ [u8 13, u8 10])))), (U ++ (nthS ll (Int.toNat (i))))) ?_ (mkILw ll 0 (i + 1) (T ++ ((hexS ((nthS ll (Int.toNat (i))).length : Int)) ++ ([u8 13, u8 10] ++ ((nthS ll (Int.toNat (i))) ++ [u8 13, u8 10])))) (U ++ (nthS ll (Int.toNat (i)))) ⟨by omega, by omega, i2, i3, hT2, fl_snoc i0 (by omega) i5, ok3_snoc i0 (by omega) i6 (by omega), by omega, by rw [List.length_append]; omega, by omega⟩) (by show ll.length - (i + 1).toNat < ll.length - i.toNat; omega) (thXv (v := St' (T ++ ((hexS ((nthS ll (Int.toNat (i))).length : Int)) ++ ([u8 13, u8 10] ++ ((nthS ll (Int.toNat (i))) ++ [u8 13, u8 10]))))) rfl rfl (thXv (v := St' (U ++ (nthS ll (Int.toNat (i))))) rfl rfl (thXi (b := ((i + 1))) rfl rfl (by omega) (thXv (v := rwS ll) rfl rfl (thNil))))) runLw_p0
  unfold hyLw_p0
  exact hc (kRn (denX rfl)) <|
   hc (kBytesB (bs := ([] : LB)) .nil (denX rfl)) <|
   hc (kRl (isX rfl) (denX rfl) (by first | omega | (simp <;> omega))) <|
   hc (ltT rfl rfl (by omega)) <|
   hc (kElN (j := (Int.toNat (i))) (isX rfl) (isX rfl) (denX rfl) (by omega) (by omega)) <|
   hc (lnV rfl rfl (by omega)) <|
   hc (gtcF rfl (by omega)) <|
   hc (kEqS (isX rfl) (isSx (l := ([] : LB)) 0 0 rfl) (nilF (by omega))) <|
   hc (hokFmt (isX rfl) (isZ (m := 16) rfl) (denX rfl) (by omega) (by omega)) <|
   hc (kCat (isX rfl) (isSx (l := [u8 13, u8 10]) 2 2573 rfl) (denX rfl) (by first | rfl | (simp; done)) (by first | omega | (simp <;> omega))) <|
   hc (kCat (isX rfl) (isX rfl) (denX rfl) (by first | rfl | (simp; done)) (by first | omega | (simp <;> omega))) <|
   hc (kCat (isX rfl) (isSx (l := [u8 13, u8 10]) 2 2573 rfl) (denX rfl) (by first | rfl | (simp; done)) (by first | omega | (simp <;> omega))) <|
   hc (kCat (isX rfl) (isX rfl) (denX rfl) (by first | rfl | (simp; done)) (by first | omega | (simp <;> omega))) <|
   hc (kCat (isX rfl) (isX rfl) (denX rfl) (by first | rfl | (simp; done)) (by omega)) <|
   hc (adC rfl rfl (by omega)) <|
   hnil
def hyLw_p1 : LK := [(.rn, .x 2000002), (.bytes [], .x 14), (.rl (.x 2000000) 1, .x 15), (.bin .lss (.x 2) (.x 15), .b true), (.el (.x 2000000) (.x 2) 1 0, .x 16), (.len (.x 16), .x 17), (.bin .gtr (.x 17) (.i .i64 (.ofNat 300)), .b false), (.bin .eql (.x 16) (.s 0 0), .b true), (.bin .add (.x 0) (.s 0 0), .x 18), (.bin .add (.x 1) (.x 16), .x 19), (.bin .add (.x 2) (.i .i64 (.ofNat 1)), .x 20)]
theorem runLw_p1 : RNLw_0 hyLw_p1 .normal [(0, .x 18), (1, .x 19), (2, .x 20), (2000000, .x 2000000)] [] 20 epLw_0 hpLw_0 = true := by kernel_rfl
theorem nxLw_p1 (ll : List LB) (i : Int) (T U : LB) (X : Nat → Value) (hI : InvLw ll (0, i, T, U)) (h0 : i < (ll.length : Int)) (h1 : ¬ (300 < ((nthS ll (Int.toNat (i))).length : Int))) (h2 : ((nthS ll (Int.toNat (i))).length : Int) = 0) : RHLw ll E' x' e' h' (0, i, T, U) X := by
  obtain ⟨i0, i1, i2, i3, i4, i5, i6, i7, i8, it⟩ := unILw ll 0 i T U hI
  have hn0 : ([] : LB).length = 0 := rfl
  have hli : (nthS ll (Int.toNat i)).length ≤ 140737488351232 := nthS_at (P := fun q => q.length ≤ 140737488351232) i3 (by omega)
  have hpl := wr_len (nthS ll (Int.toNat i))
  have hpt := wr_snoc i0 (by omega) i4
  have hpe : wrS (nthS ll (Int.toNat i)) = _ := wr_0 (by omega)
  have hT2 := hpt; rw [hpe, List.append_nil] at hT2
  have hTl := congrArg List.length hpt; rw [List.length_append] at hTl
  have hT3 := congrArg List.length hT2
  refine stLw_0 ll i T U (h := hyLw_p1) (0, (i + 1), T, (U ++ (nthS ll (Int.toNat (i))))) ?_ (mkILw ll 0 (i + 1) T (U ++ (nthS ll (Int.toNat (i)))) ⟨by omega, by omega, i2, i3, hT2, fl_snoc i0 (by omega) i5, ok3_snoc i0 (by omega) i6 (by omega), by omega, by rw [List.length_append]; omega, by omega⟩) (by show ll.length - (i + 1).toNat < ll.length - i.toNat; omega) (thXv (v := St' T) rfl rfl (thXv (v := St' (U ++ (nthS ll (Int.toNat (i))))) rfl rfl (thXi (b := ((i + 1))) rfl rfl (by omega) (thXv (v := rwS ll) rfl rfl (thNil))))) runLw_p1
  unfold hyLw_p1
  exact hc (kRn (denX rfl)) <|
   hc (kBytesB (bs := ([] : LB)) .nil (denX rfl)) <|
   hc (kRl (isX rfl) (denX rfl) (by first | omega | (simp <;> omega))) <|
   hc (ltT rfl rfl (by omega)) <|
   hc (kElN (j := (Int.toNat (i))) (isX rfl) (isX rfl) (denX rfl) (by omega) (by omega)) <|
   hc (lnV rfl rfl (by omega)) <|
   hc (gtcF rfl (by omega)) <|
   hc (kEqS (isX rfl) (isSx (l := ([] : LB)) 0 0 rfl) (nilT (by omega))) <|
   hc (kCat (isX rfl) (isSx (l := ([] : LB)) 0 0 rfl) (denX rfl) (by first | rfl | (simp; done)) (by omega)) <|
   hc (kCat (isX rfl) (isX rfl) (denX rfl) (by first | rfl | (simp; done)) (by omega)) <|
   hc (adC rfl rfl (by omega)) <|
   hnil
def hyLw_p2 : LK := [(.rn, .x 2000003), (.bytes [], .x 21), (.rl (.x 2000000) 1, .x 22), (.bin .lss (.x 2) (.x 22), .b true), (.el (.x 2000000) (.x 2) 1 0, .x 23), (.len (.x 23), .x 24), (.bin .gtr (.x 24) (.i .i64 (.ofNat 300)), .b true)]
theorem runLw_p2 : RNLw_0 hyLw_p2 .ret [] [] 30 [(6, .b true)] [] = true := by kernel_rfl
def hyLw_p3 : LK := [(.rn, .x 2000004), (.bytes [], .x 25), (.rl (.x 2000000) 1, .x 26), (.bin .lss (.x 2) (.x 26), .b false)]
theorem runLw_p3 : RNLw_0 hyLw_p3 (.exit 0) [(0, .x 0), (1, .x 1)] [] 30 [(7, .x 0), (8, .x 1)] [] = true := by kernel_rfl
def nuELw_0 (ll : List LB) : List Value := [St' (List.flatMap wrS ll), St' (List.flatten ll)]
def roELw_0 (ll : List LB) : List Value := []
noncomputable def ELw_0 (ll : List LB) : Cx := cx (nuX (nuELw_0 ll) (rX (roELw_0 ll) (fun _ => .bool true))) (nuX_one (nuL_one (l := nuELw_0 ll) rfl)) 3 laidE laidE_stab
theorem roundsLw_0 (ll : List LB) (x0 : ok3 ll) (st : Nat × Int × LB × LB) (X : Nat → Value) (hI : InvLw ll st) : RHLw ll (ELw_0 ll) (.exit 0) [(7, .x 0), (8, .x 1)] [] st X := by
  obtain ⟨tag, i, T, U⟩ := st
  have hI0 := hI
  obtain ⟨i0, i1, i2, i3, i4, i5, i6, i7, i8, it⟩ := unILw ll tag i T U hI
  obtain rfl : tag = 0 := by omega
  skip
  have hn0 : ([] : LB).length = 0 := rfl
  by_cases h0 : i < (ll.length : Int)
  · by_cases h1 : 300 < ((nthS ll (Int.toNat (i))).length : Int)
    · exfalso; have hC := x0 _ (nthS_mem (l := ll) (j := Int.toNat i) (by omega)); omega
    · by_cases h2 : ((nthS ll (Int.toNat (i))).length : Int) = 0
      · exact nxLw_p1 ll i T U X hI0 h0 h1 h2
      · exact nxLw_p0 ll i T U X hI0 h0 h1 h2
  · skip
    have hn0 : ([] : LB).length = 0 := rfl
    refine lvLw_0 ll i T U (h := hyLw_p3) rfl ?_ (thXe (v := St' T) (u := St' (List.flatMap wrS ll)) rfl rfl (congrArg (fun l => St' l) (wr_end (by omega) i4)) (thXe (v := St' U) (u := St' (List.flatten ll)) rfl rfl (congrArg (fun l => St' l) (fl_end (by omega) i5)) (thNil))) runLw_p3
    unfold hyLw_p3
    exact hc (kRn (denX rfl)) <|
     hc (kBytesB (bs := ([] : LB)) .nil (denX rfl)) <|
     hc (kRl (isX rfl) (denX rfl) (by first | omega | (simp <;> omega))) <|
     hc (ltF rfl rfl (by omega)) <|
     hnil
theorem lfOkLw_0 {l : LF} {h : LH} (ll : List LB) (x0 : ok3 ll) (st : Nat × Int × LB × LB) (hI : InvLw ll st) (hl : l.hp = some h) (hs : lfSame l h 117 keepLw (.exit 0) 4 20 30 = true) {th0 : LA} {sg0 : List (Nat × Nat)} (hth0 : ∀ X, ThOk (cx nu one 3 laidE laidE_stab) (DLw ll st X) th0) (h0 : startOk l h 117 20 20 th0 sg0 (epLw st) (hpLw st) = true) {thx : LA} (hthx : ThOk (ELw_0 ll) (cx nu one 3 laidE laidE_stab) thx) (hx : exitOk l h 117 20 30 thx [(7, .x 0), (8, .x 1)] [] = true) : LfOk (cx nu one 3 laidE laidE_stab) bodyLw l :=
  lfOkX (E := ELw_0 ll) (InvLw ll) (muLw ll) (DLw ll) (fun _ _ => rfl) (fun _ _ => rfl) (fun _ _ => rfl) (fun st X t ht => nuX_keep.trans (rX_keep ((by decide : ∀ t, t ∈ keepLw → t < 1000000) t ht))) rfl rfl rfl hl hs ebLw rfl rfl st hI hth0 h0 hthx hx (roundsLw_0 ll x0)
def nuELw_1 (ll : List LB) : List Value := []
def roELw_1 (ll : List LB) : List Value := []
noncomputable def ELw_1 (ll : List LB) : Cx := cx (nuX (nuELw_1 ll) (rX (roELw_1 ll) (fun _ => .bool true))) (nuX_one (nuL_one (l := nuELw_1 ll) rfl)) 3 laidE laidE_stab
theorem roundsLw_1 (ll : List LB) (x0 : ¬ ok3 ll) (st : Nat × Int × LB × LB) (X : Nat → Value) (hI : InvLw ll st) : RHLw ll (ELw_1 ll) .ret [(6, .b true)] [] st X := by
  obtain ⟨tag, i, T, U⟩ := st
  have hI0 := hI
  obtain ⟨i0, i1, i2, i3, i4, i5, i6, i7, i8, it⟩ := unILw ll tag i T U hI
  obtain rfl : tag = 0 := by omega
  skip
  have hn0 : ([] : LB).length = 0 := rfl
  by_cases h0 : i < (ll.length : Int)
  · by_cases h1 : 300 < ((nthS ll (Int.toNat (i))).length : Int)
    · skip
      have hn0 : ([] : LB).length = 0 := rfl
      have hli : (nthS ll (Int.toNat i)).length ≤ 140737488351232 := nthS_at (P := fun q => q.length ≤ 140737488351232) i3 (by omega)
      have hpl := wr_len (nthS ll (Int.toNat i))
      refine lvLw_0 ll i T U (h := hyLw_p2) rfl ?_ (thNil) runLw_p2
      unfold hyLw_p2
      exact hc (kRn (denX rfl)) <|
       hc (kBytesB (bs := ([] : LB)) .nil (denX rfl)) <|
       hc (kRl (isX rfl) (denX rfl) (by first | omega | (simp <;> omega))) <|
       hc (ltT rfl rfl (by omega)) <|
       hc (kElN (j := (Int.toNat (i))) (isX rfl) (isX rfl) (denX rfl) (by omega) (by omega)) <|
       hc (lnV rfl rfl (by omega)) <|
       hc (gtcT rfl (by omega)) <|
       hnil
    · by_cases h2 : ((nthS ll (Int.toNat (i))).length : Int) = 0
      · exact nxLw_p1 ll i T U X hI0 h0 h1 h2
      · exact nxLw_p0 ll i T U X hI0 h0 h1 h2
  · exfalso; exact x0 (ok3_end i0 (by omega) i6)
theorem lfOkLw_1 {l : LF} {h : LH} (ll : List LB) (x0 : ¬ ok3 ll) (st : Nat × Int × LB × LB) (hI : InvLw ll st) (hl : l.hp = some h) (hs : lfSame l h 117 keepLw .ret 4 20 30 = true) {th0 : LA} {sg0 : List (Nat × Nat)} (hth0 : ∀ X, ThOk (cx nu one 3 laidE laidE_stab) (DLw ll st X) th0) (h0 : startOk l h 117 20 20 th0 sg0 (epLw st) (hpLw st) = true) {thx : LA} (hthx : ThOk (ELw_1 ll) (cx nu one 3 laidE laidE_stab) thx) (hx : exitOk l h 117 20 30 thx [(6, .b true)] [] = true) : LfOk (cx nu one 3 laidE laidE_stab) bodyLw l :=
  lfOkX (E := ELw_1 ll) (InvLw ll) (muLw ll) (DLw ll) (fun _ _ => rfl) (fun _ _ => rfl) (fun _ _ => rfl) (fun st X t ht => nuX_keep.trans (rX_keep ((by decide : ∀ t, t ∈ keepLw → t < 1000000) t ht))) rfl rfl rfl hl hs ebLw rfl rfl st hI hth0 h0 hthx hx (roundsLw_1 ll x0)
noncomputable def bodyLe : Code := loopNo (Tryd.f3.body.getD .skip) 0
theorem keyLe : oneKey (loopsOf (Tryd.f3.body.getD .skip)) 7 0 0 = true := by kernel_rfl
def keepLe : List Nat := [1, 2]
def epLe_0 : LA := [(0, .es), (7, .s 0 0), (8, .s 0 0), (9, .i .i64 (.ofNat 0))]
def hpLe_0 : LE := []
def nuLe_0 (u : Nat) : List Value := [St' ([] : LB)]
def roLe_0 (u : Nat) : List Value := [rwS ([] : List LB)]
def epLe (st : Nat × Nat) : LA := epLe_0
def hpLe (st : Nat × Nat) : LE := hpLe_0
def nuLe (st : Nat × Nat) : List Value := nuLe_0 (st.2)
def roLe (st : Nat × Nat) : List Value := roLe_0 (st.2)
theorem onLe (st : Nat × Nat) : ∀ j, (nuL (nuLe st) j).oneCell' = true := by
  intro j
  unfold nuLe
  exact nuL_one (l := nuLe_0 (st.2)) rfl j
theorem ebLe (st : Nat × Nat) : (lfB (epLe st) && lfC keepLe) = true := by
  unfold epLe
  rfl
noncomputable def DLe (st : Nat × Nat) (X : Nat → Value) : Cx := cx (nuX (nuLe st) (rX (roLe st) X)) (nuX_one (onLe st)) 3 laidE laidE_stab
def InvLe (st : Nat × Nat) : Prop := (True) ∧ ((st.1) < 1)
abbrev CjLe (tag : Nat) (u : Nat) : Prop := (True) ∧ (tag < 1)
theorem mkILe (tag : Nat) (u : Nat) (h : CjLe tag u) : InvLe (tag, u) := h
theorem unILe (tag : Nat) (u : Nat) (h : InvLe (tag, u)) : (True) ∧ (tag < 1) := h
def muLe (st : Nat × Nat) : Nat := 0
abbrev RHLe (E' : Cx) (ex' : Ex) (epx' : LA) (hpx' : LE) (st : Nat × Nat) (X : Nat → Value) : Prop := RoundH E' bodyLe keepLe 117 ex' 4 20 20 30 epLe hpLe epx' hpx' (InvLe) (muLe) (DLe) st X
noncomputable abbrev CXLe_0 (u : Nat) (X : Nat → Value) : Cx := cx (nuX (nuLe_0 u) (rX (roLe_0 u) X)) (nuX_one (nuL_one (l := nuLe_0 u) rfl)) 3 laidE laidE_stab
noncomputable abbrev RNLe_0 (h : LK) (x : Ex) (th : LA) (sg : List (Nat × Nat)) (m : Nat) (ep : LA) (hp : LE) : Bool := okRdH (code (tbl h) 900 [] bodyLe (envOf (headOf epLe_0 keepLe) 117) ⟨lhSet hpLe_0 .leaf, 20, 0, 0⟩) x keepLe 117 30 th sg 20 m ep hp
theorem stLe_0 (u : Nat) {X : Nat → Value} {h : LK} (y : Nat × Nat) {th : LA} {sg : List (Nat × Nat)} (ho : ∀ a' r', (a', r') ∈ h → HOk (CXLe_0 u X) a' r') (hy : InvLe y) (lt : muLe y < muLe (0, u)) (ht : ThOk (CXLe_0 u X) (DLe y X) th) (run : RNLe_0 h .normal th sg 20 (epLe y) (hpLe y) = true) : RHLe E' x' e' h' (0, u) X :=
  RoundH.next (tb := tbl h) (L := []) (f := 900) y ((tabkOk _ _).hyps ho) (LpOk.nil _) rfl hy lt ht run
theorem lvLe_0 (u : Nat) {X : Nat → Value} {h : LK} {th : LA} {sg : List (Nat × Nat)} (hne : exB x' .normal = false) (ho : ∀ a' r', (a', r') ∈ h → HOk (CXLe_0 u X) a' r') (ht : ThOk (CXLe_0 u X) E' th) (run : RNLe_0 h x' th sg 30 e' h' = true) : RHLe E' x' e' h' (0, u) X :=
  RoundH.leave (tb := tbl h) (L := []) (f := 900) ((tabkOk _ _).hyps ho) (LpOk.nil _) rfl hne ht run
def hyLe_p0 : LK := [(.rn, .x 2000000), (.bytes [], .x 0)]
theorem runLe_p0 : RNLe_0 hyLe_p0 (.exit 0) [] [] 30 [(7, .s 0 0), (8, .s 0 0)] [] = true := by kernel_rfl
def nuELe_0 : List Value := []
def roELe_0 : List Value := []
noncomputable def ELe_0 : Cx := cx (nuX (nuELe_0) (rX (roELe_0) (fun _ => .bool true))) (nuX_one (nuL_one (l := nuELe_0) rfl)) 3 laidE laidE_stab
theorem roundsLe_0 (st : Nat × Nat) (X : Nat → Value) (hI : InvLe st) : RHLe (ELe_0) (.exit 0) [(7, .s 0 0), (8, .s 0 0)] [] st X := by
  obtain ⟨tag, u⟩ := st
  have hI0 := hI
  obtain ⟨i0, it⟩ := unILe tag u hI
  obtain rfl : tag = 0 := by omega
  skip
  skip
  refine lvLe_0 u (h := hyLe_p0) rfl ?_ (thNil) runLe_p0
  unfold hyLe_p0
  exact hc (kRn (denX rfl)) <|
   hc (kBytesB (bs := ([] : LB)) .nil (denX rfl)) <|
   hnil
theorem lfOkLe_0 {l : LF} {h : LH} (st : Nat × Nat) (hI : InvLe st) (hl : l.hp = some h) (hs : lfSame l h 117 keepLe (.exit 0) 4 20 30 = true) {th0 : LA} {sg0 : List (Nat × Nat)} (hth0 : ∀ X, ThOk (cx nu one 3 laidE laidE_stab) (DLe st X) th0) (h0 : startOk l h 117 20 20 th0 sg0 (epLe st) (hpLe st) = true) {thx : LA} (hthx : ThOk (ELe_0) (cx nu one 3 laidE laidE_stab) thx) (hx : exitOk l h 117 20 30 thx [(7, .s 0 0), (8, .s 0 0)] [] = true) : LfOk (cx nu one 3 laidE laidE_stab) bodyLe l :=
  lfOkX (E := ELe_0) (InvLe) (muLe) (DLe) (fun _ _ => rfl) (fun _ _ => rfl) (fun _ _ => rfl) (fun st X t ht => nuX_keep.trans (rX_keep ((by decide : ∀ t, t ∈ keepLe → t < 1000000) t ht))) rfl rfl rfl hl hs ebLe rfl rfl st hI hth0 h0 hthx hx (roundsLe_0)
end Go.Proofs.YtamjghigoipbeaaDoor.chunkBack
