/- A part of the proof: an interpreter of the model's own code on partly known states, and that what it answers is what the program answers. No condition of its own. -/
import Derived.Test.YtmeiihmfamaphaaDoorJ1ReplyChunksO
set_option maxRecDepth 100000
set_option linter.unusedVariables false
set_option linter.unusedSimpArgs false
set_option maxHeartbeats 4000000
namespace Go.Proofs.YtmeiihmfamaphaaDoor.replyChunks
open Go Go.AX Go.Proofs Go.Proofs.YtmeiihmfamaphaaDoor
variable {nu : Nat → Value} {one : ∀ i, i < 1000000 → (nu i).oneCell' = true} {E' : Cx} {x' : Ex} {e' : LA} {h' : LE}
noncomputable def bodyLw : Code := loopNo (Tryd.f3.body.getD .skip) 0
theorem keyLw : oneKey (loopsOf (Tryd.f3.body.getD .skip)) 9 0 0 = true := by kernel_rfl
def keepLw : List Nat := []
def epLw_0 : LA := [(0, .sr 3), (5, .p 4 0), (6, .p 5 0), (7, .x 0), (8, .x 1), (9, .x 2)]
def hpLw_0 : LE := [(3, .r 2000000 9 1 true), (4, .b ⟨27, .l [.s 3 5522759, .s 0 0, .i .i64 (.ofNat 1), .nils, .s 0 0], 0, 0, 0, false, false⟩), (5, .b ⟨29, .l [.x 3, .s 1 120, .nils], 0, 0, 0, false, false⟩)]
def nuLw_0 (ll : List LB) (su i : Int) (T U : LB) : List Value := [St' T, St' U, .int .i64 (i), .int .i64 (su), St' ([] : LB), .int .i64 ((ll.length : Int)), St' (nthS ll (Int.toNat (i))), .int .i64 (((nthS ll (Int.toNat (i))).length : Int)), St' (hexS ((nthS ll (Int.toNat (i))).length : Int)), St' ((hexS ((nthS ll (Int.toNat (i))).length : Int)) ++ [u8 13, u8 10]), St' ((hexS ((nthS ll (Int.toNat (i))).length : Int)) ++ ([u8 13, u8 10] ++ (nthS ll (Int.toNat (i))))), St' ((hexS ((nthS ll (Int.toNat (i))).length : Int)) ++ ([u8 13, u8 10] ++ ((nthS ll (Int.toNat (i))) ++ [u8 13, u8 10]))), St' (T ++ ((hexS ((nthS ll (Int.toNat (i))).length : Int)) ++ ([u8 13, u8 10] ++ ((nthS ll (Int.toNat (i))) ++ [u8 13, u8 10])))), St' (U ++ (nthS ll (Int.toNat (i)))), .int .i64 (i + 1), St' ([] : LB), .int .i64 ((ll.length : Int)), St' (nthS ll (Int.toNat (i))), .int .i64 (((nthS ll (Int.toNat (i))).length : Int)), St' T, St' (U ++ (nthS ll (Int.toNat (i)))), .int .i64 (i + 1), St' ([] : LB), .int .i64 ((ll.length : Int)), St' (nthS ll (Int.toNat (i))), .int .i64 (((nthS ll (Int.toNat (i))).length : Int)), St' T, St' (U ++ (nthS ll (Int.toNat (i)))), .int .i64 (i + 1), St' ([] : LB), .int .i64 ((ll.length : Int)), St' (nthS ll (Int.toNat (i))), .int .i64 (((nthS ll (Int.toNat (i))).length : Int)), St' T, St' (U ++ (nthS ll (Int.toNat (i)))), .int .i64 (i + 1), St' ([] : LB), .int .i64 ((ll.length : Int)), St' (nthS ll (Int.toNat (i))), .int .i64 (((nthS ll (Int.toNat (i))).length : Int)), St' ([] : LB), .int .i64 ((ll.length : Int))]
def roLw_0 (ll : List LB) (su i : Int) (T U : LB) : List Value := [rwS ll, rwS ([] : List LB), rwS ([] : List LB), rwS ([] : List LB), rwS ([] : List LB), rwS ([] : List LB), rwS ([] : List LB)]
def epLw (st : Nat × Int × LB × LB) : LA := epLw_0
def hpLw (st : Nat × Int × LB × LB) : LE := hpLw_0
def nuLw (ll : List LB) (su : Int) (st : Nat × Int × LB × LB) : List Value := nuLw_0 ll su (st.2.1) (st.2.2.1) (st.2.2.2)
def roLw (ll : List LB) (su : Int) (st : Nat × Int × LB × LB) : List Value := roLw_0 ll su (st.2.1) (st.2.2.1) (st.2.2.2)
theorem onLw (ll : List LB) (su : Int) (st : Nat × Int × LB × LB) : ∀ j, (nuL (nuLw ll su st) j).oneCell' = true := by
  intro j
  unfold nuLw
  exact nuL_one (l := nuLw_0 ll su (st.2.1) (st.2.2.1) (st.2.2.2)) rfl j
theorem ebLw (st : Nat × Int × LB × LB) : (lfB (epLw st) && lfC keepLw) = true := by
  unfold epLw
  rfl
noncomputable def DLw (ll : List LB) (su : Int) (st : Nat × Int × LB × LB) (X : Nat → Value) : Cx := cx (nuX (nuLw ll su st) (rX (roLw ll su st) X)) (nuX_one (onLw ll su st)) 3 laidE laidE_stab
def InvLw (ll : List LB) (su : Int) (st : Nat × Int × LB × LB) : Prop := (0 ≤ (st.2.1)) ∧ ((st.2.1) ≤ (ll.length : Int)) ∧ (ll.length ≤ 10) ∧ (∀ q, q ∈ ll → q.length ≤ 140737488351232) ∧ (200 ≤ su ∧ su ≤ 499) ∧ ((st.2.2.1) = List.flatMap (ptS su) (ll.take (Int.toNat (st.2.1)))) ∧ ((st.2.2.2) = List.flatten (ll.take (Int.toNat (st.2.1)))) ∧ (ok3 (ll.take (Int.toNat (st.2.1)))) ∧ (((st.2.2.1).length : Int) ≤ 307 * (st.2.1)) ∧ (((st.2.2.2).length : Int) ≤ 300 * (st.2.1)) ∧ ((st.1) < 1)
abbrev CjLw (ll : List LB) (su : Int) (tag : Nat) (i : Int) (T U : LB) : Prop := (0 ≤ i) ∧ (i ≤ (ll.length : Int)) ∧ (ll.length ≤ 10) ∧ (∀ q, q ∈ ll → q.length ≤ 140737488351232) ∧ (200 ≤ su ∧ su ≤ 499) ∧ (T = List.flatMap (ptS su) (ll.take (Int.toNat i))) ∧ (U = List.flatten (ll.take (Int.toNat i))) ∧ (ok3 (ll.take (Int.toNat i))) ∧ ((T.length : Int) ≤ 307 * i) ∧ ((U.length : Int) ≤ 300 * i) ∧ (tag < 1)
theorem mkILw (ll : List LB) (su : Int) (tag : Nat) (i : Int) (T U : LB) (h : CjLw ll su tag i T U) : InvLw ll su (tag, i, T, U) := h
theorem unILw (ll : List LB) (su : Int) (tag : Nat) (i : Int) (T U : LB) (h : InvLw ll su (tag, i, T, U)) : (0 ≤ i) ∧ (i ≤ (ll.length : Int)) ∧ (ll.length ≤ 10) ∧ (∀ q, q ∈ ll → q.length ≤ 140737488351232) ∧ (200 ≤ su ∧ su ≤ 499) ∧ (T = List.flatMap (ptS su) (ll.take (Int.toNat i))) ∧ (U = List.flatten (ll.take (Int.toNat i))) ∧ (ok3 (ll.take (Int.toNat i))) ∧ ((T.length : Int) ≤ 307 * i) ∧ ((U.length : Int) ≤ 300 * i) ∧ (tag < 1) := h
def muLw (ll : List LB) (su : Int) (st : Nat × Int × LB × LB) : Nat := (ll.length - (st.2.1).toNat)
abbrev RHLw (ll : List LB) (su : Int) (E' : Cx) (ex' : Ex) (epx' : LA) (hpx' : LE) (st : Nat × Int × LB × LB) (X : Nat → Value) : Prop := RoundH E' bodyLw keepLw 97 ex' 3 20 20 40 epLw hpLw epx' hpx' (InvLw ll su) (muLw ll su) (DLw ll su) st X
noncomputable abbrev RNLw_0 (h : LK) (x : Ex) (th : LA) (sg : List (Nat × Nat)) (m : Nat) (ep : LA) (hp : LE) : Bool := okRdH (code (tbl h) 4000 [] bodyLw (envOf (headOf epLw_0 keepLw) 97) ⟨lhSet hpLw_0 .leaf, 20, 0, 0⟩) x keepLw 97 40 th sg 20 m ep hp
theorem stLw_0 (ll : List LB) (su i : Int) (T U : LB) {X : Nat → Value} {h : LK} (y : Nat × Int × LB × LB) {th : LA} {sg : List (Nat × Nat)} (ho : ∀ a' r', (a', r') ∈ h → HOk (cx (nuX (nuLw_0 ll su i T U) (rX (roLw_0 ll su i T U) X)) (nuX_one (nuL_one (l := nuLw_0 ll su i T U) rfl)) 3 laidE laidE_stab) a' r') (hy : InvLw ll su y) (lt : muLw ll su y < muLw ll su (0, i, T, U)) (ht : ThOk (cx (nuX (nuLw_0 ll su i T U) (rX (roLw_0 ll su i T U) X)) (nuX_one (nuL_one (l := nuLw_0 ll su i T U) rfl)) 3 laidE laidE_stab) (DLw ll su y X) th) (run : RNLw_0 h .normal th sg 20 (epLw y) (hpLw y) = true) : RHLw ll su E' x' e' h' (0, i, T, U) X :=
  RoundH.next (tb := tbl h) (L := []) (f := 4000) y ((tabkOk _ _).hyps ho) (LpOk.nil _) rfl hy lt ht run
theorem lvLw_0 (ll : List LB) (su i : Int) (T U : LB) {X : Nat → Value} {h : LK} {th : LA} {sg : List (Nat × Nat)} (hne : exB x' .normal = false) (ho : ∀ a' r', (a', r') ∈ h → HOk (cx (nuX (nuLw_0 ll su i T U) (rX (roLw_0 ll su i T U) X)) (nuX_one (nuL_one (l := nuLw_0 ll su i T U) rfl)) 3 laidE laidE_stab) a' r') (ht : ThOk (cx (nuX (nuLw_0 ll su i T U) (rX (roLw_0 ll su i T U) X)) (nuX_one (nuL_one (l := nuLw_0 ll su i T U) rfl)) 3 laidE laidE_stab) E' th) (run : RNLw_0 h x' th sg 40 e' h' = true) : RHLw ll su E' x' e' h' (0, i, T, U) X :=
  RoundH.leave (tb := tbl h) (L := []) (f := 4000) ((tabkOk _ _).hyps ho) (LpOk.nil _) rfl hne ht run
def hyLw_p0 : LK := [(.rn, .x 2000001), (.bytes [], .x 4), (.rl (.x 2000000) 1, .x 5), (.bin .lss (.x 2) (.x 5), .b true), (.el (.x 2000000) (.x 2) 1 0, .x 6), (.len (.x 6), .x 7), (.bin .gtr (.x 7) (.i .i64 (.ofNat 300)), .b false), (.bin .eql (.x 3) (.i .i64 (.ofNat 204)), .b false), (.bin .eql (.x 3) (.i .i64 (.ofNat 304)), .b false), (.bin .eql (.x 6) (.s 0 0), .b false), (.call 25 [.x 7, .i .i64 (.ofNat 16)], .x 8), (.bin .add (.x 8) (.s 2 2573), .x 9), (.bin .add (.x 9) (.x 6), .x 10), (.bin .add (.x 10) (.s 2 2573), .x 11), (.bin .add (.x 0) (.x 11), .x 12), (.bin .add (.x 1) (.x 6), .x 13), (.bin .add (.x 2) (.i .i64 (.ofNat 1)), .x 14)]
theorem runLw_p0 : RNLw_0 hyLw_p0 .normal [(0, .x 12), (1, .x 13), (2, .x 14), (3, .x 3), (2000000, .x 2000000)] [] 20 epLw_0 hpLw_0 = true := by kernel_rfl
theorem nxLw_p0 (ll : List LB) (su : Int) (i : Int) (T U : LB) (X : Nat → Value) (hI : InvLw ll su (0, i, T, U)) (h0 : i < (ll.length : Int)) (h1 : ¬ (300 < ((nthS ll (Int.toNat (i))).length : Int))) (h2 : ¬ (su = 204)) (h3 : ¬ (su = 304)) (h4 : ¬ (((nthS ll (Int.toNat (i))).length : Int) = 0)) : RHLw ll su E' x' e' h' (0, i, T, U) X := by
  obtain ⟨i0, i1, i2, i3, i4, i5, i6, i7, i8, i9, it⟩ := unILw ll su 0 i T U hI
  have hn0 : ([] : LB).length = 0 := rfl
  have hli : (nthS ll (Int.toNat i)).length ≤ 140737488351232 := nthS_at (P := fun q => q.length ≤ 140737488351232) i3 (by omega)
  have hpl := pt_len su (nthS ll (Int.toNat i))
  have hhl := hexS_len (n := ((nthS ll (Int.toNat (i))).length : Int))
  have hpt := pt_snoc (st := su) i0 (by omega) i5
  have hpe : ptS su (nthS ll (Int.toNat i)) = _ := pt_1 (by omega) (by omega)
  have hT2 := hpt; rw [hpe] at hT2
  have hTl := congrArg List.length hpt; rw [List.length_append] at hTl
  have hT3 := congrArg List.length hT2
  refine stLw_0 ll su i T U (h := hyLw_p0) (0, (i + 1), (T ++ ((hexS ((nthS ll (Int.toNat (i))).length : Int)) ++ ([u8 13, u8 10] ++ ((nthS ll (Int.toNat (i))) ++ [u8 13, u8 10])))), (U ++ (nthS ll (Int.toNat (i))))) ?_ (mkILw ll su 0 (i + 1) (T ++ ((hexS ((nthS ll (Int.toNat (i))).length : Int)) ++ ([u8 13, u8 10] ++ ((nthS ll (Int.toNat (i))) ++ [u8 13, u8 10])))) (U ++ (nthS ll (Int.toNat (i)))) ⟨by omega, by omega, i2, i3, i4, hT2, fl_snoc i0 (by omega) i6, ok3_snoc i0 (by omega) i7 (by omega), by omega, by rw [List.length_append]; omega, by omega⟩) (by show ll.length - (i + 1).toNat < ll.length - i.toNat; omega) (thXv (v := St' (T ++ ((hexS ((nthS ll (Int.toNat (i))).length : Int)) ++ ([u8 13, u8 10] ++ ((nthS ll (Int.toNat (i))) ++ [u8 13, u8 10]))))) rfl rfl (thXv (v := St' (U ++ (nthS ll (Int.toNat (i))))) rfl rfl (thXi (b := ((i + 1))) rfl rfl (by omega) (thXv (v := .int .i64 (su)) rfl rfl (thXv (v := rwS ll) rfl rfl (thNil)))))) runLw_p0
  unfold hyLw_p0
  exact hc (kRn (denX rfl)) <|
   hc (kBytesB (bs := ([] : LB)) .nil (denX rfl)) <|
   hc (kRl (isX rfl) (denX rfl) (by first | omega | (simp <;> omega))) <|
   hc (ltT rfl rfl (by omega)) <|
   hc (kElN (j := (Int.toNat (i))) (isX rfl) (isX rfl) (denX rfl) (by omega) (by omega)) <|
   hc (lnV rfl rfl (by omega)) <|
   hc (gtcF rfl (by omega)) <|
   hc (eqcF rfl (by omega)) <|
   hc (eqcF rfl (by omega)) <|
   hc (kEqS (isX rfl) (isSx (l := ([] : LB)) 0 0 rfl) (nilF (by omega))) <|
   hc (hokFmt (isX rfl) (isZ (m := 16) rfl) (denX rfl) (by omega) (by omega)) <|
   hc (kCat (isX rfl) (isSx (l := [u8 13, u8 10]) 2 2573 rfl) (denX rfl) (by first | rfl | (simp; done)) (by first | omega | (simp <;> omega))) <|
   hc (kCat (isX rfl) (isX rfl) (denX rfl) (by first | rfl | (simp; done)) (by first | omega | (simp <;> omega))) <|
   hc (kCat (isX rfl) (isSx (l := [u8 13, u8 10]) 2 2573 rfl) (denX rfl) (by first | rfl | (simp; done)) (by first | omega | (simp <;> omega))) <|
   hc (kCat (isX rfl) (isX rfl) (denX rfl) (by first | rfl | (simp; done)) (by first | omega | (simp <;> omega))) <|
   hc (kCat (isX rfl) (isX rfl) (denX rfl) (by first | rfl | (simp; done)) (by omega)) <|
   hc (adC rfl rfl (by omega)) <|
   hnil
def hyLw_p1 : LK := [(.rn, .x 2000002), (.bytes [], .x 15), (.rl (.x 2000000) 1, .x 16), (.bin .lss (.x 2) (.x 16), .b true), (.el (.x 2000000) (.x 2) 1 0, .x 17), (.len (.x 17), .x 18), (.bin .gtr (.x 18) (.i .i64 (.ofNat 300)), .b false), (.bin .eql (.x 3) (.i .i64 (.ofNat 204)), .b true), (.bin .add (.x 0) (.s 0 0), .x 19), (.bin .add (.x 1) (.x 17), .x 20), (.bin .add (.x 2) (.i .i64 (.ofNat 1)), .x 21)]
theorem runLw_p1 : RNLw_0 hyLw_p1 .normal [(0, .x 19), (1, .x 20), (2, .x 21), (3, .x 3), (2000000, .x 2000000)] [] 20 epLw_0 hpLw_0 = true := by kernel_rfl
theorem nxLw_p1 (ll : List LB) (su : Int) (i : Int) (T U : LB) (X : Nat → Value) (hI : InvLw ll su (0, i, T, U)) (h0 : i < (ll.length : Int)) (h1 : ¬ (300 < ((nthS ll (Int.toNat (i))).length : Int))) (h2 : su = 204) : RHLw ll su E' x' e' h' (0, i, T, U) X := by
  obtain ⟨i0, i1, i2, i3, i4, i5, i6, i7, i8, i9, it⟩ := unILw ll su 0 i T U hI
  have hn0 : ([] : LB).length = 0 := rfl
  have hli : (nthS ll (Int.toNat i)).length ≤ 140737488351232 := nthS_at (P := fun q => q.length ≤ 140737488351232) i3 (by omega)
  have hpl := pt_len su (nthS ll (Int.toNat i))
  have hpt := pt_snoc (st := su) i0 (by omega) i5
  have hpe : ptS su (nthS ll (Int.toNat i)) = _ := pt_n (by omega)
  have hT2 := hpt; rw [hpe, List.append_nil] at hT2
  have hTl := congrArg List.length hpt; rw [List.length_append] at hTl
  have hT3 := congrArg List.length hT2
  refine stLw_0 ll su i T U (h := hyLw_p1) (0, (i + 1), T, (U ++ (nthS ll (Int.toNat (i))))) ?_ (mkILw ll su 0 (i + 1) T (U ++ (nthS ll (Int.toNat (i)))) ⟨by omega, by omega, i2, i3, i4, hT2, fl_snoc i0 (by omega) i6, ok3_snoc i0 (by omega) i7 (by omega), by omega, by rw [List.length_append]; omega, by omega⟩) (by show ll.length - (i + 1).toNat < ll.length - i.toNat; omega) (thXv (v := St' T) rfl rfl (thXv (v := St' (U ++ (nthS ll (Int.toNat (i))))) rfl rfl (thXi (b := ((i + 1))) rfl rfl (by omega) (thXv (v := .int .i64 (su)) rfl rfl (thXv (v := rwS ll) rfl rfl (thNil)))))) runLw_p1
  unfold hyLw_p1
  exact hc (kRn (denX rfl)) <|
   hc (kBytesB (bs := ([] : LB)) .nil (denX rfl)) <|
   hc (kRl (isX rfl) (denX rfl) (by first | omega | (simp <;> omega))) <|
   hc (ltT rfl rfl (by omega)) <|
   hc (kElN (j := (Int.toNat (i))) (isX rfl) (isX rfl) (denX rfl) (by omega) (by omega)) <|
   hc (lnV rfl rfl (by omega)) <|
   hc (gtcF rfl (by omega)) <|
   hc (eqcT rfl (by omega)) <|
   hc (kCat (isX rfl) (isSx (l := ([] : LB)) 0 0 rfl) (denX rfl) (by first | rfl | (simp; done)) (by omega)) <|
   hc (kCat (isX rfl) (isX rfl) (denX rfl) (by first | rfl | (simp; done)) (by omega)) <|
   hc (adC rfl rfl (by omega)) <|
   hnil
def hyLw_p2 : LK := [(.rn, .x 2000003), (.bytes [], .x 22), (.rl (.x 2000000) 1, .x 23), (.bin .lss (.x 2) (.x 23), .b true), (.el (.x 2000000) (.x 2) 1 0, .x 24), (.len (.x 24), .x 25), (.bin .gtr (.x 25) (.i .i64 (.ofNat 300)), .b false), (.bin .eql (.x 3) (.i .i64 (.ofNat 204)), .b false), (.bin .eql (.x 3) (.i .i64 (.ofNat 304)), .b true), (.bin .add (.x 0) (.s 0 0), .x 26), (.bin .add (.x 1) (.x 24), .x 27), (.bin .add (.x 2) (.i .i64 (.ofNat 1)), .x 28)]
theorem runLw_p2 : RNLw_0 hyLw_p2 .normal [(0, .x 26), (1, .x 27), (2, .x 28), (3, .x 3), (2000000, .x 2000000)] [] 20 epLw_0 hpLw_0 = true := by kernel_rfl
theorem nxLw_p2 (ll : List LB) (su : Int) (i : Int) (T U : LB) (X : Nat → Value) (hI : InvLw ll su (0, i, T, U)) (h0 : i < (ll.length : Int)) (h1 : ¬ (300 < ((nthS ll (Int.toNat (i))).length : Int))) (h2 : ¬ (su = 204)) (h3 : su = 304) : RHLw ll su E' x' e' h' (0, i, T, U) X := by
  obtain ⟨i0, i1, i2, i3, i4, i5, i6, i7, i8, i9, it⟩ := unILw ll su 0 i T U hI
  have hn0 : ([] : LB).length = 0 := rfl
  have hli : (nthS ll (Int.toNat i)).length ≤ 140737488351232 := nthS_at (P := fun q => q.length ≤ 140737488351232) i3 (by omega)
  have hpl := pt_len su (nthS ll (Int.toNat i))
  have hpt := pt_snoc (st := su) i0 (by omega) i5
  have hpe : ptS su (nthS ll (Int.toNat i)) = _ := pt_n (by omega)
  have hT2 := hpt; rw [hpe, List.append_nil] at hT2
  have hTl := congrArg List.length hpt; rw [List.length_append] at hTl
  have hT3 := congrArg List.length hT2
  refine stLw_0 ll su i T U (h := hyLw_p2) (0, (i + 1), T, (U ++ (nthS ll (Int.toNat (i))))) ?_ (mkILw ll su 0 (i + 1) T (U ++ (nthS ll (Int.toNat (i)))) ⟨by omega, by omega, i2, i3, i4, hT2, fl_snoc i0 (by omega) i6, ok3_snoc i0 (by omega) i7 (by omega), by omega, by rw [List.length_append]; omega, by omega⟩) (by show ll.length - (i + 1).toNat < ll.length - i.toNat; omega) (thXv (v := St' T) rfl rfl (thXv (v := St' (U ++ (nthS ll (Int.toNat (i))))) rfl rfl (thXi (b := ((i + 1))) rfl rfl (by omega) (thXv (v := .int .i64 (su)) rfl rfl (thXv (v := rwS ll) rfl rfl (thNil)))))) runLw_p2
  unfold hyLw_p2
  exact hc (kRn (denX rfl)) <|
   hc (kBytesB (bs := ([] : LB)) .nil (denX rfl)) <|
   hc (kRl (isX rfl) (denX rfl) (by first | omega | (simp <;> omega))) <|
   hc (ltT rfl rfl (by omega)) <|
   hc (kElN (j := (Int.toNat (i))) (isX rfl) (isX rfl) (denX rfl) (by omega) (by omega)) <|
   hc (lnV rfl rfl (by omega)) <|
   hc (gtcF rfl (by omega)) <|
   hc (eqcF rfl (by omega)) <|
   hc (eqcT rfl (by omega)) <|
   hc (kCat (isX rfl) (isSx (l := ([] : LB)) 0 0 rfl) (denX rfl) (by first | rfl | (simp; done)) (by omega)) <|
   hc (kCat (isX rfl) (isX rfl) (denX rfl) (by first | rfl | (simp; done)) (by omega)) <|
   hc (adC rfl rfl (by omega)) <|
   hnil
def hyLw_p3 : LK := [(.rn, .x 2000004), (.bytes [], .x 29), (.rl (.x 2000000) 1, .x 30), (.bin .lss (.x 2) (.x 30), .b true), (.el (.x 2000000) (.x 2) 1 0, .x 31), (.len (.x 31), .x 32), (.bin .gtr (.x 32) (.i .i64 (.ofNat 300)), .b false), (.bin .eql (.x 3) (.i .i64 (.ofNat 204)), .b false), (.bin .eql (.x 3) (.i .i64 (.ofNat 304)), .b false), (.bin .eql (.x 31) (.s 0 0), .b true), (.bin .add (.x 0) (.s 0 0), .x 33), (.bin .add (.x 1) (.x 31), .x 34), (.bin .add (.x 2) (.i .i64 (.ofNat 1)), .x 35)]
theorem runLw_p3 : RNLw_0 hyLw_p3 .normal [(0, .x 33), (1, .x 34), (2, .x 35), (3, .x 3), (2000000, .x 2000000)] [] 20 epLw_0 hpLw_0 = true := by kernel_rfl
theorem nxLw_p3 (ll : List LB) (su : Int) (i : Int) (T U : LB) (X : Nat → Value) (hI : InvLw ll su (0, i, T, U)) (h0 : i < (ll.length : Int)) (h1 : ¬ (300 < ((nthS ll (Int.toNat (i))).length : Int))) (h2 : ¬ (su = 204)) (h3 : ¬ (su = 304)) (h4 : ((nthS ll (Int.toNat (i))).length : Int) = 0) : RHLw ll su E' x' e' h' (0, i, T, U) X := by
  obtain ⟨i0, i1, i2, i3, i4, i5, i6, i7, i8, i9, it⟩ := unILw ll su 0 i T U hI
  have hn0 : ([] : LB).length = 0 := rfl
  have hli : (nthS ll (Int.toNat i)).length ≤ 140737488351232 := nthS_at (P := fun q => q.length ≤ 140737488351232) i3 (by omega)
  have hpl := pt_len su (nthS ll (Int.toNat i))
  have hpt := pt_snoc (st := su) i0 (by omega) i5
  have hpe : ptS su (nthS ll (Int.toNat i)) = _ := pt_0 (by omega)
  have hT2 := hpt; rw [hpe, List.append_nil] at hT2
  have hTl := congrArg List.length hpt; rw [List.length_append] at hTl
  have hT3 := congrArg List.length hT2
  refine stLw_0 ll su i T U (h := hyLw_p3) (0, (i + 1), T, (U ++ (nthS ll (Int.toNat (i))))) ?_ (mkILw ll su 0 (i + 1) T (U ++ (nthS ll (Int.toNat (i)))) ⟨by omega, by omega, i2, i3, i4, hT2, fl_snoc i0 (by omega) i6, ok3_snoc i0 (by omega) i7 (by omega), by omega, by rw [List.length_append]; omega, by omega⟩) (by show ll.length - (i + 1).toNat < ll.length - i.toNat; omega) (thXv (v := St' T) rfl rfl (thXv (v := St' (U ++ (nthS ll (Int.toNat (i))))) rfl rfl (thXi (b := ((i + 1))) rfl rfl (by omega) (thXv (v := .int .i64 (su)) rfl rfl (thXv (v := rwS ll) rfl rfl (thNil)))))) runLw_p3
  unfold hyLw_p3
  exact hc (kRn (denX rfl)) <|
   hc (kBytesB (bs := ([] : LB)) .nil (denX rfl)) <|
   hc (kRl (isX rfl) (denX rfl) (by first | omega | (simp <;> omega))) <|
   hc (ltT rfl rfl (by omega)) <|
   hc (kElN (j := (Int.toNat (i))) (isX rfl) (isX rfl) (denX rfl) (by omega) (by omega)) <|
   hc (lnV rfl rfl (by omega)) <|
   hc (gtcF rfl (by omega)) <|
   hc (eqcF rfl (by omega)) <|
   hc (eqcF rfl (by omega)) <|
   hc (kEqS (isX rfl) (isSx (l := ([] : LB)) 0 0 rfl) (nilT (by omega))) <|
   hc (kCat (isX rfl) (isSx (l := ([] : LB)) 0 0 rfl) (denX rfl) (by first | rfl | (simp; done)) (by omega)) <|
   hc (kCat (isX rfl) (isX rfl) (denX rfl) (by first | rfl | (simp; done)) (by omega)) <|
   hc (adC rfl rfl (by omega)) <|
   hnil
def hyLw_p4 : LK := [(.rn, .x 2000005), (.bytes [], .x 36), (.rl (.x 2000000) 1, .x 37), (.bin .lss (.x 2) (.x 37), .b true), (.el (.x 2000000) (.x 2) 1 0, .x 38), (.len (.x 38), .x 39), (.bin .gtr (.x 39) (.i .i64 (.ofNat 300)), .b true)]
theorem runLw_p4 : RNLw_0 hyLw_p4 .ret [] [] 40 [(4, .b true)] [] = true := by kernel_rfl
def hyLw_p5 : LK := [(.rn, .x 2000006), (.bytes [], .x 40), (.rl (.x 2000000) 1, .x 41), (.bin .lss (.x 2) (.x 41), .b false)]
theorem runLw_p5 : RNLw_0 hyLw_p5 (.exit 0) [(0, .x 0), (1, .x 1), (2, .x 3)] [] 40 [(5, .p 4 0), (6, .p 5 0), (7, .x 0), (8, .x 1)] [(4, .b ⟨27, .l [.s 3 5522759, .s 0 0, .i .i64 (.ofNat 1), .nils, .s 0 0], 0, 0, 0, false, false⟩), (5, .b ⟨29, .l [.x 2, .s 1 120, .nils], 0, 0, 0, false, false⟩)] = true := by kernel_rfl
def nuELw_0 (ll : List LB) (su : Int) : List Value := [St' (List.flatMap (ptS su) ll), St' (List.flatten ll), .int .i64 (su)]
def roELw_0 (ll : List LB) (su : Int) : List Value := []
noncomputable def ELw_0 (ll : List LB) (su : Int) : Cx := cx (nuX (nuELw_0 ll su) (rX (roELw_0 ll su) (fun _ => .bool true))) (nuX_one (nuL_one (l := nuELw_0 ll su) rfl)) 3 laidE laidE_stab
theorem roundsLw_0 (ll : List LB) (su : Int) (x0 : ok3 ll) (st : Nat × Int × LB × LB) (X : Nat → Value) (hI : InvLw ll su st) : RHLw ll su (ELw_0 ll su) (.exit 0) [(5, .p 4 0), (6, .p 5 0), (7, .x 0), (8, .x 1)] [(4, .b ⟨27, .l [.s 3 5522759, .s 0 0, .i .i64 (.ofNat 1), .nils, .s 0 0], 0, 0, 0, false, false⟩), (5, .b ⟨29, .l [.x 2, .s 1 120, .nils], 0, 0, 0, false, false⟩)] st X := by
  obtain ⟨tag, i, T, U⟩ := st
  have hI0 := hI
  obtain ⟨i0, i1, i2, i3, i4, i5, i6, i7, i8, i9, it⟩ := unILw ll su tag i T U hI
  obtain rfl : tag = 0 := by omega
  skip
  have hn0 : ([] : LB).length = 0 := rfl
  by_cases h0 : i < (ll.length : Int)
  · by_cases h1 : 300 < ((nthS ll (Int.toNat (i))).length : Int)
    · exfalso; have hC := x0 _ (nthS_mem (l := ll) (j := Int.toNat i) (by omega)); omega
    · by_cases h2 : su = 204
      · exact nxLw_p1 ll su i T U X hI0 h0 h1 h2
      · by_cases h3 : su = 304
        · exact nxLw_p2 ll su i T U X hI0 h0 h1 h2 h3
        · by_cases h4 : ((nthS ll (Int.toNat (i))).length : Int) = 0
          · exact nxLw_p3 ll su i T U X hI0 h0 h1 h2 h3 h4
          · exact nxLw_p0 ll su i T U X hI0 h0 h1 h2 h3 h4
  · skip
    have hn0 : ([] : LB).length = 0 := rfl
    refine lvLw_0 ll su i T U (h := hyLw_p5) rfl ?_ (thXe (v := St' T) (u := St' (List.flatMap (ptS su) ll)) rfl rfl (congrArg (fun l => St' l) (pt_end (by omega) i5)) (thXe (v := St' U) (u := St' (List.flatten ll)) rfl rfl (congrArg (fun l => St' l) (fl_end (by omega) i6)) (thXv (v := .int .i64 (su)) rfl rfl (thNil)))) runLw_p5
    unfold hyLw_p5
    exact hc (kRn (denX rfl)) <|
     hc (kBytesB (bs := ([] : LB)) .nil (denX rfl)) <|
     hc (kRl (isX rfl) (denX rfl) (by first | omega | (simp <;> omega))) <|
     hc (ltF rfl rfl (by omega)) <|
     hnil
theorem lfOkLw_0 {l : LF} {h : LH} (ll : List LB) (su : Int) (x0 : ok3 ll) (st : Nat × Int × LB × LB) (hI : InvLw ll su st) (hl : l.hp = some h) (hs : lfSame l h 97 keepLw (.exit 0) 3 20 40 = true) {th0 : LA} {sg0 : List (Nat × Nat)} (hth0 : ∀ X, ThOk (cx nu one 3 laidE laidE_stab) (DLw ll su st X) th0) (h0 : startOk l h 97 20 20 th0 sg0 (epLw st) (hpLw st) = true) {thx : LA} (hthx : ThOk (ELw_0 ll su) (cx nu one 3 laidE laidE_stab) thx) (hx : exitOk l h 97 20 40 thx [(5, .p 4 0), (6, .p 5 0), (7, .x 0), (8, .x 1)] [(4, .b ⟨27, .l [.s 3 5522759, .s 0 0, .i .i64 (.ofNat 1), .nils, .s 0 0], 0, 0, 0, false, false⟩), (5, .b ⟨29, .l [.x 2, .s 1 120, .nils], 0, 0, 0, false, false⟩)] = true) : LfOk (cx nu one 3 laidE laidE_stab) bodyLw l :=
  lfOkX (E := ELw_0 ll su) (InvLw ll su) (muLw ll su) (DLw ll su) (fun _ _ => rfl) (fun _ _ => rfl) (fun _ _ => rfl) (fun st X t ht => nuX_keep.trans (rX_keep ((by decide : ∀ t, t ∈ keepLw → t < 1000000) t ht))) rfl rfl rfl hl hs ebLw rfl rfl st hI hth0 h0 hthx hx (roundsLw_0 ll su x0)
def nuELw_1 (ll : List LB) (su : Int) : List Value := []
def roELw_1 (ll : List LB) (su : Int) : List Value := []
noncomputable def ELw_1 (ll : List LB) (su : Int) : Cx := cx (nuX (nuELw_1 ll su) (rX (roELw_1 ll su) (fun _ => .bool true))) (nuX_one (nuL_one (l := nuELw_1 ll su) rfl)) 3 laidE laidE_stab
theorem roundsLw_1 (ll : List LB) (su : Int) (x0 : ¬ ok3 ll) (st : Nat × Int × LB × LB) (X : Nat → Value) (hI : InvLw ll su st) : RHLw ll su (ELw_1 ll su) .ret [(4, .b true)] [] st X := by
  obtain ⟨tag, i, T, U⟩ := st
  have hI0 := hI
  obtain ⟨i0, i1, i2, i3, i4, i5, i6, i7, i8, i9, it⟩ := unILw ll su tag i T U hI
  obtain rfl : tag = 0 := by omega
  skip
  have hn0 : ([] : LB).length = 0 := rfl
  by_cases h0 : i < (ll.length : Int)
  · by_cases h1 : 300 < ((nthS ll (Int.toNat (i))).length : Int)
    · skip
      have hn0 : ([] : LB).length = 0 := rfl
      have hli : (nthS ll (Int.toNat i)).length ≤ 140737488351232 := nthS_at (P := fun q => q.length ≤ 140737488351232) i3 (by omega)
      have hpl := pt_len su (nthS ll (Int.toNat i))
      refine lvLw_0 ll su i T U (h := hyLw_p4) rfl ?_ (thNil) runLw_p4
      unfold hyLw_p4
      exact hc (kRn (denX rfl)) <|
       hc (kBytesB (bs := ([] : LB)) .nil (denX rfl)) <|
       hc (kRl (isX rfl) (denX rfl) (by first | omega | (simp <;> omega))) <|
       hc (ltT rfl rfl (by omega)) <|
       hc (kElN (j := (Int.toNat (i))) (isX rfl) (isX rfl) (denX rfl) (by omega) (by omega)) <|
       hc (lnV rfl rfl (by omega)) <|
       hc (gtcT rfl (by omega)) <|
       hnil
    · by_cases h2 : su = 204
      · exact nxLw_p1 ll su i T U X hI0 h0 h1 h2
      · by_cases h3 : su = 304
        · exact nxLw_p2 ll su i T U X hI0 h0 h1 h2 h3
        · by_cases h4 : ((nthS ll (Int.toNat (i))).length : Int) = 0
          · exact nxLw_p3 ll su i T U X hI0 h0 h1 h2 h3 h4
          · exact nxLw_p0 ll su i T U X hI0 h0 h1 h2 h3 h4
  · exfalso; exact x0 (ok3_end i0 (by omega) i7)
theorem lfOkLw_1 {l : LF} {h : LH} (ll : List LB) (su : Int) (x0 : ¬ ok3 ll) (st : Nat × Int × LB × LB) (hI : InvLw ll su st) (hl : l.hp = some h) (hs : lfSame l h 97 keepLw .ret 3 20 40 = true) {th0 : LA} {sg0 : List (Nat × Nat)} (hth0 : ∀ X, ThOk (cx nu one 3 laidE laidE_stab) (DLw ll su st X) th0) (h0 : startOk l h 97 20 20 th0 sg0 (epLw st) (hpLw st) = true) {thx : LA} (hthx : ThOk (ELw_1 ll su) (cx nu one 3 laidE laidE_stab) thx) (hx : exitOk l h 97 20 40 thx [(4, .b true)] [] = true) : LfOk (cx nu one 3 laidE laidE_stab) bodyLw l :=
  lfOkX (E := ELw_1 ll su) (InvLw ll su) (muLw ll su) (DLw ll su) (fun _ _ => rfl) (fun _ _ => rfl) (fun _ _ => rfl) (fun st X t ht => nuX_keep.trans (rX_keep ((by decide : ∀ t, t ∈ keepLw → t < 1000000) t ht))) rfl rfl rfl hl hs ebLw rfl rfl st hI hth0 h0 hthx hx (roundsLw_1 ll su x0)
noncomputable def bodySpl : Code := loopNo (Tryd.f34.body.getD .skip) 0
theorem keySpl : oneKey (loopsOf (Tryd.f34.body.getD .skip)) 4 0 0 = true := by kernel_rfl
def keepSpl : List Nat := []
def epSpl_0 : LA := [(0, .x 0), (1, .i .u8 (.ofNat 59)), (5, .nils), (6, .i .i64 (.ofNat 0)), (7, .x 1)]
def hpSpl_0 : LE := []
def nuSpl_0 (n i : Int) : List Value := [St' (hexS n), .int .i64 (i), .int .i64 (((hexS n).length : Int)), .int .u8 (bt (hexS n) (Int.toNat (i))), .int .i64 (i + 1), .int .i64 (((hexS n).length : Int)), St' (hexS n), .int .i64 (i + 1)]
def roSpl_0 (n i : Int) : List Value := [rwS ([] : List LB), rwS ([] : List LB), rwS (([] : List LB) ++ [(hexS n)])]
def epSpl_1 : LA := [(0, .x 0), (5, .sr 80), (7, .x 1)]
def hpSpl_1 : LE := [(80, .r 2000000 9 1 false)]
def nuSpl_1 (n i : Int) : List Value := [St' (hexS n), .int .i64 (i), .int .i64 (((hexS n).length : Int))]
def roSpl_1 (n i : Int) : List Value := [rwS (([] : List LB) ++ [(hexS n)]), rwS ([] : List LB)]
def epSpl (st : Nat × Int) : LA := if st.1 = 0 then epSpl_0 else epSpl_1
def hpSpl (st : Nat × Int) : LE := if st.1 = 0 then hpSpl_0 else hpSpl_1
def nuSpl (n : Int) (st : Nat × Int) : List Value := if st.1 = 0 then nuSpl_0 n (st.2) else nuSpl_1 n (st.2)
def roSpl (n : Int) (st : Nat × Int) : List Value := if st.1 = 0 then roSpl_0 n (st.2) else roSpl_1 n (st.2)
theorem onSpl (n : Int) (st : Nat × Int) : ∀ j, (nuL (nuSpl n st) j).oneCell' = true := by
  intro j
  unfold nuSpl
  by_cases g0 : st.1 = 0
  · rw [if_pos g0]; exact nuL_one (l := nuSpl_0 n (st.2)) rfl j
  rw [if_neg g0]
  exact nuL_one (l := nuSpl_1 n (st.2)) rfl j
theorem ebSpl (st : Nat × Int) : (lfB (epSpl st) && lfC keepSpl) = true := by
  unfold epSpl
  by_cases g0 : st.1 = 0
  · rw [if_pos g0]; rfl
  rw [if_neg g0]
  rfl
noncomputable def DSpl (n : Int) (st : Nat × Int) (X : Nat → Value) : Cx := cx (nuX (nuSpl n st) (rX (roSpl n st) X)) (nuX_one (onSpl n st)) 3 laidE laidE_stab
def InvSpl (n : Int) (st : Nat × Int) : Prop := (0 ≤ (st.2)) ∧ ((st.2) ≤ ((hexS n).length : Int) + 1) ∧ (0 ≤ n) ∧ (n ≤ 300) ∧ ((st.1) = 0 → (st.2) ≤ ((hexS n).length : Int)) ∧ ((st.1) = 1 → (st.2) = ((hexS n).length : Int) + 1) ∧ ((st.1) < 2)
abbrev CjSpl (n : Int) (tag : Nat) (i : Int) : Prop := (0 ≤ i) ∧ (i ≤ ((hexS n).length : Int) + 1) ∧ (0 ≤ n) ∧ (n ≤ 300) ∧ (tag = 0 → i ≤ ((hexS n).length : Int)) ∧ (tag = 1 → i = ((hexS n).length : Int) + 1) ∧ (tag < 2)
theorem mkISpl (n : Int) (tag : Nat) (i : Int) (h : CjSpl n tag i) : InvSpl n (tag, i) := h
theorem unISpl (n : Int) (tag : Nat) (i : Int) (h : InvSpl n (tag, i)) : (0 ≤ i) ∧ (i ≤ ((hexS n).length : Int) + 1) ∧ (0 ≤ n) ∧ (n ≤ 300) ∧ (tag = 0 → i ≤ ((hexS n).length : Int)) ∧ (tag = 1 → i = ((hexS n).length : Int) + 1) ∧ (tag < 2) := h
def muSpl (n : Int) (st : Nat × Int) : Nat := (hexS n).length + 2 - (st.2).toNat
abbrev RHSpl (n : Int) (E' : Cx) (ex' : Ex) (epx' : LA) (hpx' : LE) (st : Nat × Int) (X : Nat → Value) : Prop := RoundH E' bodySpl keepSpl 35 ex' 3 80 81 100 epSpl hpSpl epx' hpx' (InvSpl n) (muSpl n) (DSpl n) st X
noncomputable abbrev RNSpl_0 (h : LK) (x : Ex) (th : LA) (sg : List (Nat × Nat)) (m : Nat) (ep : LA) (hp : LE) : Bool := okRdH (code (tbl h) 2000 [] bodySpl (envOf (headOf epSpl_0 keepSpl) 35) ⟨lhSet hpSpl_0 .leaf, 81, 0, 0⟩) x keepSpl 35 100 th sg 80 m ep hp
theorem stSpl_0 (n i : Int) {X : Nat → Value} {h : LK} (y : Nat × Int) {th : LA} {sg : List (Nat × Nat)} (ho : ∀ a' r', (a', r') ∈ h → HOk (cx (nuX (nuSpl_0 n i) (rX (roSpl_0 n i) X)) (nuX_one (nuL_one (l := nuSpl_0 n i) rfl)) 3 laidE laidE_stab) a' r') (hy : InvSpl n y) (lt : muSpl n y < muSpl n (0, i)) (ht : ThOk (cx (nuX (nuSpl_0 n i) (rX (roSpl_0 n i) X)) (nuX_one (nuL_one (l := nuSpl_0 n i) rfl)) 3 laidE laidE_stab) (DSpl n y X) th) (run : RNSpl_0 h .normal th sg 81 (epSpl y) (hpSpl y) = true) : RHSpl n E' x' e' h' (0, i) X :=
  RoundH.next (tb := tbl h) (L := []) (f := 2000) y ((tabkOk _ _).hyps ho) (LpOk.nil _) rfl hy lt ht run
theorem lvSpl_0 (n i : Int) {X : Nat → Value} {h : LK} {th : LA} {sg : List (Nat × Nat)} (hne : exB x' .normal = false) (ho : ∀ a' r', (a', r') ∈ h → HOk (cx (nuX (nuSpl_0 n i) (rX (roSpl_0 n i) X)) (nuX_one (nuL_one (l := nuSpl_0 n i) rfl)) 3 laidE laidE_stab) a' r') (ht : ThOk (cx (nuX (nuSpl_0 n i) (rX (roSpl_0 n i) X)) (nuX_one (nuL_one (l := nuSpl_0 n i) rfl)) 3 laidE laidE_stab) E' th) (run : RNSpl_0 h x' th sg 100 e' h' = true) : RHSpl n E' x' e' h' (0, i) X :=
  RoundH.leave (tb := tbl h) (L := []) (f := 2000) ((tabkOk _ _).hyps ho) (LpOk.nil _) rfl hne ht run
noncomputable abbrev RNSpl_1 (h : LK) (x : Ex) (th : LA) (sg : List (Nat × Nat)) (m : Nat) (ep : LA) (hp : LE) : Bool := okRdH (code (tbl h) 2000 [] bodySpl (envOf (headOf epSpl_1 keepSpl) 35) ⟨lhSet hpSpl_1 .leaf, 81, 0, 0⟩) x keepSpl 35 100 th sg 80 m ep hp
theorem stSpl_1 (n i : Int) {X : Nat → Value} {h : LK} (y : Nat × Int) {th : LA} {sg : List (Nat × Nat)} (ho : ∀ a' r', (a', r') ∈ h → HOk (cx (nuX (nuSpl_1 n i) (rX (roSpl_1 n i) X)) (nuX_one (nuL_one (l := nuSpl_1 n i) rfl)) 3 laidE laidE_stab) a' r') (hy : InvSpl n y) (lt : muSpl n y < muSpl n (1, i)) (ht : ThOk (cx (nuX (nuSpl_1 n i) (rX (roSpl_1 n i) X)) (nuX_one (nuL_one (l := nuSpl_1 n i) rfl)) 3 laidE laidE_stab) (DSpl n y X) th) (run : RNSpl_1 h .normal th sg 81 (epSpl y) (hpSpl y) = true) : RHSpl n E' x' e' h' (1, i) X :=
  RoundH.next (tb := tbl h) (L := []) (f := 2000) y ((tabkOk _ _).hyps ho) (LpOk.nil _) rfl hy lt ht run
theorem lvSpl_1 (n i : Int) {X : Nat → Value} {h : LK} {th : LA} {sg : List (Nat × Nat)} (hne : exB x' .normal = false) (ho : ∀ a' r', (a', r') ∈ h → HOk (cx (nuX (nuSpl_1 n i) (rX (roSpl_1 n i) X)) (nuX_one (nuL_one (l := nuSpl_1 n i) rfl)) 3 laidE laidE_stab) a' r') (ht : ThOk (cx (nuX (nuSpl_1 n i) (rX (roSpl_1 n i) X)) (nuX_one (nuL_one (l := nuSpl_1 n i) rfl)) 3 laidE laidE_stab) E' th) (run : RNSpl_1 h x' th sg 100 e' h' = true) : RHSpl n E' x' e' h' (1, i) X :=
  RoundH.leave (tb := tbl h) (L := []) (f := 2000) ((tabkOk _ _).hyps ho) (LpOk.nil _) rfl hne ht run
def hySpl_p0 : LK := [(.rn, .x 2000000), (.len (.x 0), .x 2), (.bin .leq (.x 1) (.x 2), .b true), (.bin .eql (.x 1) (.x 2), .b false), (.idx (.x 0) (.x 1), .x 3), (.bin .eql (.x 3) (.i .u8 (.ofNat 59)), .b false), (.bin .add (.x 1) (.i .i64 (.ofNat 1)), .x 4)]
theorem runSpl_p0 : RNSpl_0 hySpl_p0 .normal [(0, .x 0), (1, .x 4)] [] 81 epSpl_0 hpSpl_0 = true := by kernel_rfl
theorem nxSpl_p0 (n : Int) (i : Int) (X : Nat → Value) (hI : InvSpl n (0, i)) (h1 : ¬ (i = ((hexS n).length : Int))) : RHSpl n E' x' e' h' (0, i) X := by
  obtain ⟨i0, i1, i2, i3, i4, i5, it⟩ := unISpl n 0 i hI
  have hl3 := hexS_len (n := n)
  have := bt_lo (hexS n) (Int.toNat (i)); have := bt_hi (hexS n) (Int.toNat (i))
  have hdg := hexS_bt (n := n) (by omega) (by omega) (j := Int.toNat i) (by omega)
  refine stSpl_0 n i (h := hySpl_p0) (0, (i + 1)) ?_ (mkISpl n 0 (i + 1) ⟨by omega, by omega, i2, i3, fun h => by omega, fun h => by omega, by omega⟩) (by show (hexS n).length + 2 - (i + 1).toNat < (hexS n).length + 2 - i.toNat; omega) (thXv (v := St' (hexS n)) rfl rfl (thXi (b := ((i + 1))) rfl rfl (by omega) (thNil))) runSpl_p0
  unfold hySpl_p0
  exact hc (kRn (denX rfl)) <|
   hc (lnV rfl rfl (by omega)) <|
   hc (leT rfl rfl (by omega)) <|
   hc (eqXF rfl rfl (by omega)) <|
   hc (ixV rfl rfl rfl (by omega)) <|
   hc (eqcF rfl (by omega)) <|
   hc (adC rfl rfl (by omega)) <|
   hnil
def hySpl_p1 : LK := [(.rn, .x 2000001), (.len (.x 0), .x 5), (.bin .leq (.x 1) (.x 5), .b true), (.bin .eql (.x 1) (.x 5), .b true), (.sub (.x 0) (some (.i .i64 (.ofNat 0))) (some (.x 1)), .x 6), (.ra (.x 2000001) [.x 6], .x 2000002), (.rf (.x 2000002) 1 16, .b true), (.bin .add (.x 1) (.i .i64 (.ofNat 1)), .x 7)]
theorem runSpl_p1 : RNSpl_0 hySpl_p1 .normal [(0, .x 0), (1, .x 7), (2000000, .x 2000002)] [(80, 82)] 81 epSpl_1 hpSpl_1 = true := by kernel_rfl
theorem nxSpl_p1 (n : Int) (i : Int) (X : Nat → Value) (hI : InvSpl n (0, i)) (h1 : i = ((hexS n).length : Int)) : RHSpl n E' x' e' h' (0, i) X := by
  obtain ⟨i0, i1, i2, i3, i4, i5, it⟩ := unISpl n 0 i hI
  have hl3 := hexS_len (n := n)
  refine stSpl_0 n i (h := hySpl_p1) (1, (i + 1)) ?_ (mkISpl n 1 (i + 1) ⟨by omega, by omega, i2, i3, fun h => by omega, fun h => by omega, by omega⟩) (by show (hexS n).length + 2 - (i + 1).toNat < (hexS n).length + 2 - i.toNat; omega) (thXv (v := St' (hexS n)) rfl rfl (thXi (b := ((i + 1))) rfl rfl (by omega) (thXv (v := rwS (([] : List LB) ++ [(hexS n)])) rfl rfl (thNil)))) runSpl_p1
  unfold hySpl_p1
  exact hc (kRn (denX rfl)) <|
   hc (lnV rfl rfl (by omega)) <|
   hc (leT rfl rfl (by omega)) <|
   hc (eqXT rfl rfl (by omega)) <|
   hc (kMid (P := 0) (Q := i) (isX rfl) (.inr ⟨_, _, rfl, (isZ (m := 0) rfl)⟩) (.inr ⟨_, _, rfl, (isX rfl)⟩) (by omega) (by omega) (by omega) (denX (congrArg (fun l => St' l) (spl_mid (by omega))))) <|
   hc (kRa (isX rfl) (isX rfl) (denX rfl)) <|
   hc (kRf (isX rfl) (by first | omega | (simp <;> omega)) (by first | omega | (simp <;> omega))) <|
   hc (adC rfl rfl (by omega)) <|
   hnil
def hySpl_p2 : LK := [(.rn, .x 2000001), (.len (.x 0), .x 2), (.bin .leq (.x 1) (.x 2), .b false)]
theorem runSpl_p2 : RNSpl_1 hySpl_p2 (.exit 0) [(2000000, .x 2000000)] [(80, 80)] 100 [(5, .sr 80)] [(80, .r 2000000 9 1 false)] = true := by kernel_rfl
def nuESpl_0 (n : Int) : List Value := []
def roESpl_0 (n : Int) : List Value := [rwS (([] : List LB) ++ [(hexS n)])]
noncomputable def ESpl_0 (n : Int) : Cx := cx (nuX (nuESpl_0 n) (rX (roESpl_0 n) (fun _ => .bool true))) (nuX_one (nuL_one (l := nuESpl_0 n) rfl)) 3 laidE laidE_stab
theorem roundsSpl_0 (n : Int) (st : Nat × Int) (X : Nat → Value) (hI : InvSpl n st) : RHSpl n (ESpl_0 n) (.exit 0) [(5, .sr 80)] [(80, .r 2000000 9 1 false)] st X := by
  obtain ⟨tag, i⟩ := st
  have hI0 := hI
  obtain ⟨i0, i1, i2, i3, i4, i5, it⟩ := unISpl n tag i hI
  rcases (show tag = 0 ∨ tag = 1 from by omega) with rfl | rfl
  · skip
    have hl3 := hexS_len (n := n)
    by_cases h1 : i = ((hexS n).length : Int)
    · exact nxSpl_p1 n i X hI0 h1
    · exact nxSpl_p0 n i X hI0 h1
  · skip
    have hl3 := hexS_len (n := n)
    skip
    have hl3 := hexS_len (n := n)
    refine lvSpl_1 n i (h := hySpl_p2) rfl ?_ (thXv (v := rwS (([] : List LB) ++ [(hexS n)])) rfl rfl (thNil)) runSpl_p2
    unfold hySpl_p2
    exact hc (kRn (denX rfl)) <|
     hc (lnV rfl rfl (by omega)) <|
     hc (leF rfl rfl (by omega)) <|
     hnil
theorem lfOkSpl_0 {l : LF} {h : LH} (n : Int) (st : Nat × Int) (hI : InvSpl n st) (hl : l.hp = some h) (hs : lfSame l h 35 keepSpl (.exit 0) 3 80 100 = true) {th0 : LA} {sg0 : List (Nat × Nat)} (hth0 : ∀ X, ThOk (cx nu one 3 laidE laidE_stab) (DSpl n st X) th0) (h0 : startOk l h 35 80 81 th0 sg0 (epSpl st) (hpSpl st) = true) {thx : LA} (hthx : ThOk (ESpl_0 n) (cx nu one 3 laidE laidE_stab) thx) (hx : exitOk l h 35 80 100 thx [(5, .sr 80)] [(80, .r 2000000 9 1 false)] = true) : LfOk (cx nu one 3 laidE laidE_stab) bodySpl l :=
  lfOkX (E := ESpl_0 n) (InvSpl n) (muSpl n) (DSpl n) (fun _ _ => rfl) (fun _ _ => rfl) (fun _ _ => rfl) (fun st X t ht => nuX_keep.trans (rX_keep ((by decide : ∀ t, t ∈ keepSpl → t < 1000000) t ht))) rfl rfl rfl hl hs ebSpl rfl rfl st hI hth0 h0 hthx hx (roundsSpl_0 n)
end Go.Proofs.YtmeiihmfamaphaaDoor.replyChunks
