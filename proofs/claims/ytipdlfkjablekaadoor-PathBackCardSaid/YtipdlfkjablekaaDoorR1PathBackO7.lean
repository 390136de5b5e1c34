/- A part of the proof: an interpreter of the model's own code on partly known states, and that what it answers is what the program answers. No condition of its own. -/
import Derived.Test.YtipdlfkjablekaaDoorR1PathBackO6
set_option maxRecDepth 100000
set_option linter.unusedVariables false
set_option linter.unusedSimpArgs false
set_option maxHeartbeats 4000000
namespace Go.Proofs.YtipdlfkjablekaaDoor.pathBack
open Go Go.AX Go.Proofs Go.Proofs.YtipdlfkjablekaaDoor
variable {nu : Nat → Value} {one : ∀ i, i < 1000000 → (nu i).oneCell' = true} {E' : Cx} {x' : Ex} {e' : LA} {h' : LE}
noncomputable def bodySg93 : Code := loopNo (Tryd.f29.body.getD .skip) 1
theorem keySg93 : oneKey (loopsOf (Tryd.f29.body.getD .skip)) 5 1 0 = true := by kernel_rfl
def keepSg93 : List Nat := []
def epSg93_0 : LA := [(0, .yl 97), (1, .p 95 0), (2, .p 94 0), (3, .p 96 0), (9, .s 1 47)]
def hpSg93_0 : LE := [(93, .b ⟨28, .l [.nils], 0, 0, 0, false, false⟩), (94, .b ⟨9, .l [.x 0], 0, 0, 0, false, false⟩), (95, .b ⟨9, .l [.s 1 47], 0, 0, 0, false, false⟩), (96, .b ⟨3, .l [.i .i64 (.ofNat 0)], 0, 0, 0, false, false⟩), (97, .k 7 [(3, .p 93 0)] 15 0 .normal)]
def nuSg93_0 (To : List LB) (Tr r : LB) (o : List LB) : List Value := [St' r, .int .i64 (idxB r 47), .int .i64 ((idxB r 47)), St' (List.take (Int.toNat ((idxB r 47))) r), .int .i64 ((idxB r 47) + 1), St' (List.drop (Int.toNat ((idxB r 47) + 1)) r), .int .i64 (idxB r 47), .int .i64 ((idxB r 47)), St' (List.take (Int.toNat ((idxB r 47))) r), .int .i64 ((idxB r 47) + 1), St' (List.drop (Int.toNat ((idxB r 47) + 1)) r), .int .i64 (idxB r 47), St' (List.take (Int.toNat (0)) r), St' (List.drop (Int.toNat (1)) r)]
def roSg93_0 (To : List LB) (Tr r : LB) (o : List LB) : List Value := [rwS ([] : List LB), rwS (([] : List LB) ++ [(List.take (Int.toNat ((idxB r 47))) r)]), rwS ([] : List LB), rwS ([] : List LB), rwS ([] : List LB)]
def epSg93_1 : LA := [(0, .yl 97), (1, .p 95 0), (2, .p 94 0), (3, .p 96 0), (9, .s 1 47)]
def hpSg93_1 : LE := [(93, .b ⟨28, .l [.sr 98], 0, 0, 0, false, false⟩), (94, .b ⟨9, .l [.x 0], 0, 0, 0, false, false⟩), (95, .b ⟨9, .l [.s 1 47], 0, 0, 0, false, false⟩), (96, .b ⟨3, .l [.i .i64 (.ofNat 0)], 0, 0, 0, false, false⟩), (97, .k 7 [(3, .p 93 0)] 15 0 .normal), (98, .r 2000000 9 1 false)]
def nuSg93_1 (To : List LB) (Tr r : LB) (o : List LB) : List Value := [St' r, .int .i64 (idxB r 47), .int .i64 ((idxB r 47)), St' (List.take (Int.toNat ((idxB r 47))) r), .int .i64 ((idxB r 47) + 1), St' (List.drop (Int.toNat ((idxB r 47) + 1)) r), .int .i64 (idxB r 47), .int .i64 ((idxB r 47)), St' (List.take (Int.toNat ((idxB r 47))) r), .int .i64 ((idxB r 47) + 1), St' (List.drop (Int.toNat ((idxB r 47) + 1)) r), .int .i64 (idxB r 47), St' (List.take (Int.toNat (0)) r), St' (List.drop (Int.toNat (1)) r)]
def roSg93_1 (To : List LB) (Tr r : LB) (o : List LB) : List Value := [rwS o, rwS ([] : List LB), rwS (o ++ [(List.take (Int.toNat ((idxB r 47))) r)]), rwS ([] : List LB), rwS ([] : List LB), rwS ([] : List LB)]
def epSg93 (st : Nat × LB × List LB) : LA := if st.1 = 0 then epSg93_0 else epSg93_1
def hpSg93 (st : Nat × LB × List LB) : LE := if st.1 = 0 then hpSg93_0 else hpSg93_1
def nuSg93 (To : List LB) (Tr : LB) (st : Nat × LB × List LB) : List Value := if st.1 = 0 then nuSg93_0 To Tr (st.2.1) (st.2.2) else nuSg93_1 To Tr (st.2.1) (st.2.2)
def roSg93 (To : List LB) (Tr : LB) (st : Nat × LB × List LB) : List Value := if st.1 = 0 then roSg93_0 To Tr (st.2.1) (st.2.2) else roSg93_1 To Tr (st.2.1) (st.2.2)
theorem onSg93 (To : List LB) (Tr : LB) (st : Nat × LB × List LB) : ∀ j, (nuL (nuSg93 To Tr st) j).oneCell' = true := by
  intro j
  unfold nuSg93
  by_cases g0 : st.1 = 0
  · rw [if_pos g0]; exact nuL_one (l := nuSg93_0 To Tr (st.2.1) (st.2.2)) rfl j
  rw [if_neg g0]
  exact nuL_one (l := nuSg93_1 To Tr (st.2.1) (st.2.2)) rfl j
theorem ebSg93 (st : Nat × LB × List LB) : (lfB (epSg93 st) && lfC keepSg93) = true := by
  unfold epSg93
  by_cases g0 : st.1 = 0
  · rw [if_pos g0]; rfl
  rw [if_neg g0]
  rfl
noncomputable def DSg93 (To : List LB) (Tr : LB) (st : Nat × LB × List LB) (X : Nat → Value) : Cx := cx (nuX (nuSg93 To Tr st) (rX (roSg93 To Tr st) X)) (nuX_one (onSg93 To Tr st)) 0 laidE laidE_stab
def InvSg93 (To : List LB) (Tr : LB) (st : Nat × LB × List LB) : Prop := ((st.2.2) ++ sgL (sp47 [] (st.2.1)) = To) ∧ (lsP (sp47 [] (st.2.1)) = Tr) ∧ ((st.2.1).length ≤ 1000000) ∧ ((st.2.2).length + (st.2.1).length ≤ 1000001) ∧ ((st.1) = 0 → (st.2.2) = []) ∧ ((st.1) = 1 → 1 ≤ (st.2.2).length) ∧ ((st.1) < 2)
abbrev CjSg93 (To : List LB) (Tr : LB) (tag : Nat) (r : LB) (o : List LB) : Prop := (o ++ sgL (sp47 [] r) = To) ∧ (lsP (sp47 [] r) = Tr) ∧ (r.length ≤ 1000000) ∧ (o.length + r.length ≤ 1000001) ∧ (tag = 0 → o = []) ∧ (tag = 1 → 1 ≤ o.length) ∧ (tag < 2)
theorem mkISg93 (To : List LB) (Tr : LB) (tag : Nat) (r : LB) (o : List LB) (h : CjSg93 To Tr tag r o) : InvSg93 To Tr (tag, r, o) := h
theorem unISg93 (To : List LB) (Tr : LB) (tag : Nat) (r : LB) (o : List LB) (h : InvSg93 To Tr (tag, r, o)) : (o ++ sgL (sp47 [] r) = To) ∧ (lsP (sp47 [] r) = Tr) ∧ (r.length ≤ 1000000) ∧ (o.length + r.length ≤ 1000001) ∧ (tag = 0 → o = []) ∧ (tag = 1 → 1 ≤ o.length) ∧ (tag < 2) := h
def muSg93 (To : List LB) (Tr : LB) (st : Nat × LB × List LB) : Nat := (st.2.1).length
abbrev RHSg93 (To : List LB) (Tr : LB) (E' : Cx) (ex' : Ex) (epx' : LA) (hpx' : LE) (st : Nat × LB × List LB) (X : Nat → Value) : Prop := RoundH E' bodySg93 keepSg93 52 ex' 3 98 99 110 epSg93 hpSg93 epx' hpx' (InvSg93 To Tr) (muSg93 To Tr) (DSg93 To Tr) st X
noncomputable abbrev RNSg93_0 (h : LK) (x : Ex) (th : LA) (sg : List (Nat × Nat)) (m : Nat) (ep : LA) (hp : LE) : Bool := okRdH (code (tbl h) 2000 [] bodySg93 (envOf (headOf epSg93_0 keepSg93) 52) ⟨lhSet hpSg93_0 .leaf, 99, 0, 0⟩) x keepSg93 52 110 th sg 98 m ep hp
theorem stSg93_0 (To : List LB) (Tr r : LB) (o : List LB) {X : Nat → Value} {h : LK} (y : Nat × LB × List LB) {th : LA} {sg : List (Nat × Nat)} (ho : ∀ a' r', (a', r') ∈ h → HOk (cx (nuX (nuSg93_0 To Tr r o) (rX (roSg93_0 To Tr r o) X)) (nuX_one (nuL_one (l := nuSg93_0 To Tr r o) rfl)) 0 laidE laidE_stab) a' r') (hy : InvSg93 To Tr y) (lt : muSg93 To Tr y < muSg93 To Tr (0, r, o)) (ht : ThOk (cx (nuX (nuSg93_0 To Tr r o) (rX (roSg93_0 To Tr r o) X)) (nuX_one (nuL_one (l := nuSg93_0 To Tr r o) rfl)) 0 laidE laidE_stab) (DSg93 To Tr y X) th) (run : RNSg93_0 h .normal th sg 99 (epSg93 y) (hpSg93 y) = true) : RHSg93 To Tr E' x' e' h' (0, r, o) X :=
  RoundH.next (tb := tbl h) (L := []) (f := 2000) y ((tabkOk _ _).hyps ho) (LpOk.nil _) rfl hy lt ht run
theorem lvSg93_0 (To : List LB) (Tr r : LB) (o : List LB) {X : Nat → Value} {h : LK} {th : LA} {sg : List (Nat × Nat)} (hne : exB x' .normal = false) (ho : ∀ a' r', (a', r') ∈ h → HOk (cx (nuX (nuSg93_0 To Tr r o) (rX (roSg93_0 To Tr r o) X)) (nuX_one (nuL_one (l := nuSg93_0 To Tr r o) rfl)) 0 laidE laidE_stab) a' r') (ht : ThOk (cx (nuX (nuSg93_0 To Tr r o) (rX (roSg93_0 To Tr r o) X)) (nuX_one (nuL_one (l := nuSg93_0 To Tr r o) rfl)) 0 laidE laidE_stab) E' th) (run : RNSg93_0 h x' th sg 110 e' h' = true) : RHSg93 To Tr E' x' e' h' (0, r, o) X :=
  RoundH.leave (tb := tbl h) (L := []) (f := 2000) ((tabkOk _ _).hyps ho) (LpOk.nil _) rfl hne ht run
noncomputable abbrev RNSg93_1 (h : LK) (x : Ex) (th : LA) (sg : List (Nat × Nat)) (m : Nat) (ep : LA) (hp : LE) : Bool := okRdH (code (tbl h) 2000 [] bodySg93 (envOf (headOf epSg93_1 keepSg93) 52) ⟨lhSet hpSg93_1 .leaf, 99, 0, 0⟩) x keepSg93 52 110 th sg 98 m ep hp
theorem stSg93_1 (To : List LB) (Tr r : LB) (o : List LB) {X : Nat → Value} {h : LK} (y : Nat × LB × List LB) {th : LA} {sg : List (Nat × Nat)} (ho : ∀ a' r', (a', r') ∈ h → HOk (cx (nuX (nuSg93_1 To Tr r o) (rX (roSg93_1 To Tr r o) X)) (nuX_one (nuL_one (l := nuSg93_1 To Tr r o) rfl)) 0 laidE laidE_stab) a' r') (hy : InvSg93 To Tr y) (lt : muSg93 To Tr y < muSg93 To Tr (1, r, o)) (ht : ThOk (cx (nuX (nuSg93_1 To Tr r o) (rX (roSg93_1 To Tr r o) X)) (nuX_one (nuL_one (l := nuSg93_1 To Tr r o) rfl)) 0 laidE laidE_stab) (DSg93 To Tr y X) th) (run : RNSg93_1 h .normal th sg 99 (epSg93 y) (hpSg93 y) = true) : RHSg93 To Tr E' x' e' h' (1, r, o) X :=
  RoundH.next (tb := tbl h) (L := []) (f := 2000) y ((tabkOk _ _).hyps ho) (LpOk.nil _) rfl hy lt ht run
theorem lvSg93_1 (To : List LB) (Tr r : LB) (o : List LB) {X : Nat → Value} {h : LK} {th : LA} {sg : List (Nat × Nat)} (hne : exB x' .normal = false) (ho : ∀ a' r', (a', r') ∈ h → HOk (cx (nuX (nuSg93_1 To Tr r o) (rX (roSg93_1 To Tr r o) X)) (nuX_one (nuL_one (l := nuSg93_1 To Tr r o) rfl)) 0 laidE laidE_stab) a' r') (ht : ThOk (cx (nuX (nuSg93_1 To Tr r o) (rX (roSg93_1 To Tr r o) X)) (nuX_one (nuL_one (l := nuSg93_1 To Tr r o) rfl)) 0 laidE laidE_stab) E' th) (run : RNSg93_1 h x' th sg 110 e' h' = true) : RHSg93 To Tr E' x' e' h' (1, r, o) X :=
  RoundH.leave (tb := tbl h) (L := []) (f := 2000) ((tabkOk _ _).hyps ho) (LpOk.nil _) rfl hne ht run
def hySg93_p0 : LK := [(.rn, .x 2000000), (.bin .eql (.s 1 47) (.x 0), .b false), (.ext 46 [.x 0, .i .u8 (.ofNat 47)], .x 1), (.bin .lss (.x 1) (.i .i64 (.ofNat 0)), .b false), (.bin .add (.x 1) (.i .i64 (.ofNat 0)), .x 2), (.sub (.x 0) none (some (.x 2)), .x 3), (.bin .neq (.x 3) (.s 0 0), .b true), (.ra (.x 2000000) [.x 3], .x 2000001), (.rf (.x 2000001) 1 16, .b true), (.bin .add (.x 1) (.i .i64 (.ofNat 1)), .x 4), (.sub (.x 0) (some (.x 4)) none, .x 5)]
theorem runSg93_p0 : RNSg93_0 hySg93_p0 .normal [(0, .x 5), (2000000, .x 2000001)] [(98, 100)] 99 epSg93_1 hpSg93_1 = true := by kernel_rfl
theorem nxSg93_p0 (To : List LB) (Tr : LB) (r : LB) (o : List LB) (X : Nat → Value) (hI : InvSg93 To Tr (0, r, o)) (h0 : ¬ ([u8 47] = r)) (h1 : ¬ (idxB r 47 < 0)) (h2 : ¬ ((idxB r 47) = 0)) : RHSg93 To Tr E' x' e' h' (0, r, o) X := by
  obtain ⟨i0, i1, i2, i3, i4, i5, it⟩ := unISg93 To Tr 0 r o hI
  have := ix_bd r 47
  have := lenTake (l := r) (Q := (idxB r 47)) (by omega) (by omega)
  have := lenDrop (l := r) (P := (idxB r 47) + 1) (by omega) (by omega)
  refine stSg93_0 To Tr r o (h := hySg93_p0) (1, (List.drop (Int.toNat ((idxB r 47) + 1)) r), (([] : List LB) ++ [(List.take (Int.toNat ((idxB r 47))) r)])) ?_ (mkISg93 To Tr 1 (List.drop (Int.toNat ((idxB r 47) + 1)) r) (([] : List LB) ++ [(List.take (Int.toNat ((idxB r 47))) r)]) ⟨sg_1 (o := []) (by omega) (tkn (by omega) (by omega)) (show [] ++ sgL (sp47 [] r) = To from by have e := i0; rw [i4 rfl] at e; exact e), sg_l (by omega) i1, by rw [List.length_drop]; omega, by first | omega | (simp only [List.length_append, List.length_cons, List.length_nil, List.length_drop]; omega), fun h => by omega, fun _ => by simp, by omega⟩) (by show (List.drop _ r).length < r.length; rw [List.length_drop]; omega) (thXv (v := St' (List.drop (Int.toNat ((idxB r 47) + 1)) r)) rfl rfl (thXv (v := rwS (([] : List LB) ++ [(List.take (Int.toNat ((idxB r 47))) r)])) rfl rfl (thNil))) runSg93_p0
  unfold hySg93_p0
  exact hc (kRn (denX rfl)) <|
   hc (kEqS (isSx (l := [u8 47]) 1 47 rfl) (isX rfl) (decide_eq_false (by assumption))) <|
   hc (kExtI (n := idxB r 47) exFIx exAIx exBIx (isX rfl) (isZ (m := 47) rfl) (denX rfl) rfl) <|
   hc (ltcF rfl (by omega)) <|
   hc (adC rfl rfl (by omega)) <|
   hc (tkV rfl rfl rfl (by omega)) <|
   hc (kNeS (isX rfl) (isSx (l := ([] : LB)) 0 0 rfl) (bnT (nilF (by omega)))) <|
   hc (kRa (isX rfl) (isX rfl) (denX rfl)) <|
   hc (kRf (isX rfl) (by first | omega | (simp <;> omega)) (by first | omega | (simp <;> omega))) <|
   hc (adC rfl rfl (by omega)) <|
   hc (drV rfl rfl rfl (by omega)) <|
   hnil
def hySg93_p1 : LK := [(.rn, .x 2000002), (.bin .eql (.s 1 47) (.x 0), .b false), (.ext 46 [.x 0, .i .u8 (.ofNat 47)], .x 6), (.bin .lss (.x 6) (.i .i64 (.ofNat 0)), .b false), (.bin .add (.x 6) (.i .i64 (.ofNat 0)), .x 7), (.sub (.x 0) none (some (.x 7)), .x 8), (.bin .neq (.x 8) (.s 0 0), .b false), (.bin .add (.x 6) (.i .i64 (.ofNat 1)), .x 9), (.sub (.x 0) (some (.x 9)) none, .x 10)]
theorem runSg93_p1 : RNSg93_0 hySg93_p1 .normal [(0, .x 10)] [] 99 epSg93_0 hpSg93_0 = true := by kernel_rfl
theorem nxSg93_p1 (To : List LB) (Tr : LB) (r : LB) (o : List LB) (X : Nat → Value) (hI : InvSg93 To Tr (0, r, o)) (h0 : ¬ ([u8 47] = r)) (h1 : ¬ (idxB r 47 < 0)) (h2 : (idxB r 47) = 0) : RHSg93 To Tr E' x' e' h' (0, r, o) X := by
  obtain ⟨i0, i1, i2, i3, i4, i5, it⟩ := unISg93 To Tr 0 r o hI
  have := ix_bd r 47
  have := lenTake (l := r) (Q := (idxB r 47)) (by omega) (by omega)
  have := lenDrop (l := r) (P := (idxB r 47) + 1) (by omega) (by omega)
  refine stSg93_0 To Tr r o (h := hySg93_p1) (0, (List.drop (Int.toNat ((idxB r 47) + 1)) r), ([] : List LB)) ?_ (mkISg93 To Tr 0 (List.drop (Int.toNat ((idxB r 47) + 1)) r) ([] : List LB) ⟨sg_0 (o := []) (by omega) (tk0 (by omega)) (show [] ++ sgL (sp47 [] r) = To from by have e := i0; rw [i4 rfl] at e; exact e), sg_l (by omega) i1, by rw [List.length_drop]; omega, by first | omega | (simp only [List.length_append, List.length_cons, List.length_nil, List.length_drop]; omega), fun _ => rfl, fun h => by omega, by omega⟩) (by show (List.drop _ r).length < r.length; rw [List.length_drop]; omega) (thXv (v := St' (List.drop (Int.toNat ((idxB r 47) + 1)) r)) rfl rfl (thNil)) runSg93_p1
  unfold hySg93_p1
  exact hc (kRn (denX rfl)) <|
   hc (kEqS (isSx (l := [u8 47]) 1 47 rfl) (isX rfl) (decide_eq_false (by assumption))) <|
   hc (kExtI (n := idxB r 47) exFIx exAIx exBIx (isX rfl) (isZ (m := 47) rfl) (denX rfl) rfl) <|
   hc (ltcF rfl (by omega)) <|
   hc (adC rfl rfl (by omega)) <|
   hc (tkV rfl rfl rfl (by omega)) <|
   hc (kNeS (isX rfl) (isSx (l := ([] : LB)) 0 0 rfl) (bnF (nilT (by omega)))) <|
   hc (adC rfl rfl (by omega)) <|
   hc (drV rfl rfl rfl (by omega)) <|
   hnil
def hySg93_p2 : LK := [(.rn, .x 2000003), (.bin .eql (.s 1 47) (.x 0), .b false), (.ext 46 [.x 0, .i .u8 (.ofNat 47)], .x 11), (.bin .lss (.x 11) (.i .i64 (.ofNat 0)), .b true)]
theorem runSg93_p2 : RNSg93_0 hySg93_p2 (.exit 2) [(0, .x 0)] [] 110 [(0, .yl 97), (2, .p 94 0)] [(93, .b ⟨28, .l [.nils], 0, 0, 0, false, false⟩), (94, .b ⟨9, .l [.x 0], 0, 0, 0, false, false⟩), (95, .b ⟨9, .l [.s 1 47], 0, 0, 0, false, false⟩), (96, .b ⟨3, .l [.i .i64 (.ofNat 0)], 0, 0, 0, false, false⟩), (97, .k 7 [(3, .p 93 0)] 15 0 .normal)] = true := by kernel_rfl
def hySg93_p3 : LK := [(.rn, .x 2000004), (.bin .eql (.s 1 47) (.x 0), .b true), (.sub (.x 0) none (some (.i .i64 (.ofNat 0))), .x 12), (.bin .neq (.x 12) (.s 0 0), .b false), (.sub (.x 0) (some (.i .i64 (.ofNat 1))) none, .x 13)]
theorem runSg93_p3 : RNSg93_0 hySg93_p3 .normal [(0, .x 13)] [] 99 epSg93_0 hpSg93_0 = true := by kernel_rfl
theorem nxSg93_p3 (To : List LB) (Tr : LB) (r : LB) (o : List LB) (X : Nat → Value) (hI : InvSg93 To Tr (0, r, o)) (h0 : [u8 47] = r) : RHSg93 To Tr E' x' e' h' (0, r, o) X := by
  obtain ⟨i0, i1, i2, i3, i4, i5, it⟩ := unISg93 To Tr 0 r o hI
  have hr1 := congrArg List.length (‹[u8 47] = r›); simp only [List.length_cons, List.length_nil] at hr1
  have := lenTake (l := r) (Q := 0) (by omega) (by omega)
  have := lenDrop (l := r) (P := 1) (by omega) (by omega)
  refine stSg93_0 To Tr r o (h := hySg93_p3) (0, (List.drop (Int.toNat (1)) r), ([] : List LB)) ?_ (mkISg93 To Tr 0 (List.drop (Int.toNat (1)) r) ([] : List LB) ⟨(sg_e (o := []) (by assumption) (show [] ++ sgL (sp47 [] r) = To from by have e := i0; rw [i4 rfl] at e; exact e) i1).1, (sg_e (by assumption) i0 i1).2, by rw [List.length_drop]; omega, by first | omega | (simp only [List.length_append, List.length_cons, List.length_nil, List.length_drop]; omega), fun _ => rfl, fun h => by omega, by omega⟩) (by have := congrArg List.length (‹[u8 47] = r›); simp only [List.length_cons, List.length_nil] at this; show (List.drop _ r).length < r.length; rw [List.length_drop]; omega) (thXv (v := St' (List.drop (Int.toNat (1)) r)) rfl rfl (thNil)) runSg93_p3
  unfold hySg93_p3
  exact hc (kRn (denX rfl)) <|
   hc (kEqS (isSx (l := [u8 47]) 1 47 rfl) (isX rfl) (decide_eq_true (by assumption))) <|
   hc (tkC rfl rfl (by omega)) <|
   hc (kNeS (isX rfl) (isSx (l := ([] : LB)) 0 0 rfl) (bnF (nilT (by omega)))) <|
   hc (drC rfl rfl (by omega)) <|
   hnil
def hySg93_p4 : LK := [(.rn, .x 2000001), (.bin .eql (.s 1 47) (.x 0), .b false), (.ext 46 [.x 0, .i .u8 (.ofNat 47)], .x 1), (.bin .lss (.x 1) (.i .i64 (.ofNat 0)), .b false), (.bin .add (.x 1) (.i .i64 (.ofNat 0)), .x 2), (.sub (.x 0) none (some (.x 2)), .x 3), (.bin .neq (.x 3) (.s 0 0), .b true), (.ra (.x 2000000) [.x 3], .x 2000002), (.rf (.x 2000002) 1 16, .b true), (.bin .add (.x 1) (.i .i64 (.ofNat 1)), .x 4), (.sub (.x 0) (some (.x 4)) none, .x 5)]
theorem runSg93_p4 : RNSg93_1 hySg93_p4 .normal [(0, .x 5), (2000000, .x 2000002)] [(98, 100)] 99 epSg93_1 hpSg93_1 = true := by kernel_rfl
theorem nxSg93_p4 (To : List LB) (Tr : LB) (r : LB) (o : List LB) (X : Nat → Value) (hI : InvSg93 To Tr (1, r, o)) (h0 : ¬ ([u8 47] = r)) (h1 : ¬ (idxB r 47 < 0)) (h2 : ¬ ((idxB r 47) = 0)) : RHSg93 To Tr E' x' e' h' (1, r, o) X := by
  obtain ⟨i0, i1, i2, i3, i4, i5, it⟩ := unISg93 To Tr 1 r o hI
  have := ix_bd r 47
  have := lenTake (l := r) (Q := (idxB r 47)) (by omega) (by omega)
  have := lenDrop (l := r) (P := (idxB r 47) + 1) (by omega) (by omega)
  refine stSg93_1 To Tr r o (h := hySg93_p4) (1, (List.drop (Int.toNat ((idxB r 47) + 1)) r), (o ++ [(List.take (Int.toNat ((idxB r 47))) r)])) ?_ (mkISg93 To Tr 1 (List.drop (Int.toNat ((idxB r 47) + 1)) r) (o ++ [(List.take (Int.toNat ((idxB r 47))) r)]) ⟨sg_1 (by omega) (tkn (by omega) (by omega)) i0, sg_l (by omega) i1, by rw [List.length_drop]; omega, by first | omega | (simp only [List.length_append, List.length_cons, List.length_nil, List.length_drop]; omega), fun h => by omega, fun _ => by simp, by omega⟩) (by show (List.drop _ r).length < r.length; rw [List.length_drop]; omega) (thXv (v := St' (List.drop (Int.toNat ((idxB r 47) + 1)) r)) rfl rfl (thXv (v := rwS (o ++ [(List.take (Int.toNat ((idxB r 47))) r)])) rfl rfl (thNil))) runSg93_p4
  unfold hySg93_p4
  exact hc (kRn (denX rfl)) <|
   hc (kEqS (isSx (l := [u8 47]) 1 47 rfl) (isX rfl) (decide_eq_false (by assumption))) <|
   hc (kExtI (n := idxB r 47) exFIx exAIx exBIx (isX rfl) (isZ (m := 47) rfl) (denX rfl) rfl) <|
   hc (ltcF rfl (by omega)) <|
   hc (adC rfl rfl (by omega)) <|
   hc (tkV rfl rfl rfl (by omega)) <|
   hc (kNeS (isX rfl) (isSx (l := ([] : LB)) 0 0 rfl) (bnT (nilF (by omega)))) <|
   hc (kRa (isX rfl) (isX rfl) (denX rfl)) <|
   hc (kRf (isX rfl) (by first | omega | (simp <;> omega)) (by first | omega | (simp <;> omega))) <|
   hc (adC rfl rfl (by omega)) <|
   hc (drV rfl rfl rfl (by omega)) <|
   hnil
def hySg93_p5 : LK := [(.rn, .x 2000003), (.bin .eql (.s 1 47) (.x 0), .b false), (.ext 46 [.x 0, .i .u8 (.ofNat 47)], .x 6), (.bin .lss (.x 6) (.i .i64 (.ofNat 0)), .b false), (.bin .add (.x 6) (.i .i64 (.ofNat 0)), .x 7), (.sub (.x 0) none (some (.x 7)), .x 8), (.bin .neq (.x 8) (.s 0 0), .b false), (.bin .add (.x 6) (.i .i64 (.ofNat 1)), .x 9), (.sub (.x 0) (some (.x 9)) none, .x 10)]
theorem runSg93_p5 : RNSg93_1 hySg93_p5 .normal [(0, .x 10), (2000000, .x 2000000)] [(98, 98)] 99 epSg93_1 hpSg93_1 = true := by kernel_rfl
theorem nxSg93_p5 (To : List LB) (Tr : LB) (r : LB) (o : List LB) (X : Nat → Value) (hI : InvSg93 To Tr (1, r, o)) (h0 : ¬ ([u8 47] = r)) (h1 : ¬ (idxB r 47 < 0)) (h2 : (idxB r 47) = 0) : RHSg93 To Tr E' x' e' h' (1, r, o) X := by
  obtain ⟨i0, i1, i2, i3, i4, i5, it⟩ := unISg93 To Tr 1 r o hI
  have := ix_bd r 47
  have := lenTake (l := r) (Q := (idxB r 47)) (by omega) (by omega)
  have := lenDrop (l := r) (P := (idxB r 47) + 1) (by omega) (by omega)
  refine stSg93_1 To Tr r o (h := hySg93_p5) (1, (List.drop (Int.toNat ((idxB r 47) + 1)) r), o) ?_ (mkISg93 To Tr 1 (List.drop (Int.toNat ((idxB r 47) + 1)) r) o ⟨sg_0 (by omega) (tk0 (by omega)) i0, sg_l (by omega) i1, by rw [List.length_drop]; omega, by first | omega | (simp only [List.length_append, List.length_cons, List.length_nil, List.length_drop]; omega), fun h => by omega, fun _ => i5 rfl, by omega⟩) (by show (List.drop _ r).length < r.length; rw [List.length_drop]; omega) (thXv (v := St' (List.drop (Int.toNat ((idxB r 47) + 1)) r)) rfl rfl (thXv (v := rwS o) rfl rfl (thNil))) runSg93_p5
  unfold hySg93_p5
  exact hc (kRn (denX rfl)) <|
   hc (kEqS (isSx (l := [u8 47]) 1 47 rfl) (isX rfl) (decide_eq_false (by assumption))) <|
   hc (kExtI (n := idxB r 47) exFIx exAIx exBIx (isX rfl) (isZ (m := 47) rfl) (denX rfl) rfl) <|
   hc (ltcF rfl (by omega)) <|
   hc (adC rfl rfl (by omega)) <|
   hc (tkV rfl rfl rfl (by omega)) <|
   hc (kNeS (isX rfl) (isSx (l := ([] : LB)) 0 0 rfl) (bnF (nilT (by omega)))) <|
   hc (adC rfl rfl (by omega)) <|
   hc (drV rfl rfl rfl (by omega)) <|
   hnil
def hySg93_p6 : LK := [(.rn, .x 2000004), (.bin .eql (.s 1 47) (.x 0), .b false), (.ext 46 [.x 0, .i .u8 (.ofNat 47)], .x 11), (.bin .lss (.x 11) (.i .i64 (.ofNat 0)), .b true)]
theorem runSg93_p6 : RNSg93_1 hySg93_p6 (.exit 2) [(0, .x 0), (2000000, .x 2000000)] [(98, 98)] 110 [(0, .yl 97), (2, .p 94 0)] [(93, .b ⟨28, .l [.sr 98], 0, 0, 0, false, false⟩), (94, .b ⟨9, .l [.x 0], 0, 0, 0, false, false⟩), (95, .b ⟨9, .l [.s 1 47], 0, 0, 0, false, false⟩), (96, .b ⟨3, .l [.i .i64 (.ofNat 0)], 0, 0, 0, false, false⟩), (97, .k 7 [(3, .p 93 0)] 15 0 .normal), (98, .r 2000000 9 1 false)] = true := by kernel_rfl
def hySg93_p7 : LK := [(.rn, .x 2000005), (.bin .eql (.s 1 47) (.x 0), .b true), (.sub (.x 0) none (some (.i .i64 (.ofNat 0))), .x 12), (.bin .neq (.x 12) (.s 0 0), .b false), (.sub (.x 0) (some (.i .i64 (.ofNat 1))) none, .x 13)]
theorem runSg93_p7 : RNSg93_1 hySg93_p7 .normal [(0, .x 13), (2000000, .x 2000000)] [(98, 98)] 99 epSg93_1 hpSg93_1 = true := by kernel_rfl
theorem nxSg93_p7 (To : List LB) (Tr : LB) (r : LB) (o : List LB) (X : Nat → Value) (hI : InvSg93 To Tr (1, r, o)) (h0 : [u8 47] = r) : RHSg93 To Tr E' x' e' h' (1, r, o) X := by
  obtain ⟨i0, i1, i2, i3, i4, i5, it⟩ := unISg93 To Tr 1 r o hI
  have hr1 := congrArg List.length (‹[u8 47] = r›); simp only [List.length_cons, List.length_nil] at hr1
  have := lenTake (l := r) (Q := 0) (by omega) (by omega)
  have := lenDrop (l := r) (P := 1) (by omega) (by omega)
  refine stSg93_1 To Tr r o (h := hySg93_p7) (1, (List.drop (Int.toNat (1)) r), o) ?_ (mkISg93 To Tr 1 (List.drop (Int.toNat (1)) r) o ⟨(sg_e (by assumption) i0 i1).1, (sg_e (by assumption) i0 i1).2, by rw [List.length_drop]; omega, by first | omega | (simp only [List.length_append, List.length_cons, List.length_nil, List.length_drop]; omega), fun h => by omega, fun _ => i5 rfl, by omega⟩) (by have := congrArg List.length (‹[u8 47] = r›); simp only [List.length_cons, List.length_nil] at this; show (List.drop _ r).length < r.length; rw [List.length_drop]; omega) (thXv (v := St' (List.drop (Int.toNat (1)) r)) rfl rfl (thXv (v := rwS o) rfl rfl (thNil))) runSg93_p7
  unfold hySg93_p7
  exact hc (kRn (denX rfl)) <|
   hc (kEqS (isSx (l := [u8 47]) 1 47 rfl) (isX rfl) (decide_eq_true (by assumption))) <|
   hc (tkC rfl rfl (by omega)) <|
   hc (kNeS (isX rfl) (isSx (l := ([] : LB)) 0 0 rfl) (bnF (nilT (by omega)))) <|
   hc (drC rfl rfl (by omega)) <|
   hnil
def nuESg93_0 (To : List LB) (Tr : LB) : List Value := [St' Tr]
def roESg93_0 (To : List LB) (Tr : LB) : List Value := []
noncomputable def ESg93_0 (To : List LB) (Tr : LB) : Cx := cx (nuX (nuESg93_0 To Tr) (rX (roESg93_0 To Tr) (fun _ => .bool true))) (nuX_one (nuL_one (l := nuESg93_0 To Tr) rfl)) 0 laidE laidE_stab
theorem roundsSg93_0 (To : List LB) (Tr : LB) (x0 : To.length = 0) (st : Nat × LB × List LB) (X : Nat → Value) (hI : InvSg93 To Tr st) : RHSg93 To Tr (ESg93_0 To Tr) (.exit 2) [(0, .yl 97), (2, .p 94 0)] [(93, .b ⟨28, .l [.nils], 0, 0, 0, false, false⟩), (94, .b ⟨9, .l [.x 0], 0, 0, 0, false, false⟩), (95, .b ⟨9, .l [.s 1 47], 0, 0, 0, false, false⟩), (96, .b ⟨3, .l [.i .i64 (.ofNat 0)], 0, 0, 0, false, false⟩), (97, .k 7 [(3, .p 93 0)] 15 0 .normal)] st X := by
  obtain ⟨tag, r, o⟩ := st
  have hI0 := hI
  obtain ⟨i0, i1, i2, i3, i4, i5, it⟩ := unISg93 To Tr tag r o hI
  rcases (show tag = 0 ∨ tag = 1 from by omega) with rfl | rfl
  · skip
    by_cases h0 : [u8 47] = r
    · exact nxSg93_p3 To Tr r o X hI0 h0
    · by_cases h1 : idxB r 47 < 0
      · skip
        have := ix_bd r 47
        refine lvSg93_0 To Tr r o (h := hySg93_p2) rfl ?_ (thXe (v := St' r) (u := St' Tr) rfl rfl (congrArg (fun l => St' l) (sg_r (by omega) i1)) (thNil)) runSg93_p2
        unfold hySg93_p2
        exact hc (kRn (denX rfl)) <|
         hc (kEqS (isSx (l := [u8 47]) 1 47 rfl) (isX rfl) (decide_eq_false (by assumption))) <|
         hc (kExtI (n := idxB r 47) exFIx exAIx exBIx (isX rfl) (isZ (m := 47) rfl) (denX rfl) rfl) <|
         hc (ltcT rfl (by omega)) <|
         hnil
      · by_cases h2 : (idxB r 47) = 0
        · exact nxSg93_p1 To Tr r o X hI0 h0 h1 h2
        · exact nxSg93_p0 To Tr r o X hI0 h0 h1 h2
  · skip
    by_cases h0 : [u8 47] = r
    · exact nxSg93_p7 To Tr r o X hI0 h0
    · by_cases h1 : idxB r 47 < 0
      · exfalso; have e := congrArg List.length (sg_o (by omega) i0); have := i5 rfl; omega
      · by_cases h2 : (idxB r 47) = 0
        · exact nxSg93_p5 To Tr r o X hI0 h0 h1 h2
        · exact nxSg93_p4 To Tr r o X hI0 h0 h1 h2
theorem lfOkSg93_0 {l : LF} {h : LH} (To : List LB) (Tr : LB) (x0 : To.length = 0) (st : Nat × LB × List LB) (hI : InvSg93 To Tr st) (hl : l.hp = some h) (hs : lfSame l h 52 keepSg93 (.exit 2) 3 98 110 = true) {th0 : LA} {sg0 : List (Nat × Nat)} (hth0 : ∀ X, ThOk (cx nu one 0 laidE laidE_stab) (DSg93 To Tr st X) th0) (h0 : startOk l h 52 98 99 th0 sg0 (epSg93 st) (hpSg93 st) = true) {thx : LA} (hthx : ThOk (ESg93_0 To Tr) (cx nu one 0 laidE laidE_stab) thx) (hx : exitOk l h 52 98 110 thx [(0, .yl 97), (2, .p 94 0)] [(93, .b ⟨28, .l [.nils], 0, 0, 0, false, false⟩), (94, .b ⟨9, .l [.x 0], 0, 0, 0, false, false⟩), (95, .b ⟨9, .l [.s 1 47], 0, 0, 0, false, false⟩), (96, .b ⟨3, .l [.i .i64 (.ofNat 0)], 0, 0, 0, false, false⟩), (97, .k 7 [(3, .p 93 0)] 15 0 .normal)] = true) : LfOk (cx nu one 0 laidE laidE_stab) bodySg93 l :=
  lfOkX (E := ESg93_0 To Tr) (InvSg93 To Tr) (muSg93 To Tr) (DSg93 To Tr) (fun _ _ => rfl) (fun _ _ => rfl) (fun _ _ => rfl) (fun st X t ht => nuX_keep.trans (rX_keep ((by decide : ∀ t, t ∈ keepSg93 → t < 1000000) t ht))) rfl rfl rfl hl hs ebSg93 rfl rfl st hI hth0 h0 hthx hx (roundsSg93_0 To Tr x0)
def nuESg93_1 (To : List LB) (Tr : LB) : List Value := [St' Tr]
def roESg93_1 (To : List LB) (Tr : LB) : List Value := [rwS To]
noncomputable def ESg93_1 (To : List LB) (Tr : LB) : Cx := cx (nuX (nuESg93_1 To Tr) (rX (roESg93_1 To Tr) (fun _ => .bool true))) (nuX_one (nuL_one (l := nuESg93_1 To Tr) rfl)) 0 laidE laidE_stab
theorem roundsSg93_1 (To : List LB) (Tr : LB) (x0 : ¬ To.length = 0) (st : Nat × LB × List LB) (X : Nat → Value) (hI : InvSg93 To Tr st) : RHSg93 To Tr (ESg93_1 To Tr) (.exit 2) [(0, .yl 97), (2, .p 94 0)] [(93, .b ⟨28, .l [.sr 98], 0, 0, 0, false, false⟩), (94, .b ⟨9, .l [.x 0], 0, 0, 0, false, false⟩), (95, .b ⟨9, .l [.s 1 47], 0, 0, 0, false, false⟩), (96, .b ⟨3, .l [.i .i64 (.ofNat 0)], 0, 0, 0, false, false⟩), (97, .k 7 [(3, .p 93 0)] 15 0 .normal), (98, .r 2000000 9 1 false)] st X := by
  obtain ⟨tag, r, o⟩ := st
  have hI0 := hI
  obtain ⟨i0, i1, i2, i3, i4, i5, it⟩ := unISg93 To Tr tag r o hI
  rcases (show tag = 0 ∨ tag = 1 from by omega) with rfl | rfl
  · skip
    by_cases h0 : [u8 47] = r
    · exact nxSg93_p3 To Tr r o X hI0 h0
    · by_cases h1 : idxB r 47 < 0
      · exfalso; have e := congrArg List.length (sg_o (by omega) i0); rw [i4 rfl] at e; exact x0 e.symm
      · by_cases h2 : (idxB r 47) = 0
        · exact nxSg93_p1 To Tr r o X hI0 h0 h1 h2
        · exact nxSg93_p0 To Tr r o X hI0 h0 h1 h2
  · skip
    by_cases h0 : [u8 47] = r
    · exact nxSg93_p7 To Tr r o X hI0 h0
    · by_cases h1 : idxB r 47 < 0
      · skip
        have := ix_bd r 47
        refine lvSg93_1 To Tr r o (h := hySg93_p6) rfl ?_ (thXe (v := St' r) (u := St' Tr) rfl rfl (congrArg (fun l => St' l) (sg_r (by omega) i1)) (thXe (v := rwS o) (u := rwS To) rfl rfl (congrArg rwS (sg_o (by omega) i0)) (thNil))) runSg93_p6
        unfold hySg93_p6
        exact hc (kRn (denX rfl)) <|
         hc (kEqS (isSx (l := [u8 47]) 1 47 rfl) (isX rfl) (decide_eq_false (by assumption))) <|
         hc (kExtI (n := idxB r 47) exFIx exAIx exBIx (isX rfl) (isZ (m := 47) rfl) (denX rfl) rfl) <|
         hc (ltcT rfl (by omega)) <|
         hnil
      · by_cases h2 : (idxB r 47) = 0
        · exact nxSg93_p5 To Tr r o X hI0 h0 h1 h2
        · exact nxSg93_p4 To Tr r o X hI0 h0 h1 h2
theorem lfOkSg93_1 {l : LF} {h : LH} (To : List LB) (Tr : LB) (x0 : ¬ To.length = 0) (st : Nat × LB × List LB) (hI : InvSg93 To Tr st) (hl : l.hp = some h) (hs : lfSame l h 52 keepSg93 (.exit 2) 3 98 110 = true) {th0 : LA} {sg0 : List (Nat × Nat)} (hth0 : ∀ X, ThOk (cx nu one 0 laidE laidE_stab) (DSg93 To Tr st X) th0) (h0 : startOk l h 52 98 99 th0 sg0 (epSg93 st) (hpSg93 st) = true) {thx : LA} (hthx : ThOk (ESg93_1 To Tr) (cx nu one 0 laidE laidE_stab) thx) (hx : exitOk l h 52 98 110 thx [(0, .yl 97), (2, .p 94 0)] [(93, .b ⟨28, .l [.sr 98], 0, 0, 0, false, false⟩), (94, .b ⟨9, .l [.x 0], 0, 0, 0, false, false⟩), (95, .b ⟨9, .l [.s 1 47], 0, 0, 0, false, false⟩), (96, .b ⟨3, .l [.i .i64 (.ofNat 0)], 0, 0, 0, false, false⟩), (97, .k 7 [(3, .p 93 0)] 15 0 .normal), (98, .r 2000000 9 1 false)] = true) : LfOk (cx nu one 0 laidE laidE_stab) bodySg93 l :=
  lfOkX (E := ESg93_1 To Tr) (InvSg93 To Tr) (muSg93 To Tr) (DSg93 To Tr) (fun _ _ => rfl) (fun _ _ => rfl) (fun _ _ => rfl) (fun st X t ht => nuX_keep.trans (rX_keep ((by decide : ∀ t, t ∈ keepSg93 → t < 1000000) t ht))) rfl rfl rfl hl hs ebSg93 rfl rfl st hI hth0 h0 hthx hx (roundsSg93_1 To Tr x0)
def aPSeg93 : List AV := [.x 0]
def hpSeg93 : LE := []
def nuSeg93 (s : LB) : List Value := [St' s, St' (lsP (sp47 [] s)), St' (lsP (sp47 [] s)), St' (lsP (sp47 [] s)), St' (lsP (sp47 [] s))]
def roSeg93 (s : LB) : List Value := [rwS ([] : List LB), rwS ([] : List LB), rwS (([] : List LB) ++ [(lsP (sp47 [] s))]), rwS ([] : List LB), rwS (sgL (sp47 [] s)), rwS ([] : List LB), rwS (sgL (sp47 [] s)), rwS ((sgL (sp47 [] s)) ++ [(lsP (sp47 [] s))])]
noncomputable def DSeg93 (s : LB) : Cx := cx (nuX (nuSeg93 s) (rX (roSeg93 s) (fun _ => .bool true))) (nuX_one (nuL_one (l := nuSeg93 s) rfl)) 0 laidE laidE_stab
def hySeg93_c0 : LK := [(.rn, .x 2000000), (.bin .neq (.x 1) (.s 0 0), .b false)]
def lh43 : LH := ⟨3, 98, 110, [(93, .b ⟨28, .l [.nils], 0, 0, 0, false, false⟩), (94, .b ⟨9, .l [.x 0], 0, 0, 0, false, false⟩), (95, .b ⟨9, .l [.s 1 47], 0, 0, 0, false, false⟩), (96, .b ⟨3, .l [.i .i64 (.ofNat 0)], 0, 0, 0, false, false⟩), (97, .k 7 [(3, .p 93 0)] 15 0 .normal)], [(93, .b ⟨28, .l [.nils], 0, 0, 0, false, false⟩), (94, .b ⟨9, .l [.x 1], 0, 0, 0, false, false⟩), (95, .b ⟨9, .l [.s 1 47], 0, 0, 0, false, false⟩), (96, .b ⟨3, .l [.i .i64 (.ofNat 0)], 0, 0, 0, false, false⟩), (97, .k 7 [(3, .p 93 0)] 15 0 .normal)]⟩
def lf43 : LF := ⟨5, 52, [(0, .yl 97), (1, .p 95 0), (2, .p 94 0), (3, .p 96 0), (9, .s 1 47)], [], (.exit 2), [(0, .yl 97), (2, .p 94 0)], some lh43⟩
noncomputable def tbSeg93_c0 : Tab := addLps (addLps ((tbl hySeg93_c0)) 7 fi7 [⟨7777777, 7, [], [3], .goto 7777777, [], none⟩]) 29 fi29 [lf43]
theorem runSeg93_c0 (e : Unit) : okCf (call tbSeg93_c0 2000 7 aPSeg93 ⟨lhSet hpSeg93 ((fun _ : Unit => T.leaf) e), 93, 0, 0⟩) (.nils) [] [] 93 123 [] = true := by kernel_rfl
def hySeg93_c1 : LK := [(.rn, .x 2000001), (.bin .neq (.x 2) (.s 0 0), .b true), (.ra (.x 2000001) [.x 2], .x 2000002), (.rf (.x 2000002) 1 16, .b true)]
def lh44 : LH := ⟨3, 98, 110, [(93, .b ⟨28, .l [.nils], 0, 0, 0, false, false⟩), (94, .b ⟨9, .l [.x 0], 0, 0, 0, false, false⟩), (95, .b ⟨9, .l [.s 1 47], 0, 0, 0, false, false⟩), (96, .b ⟨3, .l [.i .i64 (.ofNat 0)], 0, 0, 0, false, false⟩), (97, .k 7 [(3, .p 93 0)] 15 0 .normal)], [(93, .b ⟨28, .l [.nils], 0, 0, 0, false, false⟩), (94, .b ⟨9, .l [.x 2], 0, 0, 0, false, false⟩), (95, .b ⟨9, .l [.s 1 47], 0, 0, 0, false, false⟩), (96, .b ⟨3, .l [.i .i64 (.ofNat 0)], 0, 0, 0, false, false⟩), (97, .k 7 [(3, .p 93 0)] 15 0 .normal)]⟩
def lf44 : LF := ⟨5, 52, [(0, .yl 97), (1, .p 95 0), (2, .p 94 0), (3, .p 96 0), (9, .s 1 47)], [], (.exit 2), [(0, .yl 97), (2, .p 94 0)], some lh44⟩
noncomputable def tbSeg93_c1 : Tab := addLps (addLps ((tbl hySeg93_c1)) 7 fi7 [⟨7777777, 7, [], [3], .goto 7777777, [], none⟩]) 29 fi29 [lf44]
theorem runSeg93_c1 (e : Unit) : okCf (call tbSeg93_c1 2000 7 aPSeg93 ⟨lhSet hpSeg93 ((fun _ : Unit => T.leaf) e), 93, 0, 0⟩) (.sr 93) [(2000000, .x 2000002)] [(93, 111)] 93 123 [(93, .r 2000000 9 1 false)] = true := by kernel_rfl
def hySeg93_c2 : LK := [(.rn, .x 2000003), (.bin .neq (.x 3) (.s 0 0), .b false)]
def lh45 : LH := ⟨3, 98, 110, [(93, .b ⟨28, .l [.nils], 0, 0, 0, false, false⟩), (94, .b ⟨9, .l [.x 0], 0, 0, 0, false, false⟩), (95, .b ⟨9, .l [.s 1 47], 0, 0, 0, false, false⟩), (96, .b ⟨3, .l [.i .i64 (.ofNat 0)], 0, 0, 0, false, false⟩), (97, .k 7 [(3, .p 93 0)] 15 0 .normal)], [(93, .b ⟨28, .l [.sr 98], 0, 0, 0, false, false⟩), (94, .b ⟨9, .l [.x 3], 0, 0, 0, false, false⟩), (95, .b ⟨9, .l [.s 1 47], 0, 0, 0, false, false⟩), (96, .b ⟨3, .l [.i .i64 (.ofNat 0)], 0, 0, 0, false, false⟩), (97, .k 7 [(3, .p 93 0)] 15 0 .normal), (98, .r 2000004 9 1 false)]⟩
def lf45 : LF := ⟨5, 52, [(0, .yl 97), (1, .p 95 0), (2, .p 94 0), (3, .p 96 0), (9, .s 1 47)], [], (.exit 2), [(0, .yl 97), (2, .p 94 0)], some lh45⟩
noncomputable def tbSeg93_c2 : Tab := addLps (addLps ((tbl hySeg93_c2)) 7 fi7 [⟨7777777, 7, [], [3], .goto 7777777, [], none⟩]) 29 fi29 [lf45]
theorem runSeg93_c2 (e : Unit) : okCf (call tbSeg93_c2 2000 7 aPSeg93 ⟨lhSet hpSeg93 ((fun _ : Unit => T.leaf) e), 93, 0, 0⟩) (.sr 93) [(2000000, .x 2000004)] [(93, 98)] 93 123 [(93, .r 2000000 9 1 false)] = true := by kernel_rfl
def hySeg93_c3 : LK := [(.rn, .x 2000005), (.bin .neq (.x 4) (.s 0 0), .b true), (.ra (.x 2000006) [.x 4], .x 2000007), (.rf (.x 2000007) 1 16, .b true)]
def lh46 : LH := ⟨3, 98, 110, [(93, .b ⟨28, .l [.nils], 0, 0, 0, false, false⟩), (94, .b ⟨9, .l [.x 0], 0, 0, 0, false, false⟩), (95, .b ⟨9, .l [.s 1 47], 0, 0, 0, false, false⟩), (96, .b ⟨3, .l [.i .i64 (.ofNat 0)], 0, 0, 0, false, false⟩), (97, .k 7 [(3, .p 93 0)] 15 0 .normal)], [(93, .b ⟨28, .l [.sr 98], 0, 0, 0, false, false⟩), (94, .b ⟨9, .l [.x 4], 0, 0, 0, false, false⟩), (95, .b ⟨9, .l [.s 1 47], 0, 0, 0, false, false⟩), (96, .b ⟨3, .l [.i .i64 (.ofNat 0)], 0, 0, 0, false, false⟩), (97, .k 7 [(3, .p 93 0)] 15 0 .normal), (98, .r 2000006 9 1 false)]⟩
def lf46 : LF := ⟨5, 52, [(0, .yl 97), (1, .p 95 0), (2, .p 94 0), (3, .p 96 0), (9, .s 1 47)], [], (.exit 2), [(0, .yl 97), (2, .p 94 0)], some lh46⟩
noncomputable def tbSeg93_c3 : Tab := addLps (addLps ((tbl hySeg93_c3)) 7 fi7 [⟨7777777, 7, [], [3], .goto 7777777, [], none⟩]) 29 fi29 [lf46]
theorem runSeg93_c3 (e : Unit) : okCf (call tbSeg93_c3 2000 7 aPSeg93 ⟨lhSet hpSeg93 ((fun _ : Unit => T.leaf) e), 93, 0, 0⟩) (.sr 93) [(2000000, .x 2000007)] [(93, 111)] 93 123 [(93, .r 2000000 9 1 false)] = true := by kernel_rfl
def nuESeg93_0 (s : LB) : List Value := []
def roESeg93_0 (s : LB) : List Value := []
noncomputable def ESeg93_0 (s : LB) : Cx := cx (nuX (nuESeg93_0 s) (rX (roESeg93_0 s) (fun _ => .bool true))) (nuX_one (nuL_one (l := nuESeg93_0 s) rfl)) 0 laidE laidE_stab
theorem cfSeg93_0 {l : LF} {h : LH} {q : Nat × AV} (s : LB) (p0 : s.length ≤ 1000000) (x0 : (segS s).length = 0) (hl : l.hp = some h) (hq : l.post = [q]) (hs : cfSame l h 3 93 123 = true) {th0 : LA} {sg0 : List (Nat × Nat)} (hth0 : ThOk (cx nu one 0 laidE laidE_stab) (DSeg93 s) th0) (h0 : (inAs th0 (sgB 93 93 sg0) aPSeg93 (l.pre.map (·.2)) && inHeap 93 93 th0 sg0 (lhSet h.pre .leaf) hpSeg93 && nodupN (numsOf 93 sg0 hpSeg93)) = true) {thx : LA} (hthx : ThOk (ESeg93_0 s) (cx nu one 0 laidE laidE_stab) thx) (hx : (inA thx (sgB 93 123 []) 8 q.2 (.nils) && inHeap 93 123 thx [] (lhSet [] .leaf) h.post && nodupN (numsOf 93 [] h.post)) = true) : CfOk (cx nu one 0 laidE laidE_stab) 7 l := by
  have hgl := sg_len s
  have hgc := sg_cases s
  by_cases d0 : (sgL (sp47 [] s)).length = 0
  · by_cases d1 : ((lsP (sp47 [] s)).length : Int) = 0
    · skip
      have hgl := sg_len s
      have hgc := sg_cases s
      have ho : ∀ a' r', (a', r') ∈ hySeg93_c0 → HOk (DSeg93 s) a' r' := by
        unfold hySeg93_c0
        exact hc (kRn (denX rfl)) <|
         hc (kNeS (isX rfl) (isSx (l := ([] : LB)) 0 0 rfl) (bnF (nilT (by omega)))) <|
         hnil
      exact cfOkX (D := DSeg93 s) (E := ESeg93_0 s) (Gf := (fun _ : Unit => T.leaf)) (f := 2000) (tb := tbSeg93_c0) rfl rfl rfl rfl rfl rfl hl hq hs rfl hth0 h0 hthx hx (AllOk.lp1 (AllOk.lp1 ((tabkOk _ _).hyps ho) (by omega) fi7_at fi7_body (lfCons (.inr ⟨rfl, mkA7, mkB7, _, Tryd.func7, mkC7⟩) lfNil)) (by omega) (get_lps2 (by omega) (by omega) fi29_at) fi29_body (lfCons (lpKnown rfl ⟨1, keySg93, lfOkSg93_0 (l := lf43) (h := lh43) (sgL (sp47 [] s)) (lsP (sp47 [] s)) (by assumption) (0, s, ([] : List LB)) (mkISg93 (sgL (sp47 [] s)) (lsP (sp47 [] s)) 0 s ([] : List LB) ⟨by simp, rfl, by omega, by simp only [List.length_nil]; omega, fun _ => rfl, fun h => by omega, by omega⟩) rfl (by kernel_rfl) (th0 := [(0, .x 0)]) (sg0 := []) (fun X => thXv (v := St' s) rfl rfl (thNil)) (by kernel_rfl) (thx := [(1, .x 0)]) (thXv (v := St' (lsP (sp47 [] s))) rfl rfl (thNil)) (by kernel_rfl)⟩) lfNil)) rfl (get_lps2 (by omega) (by omega) (get_lps (by omega))) fiB7 (.inl ⟨fun _ => rfl, ⟨()⟩⟩) (thNil) runSeg93_c0
    · exfalso; have := sg_cases s; omega
  · by_cases d1 : ((lsP (sp47 [] s)).length : Int) = 0
    · exfalso; have := sg_cases s; omega
    · exfalso; have := sg_cases s; omega
def nuESeg93_1 (s : LB) : List Value := []
def roESeg93_1 (s : LB) : List Value := [rwS (segS s)]
noncomputable def ESeg93_1 (s : LB) : Cx := cx (nuX (nuESeg93_1 s) (rX (roESeg93_1 s) (fun _ => .bool true))) (nuX_one (nuL_one (l := nuESeg93_1 s) rfl)) 0 laidE laidE_stab
theorem cfSeg93_1 {l : LF} {h : LH} {q : Nat × AV} (s : LB) (p0 : s.length ≤ 1000000) (x0 : ¬ (segS s).length = 0) (hl : l.hp = some h) (hq : l.post = [q]) (hs : cfSame l h 3 93 123 = true) {th0 : LA} {sg0 : List (Nat × Nat)} (hth0 : ThOk (cx nu one 0 laidE laidE_stab) (DSeg93 s) th0) (h0 : (inAs th0 (sgB 93 93 sg0) aPSeg93 (l.pre.map (·.2)) && inHeap 93 93 th0 sg0 (lhSet h.pre .leaf) hpSeg93 && nodupN (numsOf 93 sg0 hpSeg93)) = true) {thx : LA} (hthx : ThOk (ESeg93_1 s) (cx nu one 0 laidE laidE_stab) thx) (hx : (inA thx (sgB 93 123 []) 8 q.2 (.sr 93) && inHeap 93 123 thx [] (lhSet [(93, .r 2000000 9 1 false)] .leaf) h.post && nodupN (numsOf 93 [] h.post)) = true) : CfOk (cx nu one 0 laidE laidE_stab) 7 l := by
  have hgl := sg_len s
  have hgc := sg_cases s
  by_cases d0 : (sgL (sp47 [] s)).length = 0
  · by_cases d1 : ((lsP (sp47 [] s)).length : Int) = 0
    · exfalso; have := sg_cases s; omega
    · skip
      have hgl := sg_len s
      have hgc := sg_cases s
      have ho : ∀ a' r', (a', r') ∈ hySeg93_c1 → HOk (DSeg93 s) a' r' := by
        unfold hySeg93_c1
        exact hc (kRn (denX rfl)) <|
         hc (kNeS (isX rfl) (isSx (l := ([] : LB)) 0 0 rfl) (bnT (nilF (by omega)))) <|
         hc (kRa (isX rfl) (isX rfl) (denX rfl)) <|
         hc (kRf (isX rfl) (by first | omega | (simp <;> omega)) (by first | omega | (simp <;> omega))) <|
         hnil
      exact cfOkX (D := DSeg93 s) (E := ESeg93_1 s) (Gf := (fun _ : Unit => T.leaf)) (f := 2000) (tb := tbSeg93_c1) rfl rfl rfl rfl rfl rfl hl hq hs rfl hth0 h0 hthx hx (AllOk.lp1 (AllOk.lp1 ((tabkOk _ _).hyps ho) (by omega) fi7_at fi7_body (lfCons (.inr ⟨rfl, mkA7, mkB7, _, Tryd.func7, mkC7⟩) lfNil)) (by omega) (get_lps2 (by omega) (by omega) fi29_at) fi29_body (lfCons (lpKnown rfl ⟨1, keySg93, lfOkSg93_0 (l := lf44) (h := lh44) (sgL (sp47 [] s)) (lsP (sp47 [] s)) (by assumption) (0, s, ([] : List LB)) (mkISg93 (sgL (sp47 [] s)) (lsP (sp47 [] s)) 0 s ([] : List LB) ⟨by simp, rfl, by omega, by simp only [List.length_nil]; omega, fun _ => rfl, fun h => by omega, by omega⟩) rfl (by kernel_rfl) (th0 := [(0, .x 0)]) (sg0 := []) (fun X => thXv (v := St' s) rfl rfl (thNil)) (by kernel_rfl) (thx := [(2, .x 0)]) (thXv (v := St' (lsP (sp47 [] s))) rfl rfl (thNil)) (by kernel_rfl)⟩) lfNil)) rfl (get_lps2 (by omega) (by omega) (get_lps (by omega))) fiB7 (.inl ⟨fun _ => rfl, ⟨()⟩⟩) (thXe (v := rwS (([] : List LB) ++ [(lsP (sp47 [] s))])) (u := rwS (segS s)) rfl rfl (congrArg rwS (by first | exact sg_a (by omega) | exact sg_b (by omega) | exact sg_c (by omega) (by omega))) (thNil)) runSeg93_c1
  · by_cases d1 : ((lsP (sp47 [] s)).length : Int) = 0
    · skip
      have hgl := sg_len s
      have hgc := sg_cases s
      have ho : ∀ a' r', (a', r') ∈ hySeg93_c2 → HOk (DSeg93 s) a' r' := by
        unfold hySeg93_c2
        exact hc (kRn (denX rfl)) <|
         hc (kNeS (isX rfl) (isSx (l := ([] : LB)) 0 0 rfl) (bnF (nilT (by omega)))) <|
         hnil
      exact cfOkX (D := DSeg93 s) (E := ESeg93_1 s) (Gf := (fun _ : Unit => T.leaf)) (f := 2000) (tb := tbSeg93_c2) rfl rfl rfl rfl rfl rfl hl hq hs rfl hth0 h0 hthx hx (AllOk.lp1 (AllOk.lp1 ((tabkOk _ _).hyps ho) (by omega) fi7_at fi7_body (lfCons (.inr ⟨rfl, mkA7, mkB7, _, Tryd.func7, mkC7⟩) lfNil)) (by omega) (get_lps2 (by omega) (by omega) fi29_at) fi29_body (lfCons (lpKnown rfl ⟨1, keySg93, lfOkSg93_1 (l := lf45) (h := lh45) (sgL (sp47 [] s)) (lsP (sp47 [] s)) (by assumption) (0, s, ([] : List LB)) (mkISg93 (sgL (sp47 [] s)) (lsP (sp47 [] s)) 0 s ([] : List LB) ⟨by simp, rfl, by omega, by simp only [List.length_nil]; omega, fun _ => rfl, fun h => by omega, by omega⟩) rfl (by kernel_rfl) (th0 := [(0, .x 0)]) (sg0 := []) (fun X => thXv (v := St' s) rfl rfl (thNil)) (by kernel_rfl) (thx := [(3, .x 0), (2000004, .x 2000000)]) (thXv (v := St' (lsP (sp47 [] s))) rfl rfl (thXv (v := rwS (sgL (sp47 [] s))) rfl rfl (thNil))) (by kernel_rfl)⟩) lfNil)) rfl (get_lps2 (by omega) (by omega) (get_lps (by omega))) fiB7 (.inl ⟨fun _ => rfl, ⟨()⟩⟩) (thXe (v := rwS (sgL (sp47 [] s))) (u := rwS (segS s)) rfl rfl (congrArg rwS (by first | exact sg_a (by omega) | exact sg_b (by omega) | exact sg_c (by omega) (by omega))) (thNil)) runSeg93_c2
    · skip
      have hgl := sg_len s
      have hgc := sg_cases s
      have ho : ∀ a' r', (a', r') ∈ hySeg93_c3 → HOk (DSeg93 s) a' r' := by
        unfold hySeg93_c3
        exact hc (kRn (denX rfl)) <|
         hc (kNeS (isX rfl) (isSx (l := ([] : LB)) 0 0 rfl) (bnT (nilF (by omega)))) <|
         hc (kRa (isX rfl) (isX rfl) (denX rfl)) <|
         hc (kRf (isX rfl) (by first | omega | (simp <;> omega)) (by first | omega | (simp <;> omega))) <|
         hnil
      exact cfOkX (D := DSeg93 s) (E := ESeg93_1 s) (Gf := (fun _ : Unit => T.leaf)) (f := 2000) (tb := tbSeg93_c3) rfl rfl rfl rfl rfl rfl hl hq hs rfl hth0 h0 hthx hx (AllOk.lp1 (AllOk.lp1 ((tabkOk _ _).hyps ho) (by omega) fi7_at fi7_body (lfCons (.inr ⟨rfl, mkA7, mkB7, _, Tryd.func7, mkC7⟩) lfNil)) (by omega) (get_lps2 (by omega) (by omega) fi29_at) fi29_body (lfCons (lpKnown rfl ⟨1, keySg93, lfOkSg93_1 (l := lf46) (h := lh46) (sgL (sp47 [] s)) (lsP (sp47 [] s)) (by assumption) (0, s, ([] : List LB)) (mkISg93 (sgL (sp47 [] s)) (lsP (sp47 [] s)) 0 s ([] : List LB) ⟨by simp, rfl, by omega, by simp only [List.length_nil]; omega, fun _ => rfl, fun h => by omega, by omega⟩) rfl (by kernel_rfl) (th0 := [(0, .x 0)]) (sg0 := []) (fun X => thXv (v := St' s) rfl rfl (thNil)) (by kernel_rfl) (thx := [(4, .x 0), (2000006, .x 2000000)]) (thXv (v := St' (lsP (sp47 [] s))) rfl rfl (thXv (v := rwS (sgL (sp47 [] s))) rfl rfl (thNil))) (by kernel_rfl)⟩) lfNil)) rfl (get_lps2 (by omega) (by omega) (get_lps (by omega))) fiB7 (.inl ⟨fun _ => rfl, ⟨()⟩⟩) (thXe (v := rwS ((sgL (sp47 [] s)) ++ [(lsP (sp47 [] s))])) (u := rwS (segS s)) rfl rfl (congrArg rwS (by first | exact sg_a (by omega) | exact sg_b (by omega) | exact sg_c (by omega) (by omega))) (thNil)) runSeg93_c3
noncomputable def fi8 : FI := (tabk.fn.get 8).getD default
theorem fi8_at : tabk.fn.get 8 = some fi8 := by kernel_rfl
theorem fi8_body : fi8.body = some (Tryd.f8.body.getD .skip) := by kernel_rfl
theorem fiB8 : fi8.body.isSome = true := by rw [fi8_body]; rfl
theorem cfA8 : (loopsOf (Tryd.f8.body.getD .skip)).all (fun b => !(keyEq (Go.AX.keyOf b) 8888888)) = true := by kernel_rfl
noncomputable def fi20 : FI := (tabk.fn.get 20).getD default
theorem fi20_at : tabk.fn.get 20 = some fi20 := by kernel_rfl
theorem fi20_body : fi20.body = some (Tryd.f20.body.getD .skip) := by kernel_rfl
theorem fiB20 : fi20.body.isSome = true := by rw [fi20_body]; rfl
theorem cfA20 : (loopsOf (Tryd.f20.body.getD .skip)).all (fun b => !(keyEq (Go.AX.keyOf b) 8888888)) = true := by kernel_rfl
def hyBeg_0 : LK := [(.rn, .x 2000000), (.rl (.x 2000002) 1, .x 2), (.rl (.x 2000001) 1, .x 3), (.bin .leq (.x 2) (.x 3), .b true), (.rt (.x 2000001) (.x 2) 1, .x 2000003)]
def lh47 : LH := ⟨3, 63, 93, [], [(63, .r 2000001 9 1 false)]⟩
def lf47 : LF := ⟨8888888, 0, [(0, .x 0)], [], .normal, [(0, .sr 63)], some lh47⟩
def lh48 : LH := ⟨3, 93, 123, [], [(93, .r 2000002 9 1 false)]⟩
def lf48 : LF := ⟨8888888, 0, [(0, .x 1)], [], .normal, [(0, .sr 93)], some lh48⟩
def lh49 : LH := ⟨3, 133, 133, [(123, .r 2000003 9 1 false), (93, .r 2000002 9 1 false)], [(123, .r 2000003 9 1 false), (93, .r 2000002 9 1 false)]⟩
def lf49 : LF := ⟨8888888, 0, [(0, .sr 123), (1, .sr 93)], [], .normal, [(0, .x 4)], some lh49⟩
noncomputable def tabBeg_0 : Tab := addLps (addLps ({ tabk with hyp := hyBeg_0 }) 7 fi7 [lf47, lf48]) 20 fi20 [lf49]
theorem runBeg_0 : okA (call tabBeg_0 9000 8 [.x 0, .x 1] ⟨H0 , 3, 0, 0⟩) (.x 4) = true := by kernel_rfl
def nuBeg_0 (s q : LB) : List Value := [St' s, St' q, .int .i64 (((segS q).length : Int)), .int .i64 (((segS s).length : Int)), .bool (decide (((segS s).take (Int.toNat (((segS q).length : Int)))) = (segS q)))]
def roBeg_0 (s q : LB) : List Value := [rwS ([] : List LB), rwS (segS s), rwS (segS q), rwS ((segS s).take (Int.toNat (((segS q).length : Int))))]
theorem onBeg_0 (s q : LB) : ∀ j, (nuL (nuBeg_0 s q) j).oneCell' = true := nuL_one (l := nuBeg_0 s q) rfl
theorem pathBeg_0 (s q : LB) (b0 : s.length ≤ 9223372036854775807) (b1 : q.length ≤ 9223372036854775807) (p0 : s.length ≤ 1000000) (p1 : q.length ≤ 1000000) (h0 : ¬ ((segS s).length = 0)) (h1 : ¬ ((segS q).length = 0)) (h2 : ((segS q).length : Int) ≤ ((segS s).length : Int)) (w : World) (hl : laidE w) : CwR 8 #[St' s, St' q] w (.bool (decide (((segS s).take (Int.toNat (((segS q).length : Int)))) = (segS q)))) := by
  have := segS_len s
  have := segS_len q
  have := List.length_take_le (Int.toNat (((segS q).length : Int))) (segS s)
  have ho : ∀ k r, (k, r) ∈ hyBeg_0 → HOk (cx (nuX (nuBeg_0 s q) (rX (roBeg_0 s q) (fun _ => .bool true))) (nuX_one (onBeg_0 s q)) 0 laidE laidE_stab) k r := by
    unfold hyBeg_0
    exact hc (kRn (denX rfl)) <|
     hc (kRl (isX rfl) (denX rfl) (by first | omega | (simp <;> omega))) <|
     hc (kRl (isX rfl) (denX rfl) (by first | omega | (simp <;> omega))) <|
     hc (leT rfl rfl (by omega)) <|
     hc (kRtS (j := (Int.toNat (((segS q).length : Int)))) (isX rfl) (isX rfl) (denX rfl) (by omega) (by omega)) <|
     hnil
  refine runC (tb := tabBeg_0) (ra := .x 4) rfl (AllOk.lp2 (AllOk.lp2 ((tabkOk (nuX (nuBeg_0 s q) (rX (roBeg_0 s q) (fun _ => .bool true))) (nuX_one (onBeg_0 s q))).hyps ho) (by omega) fi7_at fi7_body (lfCons (.inr ⟨⟨rfl, rfl⟩, cfA7, cfSeg63_1 (l := lf47) (h := lh47) (q := (0, .sr 63)) s (by omega) (by assumption) rfl rfl (by kernel_rfl) (th0 := [(0, .x 0)]) (sg0 := []) (thXv (v := St' s) rfl rfl (thNil)) (by kernel_rfl) (thx := [(2000001, .x 2000000)]) (thXv (v := rwS (segS s)) rfl rfl (thNil)) (by kernel_rfl)⟩) (lfCons (.inr ⟨⟨rfl, rfl⟩, cfA7, cfSeg93_1 (l := lf48) (h := lh48) (q := (0, .sr 93)) q (by omega) (by assumption) rfl rfl (by kernel_rfl) (th0 := [(0, .x 1)]) (sg0 := []) (thXv (v := St' q) rfl rfl (thNil)) (by kernel_rfl) (thx := [(2000002, .x 2000000)]) (thXv (v := rwS (segS q)) rfl rfl (thNil)) (by kernel_rfl)⟩) lfNil))) (by omega) (get_lps2 (by omega) (by omega) fi20_at) fi20_body (lfCons (.inr ⟨⟨rfl, rfl⟩, cfA20, cfE (l := lf49) (h := lh49) (K := ((segS s).take (Int.toNat (((segS q).length : Int))))) (J := (segS q)) rfl rfl rfl rfl rfl rfl rfl rfl rfl (by omega) (by omega)⟩) lfNil)) rfl (get_lps2 (by omega) (by omega) (get_lps2 (by omega) (by omega) fi8_at)) fiB8 (runBeg_0 ) (args := [St' s, St' q]) (by simp only [RelL, Rel]; exact ⟨_, _, rfl, rfl, ⟨_, _, rfl, rfl, rfl⟩⟩) w hl fun x hx => ?_
  simp only [Rel, RelL] at hx
  exact hx
def hyBeg_1 : LK := [(.rn, .x 2000000), (.rl (.x 2000002) 1, .x 2), (.rl (.x 2000001) 1, .x 3), (.bin .leq (.x 2) (.x 3), .b false)]
def lh50 : LH := ⟨3, 63, 93, [], [(63, .r 2000001 9 1 false)]⟩
def lf50 : LF := ⟨8888888, 0, [(0, .x 0)], [], .normal, [(0, .sr 63)], some lh50⟩
def lh51 : LH := ⟨3, 93, 123, [], [(93, .r 2000002 9 1 false)]⟩
def lf51 : LF := ⟨8888888, 0, [(0, .x 1)], [], .normal, [(0, .sr 93)], some lh51⟩
noncomputable def tabBeg_1 : Tab := addLps ({ tabk with hyp := hyBeg_1 }) 7 fi7 [lf50, lf51]
theorem runBeg_1 : okA (call tabBeg_1 9000 8 [.x 0, .x 1] ⟨H0 , 3, 0, 0⟩) (.b false) = true := by kernel_rfl
def nuBeg_1 (s q : LB) : List Value := [St' s, St' q, .int .i64 (((segS q).length : Int)), .int .i64 (((segS s).length : Int))]
def roBeg_1 (s q : LB) : List Value := [rwS ([] : List LB), rwS (segS s), rwS (segS q)]
theorem onBeg_1 (s q : LB) : ∀ j, (nuL (nuBeg_1 s q) j).oneCell' = true := nuL_one (l := nuBeg_1 s q) rfl
theorem pathBeg_1 (s q : LB) (b0 : s.length ≤ 9223372036854775807) (b1 : q.length ≤ 9223372036854775807) (p0 : s.length ≤ 1000000) (p1 : q.length ≤ 1000000) (h0 : ¬ ((segS s).length = 0)) (h1 : ¬ ((segS q).length = 0)) (h2 : ¬ (((segS q).length : Int) ≤ ((segS s).length : Int))) (w : World) (hl : laidE w) : CwR 8 #[St' s, St' q] w (.bool false) := by
  have := segS_len s
  have := segS_len q
  have ho : ∀ k r, (k, r) ∈ hyBeg_1 → HOk (cx (nuX (nuBeg_1 s q) (rX (roBeg_1 s q) (fun _ => .bool true))) (nuX_one (onBeg_1 s q)) 0 laidE laidE_stab) k r := by
    unfold hyBeg_1
    exact hc (kRn (denX rfl)) <|
     hc (kRl (isX rfl) (denX rfl) (by first | omega | (simp <;> omega))) <|
     hc (kRl (isX rfl) (denX rfl) (by first | omega | (simp <;> omega))) <|
     hc (leF rfl rfl (by omega)) <|
     hnil
  refine runC (tb := tabBeg_1) (ra := .b false) rfl (AllOk.lp2 ((tabkOk (nuX (nuBeg_1 s q) (rX (roBeg_1 s q) (fun _ => .bool true))) (nuX_one (onBeg_1 s q))).hyps ho) (by omega) fi7_at fi7_body (lfCons (.inr ⟨⟨rfl, rfl⟩, cfA7, cfSeg63_1 (l := lf50) (h := lh50) (q := (0, .sr 63)) s (by omega) (by assumption) rfl rfl (by kernel_rfl) (th0 := [(0, .x 0)]) (sg0 := []) (thXv (v := St' s) rfl rfl (thNil)) (by kernel_rfl) (thx := [(2000001, .x 2000000)]) (thXv (v := rwS (segS s)) rfl rfl (thNil)) (by kernel_rfl)⟩) (lfCons (.inr ⟨⟨rfl, rfl⟩, cfA7, cfSeg93_1 (l := lf51) (h := lh51) (q := (0, .sr 93)) q (by omega) (by assumption) rfl rfl (by kernel_rfl) (th0 := [(0, .x 1)]) (sg0 := []) (thXv (v := St' q) rfl rfl (thNil)) (by kernel_rfl) (thx := [(2000002, .x 2000000)]) (thXv (v := rwS (segS q)) rfl rfl (thNil)) (by kernel_rfl)⟩) lfNil))) rfl (get_lps2 (by omega) (by omega) fi8_at) fiB8 (runBeg_1 ) (args := [St' s, St' q]) (by simp only [RelL, Rel]; exact ⟨_, _, rfl, rfl, ⟨_, _, rfl, rfl, rfl⟩⟩) w hl fun x hx => ?_
  simp only [Rel, RelL] at hx
  exact hx
def hyBeg_2 : LK := [(.rn, .x 2000000), (.rl (.x 2000001) 1, .x 2), (.bin .leq (.x 2) (.i .i64 (.ofNat 0)), .b false)]
def lh52 : LH := ⟨3, 63, 93, [], []⟩
def lf52 : LF := ⟨8888888, 0, [(0, .x 0)], [], .normal, [(0, .nils)], some lh52⟩
def lh53 : LH := ⟨3, 93, 123, [], [(93, .r 2000001 9 1 false)]⟩
def lf53 : LF := ⟨8888888, 0, [(0, .x 1)], [], .normal, [(0, .sr 93)], some lh53⟩
noncomputable def tabBeg_2 : Tab := addLps ({ tabk with hyp := hyBeg_2 }) 7 fi7 [lf52, lf53]
theorem runBeg_2 : okA (call tabBeg_2 9000 8 [.x 0, .x 1] ⟨H0 , 3, 0, 0⟩) (.b false) = true := by kernel_rfl
def nuBeg_2 (s q : LB) : List Value := [St' s, St' q, .int .i64 (((segS q).length : Int))]
def roBeg_2 (s q : LB) : List Value := [rwS ([] : List LB), rwS (segS q)]
theorem onBeg_2 (s q : LB) : ∀ j, (nuL (nuBeg_2 s q) j).oneCell' = true := nuL_one (l := nuBeg_2 s q) rfl
theorem pathBeg_2 (s q : LB) (b0 : s.length ≤ 9223372036854775807) (b1 : q.length ≤ 9223372036854775807) (p0 : s.length ≤ 1000000) (p1 : q.length ≤ 1000000) (h0 : (segS s).length = 0) (h1 : ¬ ((segS q).length = 0)) (w : World) (hl : laidE w) : CwR 8 #[St' s, St' q] w (.bool false) := by
  have := segS_len s
  have := segS_len q
  have ho : ∀ k r, (k, r) ∈ hyBeg_2 → HOk (cx (nuX (nuBeg_2 s q) (rX (roBeg_2 s q) (fun _ => .bool true))) (nuX_one (onBeg_2 s q)) 0 laidE laidE_stab) k r := by
    unfold hyBeg_2
    exact hc (kRn (denX rfl)) <|
     hc (kRl (isX rfl) (denX rfl) (by first | omega | (simp <;> omega))) <|
     hc (lecF rfl (by omega)) <|
     hnil
  refine runC (tb := tabBeg_2) (ra := .b false) rfl (AllOk.lp2 ((tabkOk (nuX (nuBeg_2 s q) (rX (roBeg_2 s q) (fun _ => .bool true))) (nuX_one (onBeg_2 s q))).hyps ho) (by omega) fi7_at fi7_body (lfCons (.inr ⟨⟨rfl, rfl⟩, cfA7, cfSeg63_0 (l := lf52) (h := lh52) (q := (0, .nils)) s (by omega) (by assumption) rfl rfl (by kernel_rfl) (th0 := [(0, .x 0)]) (sg0 := []) (thXv (v := St' s) rfl rfl (thNil)) (by kernel_rfl) (thx := []) (thNil) (by kernel_rfl)⟩) (lfCons (.inr ⟨⟨rfl, rfl⟩, cfA7, cfSeg93_1 (l := lf53) (h := lh53) (q := (0, .sr 93)) q (by omega) (by assumption) rfl rfl (by kernel_rfl) (th0 := [(0, .x 1)]) (sg0 := []) (thXv (v := St' q) rfl rfl (thNil)) (by kernel_rfl) (thx := [(2000001, .x 2000000)]) (thXv (v := rwS (segS q)) rfl rfl (thNil)) (by kernel_rfl)⟩) lfNil))) rfl (get_lps2 (by omega) (by omega) fi8_at) fiB8 (runBeg_2 ) (args := [St' s, St' q]) (by simp only [RelL, Rel]; exact ⟨_, _, rfl, rfl, ⟨_, _, rfl, rfl, rfl⟩⟩) w hl fun x hx => ?_
  simp only [Rel, RelL] at hx
  exact hx
def hyBeg_3 : LK := [(.rn, .x 2000000)]
def lh54 : LH := ⟨3, 63, 93, [], []⟩
def lf54 : LF := ⟨8888888, 0, [(0, .x 0)], [], .normal, [(0, .nils)], some lh54⟩
def lh55 : LH := ⟨3, 93, 123, [], []⟩
def lf55 : LF := ⟨8888888, 0, [(0, .x 1)], [], .normal, [(0, .nils)], some lh55⟩
noncomputable def tabBeg_3 : Tab := addLps ({ tabk with hyp := hyBeg_3 }) 7 fi7 [lf54, lf55]
theorem runBeg_3 : okA (call tabBeg_3 9000 8 [.x 0, .x 1] ⟨H0 , 3, 0, 0⟩) (.b true) = true := by kernel_rfl
def nuBeg_3 (s q : LB) : List Value := [St' s, St' q]
def roBeg_3 (s q : LB) : List Value := [rwS ([] : List LB)]
theorem onBeg_3 (s q : LB) : ∀ j, (nuL (nuBeg_3 s q) j).oneCell' = true := nuL_one (l := nuBeg_3 s q) rfl
theorem pathBeg_3 (s q : LB) (b0 : s.length ≤ 9223372036854775807) (b1 : q.length ≤ 9223372036854775807) (p0 : s.length ≤ 1000000) (p1 : q.length ≤ 1000000) (h0 : (segS s).length = 0) (h1 : (segS q).length = 0) (w : World) (hl : laidE w) : CwR 8 #[St' s, St' q] w (.bool true) := by
  have := segS_len s
  have := segS_len q
  have ho : ∀ k r, (k, r) ∈ hyBeg_3 → HOk (cx (nuX (nuBeg_3 s q) (rX (roBeg_3 s q) (fun _ => .bool true))) (nuX_one (onBeg_3 s q)) 0 laidE laidE_stab) k r := by
    unfold hyBeg_3
    exact hc (kRn (denX rfl)) <|
     hnil
  refine runC (tb := tabBeg_3) (ra := .b true) rfl (AllOk.lp2 ((tabkOk (nuX (nuBeg_3 s q) (rX (roBeg_3 s q) (fun _ => .bool true))) (nuX_one (onBeg_3 s q))).hyps ho) (by omega) fi7_at fi7_body (lfCons (.inr ⟨⟨rfl, rfl⟩, cfA7, cfSeg63_0 (l := lf54) (h := lh54) (q := (0, .nils)) s (by omega) (by assumption) rfl rfl (by kernel_rfl) (th0 := [(0, .x 0)]) (sg0 := []) (thXv (v := St' s) rfl rfl (thNil)) (by kernel_rfl) (thx := []) (thNil) (by kernel_rfl)⟩) (lfCons (.inr ⟨⟨rfl, rfl⟩, cfA7, cfSeg93_0 (l := lf55) (h := lh55) (q := (0, .nils)) q (by omega) (by assumption) rfl rfl (by kernel_rfl) (th0 := [(0, .x 1)]) (sg0 := []) (thXv (v := St' q) rfl rfl (thNil)) (by kernel_rfl) (thx := []) (thNil) (by kernel_rfl)⟩) lfNil))) rfl (get_lps2 (by omega) (by omega) fi8_at) fiB8 (runBeg_3 ) (args := [St' s, St' q]) (by simp only [RelL, Rel]; exact ⟨_, _, rfl, rfl, ⟨_, _, rfl, rfl, rfl⟩⟩) w hl fun x hx => ?_
  simp only [Rel, RelL] at hx
  exact hx
def hyBeg_4 : LK := [(.rn, .x 2000000), (.rl (.x 2000001) 1, .x 2), (.bin .leq (.i .i64 (.ofNat 0)) (.x 2), .b true), (.rt (.x 2000001) (.i .i64 (.ofNat 0)) 1, .x 2000002), (.rl (.x 2000002) 1, .i .i64 (.ofNat 0))]
def lh56 : LH := ⟨3, 63, 93, [], [(63, .r 2000001 9 1 false)]⟩
def lf56 : LF := ⟨8888888, 0, [(0, .x 0)], [], .normal, [(0, .sr 63)], some lh56⟩
def lh57 : LH := ⟨3, 93, 123, [], []⟩
def lf57 : LF := ⟨8888888, 0, [(0, .x 1)], [], .normal, [(0, .nils)], some lh57⟩
noncomputable def tabBeg_4 : Tab := addLps ({ tabk with hyp := hyBeg_4 }) 7 fi7 [lf56, lf57]
theorem runBeg_4 : okA (call tabBeg_4 9000 8 [.x 0, .x 1] ⟨H0 , 3, 0, 0⟩) (.b true) = true := by kernel_rfl
def nuBeg_4 (s q : LB) : List Value := [St' s, St' q, .int .i64 (((segS s).length : Int))]
def roBeg_4 (s q : LB) : List Value := [rwS ([] : List LB), rwS (segS s), rwS ((segS s).take 0)]
theorem onBeg_4 (s q : LB) : ∀ j, (nuL (nuBeg_4 s q) j).oneCell' = true := nuL_one (l := nuBeg_4 s q) rfl
theorem pathBeg_4 (s q : LB) (b0 : s.length ≤ 9223372036854775807) (b1 : q.length ≤ 9223372036854775807) (p0 : s.length ≤ 1000000) (p1 : q.length ≤ 1000000) (h0 : ¬ ((segS s).length = 0)) (h1 : (segS q).length = 0) (w : World) (hl : laidE w) : CwR 8 #[St' s, St' q] w (.bool true) := by
  have := segS_len s
  have := segS_len q
  have ho : ∀ k r, (k, r) ∈ hyBeg_4 → HOk (cx (nuX (nuBeg_4 s q) (rX (roBeg_4 s q) (fun _ => .bool true))) (nuX_one (onBeg_4 s q)) 0 laidE laidE_stab) k r := by
    unfold hyBeg_4
    exact hc (kRn (denX rfl)) <|
     hc (kRl (isX rfl) (denX rfl) (by first | omega | (simp <;> omega))) <|
     hc (kLe (isZ (m := 0) rfl) (isX rfl) (decide_eq_true (by omega))) <|
     hc (kRtS (j := 0) (isX rfl) (isZ (m := 0) rfl) (denX rfl) (by omega) (by omega)) <|
     hc (kRl (isX rfl) (denZ (m := 0) rfl) (by first | omega | (simp <;> omega))) <|
     hnil
  refine runC (tb := tabBeg_4) (ra := .b true) rfl (AllOk.lp2 ((tabkOk (nuX (nuBeg_4 s q) (rX (roBeg_4 s q) (fun _ => .bool true))) (nuX_one (onBeg_4 s q))).hyps ho) (by omega) fi7_at fi7_body (lfCons (.inr ⟨⟨rfl, rfl⟩, cfA7, cfSeg63_1 (l := lf56) (h := lh56) (q := (0, .sr 63)) s (by omega) (by assumption) rfl rfl (by kernel_rfl) (th0 := [(0, .x 0)]) (sg0 := []) (thXv (v := St' s) rfl rfl (thNil)) (by kernel_rfl) (thx := [(2000001, .x 2000000)]) (thXv (v := rwS (segS s)) rfl rfl (thNil)) (by kernel_rfl)⟩) (lfCons (.inr ⟨⟨rfl, rfl⟩, cfA7, cfSeg93_0 (l := lf57) (h := lh57) (q := (0, .nils)) q (by omega) (by assumption) rfl rfl (by kernel_rfl) (th0 := [(0, .x 1)]) (sg0 := []) (thXv (v := St' q) rfl rfl (thNil)) (by kernel_rfl) (thx := []) (thNil) (by kernel_rfl)⟩) lfNil))) rfl (get_lps2 (by omega) (by omega) fi8_at) fiB8 (runBeg_4 ) (args := [St' s, St' q]) (by simp only [RelL, Rel]; exact ⟨_, _, rfl, rfl, ⟨_, _, rfl, rfl, rfl⟩⟩) w hl fun x hx => ?_
  simp only [Rel, RelL] at hx
  exact hx
theorem callsBeg (s q : LB) (b0 : s.length ≤ 9223372036854775807) (b1 : q.length ≤ 9223372036854775807) (p0 : s.length ≤ 1000000) (p1 : q.length ≤ 1000000) (w : World) (hl : laidE w) : CwR 8 #[St' s, St' q] w (.bool (begS s q)) := by
  by_cases h0 : (segS s).length = 0
  · by_cases h1 : (segS q).length = 0
    · rw [show (.bool (begS s q) : Value) = (.bool true : Value) from by first | (rw [bg_z (by omega)]; done) | (rw [bg_n (by omega)]; done) | (rw [bg_y (by omega)]; done)]
      exact pathBeg_3 s q b0 b1 p0 p1 h0 h1 w hl
    · rw [show (.bool (begS s q) : Value) = (.bool false : Value) from by first | (rw [bg_z (by omega)]; done) | (rw [bg_n (by omega)]; done) | (rw [bg_y (by omega)]; done)]
      exact pathBeg_2 s q b0 b1 p0 p1 h0 h1 w hl
  · by_cases h1 : (segS q).length = 0
    · rw [show (.bool (begS s q) : Value) = (.bool true : Value) from by first | (rw [bg_z (by omega)]; done) | (rw [bg_n (by omega)]; done) | (rw [bg_y (by omega)]; done)]
      exact pathBeg_4 s q b0 b1 p0 p1 h0 h1 w hl
    · by_cases h2 : ((segS q).length : Int) ≤ ((segS s).length : Int)
      · rw [show (.bool (begS s q) : Value) = (.bool (decide (((segS s).take (Int.toNat (((segS q).length : Int)))) = (segS q))) : Value) from by first | (rw [bg_z (by omega)]; done) | (rw [bg_n (by omega)]; done) | (rw [bg_y (by omega)]; done)]
        exact pathBeg_0 s q b0 b1 p0 p1 h0 h1 h2 w hl
      · rw [show (.bool (begS s q) : Value) = (.bool false : Value) from by first | (rw [bg_z (by omega)]; done) | (rw [bg_n (by omega)]; done) | (rw [bg_y (by omega)]; done)]
        exact pathBeg_1 s q b0 b1 p0 p1 h0 h1 h2 w hl
theorem hokBeg {x0 x1 r : AV} {s q : LB} (i0 : Is (cx nu one 0 laidE laidE_stab) x0 (St' s)) (i1 : Is (cx nu one 0 laidE laidE_stab) x1 (St' q)) (hr : Den (cx nu one 0 laidE laidE_stab) r (.bool (begS s q))) (b0 : s.length ≤ 9223372036854775807) (b1 : q.length ≤ 9223372036854775807) (p0 : s.length ≤ 1000000) (p1 : q.length ≤ 1000000) : HOk (cx nu one 0 laidE laidE_stab) (.call 8 [x0, x1]) r := by
  intro ρ args ha w hl _
  simp only [RelL] at ha
  obtain ⟨v0, t0, rfl, a0, v1, t1, rfl, a1, rfl⟩ := ha
  have e0 := i0 ρ _ a0; subst e0
  have e1 := i1 ρ _ a1; subst e1
  exact (callsBeg s q b0 b1 p0 p1 w hl).mono fun e w' he => ⟨_, he.1, hr ρ, he.2⟩
end Go.Proofs.YtipdlfkjablekaaDoor.pathBack
