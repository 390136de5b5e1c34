/- A part of the proof: an interpreter of the model's own code on partly known states, and that what it answers is what the program answers. No condition of its own. -/
import Derived.Test.YtfoalkoifcpdmaaT1FramesTellsO
set_option maxRecDepth 100000
set_option linter.unusedVariables false
set_option linter.unusedSimpArgs false
set_option maxHeartbeats 4000000
namespace Go.Proofs.Ytfoalkoifcpdmaa.framesTells
open Go Go.AX Go.Proofs Go.Proofs.Ytfoalkoifcpdmaa
variable {nu : Nat → Value} {one : ∀ i, i < 1000000 → (nu i).oneCell' = true} {E' : Cx} {x' : Ex} {e' : LA} {h' : LE}
noncomputable def bS6 : Code := aM9 (Try.f9.body.getD .skip) 0
theorem keySp : aL9 (aC5 (Try.f9.body.getD .skip)) 2 0 0 = true := by kernel_rfl
def aQ5 : List Nat := []
def epSp_0 : LA := [(0, .x 0), (1, .x 1), (2, .x 2), (7, .nils)]
def hpSp_0 : LE := []
def aQ2 (tq iq : Int) (To : List RC) (Tr r : LB) (o : List RC) : List Value := [.int .i64 (tq), .int .i64 (iq), St' r, St' ([] : LB), .int .i64 ((r.length : Int)), St' (List.take (Int.toNat (512 - (0))) (List.drop (Int.toNat (0)) r)), St' (List.take (Int.toNat ((r.length : Int) - (512))) (List.drop (Int.toNat (512)) r)), St' ([] : LB), .int .i64 ((r.length : Int))]
def bO0 (tq iq : Int) (To : List RC) (Tr r : LB) (o : List RC) : List Value := [rwS ([] : List LB), rwG reC (([] : List (Int × Int × LB × Int)) ++ [(tq, iq, (List.take (Int.toNat (512 - (0))) (List.drop (Int.toNat (0)) r)), 0)]), rwS ([] : List LB)]
def cF6 : LA := [(0, .x 0), (1, .x 1), (2, .x 2), (7, .sr 111)]
def cE8 : LE := [(111, .r 2000000 31 4 false)]
def aQ1 (tq iq : Int) (To : List RC) (Tr r : LB) (o : List RC) : List Value := [.int .i64 (tq), .int .i64 (iq), St' r, St' ([] : LB), .int .i64 ((r.length : Int)), St' (List.take (Int.toNat (512 - (0))) (List.drop (Int.toNat (0)) r)), St' (List.take (Int.toNat ((r.length : Int) - (512))) (List.drop (Int.toNat (512)) r)), St' ([] : LB), .int .i64 ((r.length : Int))]
def bN9 (tq iq : Int) (To : List RC) (Tr r : LB) (o : List RC) : List Value := [rwG reC o, rwS ([] : List LB), rwG reC (o ++ [(tq, iq, (List.take (Int.toNat (512 - (0))) (List.drop (Int.toNat (0)) r)), 0)]), rwS ([] : List LB)]
def epSp (st : Nat × LB × List RC) : LA := if st.1 = 0 then epSp_0 else cF6
def hpSp (st : Nat × LB × List RC) : LE := if st.1 = 0 then hpSp_0 else cE8
def nuSp (tq iq : Int) (To : List RC) (Tr : LB) (st : Nat × LB × List RC) : List Value := if st.1 = 0 then aQ2 tq iq To Tr (st.2.1) (st.2.2) else aQ1 tq iq To Tr (st.2.1) (st.2.2)
def roSp (tq iq : Int) (To : List RC) (Tr : LB) (st : Nat × LB × List RC) : List Value := if st.1 = 0 then bO0 tq iq To Tr (st.2.1) (st.2.2) else bN9 tq iq To Tr (st.2.1) (st.2.2)
theorem onSp (tq iq : Int) (To : List RC) (Tr : LB) (st : Nat × LB × List RC) : ∀ j, (nuL (nuSp tq iq To Tr st) j).oneCell' = true := by
  intro j
  unfold nuSp
  by_cases g0 : st.1 = 0
  · rw [if_pos g0]; exact aA6 (l := aQ2 tq iq To Tr (st.2.1) (st.2.2)) rfl j
  rw [if_neg g0]
  exact aA6 (l := aQ1 tq iq To Tr (st.2.1) (st.2.2)) rfl j
theorem ebSp (st : Nat × LB × List RC) : (lfB (epSp st) && lfC aQ5) = true := by
  unfold epSp
  by_cases g0 : st.1 = 0
  · rw [if_pos g0]; rfl
  rw [if_neg g0]
  rfl
noncomputable def DSp (tq iq : Int) (To : List RC) (Tr : LB) (st : Nat × LB × List RC) (X : Nat → Value) : Cx := cx (nuX (nuSp tq iq To Tr st) (rX (roSp tq iq To Tr st) X)) (aA7 (onSp tq iq To Tr st)) 0 aA5 aA0
def aW6 (tq iq : Int) (To : List RC) (Tr : LB) (st : Nat × LB × List RC) : Prop := ((st.2.1).length ≤ 100000) ∧ ((st.2.2) ++ (spX tq iq (st.2.1)).1 = To) ∧ ((spX tq iq (st.2.1)).2 = Tr) ∧ ((st.2.2).length + (st.2.1).length ≤ 100000) ∧ ((st.1) = 0 → (st.2.2) = []) ∧ ((st.1) = 1 → 1 ≤ (st.2.2).length) ∧ ((st.1) < 2)
abbrev CjSp (tq iq : Int) (To : List RC) (Tr : LB) (tag : Nat) (r : LB) (o : List RC) : Prop := (r.length ≤ 100000) ∧ (o ++ (spX tq iq r).1 = To) ∧ ((spX tq iq r).2 = Tr) ∧ (o.length + r.length ≤ 100000) ∧ (tag = 0 → o = []) ∧ (tag = 1 → 1 ≤ o.length) ∧ (tag < 2)
theorem cM6 {tq iq : Int} {To : List RC} {Tr : LB} {tag : Nat} {r : LB} {o : List RC} (h : CjSp tq iq To Tr tag r o) : aW6 tq iq To Tr (tag, r, o) := h
theorem unISp (tq iq : Int) (To : List RC) (Tr : LB) (tag : Nat) (r : LB) (o : List RC) (h : aW6 tq iq To Tr (tag, r, o)) : (r.length ≤ 100000) ∧ (o ++ (spX tq iq r).1 = To) ∧ ((spX tq iq r).2 = Tr) ∧ (o.length + r.length ≤ 100000) ∧ (tag = 0 → o = []) ∧ (tag = 1 → 1 ≤ o.length) ∧ (tag < 2) := h
def muSp (tq iq : Int) (To : List RC) (Tr : LB) (st : Nat × LB × List RC) : Nat := (st.2.1).length
abbrev RHSp (tq iq : Int) (To : List RC) (Tr : LB) (E' : Cx) (ex' : Ex) (epx' : LA) (hpx' : LE) (st : Nat × LB × List RC) (X : Nat → Value) : Prop := aC7 E' bS6 aQ5 38 ex' 1 111 112 123 epSp hpSp epx' hpx' (aW6 tq iq To Tr) (muSp tq iq To Tr) (DSp tq iq To Tr) st X
noncomputable abbrev cG3 (h : LK) (x : Ex) (th : LA) (sg : List (Nat × Nat)) (m : Nat) (ep : LA) (hp : LE) : Bool := aP9 (code (tbl h) 3000 [] bS6 (aI0 (aF0 epSp_0 aQ5) 38) ⟨aC4 hpSp_0 .leaf, 112, 0, 0⟩) x aQ5 38 123 th sg 111 m ep hp
theorem stSp_0 {tq iq : Int} {To : List RC} {Tr r : LB} {o : List RC} {X : Nat → Value} {h : LK} (y : Nat × LB × List RC) {th : LA} {sg : List (Nat × Nat)} (ho : ∀ a' r', (a', r') ∈ h → HOk (cx (nuX (aQ2 tq iq To Tr r o) (rX (bO0 tq iq To Tr r o) X)) (aA7 (aA6 (l := aQ2 tq iq To Tr r o) rfl)) 0 aA5 aA0) a' r') (hy : aW6 tq iq To Tr y) (lt : muSp tq iq To Tr y < muSp tq iq To Tr (0, r, o)) (ht : ThOk (cx (nuX (aQ2 tq iq To Tr r o) (rX (bO0 tq iq To Tr r o) X)) (aA7 (aA6 (l := aQ2 tq iq To Tr r o) rfl)) 0 aA5 aA0) (DSp tq iq To Tr y X) th) (run : cG3 h .normal th sg 112 (epSp y) (hpSp y) = true) : RHSp tq iq To Tr E' x' e' h' (0, r, o) X :=
  aC7.next (tb := tbl h) (L := []) (f := 3000) y ((aC2 _ _).hyps ho) (LpOk.nil _) rfl hy lt ht run
theorem lvSp_0 {tq iq : Int} {To : List RC} {Tr r : LB} {o : List RC} {X : Nat → Value} {h : LK} {th : LA} {sg : List (Nat × Nat)} (hne : exB x' .normal = false) (ho : ∀ a' r', (a', r') ∈ h → HOk (cx (nuX (aQ2 tq iq To Tr r o) (rX (bO0 tq iq To Tr r o) X)) (aA7 (aA6 (l := aQ2 tq iq To Tr r o) rfl)) 0 aA5 aA0) a' r') (ht : ThOk (cx (nuX (aQ2 tq iq To Tr r o) (rX (bO0 tq iq To Tr r o) X)) (aA7 (aA6 (l := aQ2 tq iq To Tr r o) rfl)) 0 aA5 aA0) E' th) (run : cG3 h x' th sg 123 e' h' = true) : RHSp tq iq To Tr E' x' e' h' (0, r, o) X :=
  aC7.leave (tb := tbl h) (L := []) (f := 3000) ((aC2 _ _).hyps ho) (LpOk.nil _) rfl hne ht run
noncomputable abbrev cG2 (h : LK) (x : Ex) (th : LA) (sg : List (Nat × Nat)) (m : Nat) (ep : LA) (hp : LE) : Bool := aP9 (code (tbl h) 3000 [] bS6 (aI0 (aF0 cF6 aQ5) 38) ⟨aC4 cE8 .leaf, 112, 0, 0⟩) x aQ5 38 123 th sg 111 m ep hp
theorem stSp_1 {tq iq : Int} {To : List RC} {Tr r : LB} {o : List RC} {X : Nat → Value} {h : LK} (y : Nat × LB × List RC) {th : LA} {sg : List (Nat × Nat)} (ho : ∀ a' r', (a', r') ∈ h → HOk (cx (nuX (aQ1 tq iq To Tr r o) (rX (bN9 tq iq To Tr r o) X)) (aA7 (aA6 (l := aQ1 tq iq To Tr r o) rfl)) 0 aA5 aA0) a' r') (hy : aW6 tq iq To Tr y) (lt : muSp tq iq To Tr y < muSp tq iq To Tr (1, r, o)) (ht : ThOk (cx (nuX (aQ1 tq iq To Tr r o) (rX (bN9 tq iq To Tr r o) X)) (aA7 (aA6 (l := aQ1 tq iq To Tr r o) rfl)) 0 aA5 aA0) (DSp tq iq To Tr y X) th) (run : cG2 h .normal th sg 112 (epSp y) (hpSp y) = true) : RHSp tq iq To Tr E' x' e' h' (1, r, o) X :=
  aC7.next (tb := tbl h) (L := []) (f := 3000) y ((aC2 _ _).hyps ho) (LpOk.nil _) rfl hy lt ht run
theorem lvSp_1 {tq iq : Int} {To : List RC} {Tr r : LB} {o : List RC} {X : Nat → Value} {h : LK} {th : LA} {sg : List (Nat × Nat)} (hne : exB x' .normal = false) (ho : ∀ a' r', (a', r') ∈ h → HOk (cx (nuX (aQ1 tq iq To Tr r o) (rX (bN9 tq iq To Tr r o) X)) (aA7 (aA6 (l := aQ1 tq iq To Tr r o) rfl)) 0 aA5 aA0) a' r') (ht : ThOk (cx (nuX (aQ1 tq iq To Tr r o) (rX (bN9 tq iq To Tr r o) X)) (aA7 (aA6 (l := aQ1 tq iq To Tr r o) rfl)) 0 aA5 aA0) E' th) (run : cG2 h x' th sg 123 e' h' = true) : RHSp tq iq To Tr E' x' e' h' (1, r, o) X :=
  aC7.leave (tb := tbl h) (L := []) (f := 3000) ((aC2 _ _).hyps ho) (LpOk.nil _) rfl hne ht run
def bW0 : LK := [(.rn, .x 2000000), (.len (.x 2), .x 4), (.bin .gtr (.x 4) (I6 512), .b true), (.sub (.x 2) none (some (I6 512)), .x 5), (.len (.x 5), I6 512), (.ra (.x 2000000) [.x 0, .x 1, .x 5, I6 0], .x 2000001), (.rf (.x 2000001) 4 40, .b true), (.sub (.x 2) (some (I6 512)) none, .x 6)]
theorem runSp_p0 : cG3 bW0 .normal [(0, .x 0), (1, .x 1), (2, .x 6), (2000000, .x 2000001)] [(111, 114)] 112 cF6 cE8 = true := by kernel_rfl
def bV9 : LK := [(.len (.x 2), .x 8), (.bin .gtr (.x 8) (I6 512), .b false)]
theorem runSp_p1 : cG3 bV9 (.exit 0) [(0, .x 0), (1, .x 1), (2, .x 2)] [] 123 [(0, .x 0), (1, .x 1), (2, .x 2), (7, .nils)] [] = true := by kernel_rfl
def bV8 : LK := [(.len (.x 2), .x 4), (.bin .gtr (.x 4) (I6 512), .b true), (.sub (.x 2) none (some (I6 512)), .x 5), (.len (.x 5), I6 512), (.ra (.x 2000000) [.x 0, .x 1, .x 5, I6 0], .x 2000002), (.rf (.x 2000002) 4 40, .b true), (.sub (.x 2) (some (I6 512)) none, .x 6)]
theorem runSp_p2 : cG2 bV8 .normal [(0, .x 0), (1, .x 1), (2, .x 6), (2000000, .x 2000002)] [(111, 114)] 112 cF6 cE8 = true := by kernel_rfl
def bV7 : LK := [(.len (.x 2), .x 8), (.bin .gtr (.x 8) (I6 512), .b false)]
theorem runSp_p3 : cG2 bV7 (.exit 0) [(0, .x 0), (1, .x 1), (2, .x 2), (2000000, .x 2000000)] [(111, 111)] 123 [(0, .x 0), (1, .x 1), (2, .x 2), (7, .sr 111)] [(111, .r 2000000 31 4 false)] = true := by kernel_rfl
section
variable {tq iq : Int} {To : List RC} {Tr : LB} {r : LB} {o : List RC} {X : Nat → Value}
theorem cL0 (hI : aW6 tq iq To Tr (0, r, o)) (h0 : 512 < (r.length : Int)) : RHSp tq iq To Tr E' x' e' h' (0, r, o) X := by
  obtain ⟨i0, i1, i2, i3, i4, i5, it⟩ := unISp tq iq To Tr 0 r o hI
  have := aX9 (l := r) (P := 0) (Q := 512) (by omega)
  have := aX9 (l := r) (P := 512) (Q := (r.length : Int)) (by omega)
  refine stSp_0 (h := bW0) (1, (List.take (Int.toNat ((r.length : Int) - (512))) (List.drop (Int.toNat (512)) r)), (([] : List (Int × Int × LB × Int)) ++ [(tq, iq, (List.take (Int.toNat (512 - (0))) (List.drop (Int.toNat (0)) r)), 0)])) ?_ (cM6 ⟨by omega, (sx_go (o := []) (by omega) (by simp) dr5 (show [] ++ _ = To from by have e := i1; rw [i4 rfl] at e; exact e) i2).1, (sx_go (o := []) (c := r.take 512) (by omega) rfl dr5 (show [] ++ _ = To from by have e := i1; rw [i4 rfl] at e; exact e) i2).2, by simp only [List.length_append, List.length_cons, List.length_nil]; omega, fun h => by omega, fun _ => by simp, by omega⟩) (by show ((List.take (Int.toNat ((r.length : Int) - (512))) (List.drop (Int.toNat (512)) r))).length < r.length; omega) (thXv (v := .int .i64 (tq)) rfl rfl (thXv (v := .int .i64 (iq)) rfl rfl (thXv (v := St' (List.take (Int.toNat ((r.length : Int) - (512))) (List.drop (Int.toNat (512)) r))) rfl rfl (thXv (v := rwG reC (([] : List (Int × Int × LB × Int)) ++ [(tq, iq, (List.take (Int.toNat (512 - (0))) (List.drop (Int.toNat (0)) r)), 0)])) rfl rfl (aB4))))) runSp_p0
  unfold bW0
  exact hc (kRn (denX rfl)) <|hc (lnV rfl rfl (by omega)) <|hc (gtcT rfl (by omega)) <|hc (kMid (P := 0) (Q := 512) (isX rfl) (.inl ⟨rfl, rfl⟩) (.inr ⟨_, _, rfl, (isZ (m := 512) rfl)⟩) (by omega) (by omega) (by omega) (denX rfl)) <|hc (kLenE (isX rfl) (denZ (m := 512) rfl) (by omega)) <|hc (kRaG (f := reC) (l := ([] : List (Int × Int × LB × Int))) (a := (tq, iq, (List.take (Int.toNat (512 - (0))) (List.drop (Int.toNat (0)) r)), 0)) (isX rfl) (isL4 (isX rfl) (isX rfl) (isX rfl) (isZ (m := 0) rfl)) (denX rfl)) <|hc (kRfG aA8 (isX rfl) (by first | (rw [List.length_append]; omega) | (first | omega | (simp <;> omega))) (by first | (rw [List.length_append]; omega) | (first | omega | (simp <;> omega)))) <|hc (kMid (P := 512) (Q := (r.length : Int)) (isX rfl) (.inr ⟨_, _, rfl, (isZ (m := 512) rfl)⟩) (.inl ⟨rfl, by first | omega | (simp <;> omega)⟩) (by omega) (by omega) (by omega) (denX rfl)) <|hnil
theorem cK9 (hI : aW6 tq iq To Tr (1, r, o)) (h0 : 512 < (r.length : Int)) : RHSp tq iq To Tr E' x' e' h' (1, r, o) X := by
  obtain ⟨i0, i1, i2, i3, i4, i5, it⟩ := unISp tq iq To Tr 1 r o hI
  have := aX9 (l := r) (P := 0) (Q := 512) (by omega)
  have := aX9 (l := r) (P := 512) (Q := (r.length : Int)) (by omega)
  refine stSp_1 (h := bV8) (1, (List.take (Int.toNat ((r.length : Int) - (512))) (List.drop (Int.toNat (512)) r)), (o ++ [(tq, iq, (List.take (Int.toNat (512 - (0))) (List.drop (Int.toNat (0)) r)), 0)])) ?_ (cM6 ⟨by omega, (sx_go (by omega) (by simp) dr5 i1 i2).1, (sx_go (c := r.take 512) (by omega) rfl dr5 i1 i2).2, by simp only [List.length_append, List.length_cons, List.length_nil]; omega, fun h => by omega, fun _ => by simp, by omega⟩) (by show ((List.take (Int.toNat ((r.length : Int) - (512))) (List.drop (Int.toNat (512)) r))).length < r.length; omega) (thXv (v := .int .i64 (tq)) rfl rfl (thXv (v := .int .i64 (iq)) rfl rfl (thXv (v := St' (List.take (Int.toNat ((r.length : Int) - (512))) (List.drop (Int.toNat (512)) r))) rfl rfl (thXv (v := rwG reC (o ++ [(tq, iq, (List.take (Int.toNat (512 - (0))) (List.drop (Int.toNat (0)) r)), 0)])) rfl rfl (aB4))))) runSp_p2
  unfold bV8
  exact hc (lnV rfl rfl (by omega)) <|hc (gtcT rfl (by omega)) <|hc (kMid (P := 0) (Q := 512) (isX rfl) (.inl ⟨rfl, rfl⟩) (.inr ⟨_, _, rfl, (isZ (m := 512) rfl)⟩) (by omega) (by omega) (by omega) (denX rfl)) <|hc (kLenE (isX rfl) (denZ (m := 512) rfl) (by omega)) <|hc (kRaG (f := reC) (l := o) (a := (tq, iq, (List.take (Int.toNat (512 - (0))) (List.drop (Int.toNat (0)) r)), 0)) (isX rfl) (isL4 (isX rfl) (isX rfl) (isX rfl) (isZ (m := 0) rfl)) (denX rfl)) <|hc (kRfG aA8 (isX rfl) (by first | (rw [List.length_append]; omega) | (first | omega | (simp <;> omega))) (by first | (rw [List.length_append]; omega) | (first | omega | (simp <;> omega)))) <|hc (kMid (P := 512) (Q := (r.length : Int)) (isX rfl) (.inr ⟨_, _, rfl, (isZ (m := 512) rfl)⟩) (.inl ⟨rfl, by first | omega | (simp <;> omega)⟩) (by omega) (by omega) (by omega) (denX rfl)) <|hnil
end
def cL6 (tq iq : Int) (To : List RC) (Tr : LB) : List Value := [.int .i64 (tq), .int .i64 (iq), St' Tr]
def roESp_0 (tq iq : Int) (To : List RC) (Tr : LB) : List Value := []
noncomputable def ESp_0 (tq iq : Int) (To : List RC) (Tr : LB) : Cx := cx (nuX (cL6 tq iq To Tr) (rX (roESp_0 tq iq To Tr) (fun _ => .bool true))) (aA7 (aA6 (l := cL6 tq iq To Tr) rfl)) 0 aA5 aA0
theorem roundsSp_0 (tq iq : Int) (To : List RC) (Tr : LB) (x0 : To.length = 0) (st : Nat × LB × List RC) (X : Nat → Value) (hI : aW6 tq iq To Tr st) : RHSp tq iq To Tr (ESp_0 tq iq To Tr) (.exit 0) [(0, .x 0), (1, .x 1), (2, .x 2), (7, .nils)] [] st X := by
  obtain ⟨tag, r, o⟩ := st
  have hI0 := hI
  obtain ⟨i0, i1, i2, i3, i4, i5, it⟩ := unISp tq iq To Tr tag r o hI
  rcases (show tag = 0 ∨ tag = 1 from by omega) with rfl | rfl
  · skip
    by_cases h0 : 512 < (r.length : Int)
    · exact cL0 hI0 h0
    · skip
      refine lvSp_0 (h := bV9) rfl ?_ (thXv (v := .int .i64 (tq)) rfl rfl (thXv (v := .int .i64 (iq)) rfl rfl (thXe (v := St' r) (u := St' Tr) rfl rfl (congrArg (fun l => St' l) (bN5 (by omega) i1 i2).2) (aB4)))) runSp_p1
      unfold bV9
      exact hc (lnV rfl rfl (by omega)) <|hc (gtcF rfl (by omega)) <|hnil
  · skip
    by_cases h0 : 512 < (r.length : Int)
    · exact cK9 hI0 h0
    · exfalso; have e := congrArg List.length ((bN5 (by omega) i1 i2).1); have := i5 rfl; omega
theorem cD5 {l : LF} {h : LH} (tq iq : Int) (To : List RC) (Tr : LB) (x0 : To.length = 0) (st : Nat × LB × List RC) (hI : aW6 tq iq To Tr st) (hl : l.hp = some h) (hs : aM1 l h 38 aQ5 (.exit 0) 1 111 123 = true) {th0 : LA} {sg0 : List (Nat × Nat)} (hth0 : ∀ X, ThOk (cx nu one 0 aA5 aA0) (DSp tq iq To Tr st X) th0) (h0 : aH4 l h 38 111 112 th0 sg0 (epSp st) (hpSp st) = true) {thx : LA} (hthx : ThOk (ESp_0 tq iq To Tr) (cx nu one 0 aA5 aA0) thx) (hx : aM2 l h 38 111 123 thx [(0, .x 0), (1, .x 1), (2, .x 2), (7, .nils)] [] = true) : LfOk (cx nu one 0 aA5 aA0) bS6 l :=
  bE6 (E := ESp_0 tq iq To Tr) (aW6 tq iq To Tr) (muSp tq iq To Tr) (DSp tq iq To Tr) (fun _ _ => rfl) (fun _ _ => rfl) (fun _ _ => rfl) (fun st X t ht => aG8.trans (aJ1 ((by decide : ∀ t, t ∈ aQ5 → t < 1000000) t ht))) rfl rfl rfl hl hs ebSp rfl rfl st hI hth0 h0 hthx hx (roundsSp_0 tq iq To Tr x0)
def cL5 (tq iq : Int) (To : List RC) (Tr : LB) : List Value := [.int .i64 (tq), .int .i64 (iq), St' Tr]
def roESp_1 (tq iq : Int) (To : List RC) (Tr : LB) : List Value := [rwG reC To]
noncomputable def ESp_1 (tq iq : Int) (To : List RC) (Tr : LB) : Cx := cx (nuX (cL5 tq iq To Tr) (rX (roESp_1 tq iq To Tr) (fun _ => .bool true))) (aA7 (aA6 (l := cL5 tq iq To Tr) rfl)) 0 aA5 aA0
theorem roundsSp_1 (tq iq : Int) (To : List RC) (Tr : LB) (x0 : ¬ To.length = 0) (st : Nat × LB × List RC) (X : Nat → Value) (hI : aW6 tq iq To Tr st) : RHSp tq iq To Tr (ESp_1 tq iq To Tr) (.exit 0) [(0, .x 0), (1, .x 1), (2, .x 2), (7, .sr 111)] [(111, .r 2000000 31 4 false)] st X := by
  obtain ⟨tag, r, o⟩ := st
  have hI0 := hI
  obtain ⟨i0, i1, i2, i3, i4, i5, it⟩ := unISp tq iq To Tr tag r o hI
  rcases (show tag = 0 ∨ tag = 1 from by omega) with rfl | rfl
  · skip
    by_cases h0 : 512 < (r.length : Int)
    · exact cL0 hI0 h0
    · exfalso; have e := congrArg List.length ((bN5 (by omega) i1 i2).1); rw [i4 rfl] at e; exact x0 e.symm
  · skip
    by_cases h0 : 512 < (r.length : Int)
    · exact cK9 hI0 h0
    · skip
      refine lvSp_1 (h := bV7) rfl ?_ (thXv (v := .int .i64 (tq)) rfl rfl (thXv (v := .int .i64 (iq)) rfl rfl (thXe (v := St' r) (u := St' Tr) rfl rfl (congrArg (fun l => St' l) (bN5 (by omega) i1 i2).2) (thXe (v := rwG reC o) (u := rwG reC To) rfl rfl (congrArg (rwG reC) (bN5 (by omega) i1 i2).1) (aB4))))) runSp_p3
      unfold bV7
      exact hc (lnV rfl rfl (by omega)) <|hc (gtcF rfl (by omega)) <|hnil
theorem lfOkSp_1 {l : LF} {h : LH} (tq iq : Int) (To : List RC) (Tr : LB) (x0 : ¬ To.length = 0) (st : Nat × LB × List RC) (hI : aW6 tq iq To Tr st) (hl : l.hp = some h) (hs : aM1 l h 38 aQ5 (.exit 0) 1 111 123 = true) {th0 : LA} {sg0 : List (Nat × Nat)} (hth0 : ∀ X, ThOk (cx nu one 0 aA5 aA0) (DSp tq iq To Tr st X) th0) (h0 : aH4 l h 38 111 112 th0 sg0 (epSp st) (hpSp st) = true) {thx : LA} (hthx : ThOk (ESp_1 tq iq To Tr) (cx nu one 0 aA5 aA0) thx) (hx : aM2 l h 38 111 123 thx [(0, .x 0), (1, .x 1), (2, .x 2), (7, .sr 111)] [(111, .r 2000000 31 4 false)] = true) : LfOk (cx nu one 0 aA5 aA0) bS6 l :=
  bE6 (E := ESp_1 tq iq To Tr) (aW6 tq iq To Tr) (muSp tq iq To Tr) (DSp tq iq To Tr) (fun _ _ => rfl) (fun _ _ => rfl) (fun _ _ => rfl) (fun st X t ht => aG8.trans (aJ1 ((by decide : ∀ t, t ∈ aQ5 → t < 1000000) t ht))) rfl rfl rfl hl hs ebSp rfl rfl st hI hth0 h0 hthx hx (roundsSp_1 tq iq To Tr x0)
noncomputable def fi9 : FI := (tabk.fn.get 9).getD default
theorem bR5 : tabk.fn.get 9 = some fi9 := by kernel_rfl
theorem aP3 : fi9.body = some (Try.f9.body.getD .skip) := by kernel_rfl
theorem fiB9 : fi9.body.isSome = true := by rw [aP3]; rfl
theorem cfA9 : (aC5 (Try.f9.body.getD .skip)).all (fun b => !(aY0 (Go.AX.keyOf b) 8888888)) = true := by kernel_rfl
def aPSpl : List AV := [.x 0, .x 1, .x 2]
def cO0 : LE := []
def nuSpl (tq iq : Int) (sq : LB) : List Value := [.int .i64 (tq), .int .i64 (iq), St' sq, St' ([] : LB), .int .i64 (tq), .int .i64 (iq), St' ((spX tq iq sq).2), St' ([] : LB), .int .i64 (tq), .int .i64 (iq), St' ((spX tq iq sq).2), .int .i64 (((spX tq iq sq).2.length : Int)), .int .i64 ((pdI ((spX tq iq sq).2.length : Int))), St' ([] : LB), .int .i64 (tq), .int .i64 (iq), St' ((spX tq iq sq).2), .int .i64 (((spX tq iq sq).2.length : Int)), .int .i64 ((pdI ((spX tq iq sq).2.length : Int)))]
def roSpl (tq iq : Int) (sq : LB) : List Value := [rwS ([] : List LB), rwG reC (([] : List (Int × Int × LB × Int)) ++ [(tq, iq, ([] : LB), 0)]), rwS ([] : List LB), rwG reC (([] : List (Int × Int × LB × Int)) ++ [(tq, iq, (spX tq iq sq).2, (pdI ((spX tq iq sq).2.length : Int)))]), rwG reC ((([] : List (Int × Int × LB × Int)) ++ [(tq, iq, (spX tq iq sq).2, (pdI ((spX tq iq sq).2.length : Int)))]) ++ [(tq, iq, ([] : LB), 0)]), rwS ([] : List LB), rwG reC ((spX tq iq sq).1), rwG reC ((spX tq iq sq).1 ++ [(tq, iq, (spX tq iq sq).2, (pdI ((spX tq iq sq).2.length : Int)))]), rwG reC (((spX tq iq sq).1 ++ [(tq, iq, (spX tq iq sq).2, (pdI ((spX tq iq sq).2.length : Int)))]) ++ [(tq, iq, ([] : LB), 0)])]
noncomputable def DSpl (tq iq : Int) (sq : LB) : Cx := cx (nuX (nuSpl tq iq sq) (rX (roSpl tq iq sq) (fun _ => .bool true))) (aA7 (aA6 (l := nuSpl tq iq sq) rfl)) 0 aA5 aA0
def bJ6 : LK := [(.rn, .x 2000000), (.bin .neq (.x 6) (.s 0 0), .b false), (.ra (.x 2000000) [.x 4, .x 5, .s 0 0, I6 0], .x 2000001), (.rf (.x 2000001) 4 40, .b true)]
def lh1 : LH := ⟨1, 111, 123, [], []⟩
def lf1 : LF := ⟨2, 38, [(0, .x 0), (1, .x 1), (2, .x 2), (7, .nils)], [], (.exit 0), [(0, .x 4), (1, .x 5), (2, .x 6), (7, .nils)], some lh1⟩
noncomputable def bZ1 : Tab := aF9 ((tbl bJ6)) 9 fi9 [lf1]
theorem runSpl_c0 (e : Unit) : okCf (call bZ1 2000 9 aPSpl ⟨aC4 cO0 ((fun _ : Unit => T.leaf) e), 111, 0, 0⟩) (.sr 111) [(2000000, .x 2000001)] [(111, 125)] 111 141 [(111, .r 2000000 31 4 false)] = true := by kernel_rfl
def bJ5 : LK := [(.rn, .x 2000002), (.bin .neq (.x 10) (.s 0 0), .b true), (.len (.x 10), .x 11), (.call 32 [.x 11], .x 12), (.ra (.x 2000002) [.x 8, .x 9, .x 10, .x 12], .x 2000003), (.rf (.x 2000003) 4 40, .b true), (.ra (.x 2000003) [.x 8, .x 9, .s 0 0, I6 0], .x 2000004), (.rf (.x 2000004) 4 40, .b true)]
def lf2 : LF := ⟨2, 38, [(0, .x 0), (1, .x 1), (2, .x 2), (7, .nils)], [], (.exit 0), [(0, .x 8), (1, .x 9), (2, .x 10), (7, .nils)], some lh1⟩
noncomputable def bZ0 : Tab := aF9 ((tbl bJ5)) 9 fi9 [lf2]
theorem runSpl_c1 (e : Unit) : okCf (call bZ0 2000 9 aPSpl ⟨aC4 cO0 ((fun _ : Unit => T.leaf) e), 111, 0, 0⟩) (.sr 111) [(2000000, .x 2000004)] [(111, 128)] 111 141 [(111, .r 2000000 31 4 false)] = true := by kernel_rfl
def bJ4 : LK := [(.bin .neq (.x 16) (.s 0 0), .b true), (.len (.x 16), .x 17), (.call 32 [.x 17], .x 18), (.ra (.x 2000006) [.x 14, .x 15, .x 16, .x 18], .x 2000007), (.rf (.x 2000007) 4 40, .b true), (.ra (.x 2000007) [.x 14, .x 15, .s 0 0, I6 0], .x 2000008), (.rf (.x 2000008) 4 40, .b true)]
def lh3 : LH := ⟨1, 111, 123, [], [(111, .r 2000006 31 4 false)]⟩
def lf3 : LF := ⟨2, 38, [(0, .x 0), (1, .x 1), (2, .x 2), (7, .nils)], [], (.exit 0), [(0, .x 14), (1, .x 15), (2, .x 16), (7, .sr 111)], some lh3⟩
noncomputable def bY9 : Tab := aF9 ((tbl bJ4)) 9 fi9 [lf3]
theorem runSpl_c2 (e : Unit) : okCf (call bY9 2000 9 aPSpl ⟨aC4 cO0 ((fun _ : Unit => T.leaf) e), 111, 0, 0⟩) (.sr 111) [(2000000, .x 2000008)] [(111, 128)] 111 141 [(111, .r 2000000 31 4 false)] = true := by kernel_rfl
def cC1 (tq iq : Int) (sq : LB) : List Value := []
def roESpl_0 (tq iq : Int) (sq : LB) : List Value := [rwG reC (spS tq iq sq)]
noncomputable def cG6 (tq iq : Int) (sq : LB) : Cx := cx (nuX (cC1 tq iq sq) (rX (roESpl_0 tq iq sq) (fun _ => .bool true))) (aA7 (aA6 (l := cC1 tq iq sq) rfl)) 0 aA5 aA0
theorem aW0 {l : LF} {h : LH} {q : Nat × AV} (tq iq : Int) (sq : LB) (p0 : sq.length ≤ 100000) (hl : l.hp = some h) (hq : l.post = [q]) (hs : cF7 l h 1 111 141 = true) {th0 : LA} {sg0 : List (Nat × Nat)} (hth0 : ThOk (cx nu one 0 aA5 aA0) (DSpl tq iq sq) th0) (h0 : (inAs th0 (sgB 111 111 sg0) aPSpl (l.pre.map (·.2)) && aF8 111 111 th0 sg0 (aC4 h.pre .leaf) cO0 && aF6 (numsOf 111 sg0 cO0)) = true) {thx : LA} (hthx : ThOk (cG6 tq iq sq) (cx nu one 0 aA5 aA0) thx) (hx : (inA thx (sgB 111 141 []) 8 q.2 (.sr 111) && aF8 111 141 thx [] (aC4 [(111, .r 2000000 31 4 false)] .leaf) h.post && aF6 (numsOf 111 [] h.post)) = true) : CfOk (cx nu one 0 aA5 aA0) 9 l := by
  have hgl := aL0 (t := tq) (i := iq) sq
  have hgt := aM4 tq iq (spX tq iq sq).2
  by_cases d0 : (spX tq iq sq).1.length = 0
  · by_cases d1 : ((spX tq iq sq).2.length : Int) = 0
    · skip
      have hgl := aL0 (t := tq) (i := iq) sq
      have hgt := aM4 tq iq (spX tq iq sq).2
      have ho : ∀ a' r', (a', r') ∈ bJ6 → HOk (DSpl tq iq sq) a' r' := by
        unfold bJ6
        exact hc (kRn (denX rfl)) <|hc (kNeS (isX rfl) (isSx (l := ([] : LB)) 0 0 rfl) (bnF (nilT (by omega)))) <|hc (kRaG (f := reC) (l := ([] : List (Int × Int × LB × Int))) (a := (tq, iq, ([] : LB), 0)) (isX rfl) (isL4 (isX rfl) (isX rfl) (isSx (l := ([] : LB)) 0 0 rfl) (isZ (m := 0) rfl)) (denX rfl)) <|hc (kRfG aA8 (isX rfl) (by first | (rw [List.length_append]; omega) | (first | omega | (simp <;> omega))) (by first | (rw [List.length_append]; omega) | (first | omega | (simp <;> omega)))) <|hnil
      exact cP6 (D := DSpl tq iq sq) (E := cG6 tq iq sq) (Gf := (fun _ : Unit => T.leaf)) (f := 2000) (tb := bZ1) rfl rfl rfl rfl rfl rfl hl hq hs rfl hth0 h0 hthx hx (aC6.lp1 ((aC2 _ _).hyps ho) (by omega) bR5 aP3 (aE4 (aG5 rfl ⟨0, keySp, cD5 (l := lf1) (h := lh1) tq iq ((spX tq iq sq).1) ((spX tq iq sq).2) (by assumption) (0, sq, []) (cM6 ⟨by omega, rfl, rfl, by simp only [List.length_nil]; omega, fun _ => rfl, fun h => by omega, by omega⟩) rfl (by kernel_rfl) (th0 := [(0, .x 0), (1, .x 1), (2, .x 2)]) (sg0 := []) (fun X => thXv (v := .int .i64 (tq)) rfl rfl (thXv (v := .int .i64 (iq)) rfl rfl (thXv (v := St' sq) rfl rfl (aB4)))) (by kernel_rfl) (thx := [(4, .x 0), (5, .x 1), (6, .x 2)]) (thXv (v := .int .i64 (tq)) rfl rfl (thXv (v := .int .i64 (iq)) rfl rfl (thXv (v := St' ((spX tq iq sq).2)) rfl rfl (aB4)))) (by kernel_rfl)⟩) aR5)) rfl (aR9 (by omega)) fiB9 (.inl ⟨fun _ => rfl, ⟨()⟩⟩) (thXe (v := rwG reC (([] : List (Int × Int × LB × Int)) ++ [(tq, iq, ([] : LB), 0)])) (u := rwG reC (spS tq iq sq)) rfl rfl (congrArg (rwG reC) (by first | exact cJ3 (by omega) (by omega) | exact cJ2 (by omega) (by omega) | exact cJ1 (by omega) | exact cJ0 (by omega) | exact cI9)) (aB4)) runSpl_c0
    · skip
      have hgl := aL0 (t := tq) (i := iq) sq
      have hgt := aM4 tq iq (spX tq iq sq).2
      have := bO9 ((spX tq iq sq).2.length : Int)
      have ho : ∀ a' r', (a', r') ∈ bJ5 → HOk (DSpl tq iq sq) a' r' := by
        unfold bJ5
        exact hc (kRn (denX rfl)) <|hc (kNeS (isX rfl) (isSx (l := ([] : LB)) 0 0 rfl) (bnT (nilF (by omega)))) <|hc (lnV rfl rfl (by omega)) <|hc (hokPad (isX rfl) (denX rfl) (by omega) (by omega)) <|hc (kRaG (f := reC) (l := ([] : List (Int × Int × LB × Int))) (a := (tq, iq, (spX tq iq sq).2, (pdI ((spX tq iq sq).2.length : Int)))) (isX rfl) (isL4 (isX rfl) (isX rfl) (isX rfl) (isX rfl)) (denX rfl)) <|hc (kRfG aA8 (isX rfl) (by first | (rw [List.length_append]; omega) | (first | omega | (simp <;> omega))) (by first | (rw [List.length_append]; omega) | (first | omega | (simp <;> omega)))) <|hc (kRaG (f := reC) (l := (([] : List (Int × Int × LB × Int)) ++ [(tq, iq, (spX tq iq sq).2, (pdI ((spX tq iq sq).2.length : Int)))])) (a := (tq, iq, ([] : LB), 0)) (isX rfl) (isL4 (isX rfl) (isX rfl) (isSx (l := ([] : LB)) 0 0 rfl) (isZ (m := 0) rfl)) (denX rfl)) <|hc (kRfG aA8 (isX rfl) (by first | (rw [List.length_append]; omega) | (first | omega | (simp <;> omega))) (by first | (rw [List.length_append]; omega) | (first | omega | (simp <;> omega)))) <|hnil
      exact cP6 (D := DSpl tq iq sq) (E := cG6 tq iq sq) (Gf := (fun _ : Unit => T.leaf)) (f := 2000) (tb := bZ0) rfl rfl rfl rfl rfl rfl hl hq hs rfl hth0 h0 hthx hx (aC6.lp1 ((aC2 _ _).hyps ho) (by omega) bR5 aP3 (aE4 (aG5 rfl ⟨0, keySp, cD5 (l := lf2) (h := lh1) tq iq ((spX tq iq sq).1) ((spX tq iq sq).2) (by assumption) (0, sq, []) (cM6 ⟨by omega, rfl, rfl, by simp only [List.length_nil]; omega, fun _ => rfl, fun h => by omega, by omega⟩) rfl (by kernel_rfl) (th0 := [(0, .x 0), (1, .x 1), (2, .x 2)]) (sg0 := []) (fun X => thXv (v := .int .i64 (tq)) rfl rfl (thXv (v := .int .i64 (iq)) rfl rfl (thXv (v := St' sq) rfl rfl (aB4)))) (by kernel_rfl) (thx := [(8, .x 0), (9, .x 1), (10, .x 2)]) (thXv (v := .int .i64 (tq)) rfl rfl (thXv (v := .int .i64 (iq)) rfl rfl (thXv (v := St' ((spX tq iq sq).2)) rfl rfl (aB4)))) (by kernel_rfl)⟩) aR5)) rfl (aR9 (by omega)) fiB9 (.inl ⟨fun _ => rfl, ⟨()⟩⟩) (thXe (v := rwG reC ((([] : List (Int × Int × LB × Int)) ++ [(tq, iq, (spX tq iq sq).2, (pdI ((spX tq iq sq).2.length : Int)))]) ++ [(tq, iq, ([] : LB), 0)])) (u := rwG reC (spS tq iq sq)) rfl rfl (congrArg (rwG reC) (by first | exact cJ3 (by omega) (by omega) | exact cJ2 (by omega) (by omega) | exact cJ1 (by omega) | exact cJ0 (by omega) | exact cI9)) (aB4)) runSpl_c1
  · skip
    have hgl := aL0 (t := tq) (i := iq) sq
    have hgt := aM4 tq iq (spX tq iq sq).2
    have := bO9 ((spX tq iq sq).2.length : Int)
    have ho : ∀ a' r', (a', r') ∈ bJ4 → HOk (DSpl tq iq sq) a' r' := by
      unfold bJ4
      exact hc (kNeS (isX rfl) (isSx (l := ([] : LB)) 0 0 rfl) (bnT (nilF (by omega)))) <|hc (lnV rfl rfl (by omega)) <|hc (hokPad (isX rfl) (denX rfl) (by omega) (by omega)) <|hc (kRaG (f := reC) (l := (spX tq iq sq).1) (a := (tq, iq, (spX tq iq sq).2, (pdI ((spX tq iq sq).2.length : Int)))) (isX rfl) (isL4 (isX rfl) (isX rfl) (isX rfl) (isX rfl)) (denX rfl)) <|hc (kRfG aA8 (isX rfl) (by first | (rw [List.length_append]; omega) | (first | omega | (simp <;> omega))) (by first | (rw [List.length_append]; omega) | (first | omega | (simp <;> omega)))) <|hc (kRaG (f := reC) (l := ((spX tq iq sq).1 ++ [(tq, iq, (spX tq iq sq).2, (pdI ((spX tq iq sq).2.length : Int)))])) (a := (tq, iq, ([] : LB), 0)) (isX rfl) (isL4 (isX rfl) (isX rfl) (isSx (l := ([] : LB)) 0 0 rfl) (isZ (m := 0) rfl)) (denX rfl)) <|hc (kRfG aA8 (isX rfl) (by first | (rw [List.length_append]; omega) | (first | omega | (simp <;> omega))) (by first | (rw [List.length_append]; omega) | (first | omega | (simp <;> omega)))) <|hnil
    exact cP6 (D := DSpl tq iq sq) (E := cG6 tq iq sq) (Gf := (fun _ : Unit => T.leaf)) (f := 2000) (tb := bY9) rfl rfl rfl rfl rfl rfl hl hq hs rfl hth0 h0 hthx hx (aC6.lp1 ((aC2 _ _).hyps ho) (by omega) bR5 aP3 (aE4 (aG5 rfl ⟨0, keySp, lfOkSp_1 (l := lf3) (h := lh3) tq iq ((spX tq iq sq).1) ((spX tq iq sq).2) (by assumption) (0, sq, []) (cM6 ⟨by omega, rfl, rfl, by simp only [List.length_nil]; omega, fun _ => rfl, fun h => by omega, by omega⟩) rfl (by kernel_rfl) (th0 := [(0, .x 0), (1, .x 1), (2, .x 2)]) (sg0 := []) (fun X => thXv (v := .int .i64 (tq)) rfl rfl (thXv (v := .int .i64 (iq)) rfl rfl (thXv (v := St' sq) rfl rfl (aB4)))) (by kernel_rfl) (thx := [(14, .x 0), (15, .x 1), (16, .x 2), (2000006, .x 2000000)]) (thXv (v := .int .i64 (tq)) rfl rfl (thXv (v := .int .i64 (iq)) rfl rfl (thXv (v := St' ((spX tq iq sq).2)) rfl rfl (thXv (v := rwG reC ((spX tq iq sq).1)) rfl rfl (aB4))))) (by kernel_rfl)⟩) aR5)) rfl (aR9 (by omega)) fiB9 (.inl ⟨fun _ => rfl, ⟨()⟩⟩) (thXe (v := rwG reC (((spX tq iq sq).1 ++ [(tq, iq, (spX tq iq sq).2, (pdI ((spX tq iq sq).2.length : Int)))]) ++ [(tq, iq, ([] : LB), 0)])) (u := rwG reC (spS tq iq sq)) rfl rfl (congrArg (rwG reC) (by first | exact cJ3 (by omega) (by omega) | exact cJ2 (by omega) (by omega) | exact cJ1 (by omega) | exact cJ0 (by omega) | exact cI9)) (aB4)) runSpl_c2
end Go.Proofs.Ytfoalkoifcpdmaa.framesTells
