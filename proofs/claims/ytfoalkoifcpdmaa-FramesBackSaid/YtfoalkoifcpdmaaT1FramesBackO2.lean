/- A part of the proof: an interpreter of the model's own code on partly known states, and that what it answers is what the program answers. No condition of its own. -/
import Derived.Test.YtfoalkoifcpdmaaT1FramesBackO
set_option maxRecDepth 100000
set_option linter.unusedVariables false
set_option linter.unusedSimpArgs false
set_option maxHeartbeats 4000000
namespace Go.Proofs.Ytfoalkoifcpdmaa.framesBack
open Go Go.AX Go.Proofs Go.Proofs.Ytfoalkoifcpdmaa
variable {nu : Nat → Value} {one : ∀ i, i < 1000000 → (nu i).oneCell' = true} {E' : Cx} {x' : Ex} {e' : LA} {h' : LE}
noncomputable def cU3 : Code := aX8 (Try.f9.body.getD .skip) 0
theorem keySp : aS8 (aE7 (Try.f9.body.getD .skip)) 2 0 0 = true := by kernel_rfl
def aY2 : List Nat := []
def epSp_0 : LA := [(0, .x 0), (1, .x 1), (2, .x 2), (7, .nils)]
def hpSp_0 : LE := []
def aX3 (tq iq : Int) (To : List RC) (Tr r : LB) (o : List RC) : List Value := [.int .i64 (tq), .int .i64 (iq), St' r, St' ([] : LB), .int .i64 ((r.length : Int)), St' (List.take (Int.toNat (512 - (0))) (List.drop (Int.toNat (0)) r)), St' (List.take (Int.toNat ((r.length : Int) - (512))) (List.drop (Int.toNat (512)) r)), St' ([] : LB), .int .i64 ((r.length : Int))]
def cO4 (tq iq : Int) (To : List RC) (Tr r : LB) (o : List RC) : List Value := [rwS ([] : List LB), rwG reC (([] : List (Int × Int × LB × Int)) ++ [(tq, iq, (List.take (Int.toNat (512 - (0))) (List.drop (Int.toNat (0)) r)), 0)]), rwS ([] : List LB)]
def dG8 : LA := [(0, .x 0), (1, .x 1), (2, .x 2), (7, .sr 111)]
def dF7 : LE := [(111, .r 2000000 31 4 false)]
def aX2 (tq iq : Int) (To : List RC) (Tr r : LB) (o : List RC) : List Value := [.int .i64 (tq), .int .i64 (iq), St' r, St' ([] : LB), .int .i64 ((r.length : Int)), St' (List.take (Int.toNat (512 - (0))) (List.drop (Int.toNat (0)) r)), St' (List.take (Int.toNat ((r.length : Int) - (512))) (List.drop (Int.toNat (512)) r)), St' ([] : LB), .int .i64 ((r.length : Int))]
def cN9 (tq iq : Int) (To : List RC) (Tr r : LB) (o : List RC) : List Value := [rwG reC o, rwS ([] : List LB), rwG reC (o ++ [(tq, iq, (List.take (Int.toNat (512 - (0))) (List.drop (Int.toNat (0)) r)), 0)]), rwS ([] : List LB)]
def epSp (st : Nat × LB × List RC) : LA := if st.1 = 0 then epSp_0 else dG8
def hpSp (st : Nat × LB × List RC) : LE := if st.1 = 0 then hpSp_0 else dF7
def nuSp (tq iq : Int) (To : List RC) (Tr : LB) (st : Nat × LB × List RC) : List Value := if st.1 = 0 then aX3 tq iq To Tr (st.2.1) (st.2.2) else aX2 tq iq To Tr (st.2.1) (st.2.2)
def roSp (tq iq : Int) (To : List RC) (Tr : LB) (st : Nat × LB × List RC) : List Value := if st.1 = 0 then cO4 tq iq To Tr (st.2.1) (st.2.2) else cN9 tq iq To Tr (st.2.1) (st.2.2)
theorem onSp (tq iq : Int) (To : List RC) (Tr : LB) (st : Nat × LB × List RC) : ∀ j, (nuL (nuSp tq iq To Tr st) j).oneCell' = true := by
  intro j
  unfold nuSp
  by_cases g0 : st.1 = 0
  · rw [if_pos g0]; exact aA9 (l := aX3 tq iq To Tr (st.2.1) (st.2.2)) rfl j
  rw [if_neg g0]
  exact aA9 (l := aX2 tq iq To Tr (st.2.1) (st.2.2)) rfl j
theorem ebSp (st : Nat × LB × List RC) : (lfB (epSp st) && lfC aY2) = true := by
  unfold epSp
  by_cases g0 : st.1 = 0
  · rw [if_pos g0]; rfl
  rw [if_neg g0]
  rfl
noncomputable def DSp (tq iq : Int) (To : List RC) (Tr : LB) (st : Nat × LB × List RC) (X : Nat → Value) : Cx := cx (nuX (nuSp tq iq To Tr st) (rX (roSp tq iq To Tr st) X)) (aB3 (onSp tq iq To Tr st)) 0 aB0 aA1
def bG1 (tq iq : Int) (To : List RC) (Tr : LB) (st : Nat × LB × List RC) : Prop := ((st.2.1).length ≤ 100000) ∧ ((st.2.2) ++ (spX tq iq (st.2.1)).1 = To) ∧ ((spX tq iq (st.2.1)).2 = Tr) ∧ ((st.2.2).length + (st.2.1).length ≤ 100000) ∧ ((st.1) = 0 → (st.2.2) = []) ∧ ((st.1) = 1 → 1 ≤ (st.2.2).length) ∧ ((st.1) < 2)
abbrev CjSp (tq iq : Int) (To : List RC) (Tr : LB) (tag : Nat) (r : LB) (o : List RC) : Prop := (r.length ≤ 100000) ∧ (o ++ (spX tq iq r).1 = To) ∧ ((spX tq iq r).2 = Tr) ∧ (o.length + r.length ≤ 100000) ∧ (tag = 0 → o = []) ∧ (tag = 1 → 1 ≤ o.length) ∧ (tag < 2)
theorem dM9 {tq iq : Int} {To : List RC} {Tr : LB} {tag : Nat} {r : LB} {o : List RC} (h : CjSp tq iq To Tr tag r o) : bG1 tq iq To Tr (tag, r, o) := h
theorem unISp (tq iq : Int) (To : List RC) (Tr : LB) (tag : Nat) (r : LB) (o : List RC) (h : bG1 tq iq To Tr (tag, r, o)) : (r.length ≤ 100000) ∧ (o ++ (spX tq iq r).1 = To) ∧ ((spX tq iq r).2 = Tr) ∧ (o.length + r.length ≤ 100000) ∧ (tag = 0 → o = []) ∧ (tag = 1 → 1 ≤ o.length) ∧ (tag < 2) := h
def muSp (tq iq : Int) (To : List RC) (Tr : LB) (st : Nat × LB × List RC) : Nat := (st.2.1).length
abbrev RHSp (tq iq : Int) (To : List RC) (Tr : LB) (E' : Cx) (ex' : Ex) (epx' : LA) (hpx' : LE) (st : Nat × LB × List RC) (X : Nat → Value) : Prop := aF4 E' cU3 aY2 38 ex' 1 111 112 123 epSp hpSp epx' hpx' (bG1 tq iq To Tr) (muSp tq iq To Tr) (DSp tq iq To Tr) st X
noncomputable abbrev dH6 (h : LK) (x : Ex) (th : LA) (sg : List (Nat × Nat)) (m : Nat) (ep : LA) (hp : LE) : Bool := bA0 (code (tbl h) 3000 [] cU3 (aM6 (aH9 epSp_0 aY2) 38) ⟨aE8 hpSp_0 .leaf, 112, 0, 0⟩) x aY2 38 123 th sg 111 m ep hp
theorem stSp_0 {tq iq : Int} {To : List RC} {Tr r : LB} {o : List RC} {X : Nat → Value} {h : LK} (y : Nat × LB × List RC) {th : LA} {sg : List (Nat × Nat)} (ho : ∀ a' r', (a', r') ∈ h → HOk (cx (nuX (aX3 tq iq To Tr r o) (rX (cO4 tq iq To Tr r o) X)) (aB3 (aA9 (l := aX3 tq iq To Tr r o) rfl)) 0 aB0 aA1) a' r') (hy : bG1 tq iq To Tr y) (lt : muSp tq iq To Tr y < muSp tq iq To Tr (0, r, o)) (ht : ThOk (cx (nuX (aX3 tq iq To Tr r o) (rX (cO4 tq iq To Tr r o) X)) (aB3 (aA9 (l := aX3 tq iq To Tr r o) rfl)) 0 aB0 aA1) (DSp tq iq To Tr y X) th) (run : dH6 h .normal th sg 112 (epSp y) (hpSp y) = true) : RHSp tq iq To Tr E' x' e' h' (0, r, o) X :=
  aF4.next (tb := tbl h) (L := []) (f := 3000) y ((aD2 _ _).hyps ho) (LpOk.nil _) rfl hy lt ht run
theorem lvSp_0 {tq iq : Int} {To : List RC} {Tr r : LB} {o : List RC} {X : Nat → Value} {h : LK} {th : LA} {sg : List (Nat × Nat)} (hne : exB x' .normal = false) (ho : ∀ a' r', (a', r') ∈ h → HOk (cx (nuX (aX3 tq iq To Tr r o) (rX (cO4 tq iq To Tr r o) X)) (aB3 (aA9 (l := aX3 tq iq To Tr r o) rfl)) 0 aB0 aA1) a' r') (ht : ThOk (cx (nuX (aX3 tq iq To Tr r o) (rX (cO4 tq iq To Tr r o) X)) (aB3 (aA9 (l := aX3 tq iq To Tr r o) rfl)) 0 aB0 aA1) E' th) (run : dH6 h x' th sg 123 e' h' = true) : RHSp tq iq To Tr E' x' e' h' (0, r, o) X :=
  aF4.leave (tb := tbl h) (L := []) (f := 3000) ((aD2 _ _).hyps ho) (LpOk.nil _) rfl hne ht run
noncomputable abbrev dH5 (h : LK) (x : Ex) (th : LA) (sg : List (Nat × Nat)) (m : Nat) (ep : LA) (hp : LE) : Bool := bA0 (code (tbl h) 3000 [] cU3 (aM6 (aH9 dG8 aY2) 38) ⟨aE8 dF7 .leaf, 112, 0, 0⟩) x aY2 38 123 th sg 111 m ep hp
theorem stSp_1 {tq iq : Int} {To : List RC} {Tr r : LB} {o : List RC} {X : Nat → Value} {h : LK} (y : Nat × LB × List RC) {th : LA} {sg : List (Nat × Nat)} (ho : ∀ a' r', (a', r') ∈ h → HOk (cx (nuX (aX2 tq iq To Tr r o) (rX (cN9 tq iq To Tr r o) X)) (aB3 (aA9 (l := aX2 tq iq To Tr r o) rfl)) 0 aB0 aA1) a' r') (hy : bG1 tq iq To Tr y) (lt : muSp tq iq To Tr y < muSp tq iq To Tr (1, r, o)) (ht : ThOk (cx (nuX (aX2 tq iq To Tr r o) (rX (cN9 tq iq To Tr r o) X)) (aB3 (aA9 (l := aX2 tq iq To Tr r o) rfl)) 0 aB0 aA1) (DSp tq iq To Tr y X) th) (run : dH5 h .normal th sg 112 (epSp y) (hpSp y) = true) : RHSp tq iq To Tr E' x' e' h' (1, r, o) X :=
  aF4.next (tb := tbl h) (L := []) (f := 3000) y ((aD2 _ _).hyps ho) (LpOk.nil _) rfl hy lt ht run
theorem lvSp_1 {tq iq : Int} {To : List RC} {Tr r : LB} {o : List RC} {X : Nat → Value} {h : LK} {th : LA} {sg : List (Nat × Nat)} (hne : exB x' .normal = false) (ho : ∀ a' r', (a', r') ∈ h → HOk (cx (nuX (aX2 tq iq To Tr r o) (rX (cN9 tq iq To Tr r o) X)) (aB3 (aA9 (l := aX2 tq iq To Tr r o) rfl)) 0 aB0 aA1) a' r') (ht : ThOk (cx (nuX (aX2 tq iq To Tr r o) (rX (cN9 tq iq To Tr r o) X)) (aB3 (aA9 (l := aX2 tq iq To Tr r o) rfl)) 0 aB0 aA1) E' th) (run : dH5 h x' th sg 123 e' h' = true) : RHSp tq iq To Tr E' x' e' h' (1, r, o) X :=
  aF4.leave (tb := tbl h) (L := []) (f := 3000) ((aD2 _ _).hyps ho) (LpOk.nil _) rfl hne ht run
def cX8 : LK := [(.rn, .x 2000000), (.len (.x 2), .x 4), (.bin .gtr (.x 4) (I6 512), .b true), (.sub (.x 2) none (some (I6 512)), .x 5), (.len (.x 5), I6 512), (.ra (.x 2000000) [.x 0, .x 1, .x 5, I6 0], .x 2000001), (.rf (.x 2000001) 4 40, .b true), (.sub (.x 2) (some (I6 512)) none, .x 6)]
theorem runSp_p0 : dH6 cX8 .normal [(0, .x 0), (1, .x 1), (2, .x 6), (2000000, .x 2000001)] [(111, 114)] 112 dG8 dF7 = true := by kernel_rfl
def cX7 : LK := [(.len (.x 2), .x 8), (.bin .gtr (.x 8) (I6 512), .b false)]
theorem runSp_p1 : dH6 cX7 (.exit 0) [(0, .x 0), (1, .x 1), (2, .x 2)] [] 123 [(0, .x 0), (1, .x 1), (2, .x 2), (7, .nils)] [] = true := by kernel_rfl
def cX6 : LK := [(.len (.x 2), .x 4), (.bin .gtr (.x 4) (I6 512), .b true), (.sub (.x 2) none (some (I6 512)), .x 5), (.len (.x 5), I6 512), (.ra (.x 2000000) [.x 0, .x 1, .x 5, I6 0], .x 2000002), (.rf (.x 2000002) 4 40, .b true), (.sub (.x 2) (some (I6 512)) none, .x 6)]
theorem runSp_p2 : dH5 cX6 .normal [(0, .x 0), (1, .x 1), (2, .x 6), (2000000, .x 2000002)] [(111, 114)] 112 dG8 dF7 = true := by kernel_rfl
def cX5 : LK := [(.len (.x 2), .x 8), (.bin .gtr (.x 8) (I6 512), .b false)]
theorem runSp_p3 : dH5 cX5 (.exit 0) [(0, .x 0), (1, .x 1), (2, .x 2), (2000000, .x 2000000)] [(111, 111)] 123 [(0, .x 0), (1, .x 1), (2, .x 2), (7, .sr 111)] [(111, .r 2000000 31 4 false)] = true := by kernel_rfl
section
variable {tq iq : Int} {To : List RC} {Tr : LB} {r : LB} {o : List RC} {X : Nat → Value}
theorem dL7 (hI : bG1 tq iq To Tr (0, r, o)) (h0 : 512 < (r.length : Int)) : RHSp tq iq To Tr E' x' e' h' (0, r, o) X := by
  obtain ⟨i0, i1, i2, i3, i4, i5, it⟩ := unISp tq iq To Tr 0 r o hI
  have := lenMd (l := r) (P := 0) (Q := 512) (by omega)
  have := lenMd (l := r) (P := 512) (Q := (r.length : Int)) (by omega)
  refine stSp_0 (h := cX8) (1, (List.take (Int.toNat ((r.length : Int) - (512))) (List.drop (Int.toNat (512)) r)), (([] : List (Int × Int × LB × Int)) ++ [(tq, iq, (List.take (Int.toNat (512 - (0))) (List.drop (Int.toNat (0)) r)), 0)])) ?_ (dM9 ⟨by omega, (sx_go (o := []) (by omega) (by simp) dr5 (show [] ++ _ = To from by have e := i1; rw [i4 rfl] at e; exact e) i2).1, (sx_go (o := []) (c := r.take 512) (by omega) rfl dr5 (show [] ++ _ = To from by have e := i1; rw [i4 rfl] at e; exact e) i2).2, by simp only [List.length_append, List.length_cons, List.length_nil]; omega, fun h => by omega, fun _ => by simp, by omega⟩) (by show ((List.take (Int.toNat ((r.length : Int) - (512))) (List.drop (Int.toNat (512)) r))).length < r.length; omega) (thXv (v := .int .i64 (tq)) rfl rfl (thXv (v := .int .i64 (iq)) rfl rfl (thXv (v := St' (List.take (Int.toNat ((r.length : Int) - (512))) (List.drop (Int.toNat (512)) r))) rfl rfl (thXv (v := rwG reC (([] : List (Int × Int × LB × Int)) ++ [(tq, iq, (List.take (Int.toNat (512 - (0))) (List.drop (Int.toNat (0)) r)), 0)])) rfl rfl (aE0))))) runSp_p0
  unfold cX8
  exact hc (kRn (denX rfl)) <|hc (lnV rfl rfl (by omega)) <|hc (gtcT rfl (by omega)) <|hc (kMid (P := 0) (Q := 512) (isX rfl) (.inl ⟨rfl, rfl⟩) (.inr ⟨_, _, rfl, (isZ (m := 512) rfl)⟩) (by omega) (by omega) (by omega) (denX rfl)) <|hc (kLenE (isX rfl) (denZ (m := 512) rfl) (by omega)) <|hc (kRaG (f := reC) (l := ([] : List (Int × Int × LB × Int))) (a := (tq, iq, (List.take (Int.toNat (512 - (0))) (List.drop (Int.toNat (0)) r)), 0)) (isX rfl) (isL4 (isX rfl) (isX rfl) (isX rfl) (isZ (m := 0) rfl)) (denX rfl)) <|hc (kRfG aC3 (isX rfl) (by first | (rw [List.length_append]; omega) | (first | omega | (simp <;> omega))) (by first | (rw [List.length_append]; omega) | (first | omega | (simp <;> omega)))) <|hc (kMid (P := 512) (Q := (r.length : Int)) (isX rfl) (.inr ⟨_, _, rfl, (isZ (m := 512) rfl)⟩) (.inl ⟨rfl, by first | omega | (simp <;> omega)⟩) (by omega) (by omega) (by omega) (denX rfl)) <|hnil
theorem dL6 (hI : bG1 tq iq To Tr (1, r, o)) (h0 : 512 < (r.length : Int)) : RHSp tq iq To Tr E' x' e' h' (1, r, o) X := by
  obtain ⟨i0, i1, i2, i3, i4, i5, it⟩ := unISp tq iq To Tr 1 r o hI
  have := lenMd (l := r) (P := 0) (Q := 512) (by omega)
  have := lenMd (l := r) (P := 512) (Q := (r.length : Int)) (by omega)
  refine stSp_1 (h := cX6) (1, (List.take (Int.toNat ((r.length : Int) - (512))) (List.drop (Int.toNat (512)) r)), (o ++ [(tq, iq, (List.take (Int.toNat (512 - (0))) (List.drop (Int.toNat (0)) r)), 0)])) ?_ (dM9 ⟨by omega, (sx_go (by omega) (by simp) dr5 i1 i2).1, (sx_go (c := r.take 512) (by omega) rfl dr5 i1 i2).2, by simp only [List.length_append, List.length_cons, List.length_nil]; omega, fun h => by omega, fun _ => by simp, by omega⟩) (by show ((List.take (Int.toNat ((r.length : Int) - (512))) (List.drop (Int.toNat (512)) r))).length < r.length; omega) (thXv (v := .int .i64 (tq)) rfl rfl (thXv (v := .int .i64 (iq)) rfl rfl (thXv (v := St' (List.take (Int.toNat ((r.length : Int) - (512))) (List.drop (Int.toNat (512)) r))) rfl rfl (thXv (v := rwG reC (o ++ [(tq, iq, (List.take (Int.toNat (512 - (0))) (List.drop (Int.toNat (0)) r)), 0)])) rfl rfl (aE0))))) runSp_p2
  unfold cX6
  exact hc (lnV rfl rfl (by omega)) <|hc (gtcT rfl (by omega)) <|hc (kMid (P := 0) (Q := 512) (isX rfl) (.inl ⟨rfl, rfl⟩) (.inr ⟨_, _, rfl, (isZ (m := 512) rfl)⟩) (by omega) (by omega) (by omega) (denX rfl)) <|hc (kLenE (isX rfl) (denZ (m := 512) rfl) (by omega)) <|hc (kRaG (f := reC) (l := o) (a := (tq, iq, (List.take (Int.toNat (512 - (0))) (List.drop (Int.toNat (0)) r)), 0)) (isX rfl) (isL4 (isX rfl) (isX rfl) (isX rfl) (isZ (m := 0) rfl)) (denX rfl)) <|hc (kRfG aC3 (isX rfl) (by first | (rw [List.length_append]; omega) | (first | omega | (simp <;> omega))) (by first | (rw [List.length_append]; omega) | (first | omega | (simp <;> omega)))) <|hc (kMid (P := 512) (Q := (r.length : Int)) (isX rfl) (.inr ⟨_, _, rfl, (isZ (m := 512) rfl)⟩) (.inl ⟨rfl, by first | omega | (simp <;> omega)⟩) (by omega) (by omega) (by omega) (denX rfl)) <|hnil
end
def dL9 (tq iq : Int) (To : List RC) (Tr : LB) : List Value := [.int .i64 (tq), .int .i64 (iq), St' Tr]
def roESp_0 (tq iq : Int) (To : List RC) (Tr : LB) : List Value := []
noncomputable def ESp_0 (tq iq : Int) (To : List RC) (Tr : LB) : Cx := cx (nuX (dL9 tq iq To Tr) (rX (roESp_0 tq iq To Tr) (fun _ => .bool true))) (aB3 (aA9 (l := dL9 tq iq To Tr) rfl)) 0 aB0 aA1
theorem roundsSp_0 (tq iq : Int) (To : List RC) (Tr : LB) (x0 : To.length = 0) (st : Nat × LB × List RC) (X : Nat → Value) (hI : bG1 tq iq To Tr st) : RHSp tq iq To Tr (ESp_0 tq iq To Tr) (.exit 0) [(0, .x 0), (1, .x 1), (2, .x 2), (7, .nils)] [] st X := by
  obtain ⟨tag, r, o⟩ := st
  have hI0 := hI
  obtain ⟨i0, i1, i2, i3, i4, i5, it⟩ := unISp tq iq To Tr tag r o hI
  rcases (show tag = 0 ∨ tag = 1 from by omega) with rfl | rfl
  · skip
    by_cases h0 : 512 < (r.length : Int)
    · exact dL7 hI0 h0
    · skip
      refine lvSp_0 (h := cX7) rfl ?_ (thXv (v := .int .i64 (tq)) rfl rfl (thXv (v := .int .i64 (iq)) rfl rfl (thXe (v := St' r) (u := St' Tr) rfl rfl (congrArg (fun l => St' l) (cN3 (by omega) i1 i2).2) (aE0)))) runSp_p1
      unfold cX7
      exact hc (lnV rfl rfl (by omega)) <|hc (gtcF rfl (by omega)) <|hnil
  · skip
    by_cases h0 : 512 < (r.length : Int)
    · exact dL6 hI0 h0
    · exfalso; have e := congrArg List.length ((cN3 (by omega) i1 i2).1); have := i5 rfl; omega
theorem dE5 {l : LF} {h : LH} (tq iq : Int) (To : List RC) (Tr : LB) (x0 : To.length = 0) (st : Nat × LB × List RC) (hI : bG1 tq iq To Tr st) (hl : l.hp = some h) (hs : aY1 l h 38 aY2 (.exit 0) 1 111 123 = true) {th0 : LA} {sg0 : List (Nat × Nat)} (hth0 : ∀ X, ThOk (cx nu one 0 aB0 aA1) (DSp tq iq To Tr st X) th0) (h0 : aN8 l h 38 111 112 th0 sg0 (epSp st) (hpSp st) = true) {thx : LA} (hthx : ThOk (ESp_0 tq iq To Tr) (cx nu one 0 aB0 aA1) thx) (hx : aY4 l h 38 111 123 thx [(0, .x 0), (1, .x 1), (2, .x 2), (7, .nils)] [] = true) : LfOk (cx nu one 0 aB0 aA1) cU3 l :=
  cR9 (E := ESp_0 tq iq To Tr) (bG1 tq iq To Tr) (muSp tq iq To Tr) (DSp tq iq To Tr) (fun _ _ => rfl) (fun _ _ => rfl) (fun _ _ => rfl) (fun st X t ht => aN1.trans (aS7 ((by decide : ∀ t, t ∈ aY2 → t < 1000000) t ht))) rfl rfl rfl hl hs ebSp rfl rfl st hI hth0 h0 hthx hx (roundsSp_0 tq iq To Tr x0)
def dL8 (tq iq : Int) (To : List RC) (Tr : LB) : List Value := [.int .i64 (tq), .int .i64 (iq), St' Tr]
def roESp_1 (tq iq : Int) (To : List RC) (Tr : LB) : List Value := [rwG reC To]
noncomputable def ESp_1 (tq iq : Int) (To : List RC) (Tr : LB) : Cx := cx (nuX (dL8 tq iq To Tr) (rX (roESp_1 tq iq To Tr) (fun _ => .bool true))) (aB3 (aA9 (l := dL8 tq iq To Tr) rfl)) 0 aB0 aA1
theorem roundsSp_1 (tq iq : Int) (To : List RC) (Tr : LB) (x0 : ¬ To.length = 0) (st : Nat × LB × List RC) (X : Nat → Value) (hI : bG1 tq iq To Tr st) : RHSp tq iq To Tr (ESp_1 tq iq To Tr) (.exit 0) [(0, .x 0), (1, .x 1), (2, .x 2), (7, .sr 111)] [(111, .r 2000000 31 4 false)] st X := by
  obtain ⟨tag, r, o⟩ := st
  have hI0 := hI
  obtain ⟨i0, i1, i2, i3, i4, i5, it⟩ := unISp tq iq To Tr tag r o hI
  rcases (show tag = 0 ∨ tag = 1 from by omega) with rfl | rfl
  · skip
    by_cases h0 : 512 < (r.length : Int)
    · exact dL7 hI0 h0
    · exfalso; have e := congrArg List.length ((cN3 (by omega) i1 i2).1); rw [i4 rfl] at e; exact x0 e.symm
  · skip
    by_cases h0 : 512 < (r.length : Int)
    · exact dL6 hI0 h0
    · skip
      refine lvSp_1 (h := cX5) rfl ?_ (thXv (v := .int .i64 (tq)) rfl rfl (thXv (v := .int .i64 (iq)) rfl rfl (thXe (v := St' r) (u := St' Tr) rfl rfl (congrArg (fun l => St' l) (cN3 (by omega) i1 i2).2) (thXe (v := rwG reC o) (u := rwG reC To) rfl rfl (congrArg (rwG reC) (cN3 (by omega) i1 i2).1) (aE0))))) runSp_p3
      unfold cX5
      exact hc (lnV rfl rfl (by omega)) <|hc (gtcF rfl (by omega)) <|hnil
theorem lfOkSp_1 {l : LF} {h : LH} (tq iq : Int) (To : List RC) (Tr : LB) (x0 : ¬ To.length = 0) (st : Nat × LB × List RC) (hI : bG1 tq iq To Tr st) (hl : l.hp = some h) (hs : aY1 l h 38 aY2 (.exit 0) 1 111 123 = true) {th0 : LA} {sg0 : List (Nat × Nat)} (hth0 : ∀ X, ThOk (cx nu one 0 aB0 aA1) (DSp tq iq To Tr st X) th0) (h0 : aN8 l h 38 111 112 th0 sg0 (epSp st) (hpSp st) = true) {thx : LA} (hthx : ThOk (ESp_1 tq iq To Tr) (cx nu one 0 aB0 aA1) thx) (hx : aY4 l h 38 111 123 thx [(0, .x 0), (1, .x 1), (2, .x 2), (7, .sr 111)] [(111, .r 2000000 31 4 false)] = true) : LfOk (cx nu one 0 aB0 aA1) cU3 l :=
  cR9 (E := ESp_1 tq iq To Tr) (bG1 tq iq To Tr) (muSp tq iq To Tr) (DSp tq iq To Tr) (fun _ _ => rfl) (fun _ _ => rfl) (fun _ _ => rfl) (fun st X t ht => aN1.trans (aS7 ((by decide : ∀ t, t ∈ aY2 → t < 1000000) t ht))) rfl rfl rfl hl hs ebSp rfl rfl st hI hth0 h0 hthx hx (roundsSp_1 tq iq To Tr x0)
noncomputable def fi9 : FI := (tabk.fn.get 9).getD default
theorem cT3 : tabk.fn.get 9 = some fi9 := by kernel_rfl
theorem aV5 : fi9.body = some (Try.f9.body.getD .skip) := by kernel_rfl
theorem fiB9 : fi9.body.isSome = true := by rw [aV5]; rfl
theorem cfA9 : (aE7 (Try.f9.body.getD .skip)).all (fun b => !(bQ6 (Go.AX.keyOf b) 8888888)) = true := by kernel_rfl
def aPSpl : List AV := [.x 0, .x 1, .x 2]
def dO3 : LE := []
def nuSpl (tq iq : Int) (sq : LB) : List Value := [.int .i64 (tq), .int .i64 (iq), St' sq, St' ([] : LB), .int .i64 (tq), .int .i64 (iq), St' ((spX tq iq sq).2), St' ([] : LB), .int .i64 (tq), .int .i64 (iq), St' ((spX tq iq sq).2), .int .i64 (((spX tq iq sq).2.length : Int)), .int .i64 ((pdI ((spX tq iq sq).2.length : Int))), St' ([] : LB), .int .i64 (tq), .int .i64 (iq), St' ((spX tq iq sq).2), .int .i64 (((spX tq iq sq).2.length : Int)), .int .i64 ((pdI ((spX tq iq sq).2.length : Int)))]
def roSpl (tq iq : Int) (sq : LB) : List Value := [rwS ([] : List LB), rwG reC (([] : List (Int × Int × LB × Int)) ++ [(tq, iq, ([] : LB), 0)]), rwS ([] : List LB), rwG reC (([] : List (Int × Int × LB × Int)) ++ [(tq, iq, (spX tq iq sq).2, (pdI ((spX tq iq sq).2.length : Int)))]), rwG reC ((([] : List (Int × Int × LB × Int)) ++ [(tq, iq, (spX tq iq sq).2, (pdI ((spX tq iq sq).2.length : Int)))]) ++ [(tq, iq, ([] : LB), 0)]), rwS ([] : List LB), rwG reC ((spX tq iq sq).1), rwG reC ((spX tq iq sq).1 ++ [(tq, iq, (spX tq iq sq).2, (pdI ((spX tq iq sq).2.length : Int)))]), rwG reC (((spX tq iq sq).1 ++ [(tq, iq, (spX tq iq sq).2, (pdI ((spX tq iq sq).2.length : Int)))]) ++ [(tq, iq, ([] : LB), 0)])]
noncomputable def DSpl (tq iq : Int) (sq : LB) : Cx := cx (nuX (nuSpl tq iq sq) (rX (roSpl tq iq sq) (fun _ => .bool true))) (aB3 (aA9 (l := nuSpl tq iq sq) rfl)) 0 aB0 aA1
def cF0 : LK := [(.rn, .x 2000000), (.bin .neq (.x 6) (.s 0 0), .b false), (.ra (.x 2000000) [.x 4, .x 5, .s 0 0, I6 0], .x 2000001), (.rf (.x 2000001) 4 40, .b true)]
def lh1 : LH := ⟨1, 111, 123, [], []⟩
def lf1 : LF := ⟨2, 38, [(0, .x 0), (1, .x 1), (2, .x 2), (7, .nils)], [], (.exit 0), [(0, .x 4), (1, .x 5), (2, .x 6), (7, .nils)], some lh1⟩
noncomputable def dB1 : Tab := aL2 ((tbl cF0)) 9 fi9 [lf1]
theorem runSpl_c0 (e : Unit) : okCf (call dB1 2000 9 aPSpl ⟨aE8 dO3 ((fun _ : Unit => T.leaf) e), 111, 0, 0⟩) (.sr 111) [(2000000, .x 2000001)] [(111, 125)] 111 141 [(111, .r 2000000 31 4 false)] = true := by kernel_rfl
def cE7 : LK := [(.rn, .x 2000002), (.bin .neq (.x 10) (.s 0 0), .b true), (.len (.x 10), .x 11), (.call 32 [.x 11], .x 12), (.ra (.x 2000002) [.x 8, .x 9, .x 10, .x 12], .x 2000003), (.rf (.x 2000003) 4 40, .b true), (.ra (.x 2000003) [.x 8, .x 9, .s 0 0, I6 0], .x 2000004), (.rf (.x 2000004) 4 40, .b true)]
def lf2 : LF := ⟨2, 38, [(0, .x 0), (1, .x 1), (2, .x 2), (7, .nils)], [], (.exit 0), [(0, .x 8), (1, .x 9), (2, .x 10), (7, .nils)], some lh1⟩
noncomputable def dB0 : Tab := aL2 ((tbl cE7)) 9 fi9 [lf2]
theorem runSpl_c1 (e : Unit) : okCf (call dB0 2000 9 aPSpl ⟨aE8 dO3 ((fun _ : Unit => T.leaf) e), 111, 0, 0⟩) (.sr 111) [(2000000, .x 2000004)] [(111, 128)] 111 141 [(111, .r 2000000 31 4 false)] = true := by kernel_rfl
def cE6 : LK := [(.bin .neq (.x 16) (.s 0 0), .b true), (.len (.x 16), .x 17), (.call 32 [.x 17], .x 18), (.ra (.x 2000006) [.x 14, .x 15, .x 16, .x 18], .x 2000007), (.rf (.x 2000007) 4 40, .b true), (.ra (.x 2000007) [.x 14, .x 15, .s 0 0, I6 0], .x 2000008), (.rf (.x 2000008) 4 40, .b true)]
def lh3 : LH := ⟨1, 111, 123, [], [(111, .r 2000006 31 4 false)]⟩
def lf3 : LF := ⟨2, 38, [(0, .x 0), (1, .x 1), (2, .x 2), (7, .nils)], [], (.exit 0), [(0, .x 14), (1, .x 15), (2, .x 16), (7, .sr 111)], some lh3⟩
noncomputable def dA9 : Tab := aL2 ((tbl cE6)) 9 fi9 [lf3]
theorem runSpl_c2 (e : Unit) : okCf (call dA9 2000 9 aPSpl ⟨aE8 dO3 ((fun _ : Unit => T.leaf) e), 111, 0, 0⟩) (.sr 111) [(2000000, .x 2000008)] [(111, 128)] 111 141 [(111, .r 2000000 31 4 false)] = true := by kernel_rfl
def dD3 (tq iq : Int) (sq : LB) : List Value := []
def roESpl_0 (tq iq : Int) (sq : LB) : List Value := [rwG reC (spS tq iq sq)]
noncomputable def dI0 (tq iq : Int) (sq : LB) : Cx := cx (nuX (dD3 tq iq sq) (rX (roESpl_0 tq iq sq) (fun _ => .bool true))) (aB3 (aA9 (l := dD3 tq iq sq) rfl)) 0 aB0 aA1
theorem cL9 {l : LF} {h : LH} {q : Nat × AV} (tq iq : Int) (sq : LB) (p0 : sq.length ≤ 100000) (hl : l.hp = some h) (hq : l.post = [q]) (hs : dP8 l h 1 111 141 = true) {th0 : LA} {sg0 : List (Nat × Nat)} (hth0 : ThOk (cx nu one 0 aB0 aA1) (DSpl tq iq sq) th0) (h0 : (inAs th0 (sgB 111 111 sg0) aPSpl (l.pre.map (·.2)) && aK1 111 111 th0 sg0 (aE8 h.pre .leaf) dO3 && aJ7 (numsOf 111 sg0 dO3)) = true) {thx : LA} (hthx : ThOk (dI0 tq iq sq) (cx nu one 0 aB0 aA1) thx) (hx : (inA thx (sgB 111 141 []) 8 q.2 (.sr 111) && aK1 111 141 thx [] (aE8 [(111, .r 2000000 31 4 false)] .leaf) h.post && aJ7 (numsOf 111 [] h.post)) = true) : CfOk (cx nu one 0 aB0 aA1) 9 l := by
  have hgl := aZ5 (t := tq) (i := iq) sq
  have hgt := bN7 tq iq (spX tq iq sq).2
  by_cases d0 : (spX tq iq sq).1.length = 0
  · by_cases d1 : ((spX tq iq sq).2.length : Int) = 0
    · skip
      have hgl := aZ5 (t := tq) (i := iq) sq
      have hgt := bN7 tq iq (spX tq iq sq).2
      have ho : ∀ a' r', (a', r') ∈ cF0 → HOk (DSpl tq iq sq) a' r' := by
        unfold cF0
        exact hc (kRn (denX rfl)) <|hc (kNeS (isX rfl) (isSx (l := ([] : LB)) 0 0 rfl) (bnF (nilT (by omega)))) <|hc (kRaG (f := reC) (l := ([] : List (Int × Int × LB × Int))) (a := (tq, iq, ([] : LB), 0)) (isX rfl) (isL4 (isX rfl) (isX rfl) (isSx (l := ([] : LB)) 0 0 rfl) (isZ (m := 0) rfl)) (denX rfl)) <|hc (kRfG aC3 (isX rfl) (by first | (rw [List.length_append]; omega) | (first | omega | (simp <;> omega))) (by first | (rw [List.length_append]; omega) | (first | omega | (simp <;> omega)))) <|hnil
      exact cfOkX (D := DSpl tq iq sq) (E := dI0 tq iq sq) (Gf := (fun _ : Unit => T.leaf)) (f := 2000) (tb := dB1) rfl rfl rfl rfl rfl rfl hl hq hs rfl hth0 h0 hthx hx (aF3.lp1 ((aD2 _ _).hyps ho) (by omega) cT3 aV5 (aN4 (aO8 rfl ⟨0, keySp, dE5 (l := lf1) (h := lh1) tq iq ((spX tq iq sq).1) ((spX tq iq sq).2) (by assumption) (0, sq, []) (dM9 ⟨by omega, rfl, rfl, by simp only [List.length_nil]; omega, fun _ => rfl, fun h => by omega, by omega⟩) rfl (by kernel_rfl) (th0 := [(0, .x 0), (1, .x 1), (2, .x 2)]) (sg0 := []) (fun X => thXv (v := .int .i64 (tq)) rfl rfl (thXv (v := .int .i64 (iq)) rfl rfl (thXv (v := St' sq) rfl rfl (aE0)))) (by kernel_rfl) (thx := [(4, .x 0), (5, .x 1), (6, .x 2)]) (thXv (v := .int .i64 (tq)) rfl rfl (thXv (v := .int .i64 (iq)) rfl rfl (thXv (v := St' ((spX tq iq sq).2)) rfl rfl (aE0)))) (by kernel_rfl)⟩) bQ1)) rfl (bF5 (by omega)) fiB9 (.inl ⟨fun _ => rfl, ⟨()⟩⟩) (thXe (v := rwG reC (([] : List (Int × Int × LB × Int)) ++ [(tq, iq, ([] : LB), 0)])) (u := rwG reC (spS tq iq sq)) rfl rfl (congrArg (rwG reC) (by first | exact spS_a (by omega) (by omega) | exact spS_b (by omega) (by omega) | exact spS_c (by omega) | exact spS_d (by omega) | exact spS_e)) (aE0)) runSpl_c0
    · skip
      have hgl := aZ5 (t := tq) (i := iq) sq
      have hgt := bN7 tq iq (spX tq iq sq).2
      have := dC6 ((spX tq iq sq).2.length : Int)
      have ho : ∀ a' r', (a', r') ∈ cE7 → HOk (DSpl tq iq sq) a' r' := by
        unfold cE7
        exact hc (kRn (denX rfl)) <|hc (kNeS (isX rfl) (isSx (l := ([] : LB)) 0 0 rfl) (bnT (nilF (by omega)))) <|hc (lnV rfl rfl (by omega)) <|hc (hokPad (isX rfl) (denX rfl) (by omega) (by omega)) <|hc (kRaG (f := reC) (l := ([] : List (Int × Int × LB × Int))) (a := (tq, iq, (spX tq iq sq).2, (pdI ((spX tq iq sq).2.length : Int)))) (isX rfl) (isL4 (isX rfl) (isX rfl) (isX rfl) (isX rfl)) (denX rfl)) <|hc (kRfG aC3 (isX rfl) (by first | (rw [List.length_append]; omega) | (first | omega | (simp <;> omega))) (by first | (rw [List.length_append]; omega) | (first | omega | (simp <;> omega)))) <|hc (kRaG (f := reC) (l := (([] : List (Int × Int × LB × Int)) ++ [(tq, iq, (spX tq iq sq).2, (pdI ((spX tq iq sq).2.length : Int)))])) (a := (tq, iq, ([] : LB), 0)) (isX rfl) (isL4 (isX rfl) (isX rfl) (isSx (l := ([] : LB)) 0 0 rfl) (isZ (m := 0) rfl)) (denX rfl)) <|hc (kRfG aC3 (isX rfl) (by first | (rw [List.length_append]; omega) | (first | omega | (simp <;> omega))) (by first | (rw [List.length_append]; omega) | (first | omega | (simp <;> omega)))) <|hnil
      exact cfOkX (D := DSpl tq iq sq) (E := dI0 tq iq sq) (Gf := (fun _ : Unit => T.leaf)) (f := 2000) (tb := dB0) rfl rfl rfl rfl rfl rfl hl hq hs rfl hth0 h0 hthx hx (aF3.lp1 ((aD2 _ _).hyps ho) (by omega) cT3 aV5 (aN4 (aO8 rfl ⟨0, keySp, dE5 (l := lf2) (h := lh1) tq iq ((spX tq iq sq).1) ((spX tq iq sq).2) (by assumption) (0, sq, []) (dM9 ⟨by omega, rfl, rfl, by simp only [List.length_nil]; omega, fun _ => rfl, fun h => by omega, by omega⟩) rfl (by kernel_rfl) (th0 := [(0, .x 0), (1, .x 1), (2, .x 2)]) (sg0 := []) (fun X => thXv (v := .int .i64 (tq)) rfl rfl (thXv (v := .int .i64 (iq)) rfl rfl (thXv (v := St' sq) rfl rfl (aE0)))) (by kernel_rfl) (thx := [(8, .x 0), (9, .x 1), (10, .x 2)]) (thXv (v := .int .i64 (tq)) rfl rfl (thXv (v := .int .i64 (iq)) rfl rfl (thXv (v := St' ((spX tq iq sq).2)) rfl rfl (aE0)))) (by kernel_rfl)⟩) bQ1)) rfl (bF5 (by omega)) fiB9 (.inl ⟨fun _ => rfl, ⟨()⟩⟩) (thXe (v := rwG reC ((([] : List (Int × Int × LB × Int)) ++ [(tq, iq, (spX tq iq sq).2, (pdI ((spX tq iq sq).2.length : Int)))]) ++ [(tq, iq, ([] : LB), 0)])) (u := rwG reC (spS tq iq sq)) rfl rfl (congrArg (rwG reC) (by first | exact spS_a (by omega) (by omega) | exact spS_b (by omega) (by omega) | exact spS_c (by omega) | exact spS_d (by omega) | exact spS_e)) (aE0)) runSpl_c1
  · skip
    have hgl := aZ5 (t := tq) (i := iq) sq
    have hgt := bN7 tq iq (spX tq iq sq).2
    have := dC6 ((spX tq iq sq).2.length : Int)
    have ho : ∀ a' r', (a', r') ∈ cE6 → HOk (DSpl tq iq sq) a' r' := by
      unfold cE6
      exact hc (kNeS (isX rfl) (isSx (l := ([] : LB)) 0 0 rfl) (bnT (nilF (by omega)))) <|hc (lnV rfl rfl (by omega)) <|hc (hokPad (isX rfl) (denX rfl) (by omega) (by omega)) <|hc (kRaG (f := reC) (l := (spX tq iq sq).1) (a := (tq, iq, (spX tq iq sq).2, (pdI ((spX tq iq sq).2.length : Int)))) (isX rfl) (isL4 (isX rfl) (isX rfl) (isX rfl) (isX rfl)) (denX rfl)) <|hc (kRfG aC3 (isX rfl) (by first | (rw [List.length_append]; omega) | (first | omega | (simp <;> omega))) (by first | (rw [List.length_append]; omega) | (first | omega | (simp <;> omega)))) <|hc (kRaG (f := reC) (l := ((spX tq iq sq).1 ++ [(tq, iq, (spX tq iq sq).2, (pdI ((spX tq iq sq).2.length : Int)))])) (a := (tq, iq, ([] : LB), 0)) (isX rfl) (isL4 (isX rfl) (isX rfl) (isSx (l := ([] : LB)) 0 0 rfl) (isZ (m := 0) rfl)) (denX rfl)) <|hc (kRfG aC3 (isX rfl) (by first | (rw [List.length_append]; omega) | (first | omega | (simp <;> omega))) (by first | (rw [List.length_append]; omega) | (first | omega | (simp <;> omega)))) <|hnil
    exact cfOkX (D := DSpl tq iq sq) (E := dI0 tq iq sq) (Gf := (fun _ : Unit => T.leaf)) (f := 2000) (tb := dA9) rfl rfl rfl rfl rfl rfl hl hq hs rfl hth0 h0 hthx hx (aF3.lp1 ((aD2 _ _).hyps ho) (by omega) cT3 aV5 (aN4 (aO8 rfl ⟨0, keySp, lfOkSp_1 (l := lf3) (h := lh3) tq iq ((spX tq iq sq).1) ((spX tq iq sq).2) (by assumption) (0, sq, []) (dM9 ⟨by omega, rfl, rfl, by simp only [List.length_nil]; omega, fun _ => rfl, fun h => by omega, by omega⟩) rfl (by kernel_rfl) (th0 := [(0, .x 0), (1, .x 1), (2, .x 2)]) (sg0 := []) (fun X => thXv (v := .int .i64 (tq)) rfl rfl (thXv (v := .int .i64 (iq)) rfl rfl (thXv (v := St' sq) rfl rfl (aE0)))) (by kernel_rfl) (thx := [(14, .x 0), (15, .x 1), (16, .x 2), (2000006, .x 2000000)]) (thXv (v := .int .i64 (tq)) rfl rfl (thXv (v := .int .i64 (iq)) rfl rfl (thXv (v := St' ((spX tq iq sq).2)) rfl rfl (thXv (v := rwG reC ((spX tq iq sq).1)) rfl rfl (aE0))))) (by kernel_rfl)⟩) bQ1)) rfl (bF5 (by omega)) fiB9 (.inl ⟨fun _ => rfl, ⟨()⟩⟩) (thXe (v := rwG reC (((spX tq iq sq).1 ++ [(tq, iq, (spX tq iq sq).2, (pdI ((spX tq iq sq).2.length : Int)))]) ++ [(tq, iq, ([] : LB), 0)])) (u := rwG reC (spS tq iq sq)) rfl rfl (congrArg (rwG reC) (by first | exact spS_a (by omega) (by omega) | exact spS_b (by omega) (by omega) | exact spS_c (by omega) | exact spS_d (by omega) | exact spS_e)) (aE0)) runSpl_c2
end Go.Proofs.Ytfoalkoifcpdmaa.framesBack
