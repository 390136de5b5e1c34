/- A part of the proof: an interpreter of the model's own code on partly known states, and that what it answers is what the program answers. No condition of its own. -/
import Derived.Test.YtfoalkoifcpdmaaT1FramesBackO4
set_option maxRecDepth 100000
set_option linter.unusedVariables false
set_option linter.unusedSimpArgs false
set_option maxHeartbeats 4000000
namespace Go.Proofs.Ytfoalkoifcpdmaa.framesBack
open Go Go.AX Go.Proofs Go.Proofs.Ytfoalkoifcpdmaa
variable {nu : Nat → Value} {one : ∀ i, i < 1000000 → (nu i).oneCell' = true} {E' : Cx} {x' : Ex} {e' : LA} {h' : LE}
noncomputable def dH0 : Code := aX8 (Try.f15.body.getD .skip) 0
theorem keyRd : aS8 (aE7 (Try.f15.body.getD .skip)) 2 0 0 = true := by kernel_rfl
def bG7 : List Nat := []
def epRd_0 : LA := [(0, .x 0), (4, .nils)]
def hpRd_0 : LE := []
def aX5 (z : List (LB × LB)) (s : LB) (o : List (LB × LB)) : List Value := [St' s, St' ([] : LB), .int .i64 ((s.length : Int)), .int .i64 ((vL s)), St' (rsL s), .int .i64 ((vL (rsL s))), St' (rsL (rsL s)), .int .i64 (((rsL (rsL s)).length : Int)), .int .i64 ((vL (rsL s)) + (vL s)), St' ((pv s).1), St' ((pv s).2), St' (prs s), St' ([] : LB), .int .i64 ((s.length : Int))]
def cO9 (z : List (LB × LB)) (s : LB) (o : List (LB × LB)) : List Value := [rwS ([] : List LB), rwG prC (([] : List (LB × LB)) ++ [((pv s).1, (pv s).2)]), rwS ([] : List LB)]
def dG9 : LA := [(0, .x 0), (4, .sr 301)]
def dF8 : LE := [(301, .r 2000000 25 2 false)]
def aX4 (z : List (LB × LB)) (s : LB) (o : List (LB × LB)) : List Value := [St' s, St' ([] : LB), .int .i64 ((s.length : Int)), .int .i64 ((o.length : Int)), .int .i64 ((vL s)), St' (rsL s), .int .i64 ((vL (rsL s))), St' (rsL (rsL s)), .int .i64 (((rsL (rsL s)).length : Int)), .int .i64 ((vL (rsL s)) + (vL s)), St' ((pv s).1), St' ((pv s).2), St' (prs s), St' ([] : LB), .int .i64 ((s.length : Int))]
def cO5 (z : List (LB × LB)) (s : LB) (o : List (LB × LB)) : List Value := [rwG prC o, rwS ([] : List LB), rwG prC (o ++ [((pv s).1, (pv s).2)]), rwS ([] : List LB)]
def epRd (st : Nat × LB × List (LB × LB)) : LA := if st.1 = 0 then epRd_0 else dG9
def hpRd (st : Nat × LB × List (LB × LB)) : LE := if st.1 = 0 then hpRd_0 else dF8
def nuRd (z : List (LB × LB)) (st : Nat × LB × List (LB × LB)) : List Value := if st.1 = 0 then aX5 z (st.2.1) (st.2.2) else aX4 z (st.2.1) (st.2.2)
def roRd (z : List (LB × LB)) (st : Nat × LB × List (LB × LB)) : List Value := if st.1 = 0 then cO9 z (st.2.1) (st.2.2) else cO5 z (st.2.1) (st.2.2)
theorem onRd (z : List (LB × LB)) (st : Nat × LB × List (LB × LB)) : ∀ j, (nuL (nuRd z st) j).oneCell' = true := by
  intro j
  unfold nuRd
  by_cases g0 : st.1 = 0
  · rw [if_pos g0]; exact aA9 (l := aX5 z (st.2.1) (st.2.2)) rfl j
  rw [if_neg g0]
  exact aA9 (l := aX4 z (st.2.1) (st.2.2)) rfl j
theorem ebRd (st : Nat × LB × List (LB × LB)) : (lfB (epRd st) && lfC bG7) = true := by
  unfold epRd
  by_cases g0 : st.1 = 0
  · rw [if_pos g0]; rfl
  rw [if_neg g0]
  rfl
noncomputable def DRd (z : List (LB × LB)) (st : Nat × LB × List (LB × LB)) (X : Nat → Value) : Cx := cx (nuX (nuRd z st) (rX (roRd z st) X)) (aB3 (onRd z st)) 0 aB0 aA1
def bU3 (z : List (LB × LB)) (st : Nat × LB × List (LB × LB)) : Prop := ((st.2.1).length ≤ 60000) ∧ ((st.2.2) ++ (prS (st.2.1)).1 = z) ∧ ((prS (st.2.1)).2 = 0) ∧ (z.length ≤ 40) ∧ ((st.1) = 0 → (st.2.2) = []) ∧ ((st.1) = 1 → 1 ≤ (st.2.2).length) ∧ (1 ≤ z.length) ∧ ((st.1) < 2)
abbrev CjRd (z : List (LB × LB)) (tag : Nat) (s : LB) (o : List (LB × LB)) : Prop := (s.length ≤ 60000) ∧ (o ++ (prS s).1 = z) ∧ ((prS s).2 = 0) ∧ (z.length ≤ 40) ∧ (tag = 0 → o = []) ∧ (tag = 1 → 1 ≤ o.length) ∧ (1 ≤ z.length) ∧ (tag < 2)
theorem mkIRd {z : List (LB × LB)} {tag : Nat} {s : LB} {o : List (LB × LB)} (h : CjRd z tag s o) : bU3 z (tag, s, o) := h
theorem unIRd (z : List (LB × LB)) (tag : Nat) (s : LB) (o : List (LB × LB)) (h : bU3 z (tag, s, o)) : (s.length ≤ 60000) ∧ (o ++ (prS s).1 = z) ∧ ((prS s).2 = 0) ∧ (z.length ≤ 40) ∧ (tag = 0 → o = []) ∧ (tag = 1 → 1 ≤ o.length) ∧ (1 ≤ z.length) ∧ (tag < 2) := h
def muRd (z : List (LB × LB)) (st : Nat × LB × List (LB × LB)) : Nat := (st.2.1).length
abbrev RHRd (z : List (LB × LB)) (E' : Cx) (ex' : Ex) (epx' : LA) (hpx' : LE) (st : Nat × LB × List (LB × LB)) (X : Nat → Value) : Prop := aF4 E' dH0 bG7 62 ex' 1 301 302 361 epRd hpRd epx' hpx' (bU3 z) (muRd z) (DRd z) st X
noncomputable abbrev dR0 (h : LK) (x : Ex) (th : LA) (sg : List (Nat × Nat)) (m : Nat) (ep : LA) (hp : LE) : Bool := bA0 (code (tbl h) 4000 [] dH0 (aM6 (aH9 epRd_0 bG7) 62) ⟨aE8 hpRd_0 .leaf, 302, 0, 0⟩) x bG7 62 361 th sg 301 m ep hp
theorem stRd_0 {z : List (LB × LB)} {s : LB} {o : List (LB × LB)} {X : Nat → Value} {h : LK} (y : Nat × LB × List (LB × LB)) {th : LA} {sg : List (Nat × Nat)} (ho : ∀ a' r', (a', r') ∈ h → HOk (cx (nuX (aX5 z s o) (rX (cO9 z s o) X)) (aB3 (aA9 (l := aX5 z s o) rfl)) 0 aB0 aA1) a' r') (hy : bU3 z y) (lt : muRd z y < muRd z (0, s, o)) (ht : ThOk (cx (nuX (aX5 z s o) (rX (cO9 z s o) X)) (aB3 (aA9 (l := aX5 z s o) rfl)) 0 aB0 aA1) (DRd z y X) th) (run : dR0 h .normal th sg 302 (epRd y) (hpRd y) = true) : RHRd z E' x' e' h' (0, s, o) X :=
  aF4.next (tb := tbl h) (L := []) (f := 4000) y ((aD2 _ _).hyps ho) (LpOk.nil _) rfl hy lt ht run
theorem lvRd_0 {z : List (LB × LB)} {s : LB} {o : List (LB × LB)} {X : Nat → Value} {h : LK} {th : LA} {sg : List (Nat × Nat)} (hne : exB x' .normal = false) (ho : ∀ a' r', (a', r') ∈ h → HOk (cx (nuX (aX5 z s o) (rX (cO9 z s o) X)) (aB3 (aA9 (l := aX5 z s o) rfl)) 0 aB0 aA1) a' r') (ht : ThOk (cx (nuX (aX5 z s o) (rX (cO9 z s o) X)) (aB3 (aA9 (l := aX5 z s o) rfl)) 0 aB0 aA1) E' th) (run : dR0 h x' th sg 361 e' h' = true) : RHRd z E' x' e' h' (0, s, o) X :=
  aF4.leave (tb := tbl h) (L := []) (f := 4000) ((aD2 _ _).hyps ho) (LpOk.nil _) rfl hne ht run
noncomputable abbrev dH7 (h : LK) (x : Ex) (th : LA) (sg : List (Nat × Nat)) (m : Nat) (ep : LA) (hp : LE) : Bool := bA0 (code (tbl h) 4000 [] dH0 (aM6 (aH9 dG9 bG7) 62) ⟨aE8 dF8 .leaf, 302, 0, 0⟩) x bG7 62 361 th sg 301 m ep hp
theorem stRd_1 {z : List (LB × LB)} {s : LB} {o : List (LB × LB)} {X : Nat → Value} {h : LK} (y : Nat × LB × List (LB × LB)) {th : LA} {sg : List (Nat × Nat)} (ho : ∀ a' r', (a', r') ∈ h → HOk (cx (nuX (aX4 z s o) (rX (cO5 z s o) X)) (aB3 (aA9 (l := aX4 z s o) rfl)) 0 aB0 aA1) a' r') (hy : bU3 z y) (lt : muRd z y < muRd z (1, s, o)) (ht : ThOk (cx (nuX (aX4 z s o) (rX (cO5 z s o) X)) (aB3 (aA9 (l := aX4 z s o) rfl)) 0 aB0 aA1) (DRd z y X) th) (run : dH7 h .normal th sg 302 (epRd y) (hpRd y) = true) : RHRd z E' x' e' h' (1, s, o) X :=
  aF4.next (tb := tbl h) (L := []) (f := 4000) y ((aD2 _ _).hyps ho) (LpOk.nil _) rfl hy lt ht run
theorem lvRd_1 {z : List (LB × LB)} {s : LB} {o : List (LB × LB)} {X : Nat → Value} {h : LK} {th : LA} {sg : List (Nat × Nat)} (hne : exB x' .normal = false) (ho : ∀ a' r', (a', r') ∈ h → HOk (cx (nuX (aX4 z s o) (rX (cO5 z s o) X)) (aB3 (aA9 (l := aX4 z s o) rfl)) 0 aB0 aA1) a' r') (ht : ThOk (cx (nuX (aX4 z s o) (rX (cO5 z s o) X)) (aB3 (aA9 (l := aX4 z s o) rfl)) 0 aB0 aA1) E' th) (run : dH7 h x' th sg 361 e' h' = true) : RHRd z E' x' e' h' (1, s, o) X :=
  aF4.leave (tb := tbl h) (L := []) (f := 4000) ((aD2 _ _).hyps ho) (LpOk.nil _) rfl hne ht run
def cY1 : LK := [(.rn, .x 2000000), (.len (.x 0), .x 2), (.bin .gtr (.x 2) (I6 0), .b true), (.call 25 [.x 0], .tu [.x 3, .x 4, .b true]), (.call 25 [.x 4], .tu [.x 5, .x 6, .b true]), (.len (.x 6), .x 7), (.bin .add (.x 3) (.x 5), .x 8), (.bin .lss (.x 7) (.x 8), .b false), (.sub (.x 6) none (some (.x 3)), .x 9), (.sub (.x 6) (some (.x 3)) (some (.x 8)), .x 10), (.ra (.x 2000000) [.x 9, .x 10], .x 2000001), (.rf (.x 2000001) 2 32, .b true), (.sub (.x 6) (some (.x 8)) none, .x 11)]
theorem runRd_p0 : dR0 cY1 .normal [(0, .x 11), (2000000, .x 2000001)] [(301, 303)] 302 dG9 dF8 = true := by kernel_rfl
def hyRd_p1 : LK := [(.len (.x 0), .x 13), (.bin .gtr (.x 13) (I6 0), .b false)]
def cY0 : LK := [(.len (.x 0), .x 2), (.bin .gtr (.x 2) (I6 0), .b true), (.rl (.x 2000000) 2, .x 3), (.bin .eql (.x 3) (I6 200), .b false), (.call 25 [.x 0], .tu [.x 4, .x 5, .b true]), (.call 25 [.x 5], .tu [.x 6, .x 7, .b true]), (.len (.x 7), .x 8), (.bin .add (.x 4) (.x 6), .x 9), (.bin .lss (.x 8) (.x 9), .b false), (.sub (.x 7) none (some (.x 4)), .x 10), (.sub (.x 7) (some (.x 4)) (some (.x 9)), .x 11), (.ra (.x 2000000) [.x 10, .x 11], .x 2000002), (.rf (.x 2000002) 2 32, .b true), (.sub (.x 7) (some (.x 9)) none, .x 12)]
theorem runRd_p2 : dH7 cY0 .normal [(0, .x 12), (2000000, .x 2000002)] [(301, 303)] 302 dG9 dF8 = true := by kernel_rfl
def cX9 : LK := [(.len (.x 0), .x 14), (.bin .gtr (.x 14) (I6 0), .b false)]
theorem runRd_p3 : dH7 cX9 (.exit 0) [(2000000, .x 2000000)] [(301, 301)] 361 [(4, .sr 301)] [(301, .r 2000000 25 2 false)] = true := by kernel_rfl
section
variable {z : List (LB × LB)} {s : LB} {o : List (LB × LB)} {X : Nat → Value}
theorem nxRd_p0 (hI : bU3 z (0, s, o)) (h0 : 0 < (s.length : Int)) : RHRd z E' x' e' h' (0, s, o) X := by
  obtain ⟨i0, i1, i2, i3, i4, i5, i6, it⟩ := unIRd z 0 s o hI
  have hol : o.length ≤ z.length := by rw [← i1, List.length_append]; omega
  have hv1 := bH8 s; have hv2 := bH8 (rsL s)
  have hpk := pk_of (by omega) i2
  have hpk2 := hpk; obtain ⟨hk1, hk2, hk3⟩ := hpk2
  have := bE3 (s := s) (by assumption); have := cZ0 s
  have := bE3 (s := (rsL s)) (by assumption); have := cZ0 (rsL s)
  have hcu := rd_rec (s := s) (rest := prs s) (o := []) (To := z) hpk rfl (by rw [i4 rfl] at i1; exact i1) i2
  have hpl := pk_len (s := s) hpk
  refine stRd_0 (h := cY1) (1, (prs s), (([] : List (LB × LB)) ++ [((pv s).1, (pv s).2)])) ?_ (mkIRd ⟨by omega, hcu.1, hcu.2, i3, fun h => by omega, fun _ => by simp, i6, by omega⟩) (by show (prs s).length < s.length; omega) (thXv (v := St' (prs s)) rfl rfl (thXv (v := rwG prC (([] : List (LB × LB)) ++ [((pv s).1, (pv s).2)])) rfl rfl (aE0))) runRd_p0
  unfold cY1
  exact hc (kRn (denX rfl)) <|hc (lnV rfl rfl (by omega)) <|hc (gtcT rfl (by omega)) <|hc (dF9 (isX rfl) (denLn (by assumption) (denT3 (denX rfl) (denX rfl) (bU1 rfl))) (by omega)) <|hc (dF9 (isX rfl) (denLn (by assumption) (denT3 (denX rfl) (denX rfl) (bU1 rfl))) (by omega)) <|hc (lnV rfl rfl (by omega)) <|hc (adX rfl rfl rfl (by omega)) <|hc (ltF rfl rfl (by omega)) <|hc (kMid (P := 0) (Q := (vL s)) (isX rfl) (.inl ⟨rfl, rfl⟩) (.inr ⟨_, _, rfl, (isX rfl)⟩) (by omega) (by omega) (by omega) (denX (congrArg (fun l => St' l) pv1))) <|hc (kMid (P := (vL s)) (Q := (vL (rsL s)) + (vL s)) (isX rfl) (.inr ⟨_, _, rfl, (isX rfl)⟩) (.inr ⟨_, _, rfl, (isX rfl)⟩) (by omega) (by omega) (by omega) (denX (congrArg (fun l => St' l) (pv2 (by omega))))) <|hc (kRaG (f := prC) (l := ([] : List (LB × LB))) (a := ((pv s).1, (pv s).2)) (isX rfl) (isL2 (isX rfl) (isX rfl)) (denX rfl)) <|hc (kRfG aD6 (isX rfl) (by first | omega | (simp <;> omega)) (by first | omega | (simp <;> omega))) <|hc (kMid (P := (vL (rsL s)) + (vL s)) (Q := ((rsL (rsL s)).length : Int)) (isX rfl) (.inr ⟨_, _, rfl, (isX rfl)⟩) (.inl ⟨rfl, rfl⟩) (by omega) (by omega) (by omega) (denX (congrArg (fun l => St' l) (pv3 (by omega))))) <|hnil
theorem nxRd_p2 (hI : bU3 z (1, s, o)) (h0 : 0 < (s.length : Int)) : RHRd z E' x' e' h' (1, s, o) X := by
  obtain ⟨i0, i1, i2, i3, i4, i5, i6, it⟩ := unIRd z 1 s o hI
  have hol : o.length ≤ z.length := by rw [← i1, List.length_append]; omega
  have hv1 := bH8 s; have hv2 := bH8 (rsL s)
  have hpk := pk_of (by omega) i2
  have hpk2 := hpk; obtain ⟨hk1, hk2, hk3⟩ := hpk2
  have := bE3 (s := s) (by assumption); have := cZ0 s
  have := bE3 (s := (rsL s)) (by assumption); have := cZ0 (rsL s)
  have hcu := rd_rec (s := s) (rest := prs s) (To := z) hpk rfl i1 i2
  have hpl := pk_len (s := s) hpk
  refine stRd_1 (h := cY0) (1, (prs s), (o ++ [((pv s).1, (pv s).2)])) ?_ (mkIRd ⟨by omega, hcu.1, hcu.2, i3, fun h => by omega, fun _ => by simp, i6, by omega⟩) (by show (prs s).length < s.length; omega) (thXv (v := St' (prs s)) rfl rfl (thXv (v := rwG prC (o ++ [((pv s).1, (pv s).2)])) rfl rfl (aE0))) runRd_p2
  unfold cY0
  exact hc (lnV rfl rfl (by omega)) <|hc (gtcT rfl (by omega)) <|hc (kRlG aD6 (isX rfl) (denX rfl) (by first | omega | (simp <;> omega))) <|hc (eqcF rfl (by omega)) <|hc (dF9 (isX rfl) (denLn (by assumption) (denT3 (denX rfl) (denX rfl) (bU1 rfl))) (by omega)) <|hc (dF9 (isX rfl) (denLn (by assumption) (denT3 (denX rfl) (denX rfl) (bU1 rfl))) (by omega)) <|hc (lnV rfl rfl (by omega)) <|hc (adX rfl rfl rfl (by omega)) <|hc (ltF rfl rfl (by omega)) <|hc (kMid (P := 0) (Q := (vL s)) (isX rfl) (.inl ⟨rfl, rfl⟩) (.inr ⟨_, _, rfl, (isX rfl)⟩) (by omega) (by omega) (by omega) (denX (congrArg (fun l => St' l) pv1))) <|hc (kMid (P := (vL s)) (Q := (vL (rsL s)) + (vL s)) (isX rfl) (.inr ⟨_, _, rfl, (isX rfl)⟩) (.inr ⟨_, _, rfl, (isX rfl)⟩) (by omega) (by omega) (by omega) (denX (congrArg (fun l => St' l) (pv2 (by omega))))) <|hc (kRaG (f := prC) (l := o) (a := ((pv s).1, (pv s).2)) (isX rfl) (isL2 (isX rfl) (isX rfl)) (denX rfl)) <|hc (kRfG aD6 (isX rfl) (by first | omega | (simp <;> omega)) (by first | omega | (simp <;> omega))) <|hc (kMid (P := (vL (rsL s)) + (vL s)) (Q := ((rsL (rsL s)).length : Int)) (isX rfl) (.inr ⟨_, _, rfl, (isX rfl)⟩) (.inl ⟨rfl, rfl⟩) (by omega) (by omega) (by omega) (denX (congrArg (fun l => St' l) (pv3 (by omega))))) <|hnil
end
def dM0 (z : List (LB × LB)) : List Value := []
def roERd_0 (z : List (LB × LB)) : List Value := [rwG prC z]
noncomputable def ERd_0 (z : List (LB × LB)) : Cx := cx (nuX (dM0 z) (rX (roERd_0 z) (fun _ => .bool true))) (aB3 (aA9 (l := dM0 z) rfl)) 0 aB0 aA1
theorem roundsRd_0 (z : List (LB × LB)) (st : Nat × LB × List (LB × LB)) (X : Nat → Value) (hI : bU3 z st) : RHRd z (ERd_0 z) (.exit 0) [(4, .sr 301)] [(301, .r 2000000 25 2 false)] st X := by
  obtain ⟨tag, s, o⟩ := st
  have hI0 := hI
  obtain ⟨i0, i1, i2, i3, i4, i5, i6, it⟩ := unIRd z tag s o hI
  rcases (show tag = 0 ∨ tag = 1 from by omega) with rfl | rfl
  · skip
    have hol : o.length ≤ z.length := by rw [← i1, List.length_append]; omega
    have hv1 := bH8 s; have hv2 := bH8 (rsL s)
    by_cases h0 : 0 < (s.length : Int)
    · exact nxRd_p0 hI0 h0
    · exfalso; have e := congrArg List.length (dK3 (by omega) i1); rw [i4 rfl] at e; simp at e; omega
  · skip
    have hol : o.length ≤ z.length := by rw [← i1, List.length_append]; omega
    have hv1 := bH8 s; have hv2 := bH8 (rsL s)
    by_cases h0 : 0 < (s.length : Int)
    · exact nxRd_p2 hI0 h0
    · skip
      have hol : o.length ≤ z.length := by rw [← i1, List.length_append]; omega
      have hv1 := bH8 s; have hv2 := bH8 (rsL s)
      refine lvRd_1 (h := cX9) rfl ?_ (thXe (v := rwG prC o) (u := rwG prC z) rfl rfl (congrArg (rwG prC) (dK3 (by omega) i1)) (aE0)) runRd_p3
      unfold cX9
      exact hc (lnV rfl rfl (by omega)) <|hc (gtcF rfl (by omega)) <|hnil
theorem lfOkRd_0 {l : LF} {h : LH} (z : List (LB × LB)) (st : Nat × LB × List (LB × LB)) (hI : bU3 z st) (hl : l.hp = some h) (hs : aY1 l h 62 bG7 (.exit 0) 1 301 361 = true) {th0 : LA} {sg0 : List (Nat × Nat)} (hth0 : ∀ X, ThOk (cx nu one 0 aB0 aA1) (DRd z st X) th0) (h0 : aN8 l h 62 301 302 th0 sg0 (epRd st) (hpRd st) = true) {thx : LA} (hthx : ThOk (ERd_0 z) (cx nu one 0 aB0 aA1) thx) (hx : aY4 l h 62 301 361 thx [(4, .sr 301)] [(301, .r 2000000 25 2 false)] = true) : LfOk (cx nu one 0 aB0 aA1) dH0 l :=
  cR9 (E := ERd_0 z) (bU3 z) (muRd z) (DRd z) (fun _ _ => rfl) (fun _ _ => rfl) (fun _ _ => rfl) (fun st X t ht => aN1.trans (aS7 ((by decide : ∀ t, t ∈ bG7 → t < 1000000) t ht))) rfl rfl rfl hl hs ebRd rfl rfl st hI hth0 h0 hthx hx (roundsRd_0 z)
noncomputable def cZ9 : Code := aX8 (Try.f16.body.getD .skip) 0
theorem keySp1 : aS8 (aE7 (Try.f16.body.getD .skip)) 4 0 0 = true := by kernel_rfl
def bF3 : List Nat := []
def cZ5 : LA := [(0, .sr 401), (1, .sr 1), (5, .x 0)]
def cY8 : LE := [(401, .r 2000000 25 2 false), (1, .r 2000001 25 2 true)]
def aO2 (z : List (LB × LB)) (i : Int) : List Value := [.int .i64 (i), .int .i64 ((z.length : Int)), St' ((nthP z (Int.toNat (i))).1), St' ((nthP z (Int.toNat (i))).2), St' ((nthP z (Int.toNat (i))).1), St' ((nthP z (Int.toNat (i))).2), .int .i64 (i + 1), .int .i64 ((z.length : Int))]
def bO6 (z : List (LB × LB)) (i : Int) : List Value := [rwG prC z, rwG prC z]
def dP1 (st : Nat × Int) : LA := cZ5
def hpSp1 (st : Nat × Int) : LE := cY8
def nuSp1 (z : List (LB × LB)) (st : Nat × Int) : List Value := aO2 z (st.2)
def roSp1 (z : List (LB × LB)) (st : Nat × Int) : List Value := bO6 z (st.2)
theorem onSp1 (z : List (LB × LB)) (st : Nat × Int) : ∀ j, (nuL (nuSp1 z st) j).oneCell' = true := by
  intro j
  unfold nuSp1
  exact aA9 (l := aO2 z (st.2)) rfl j
theorem ebSp1 (st : Nat × Int) : (lfB (dP1 st) && lfC bF3) = true := by
  unfold dP1
  rfl
noncomputable def DSp1 (z : List (LB × LB)) (st : Nat × Int) (X : Nat → Value) : Cx := cx (nuX (nuSp1 z st) (rX (roSp1 z st) X)) (aB3 (onSp1 z st)) 0 aB0 aA1
def bH7 (z : List (LB × LB)) (st : Nat × Int) : Prop := (0 ≤ (st.2)) ∧ ((st.2) ≤ (z.length : Int)) ∧ (z.length ≤ 40) ∧ (∀ q, q ∈ z → prB q) ∧ ((st.1) < 1)
abbrev CjSp1 (z : List (LB × LB)) (tag : Nat) (i : Int) : Prop := (0 ≤ i) ∧ (i ≤ (z.length : Int)) ∧ (z.length ≤ 40) ∧ (∀ q, q ∈ z → prB q) ∧ (tag < 1)
theorem mkISp1 {z : List (LB × LB)} {tag : Nat} {i : Int} (h : CjSp1 z tag i) : bH7 z (tag, i) := h
theorem unISp1 (z : List (LB × LB)) (tag : Nat) (i : Int) (h : bH7 z (tag, i)) : (0 ≤ i) ∧ (i ≤ (z.length : Int)) ∧ (z.length ≤ 40) ∧ (∀ q, q ∈ z → prB q) ∧ (tag < 1) := h
def muSp1 (z : List (LB × LB)) (st : Nat × Int) : Nat := (z.length - (st.2).toNat)
abbrev RHSp1 (z : List (LB × LB)) (E' : Cx) (ex' : Ex) (epx' : LA) (hpx' : LE) (st : Nat × Int) (X : Nat → Value) : Prop := aF4 E' cZ9 bF3 26 ex' 1 401 402 403 dP1 hpSp1 epx' hpx' (bH7 z) (muSp1 z) (DSp1 z) st X
noncomputable abbrev cM4 (h : LK) (x : Ex) (th : LA) (sg : List (Nat × Nat)) (m : Nat) (ep : LA) (hp : LE) : Bool := bA0 (code (tbl h) 3000 [] cZ9 (aM6 (aH9 cZ5 bF3) 26) ⟨aE8 cY8 .leaf, 402, 0, 0⟩) x bF3 26 403 th sg 401 m ep hp
theorem stSp1_0 {z : List (LB × LB)} {i : Int} {X : Nat → Value} {h : LK} (y : Nat × Int) {th : LA} {sg : List (Nat × Nat)} (ho : ∀ a' r', (a', r') ∈ h → HOk (cx (nuX (aO2 z i) (rX (bO6 z i) X)) (aB3 (aA9 (l := aO2 z i) rfl)) 0 aB0 aA1) a' r') (hy : bH7 z y) (lt : muSp1 z y < muSp1 z (0, i)) (ht : ThOk (cx (nuX (aO2 z i) (rX (bO6 z i) X)) (aB3 (aA9 (l := aO2 z i) rfl)) 0 aB0 aA1) (DSp1 z y X) th) (run : cM4 h .normal th sg 402 (dP1 y) (hpSp1 y) = true) : RHSp1 z E' x' e' h' (0, i) X :=
  aF4.next (tb := tbl h) (L := []) (f := 3000) y ((aD2 _ _).hyps ho) (LpOk.nil _) rfl hy lt ht run
theorem lvSp1_0 {z : List (LB × LB)} {i : Int} {X : Nat → Value} {h : LK} {th : LA} {sg : List (Nat × Nat)} (hne : exB x' .normal = false) (ho : ∀ a' r', (a', r') ∈ h → HOk (cx (nuX (aO2 z i) (rX (bO6 z i) X)) (aB3 (aA9 (l := aO2 z i) rfl)) 0 aB0 aA1) a' r') (ht : ThOk (cx (nuX (aO2 z i) (rX (bO6 z i) X)) (aB3 (aA9 (l := aO2 z i) rfl)) 0 aB0 aA1) E' th) (run : cM4 h x' th sg 403 e' h' = true) : RHSp1 z E' x' e' h' (0, i) X :=
  aF4.leave (tb := tbl h) (L := []) (f := 3000) ((aD2 _ _).hyps ho) (LpOk.nil _) rfl hne ht run
def cF2 : LK := [(.rl (.x 2000000) 2, .x 1), (.bin .lss (.x 0) (.x 1), .b true), (.el (.x 2000000) (.x 0) 2 0, .x 2), (.el (.x 2000000) (.x 0) 2 1, .x 3), (.el (.x 2000001) (.x 0) 2 0, .x 4), (.el (.x 2000001) (.x 0) 2 1, .x 5), (.eq 9 (.x 2) (.x 4), .b true), (.eq 9 (.x 3) (.x 5), .b true), (.bin .add (.x 0) (I6 1), .x 6)]
theorem runSp1_p0 : cM4 cF2 .normal [(0, .x 6), (2000000, .x 2000000), (2000001, .x 2000001)] [(401, 401)] 402 cZ5 cY8 = true := by kernel_rfl
def cF1 : LK := [(.rl (.x 2000000) 2, .x 7), (.bin .lss (.x 0) (.x 7), .b false)]
theorem runSp1_p1 : cM4 cF1 (.exit 0) [(2000000, .x 2000001)] [] 403 [] [(1, .r 2000000 25 2 true)] = true := by kernel_rfl
section
variable {z : List (LB × LB)} {i : Int} {X : Nat → Value}
theorem nxSp1_p0 (hI : bH7 z (0, i)) (h0 : i < (z.length : Int)) : RHSp1 z E' x' e' h' (0, i) X := by
  obtain ⟨i0, i1, i2, i3, it⟩ := unISp1 z 0 i hI
  have := prAt (l := z) (by assumption) (Int.toNat (i))
  refine stSp1_0 (h := cF2) (0, (i + 1)) ?_ (mkISp1 ⟨by omega, by omega, by omega, i3, by omega⟩) (by show z.length - (i + 1).toNat < z.length - i.toNat; omega) (thXi (b := ((i + 1))) rfl rfl (by omega) (thXv (v := rwG prC z) rfl rfl (thXv (v := rwG prC z) rfl rfl (aE0)))) runSp1_p0
  unfold cF2
  exact hc (kRlG aD6 (isX rfl) (denX rfl) (by first | omega | (simp <;> omega))) <|hc (ltT rfl rfl (by omega)) <|hc (kElG (j := (Int.toNat (i))) (d := ([], [])) aD6 (by decide) (isX rfl) (isX rfl) (denX rfl) (by omega) (by omega) rfl) <|hc (kElG (j := (Int.toNat (i))) (d := ([], [])) aD6 (by decide) (isX rfl) (isX rfl) (denX rfl) (by omega) (by omega) rfl) <|hc (kElG (j := (Int.toNat (i))) (d := ([], [])) aD6 (by decide) (isX rfl) (isX rfl) (denX rfl) (by omega) (by omega) rfl) <|hc (kElG (j := (Int.toNat (i))) (d := ([], [])) aD6 (by decide) (isX rfl) (isX rfl) (denX rfl) (by omega) (by omega) rfl) <|hc (kEqTS (isX rfl) (isX rfl) tu9 (decide_eq_true rfl)) <|hc (kEqTS (isX rfl) (isX rfl) tu9 (decide_eq_true rfl)) <|hc (adC rfl rfl (by omega)) <|hnil
end
def dD4 (z : List (LB × LB)) : List Value := []
def roESp1_0 (z : List (LB × LB)) : List Value := [rwG prC z]
noncomputable def dR3 (z : List (LB × LB)) : Cx := cx (nuX (dD4 z) (rX (roESp1_0 z) (fun _ => .bool true))) (aB3 (aA9 (l := dD4 z) rfl)) 0 aB0 aA1
theorem roundsSp1_0 (z : List (LB × LB)) (st : Nat × Int) (X : Nat → Value) (hI : bH7 z st) : RHSp1 z (dR3 z) (.exit 0) [] [(1, .r 2000000 25 2 true)] st X := by
  obtain ⟨tag, i⟩ := st
  have hI0 := hI
  obtain ⟨i0, i1, i2, i3, it⟩ := unISp1 z tag i hI
  obtain rfl : tag = 0 := by omega
  skip
  by_cases h0 : i < (z.length : Int)
  · exact nxSp1_p0 hI0 h0
  · skip
    refine lvSp1_0 (h := cF1) rfl ?_ (thXv (v := rwG prC z) rfl rfl (aE0)) runSp1_p1
    unfold cF1
    exact hc (kRlG aD6 (isX rfl) (denX rfl) (by first | omega | (simp <;> omega))) <|hc (ltF rfl rfl (by omega)) <|hnil
theorem lfOkSp1_0 {l : LF} {h : LH} (z : List (LB × LB)) (st : Nat × Int) (hI : bH7 z st) (hl : l.hp = some h) (hs : aY1 l h 26 bF3 (.exit 0) 1 401 403 = true) {th0 : LA} {sg0 : List (Nat × Nat)} (hth0 : ∀ X, ThOk (cx nu one 0 aB0 aA1) (DSp1 z st X) th0) (h0 : aN8 l h 26 401 402 th0 sg0 (dP1 st) (hpSp1 st) = true) {thx : LA} (hthx : ThOk (dR3 z) (cx nu one 0 aB0 aA1) thx) (hx : aY4 l h 26 401 403 thx [] [(1, .r 2000000 25 2 true)] = true) : LfOk (cx nu one 0 aB0 aA1) cZ9 l :=
  cR9 (E := dR3 z) (bH7 z) (muSp1 z) (DSp1 z) (fun _ _ => rfl) (fun _ _ => rfl) (fun _ _ => rfl) (fun st X t ht => aN1.trans (aS7 ((by decide : ∀ t, t ∈ bF3 → t < 1000000) t ht))) rfl rfl rfl hl hs ebSp1 rfl rfl st hI hth0 h0 hthx hx (roundsSp1_0 z)
noncomputable def fi4 : FI := (tabk.fn.get 4).getD default
theorem dO7 : tabk.fn.get 4 = some fi4 := by kernel_rfl
theorem bM3 : fi4.body = some (Try.f4.body.getD .skip) := by kernel_rfl
theorem fiB4 : fi4.body.isSome = true := by rw [bM3]; rfl
theorem cfA4 : (aE7 (Try.f4.body.getD .skip)).all (fun b => !(bQ6 (Go.AX.keyOf b) 8888888)) = true := by kernel_rfl
noncomputable def fi19 : FI := (tabk.fn.get 19).getD default
theorem fi19_at : tabk.fn.get 19 = some fi19 := by kernel_rfl
theorem cT4 : fi19.body = some (Try.f19.body.getD .skip) := by kernel_rfl
theorem fiB19 : fi19.body.isSome = true := by rw [cT4]; rfl
theorem cfA19 : (aE7 (Try.f19.body.getD .skip)).all (fun b => !(bQ6 (Go.AX.keyOf b) 8888888)) = true := by kernel_rfl
noncomputable def fi15 : FI := (tabk.fn.get 15).getD default
theorem fi15_at : tabk.fn.get 15 = some fi15 := by kernel_rfl
theorem cT6 : fi15.body = some (Try.f15.body.getD .skip) := by kernel_rfl
theorem fiB15 : fi15.body.isSome = true := by rw [cT6]; rfl
theorem cfA15 : (aE7 (Try.f15.body.getD .skip)).all (fun b => !(bQ6 (Go.AX.keyOf b) 8888888)) = true := by kernel_rfl
noncomputable def fi16 : FI := (tabk.fn.get 16).getD default
theorem fi16_at : tabk.fn.get 16 = some fi16 := by kernel_rfl
theorem cT5 : fi16.body = some (Try.f16.body.getD .skip) := by kernel_rfl
theorem fiB16 : fi16.body.isSome = true := by rw [cT5]; rfl
theorem cfA16 : (aE7 (Try.f16.body.getD .skip)).all (fun b => !(bQ6 (Go.AX.keyOf b) 8888888)) = true := by kernel_rfl
end Go.Proofs.Ytfoalkoifcpdmaa.framesBack
