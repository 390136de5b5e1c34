/- A part of the proof: an interpreter of the model's own code on partly known states, and that what it answers is what the program answers. No condition of its own. -/
import Derived.Test.YtfoalkoifcpdmaaT1FramesTellsO2
set_option maxRecDepth 100000
set_option linter.unusedVariables false
set_option linter.unusedSimpArgs false
set_option maxHeartbeats 4000000
namespace Go.Proofs.Ytfoalkoifcpdmaa.framesTells
open Go Go.AX Go.Proofs Go.Proofs.Ytfoalkoifcpdmaa
variable {nu : Nat → Value} {one : ∀ i, i < 1000000 → (nu i).oneCell' = true} {E' : Cx} {x' : Ex} {e' : LA} {h' : LE}
noncomputable def bS7 : Code := aM9 (Try.f10.body.getD .skip) 0
theorem keyRs : aL9 (aC5 (Try.f10.body.getD .skip)) 2 0 0 = true := by kernel_rfl
def aQ6 : List Nat := []
def epRs_0 : LA := [(0, .x 0), (1, .x 1), (2, .x 2), (7, .nils)]
def hpRs_0 : LE := []
def aQ4 (tq iq : Int) (To : List RC) (r : LB) (o : List RC) : List Value := [.int .i64 (tq), .int .i64 (iq), St' r, St' ([] : LB), .int .i64 ((r.length : Int)), St' (List.take (Int.toNat (512 - (0))) (List.drop (Int.toNat (0)) r)), St' (List.take (Int.toNat ((r.length : Int) - (512))) (List.drop (Int.toNat (512)) r)), St' ([] : LB), .int .i64 ((r.length : Int)), .int .i64 ((r.length : Int)), St' (List.take (Int.toNat ((r.length : Int) - (0))) (List.drop (Int.toNat (0)) r)), .int .i64 ((pdI (r.length : Int))), St' (List.take (Int.toNat ((r.length : Int) - ((r.length : Int)))) (List.drop (Int.toNat ((r.length : Int))) r)), St' ([] : LB), .int .i64 ((r.length : Int))]
def bO2 (tq iq : Int) (To : List RC) (r : LB) (o : List RC) : List Value := [rwS ([] : List LB), rwG reC (([] : List (Int × Int × LB × Int)) ++ [(tq, iq, (List.take (Int.toNat (512 - (0))) (List.drop (Int.toNat (0)) r)), 0)]), rwS ([] : List LB), rwG reC (([] : List (Int × Int × LB × Int)) ++ [(tq, iq, (List.take (Int.toNat ((r.length : Int) - (0))) (List.drop (Int.toNat (0)) r)), (pdI (r.length : Int)))]), rwS ([] : List LB)]
def bG8 : LA := [(0, .x 0), (1, .x 1), (2, .x 2), (7, .sr 331)]
def bG3 : LE := [(331, .r 2000000 31 4 false)]
def aQ3 (tq iq : Int) (To : List RC) (r : LB) (o : List RC) : List Value := [.int .i64 (tq), .int .i64 (iq), St' r, St' ([] : LB), .int .i64 ((r.length : Int)), St' (List.take (Int.toNat (512 - (0))) (List.drop (Int.toNat (0)) r)), St' (List.take (Int.toNat ((r.length : Int) - (512))) (List.drop (Int.toNat (512)) r)), St' ([] : LB), .int .i64 ((r.length : Int)), .int .i64 ((r.length : Int)), St' (List.take (Int.toNat ((r.length : Int) - (0))) (List.drop (Int.toNat (0)) r)), .int .i64 ((pdI (r.length : Int))), St' (List.take (Int.toNat ((r.length : Int) - ((r.length : Int)))) (List.drop (Int.toNat ((r.length : Int))) r)), St' ([] : LB), .int .i64 ((r.length : Int))]
def bO1 (tq iq : Int) (To : List RC) (r : LB) (o : List RC) : List Value := [rwG reC o, rwS ([] : List LB), rwG reC (o ++ [(tq, iq, (List.take (Int.toNat (512 - (0))) (List.drop (Int.toNat (0)) r)), 0)]), rwS ([] : List LB), rwG reC (o ++ [(tq, iq, (List.take (Int.toNat ((r.length : Int) - (0))) (List.drop (Int.toNat (0)) r)), (pdI (r.length : Int)))]), rwS ([] : List LB)]
def epRs (st : Nat × LB × List RC) : LA := if st.1 = 0 then epRs_0 else bG8
def hpRs (st : Nat × LB × List RC) : LE := if st.1 = 0 then hpRs_0 else bG3
def nuRs (tq iq : Int) (To : List RC) (st : Nat × LB × List RC) : List Value := if st.1 = 0 then aQ4 tq iq To (st.2.1) (st.2.2) else aQ3 tq iq To (st.2.1) (st.2.2)
def roRs (tq iq : Int) (To : List RC) (st : Nat × LB × List RC) : List Value := if st.1 = 0 then bO2 tq iq To (st.2.1) (st.2.2) else bO1 tq iq To (st.2.1) (st.2.2)
theorem onRs (tq iq : Int) (To : List RC) (st : Nat × LB × List RC) : ∀ j, (nuL (nuRs tq iq To st) j).oneCell' = true := by
  intro j
  unfold nuRs
  by_cases g0 : st.1 = 0
  · rw [if_pos g0]; exact aA6 (l := aQ4 tq iq To (st.2.1) (st.2.2)) rfl j
  rw [if_neg g0]
  exact aA6 (l := aQ3 tq iq To (st.2.1) (st.2.2)) rfl j
theorem ebRs (st : Nat × LB × List RC) : (lfB (epRs st) && lfC aQ6) = true := by
  unfold epRs
  by_cases g0 : st.1 = 0
  · rw [if_pos g0]; rfl
  rw [if_neg g0]
  rfl
noncomputable def DRs (tq iq : Int) (To : List RC) (st : Nat × LB × List RC) (X : Nat → Value) : Cx := cx (nuX (nuRs tq iq To st) (rX (roRs tq iq To st) X)) (aA7 (onRs tq iq To st)) 0 aA5 aA0
def aS2 (tq iq : Int) (To : List RC) (st : Nat × LB × List RC) : Prop := ((st.2.1).length ≤ 100000) ∧ ((st.2.2) ++ ((spX tq iq (st.2.1)).1 ++ tlS tq iq (spX tq iq (st.2.1)).2) = To) ∧ ((st.2.2).length + (st.2.1).length ≤ 100000) ∧ ((st.1) = 0 → (st.2.2) = []) ∧ ((st.1) = 1 → 1 ≤ (st.2.2).length) ∧ ((st.1) < 2)
abbrev CjRs (tq iq : Int) (To : List RC) (tag : Nat) (r : LB) (o : List RC) : Prop := (r.length ≤ 100000) ∧ (o ++ ((spX tq iq r).1 ++ tlS tq iq (spX tq iq r).2) = To) ∧ (o.length + r.length ≤ 100000) ∧ (tag = 0 → o = []) ∧ (tag = 1 → 1 ≤ o.length) ∧ (tag < 2)
theorem cH2 {tq iq : Int} {To : List RC} {tag : Nat} {r : LB} {o : List RC} (h : CjRs tq iq To tag r o) : aS2 tq iq To (tag, r, o) := h
theorem cG8 (tq iq : Int) (To : List RC) (tag : Nat) (r : LB) (o : List RC) (h : aS2 tq iq To (tag, r, o)) : (r.length ≤ 100000) ∧ (o ++ ((spX tq iq r).1 ++ tlS tq iq (spX tq iq r).2) = To) ∧ (o.length + r.length ≤ 100000) ∧ (tag = 0 → o = []) ∧ (tag = 1 → 1 ≤ o.length) ∧ (tag < 2) := h
def muRs (tq iq : Int) (To : List RC) (st : Nat × LB × List RC) : Nat := (st.2.1).length
abbrev RHRs (tq iq : Int) (To : List RC) (E' : Cx) (ex' : Ex) (epx' : LA) (hpx' : LE) (st : Nat × LB × List RC) (X : Nat → Value) : Prop := aC7 E' bS7 aQ6 35 ex' 1 331 332 343 epRs hpRs epx' hpx' (aS2 tq iq To) (muRs tq iq To) (DRs tq iq To) st X
noncomputable abbrev bT4 (h : LK) (x : Ex) (th : LA) (sg : List (Nat × Nat)) (m : Nat) (ep : LA) (hp : LE) : Bool := aP9 (code (tbl h) 3000 [] bS7 (aI0 (aF0 epRs_0 aQ6) 35) ⟨aC4 hpRs_0 .leaf, 332, 0, 0⟩) x aQ6 35 343 th sg 331 m ep hp
theorem stRs_0 {tq iq : Int} {To : List RC} {r : LB} {o : List RC} {X : Nat → Value} {h : LK} (y : Nat × LB × List RC) {th : LA} {sg : List (Nat × Nat)} (ho : ∀ a' r', (a', r') ∈ h → HOk (cx (nuX (aQ4 tq iq To r o) (rX (bO2 tq iq To r o) X)) (aA7 (aA6 (l := aQ4 tq iq To r o) rfl)) 0 aA5 aA0) a' r') (hy : aS2 tq iq To y) (lt : muRs tq iq To y < muRs tq iq To (0, r, o)) (ht : ThOk (cx (nuX (aQ4 tq iq To r o) (rX (bO2 tq iq To r o) X)) (aA7 (aA6 (l := aQ4 tq iq To r o) rfl)) 0 aA5 aA0) (DRs tq iq To y X) th) (run : bT4 h .normal th sg 332 (epRs y) (hpRs y) = true) : RHRs tq iq To E' x' e' h' (0, r, o) X :=
  aC7.next (tb := tbl h) (L := []) (f := 3000) y ((aC2 _ _).hyps ho) (LpOk.nil _) rfl hy lt ht run
theorem lvRs_0 {tq iq : Int} {To : List RC} {r : LB} {o : List RC} {X : Nat → Value} {h : LK} {th : LA} {sg : List (Nat × Nat)} (hne : exB x' .normal = false) (ho : ∀ a' r', (a', r') ∈ h → HOk (cx (nuX (aQ4 tq iq To r o) (rX (bO2 tq iq To r o) X)) (aA7 (aA6 (l := aQ4 tq iq To r o) rfl)) 0 aA5 aA0) a' r') (ht : ThOk (cx (nuX (aQ4 tq iq To r o) (rX (bO2 tq iq To r o) X)) (aA7 (aA6 (l := aQ4 tq iq To r o) rfl)) 0 aA5 aA0) E' th) (run : bT4 h x' th sg 343 e' h' = true) : RHRs tq iq To E' x' e' h' (0, r, o) X :=
  aC7.leave (tb := tbl h) (L := []) (f := 3000) ((aC2 _ _).hyps ho) (LpOk.nil _) rfl hne ht run
noncomputable abbrev bT3 (h : LK) (x : Ex) (th : LA) (sg : List (Nat × Nat)) (m : Nat) (ep : LA) (hp : LE) : Bool := aP9 (code (tbl h) 3000 [] bS7 (aI0 (aF0 bG8 aQ6) 35) ⟨aC4 bG3 .leaf, 332, 0, 0⟩) x aQ6 35 343 th sg 331 m ep hp
theorem stRs_1 {tq iq : Int} {To : List RC} {r : LB} {o : List RC} {X : Nat → Value} {h : LK} (y : Nat × LB × List RC) {th : LA} {sg : List (Nat × Nat)} (ho : ∀ a' r', (a', r') ∈ h → HOk (cx (nuX (aQ3 tq iq To r o) (rX (bO1 tq iq To r o) X)) (aA7 (aA6 (l := aQ3 tq iq To r o) rfl)) 0 aA5 aA0) a' r') (hy : aS2 tq iq To y) (lt : muRs tq iq To y < muRs tq iq To (1, r, o)) (ht : ThOk (cx (nuX (aQ3 tq iq To r o) (rX (bO1 tq iq To r o) X)) (aA7 (aA6 (l := aQ3 tq iq To r o) rfl)) 0 aA5 aA0) (DRs tq iq To y X) th) (run : bT3 h .normal th sg 332 (epRs y) (hpRs y) = true) : RHRs tq iq To E' x' e' h' (1, r, o) X :=
  aC7.next (tb := tbl h) (L := []) (f := 3000) y ((aC2 _ _).hyps ho) (LpOk.nil _) rfl hy lt ht run
theorem lvRs_1 {tq iq : Int} {To : List RC} {r : LB} {o : List RC} {X : Nat → Value} {h : LK} {th : LA} {sg : List (Nat × Nat)} (hne : exB x' .normal = false) (ho : ∀ a' r', (a', r') ∈ h → HOk (cx (nuX (aQ3 tq iq To r o) (rX (bO1 tq iq To r o) X)) (aA7 (aA6 (l := aQ3 tq iq To r o) rfl)) 0 aA5 aA0) a' r') (ht : ThOk (cx (nuX (aQ3 tq iq To r o) (rX (bO1 tq iq To r o) X)) (aA7 (aA6 (l := aQ3 tq iq To r o) rfl)) 0 aA5 aA0) E' th) (run : bT3 h x' th sg 343 e' h' = true) : RHRs tq iq To E' x' e' h' (1, r, o) X :=
  aC7.leave (tb := tbl h) (L := []) (f := 3000) ((aC2 _ _).hyps ho) (LpOk.nil _) rfl hne ht run
def bW6 : LK := [(.rn, .x 2000000), (.len (.x 2), .x 4), (.bin .gtr (.x 4) (I6 0), .b true), (.mm false (I6 512) (.x 4), I6 512), (.sub (.x 2) none (some (I6 512)), .x 5), (.ra (.x 2000000) [.x 0, .x 1, .x 5, I6 0], .x 2000001), (.rf (.x 2000001) 4 40, .b true), (.sub (.x 2) (some (I6 512)) none, .x 6)]
theorem runRs_p0 : bT4 bW6 .normal [(0, .x 0), (1, .x 1), (2, .x 6), (2000000, .x 2000001)] [(331, 333)] 332 bG8 bG3 = true := by kernel_rfl
def bW5 : LK := [(.rn, .x 2000002), (.len (.x 2), .x 8), (.bin .gtr (.x 8) (I6 0), .b true), (.mm false (I6 512) (.x 8), .x 9), (.sub (.x 2) none (some (.x 9)), .x 10), (.call 23 [.x 9], .x 11), (.ra (.x 2000002) [.x 0, .x 1, .x 10, .x 11], .x 2000003), (.rf (.x 2000003) 4 40, .b true), (.sub (.x 2) (some (.x 9)) none, .x 12)]
theorem runRs_p1 : bT4 bW5 .normal [(0, .x 0), (1, .x 1), (2, .x 12), (2000000, .x 2000003)] [(331, 333)] 332 bG8 bG3 = true := by kernel_rfl
def bW4 : LK := [(.len (.x 2), .x 14), (.bin .gtr (.x 14) (I6 0), .b false)]
theorem runRs_p2 : bT4 bW4 (.exit 0) [(0, .x 0), (1, .x 1)] [] 343 [(0, .x 0), (1, .x 1), (7, .nils)] [] = true := by kernel_rfl
def bW3 : LK := [(.len (.x 2), .x 4), (.bin .gtr (.x 4) (I6 0), .b true), (.mm false (I6 512) (.x 4), I6 512), (.sub (.x 2) none (some (I6 512)), .x 5), (.ra (.x 2000000) [.x 0, .x 1, .x 5, I6 0], .x 2000002), (.rf (.x 2000002) 4 40, .b true), (.sub (.x 2) (some (I6 512)) none, .x 6)]
theorem runRs_p3 : bT3 bW3 .normal [(0, .x 0), (1, .x 1), (2, .x 6), (2000000, .x 2000002)] [(331, 333)] 332 bG8 bG3 = true := by kernel_rfl
def bW2 : LK := [(.len (.x 2), .x 8), (.bin .gtr (.x 8) (I6 0), .b true), (.mm false (I6 512) (.x 8), .x 9), (.sub (.x 2) none (some (.x 9)), .x 10), (.call 23 [.x 9], .x 11), (.ra (.x 2000000) [.x 0, .x 1, .x 10, .x 11], .x 2000004), (.rf (.x 2000004) 4 40, .b true), (.sub (.x 2) (some (.x 9)) none, .x 12)]
theorem runRs_p4 : bT3 bW2 .normal [(0, .x 0), (1, .x 1), (2, .x 12), (2000000, .x 2000004)] [(331, 333)] 332 bG8 bG3 = true := by kernel_rfl
def bW1 : LK := [(.len (.x 2), .x 14), (.bin .gtr (.x 14) (I6 0), .b false)]
theorem runRs_p5 : bT3 bW1 (.exit 0) [(0, .x 0), (1, .x 1), (2000000, .x 2000000)] [(331, 331)] 343 [(0, .x 0), (1, .x 1), (7, .sr 331)] [(331, .r 2000000 31 4 false)] = true := by kernel_rfl
section
variable {tq iq : Int} {To : List RC} {r : LB} {o : List RC} {X : Nat → Value}
theorem cL4 (hI : aS2 tq iq To (0, r, o)) (h0 : 0 < (r.length : Int)) (h1 : 512 ≤ (r.length : Int)) : RHRs tq iq To E' x' e' h' (0, r, o) X := by
  obtain ⟨i0, i1, i2, i3, i4, it⟩ := cG8 tq iq To 0 r o hI
  have := aX9 (l := r) (P := 0) (Q := 512) (by omega)
  have := aX9 (l := r) (P := 512) (Q := (r.length : Int)) (by omega)
  refine stRs_0 (h := bW6) (1, (List.take (Int.toNat ((r.length : Int) - (512))) (List.drop (Int.toNat (512)) r)), (([] : List (Int × Int × LB × Int)) ++ [(tq, iq, (List.take (Int.toNat (512 - (0))) (List.drop (Int.toNat (0)) r)), 0)])) ?_ (cH2 ⟨by omega, tl_go (o := []) (by omega) (by simp) dr5 (show [] ++ _ = To from by have e := i1; rw [i3 rfl] at e; exact e), by simp only [List.length_append, List.length_cons, List.length_nil]; omega, fun h => by omega, fun _ => by simp, by omega⟩) (by show ((List.take (Int.toNat ((r.length : Int) - (512))) (List.drop (Int.toNat (512)) r))).length < r.length; omega) (thXv (v := .int .i64 (tq)) rfl rfl (thXv (v := .int .i64 (iq)) rfl rfl (thXv (v := St' (List.take (Int.toNat ((r.length : Int) - (512))) (List.drop (Int.toNat (512)) r))) rfl rfl (thXv (v := rwG reC (([] : List (Int × Int × LB × Int)) ++ [(tq, iq, (List.take (Int.toNat (512 - (0))) (List.drop (Int.toNat (0)) r)), 0)])) rfl rfl (aB4))))) runRs_p0
  unfold bW6
  exact hc (kRn (denX rfl)) <|hc (lnV rfl rfl (by omega)) <|hc (gtcT rfl (by omega)) <|hc (kMin (isZ (m := 512) rfl) (isX rfl) (denZ (m := 512) rfl) (by omega)) <|hc (kMid (P := 0) (Q := 512) (isX rfl) (.inl ⟨rfl, rfl⟩) (.inr ⟨_, _, rfl, (isZ (m := 512) rfl)⟩) (by omega) (by omega) (by omega) (denX rfl)) <|hc (kRaG (f := reC) (l := ([] : List (Int × Int × LB × Int))) (a := (tq, iq, (List.take (Int.toNat (512 - (0))) (List.drop (Int.toNat (0)) r)), 0)) (isX rfl) (isL4 (isX rfl) (isX rfl) (isX rfl) (isZ (m := 0) rfl)) (denX rfl)) <|hc (kRfG aA8 (isX rfl) (by first | (rw [List.length_append]; omega) | (first | omega | (simp <;> omega))) (by first | (rw [List.length_append]; omega) | (first | omega | (simp <;> omega)))) <|hc (kMid (P := 512) (Q := (r.length : Int)) (isX rfl) (.inr ⟨_, _, rfl, (isZ (m := 512) rfl)⟩) (.inl ⟨rfl, by first | omega | (simp <;> omega)⟩) (by omega) (by omega) (by omega) (denX rfl)) <|hnil
theorem cL3 (hI : aS2 tq iq To (0, r, o)) (h0 : 0 < (r.length : Int)) (h1 : ¬ (512 ≤ (r.length : Int))) : RHRs tq iq To E' x' e' h' (0, r, o) X := by
  obtain ⟨i0, i1, i2, i3, i4, it⟩ := cG8 tq iq To 0 r o hI
  have := aX9 (l := r) (P := 0) (Q := (r.length : Int)) (by omega)
  have := bO9 (r.length : Int)
  have := aX9 (l := r) (P := (r.length : Int)) (Q := (r.length : Int)) (by omega)
  refine stRs_0 (h := bW5) (1, (List.take (Int.toNat ((r.length : Int) - ((r.length : Int)))) (List.drop (Int.toNat ((r.length : Int))) r)), (([] : List (Int × Int × LB × Int)) ++ [(tq, iq, (List.take (Int.toNat ((r.length : Int) - (0))) (List.drop (Int.toNat (0)) r)), (pdI (r.length : Int)))])) ?_ (cH2 ⟨by omega, tl_one (o := []) (by omega) (by omega) (by simp) (by simp) (show [] ++ _ = To from by have e := i1; rw [i3 rfl] at e; exact e), by simp only [List.length_append, List.length_cons, List.length_nil]; omega, fun h => by omega, fun _ => by simp, by omega⟩) (by show ((List.take (Int.toNat ((r.length : Int) - ((r.length : Int)))) (List.drop (Int.toNat ((r.length : Int))) r))).length < r.length; omega) (thXv (v := .int .i64 (tq)) rfl rfl (thXv (v := .int .i64 (iq)) rfl rfl (thXv (v := St' (List.take (Int.toNat ((r.length : Int) - ((r.length : Int)))) (List.drop (Int.toNat ((r.length : Int))) r))) rfl rfl (thXv (v := rwG reC (([] : List (Int × Int × LB × Int)) ++ [(tq, iq, (List.take (Int.toNat ((r.length : Int) - (0))) (List.drop (Int.toNat (0)) r)), (pdI (r.length : Int)))])) rfl rfl (aB4))))) runRs_p1
  unfold bW5
  exact hc (kRn (denX rfl)) <|hc (lnV rfl rfl (by omega)) <|hc (gtcT rfl (by omega)) <|hc (kMin (isZ (m := 512) rfl) (isX rfl) (denX rfl) (by omega)) <|hc (kMid (P := 0) (Q := (r.length : Int)) (isX rfl) (.inl ⟨rfl, rfl⟩) (.inr ⟨_, _, rfl, (isX rfl)⟩) (by omega) (by omega) (by omega) (denX rfl)) <|hc (cO2 (isX rfl) (denX rfl) (by omega) (by omega)) <|hc (kRaG (f := reC) (l := ([] : List (Int × Int × LB × Int))) (a := (tq, iq, (List.take (Int.toNat ((r.length : Int) - (0))) (List.drop (Int.toNat (0)) r)), (pdI (r.length : Int)))) (isX rfl) (isL4 (isX rfl) (isX rfl) (isX rfl) (isX rfl)) (denX rfl)) <|hc (kRfG aA8 (isX rfl) (by first | (rw [List.length_append]; omega) | (first | omega | (simp <;> omega))) (by first | (rw [List.length_append]; omega) | (first | omega | (simp <;> omega)))) <|hc (kMid (P := (r.length : Int)) (Q := (r.length : Int)) (isX rfl) (.inr ⟨_, _, rfl, (isX rfl)⟩) (.inl ⟨rfl, by first | omega | (simp <;> omega)⟩) (by omega) (by omega) (by omega) (denX rfl)) <|hnil
theorem cL2 (hI : aS2 tq iq To (1, r, o)) (h0 : 0 < (r.length : Int)) (h1 : 512 ≤ (r.length : Int)) : RHRs tq iq To E' x' e' h' (1, r, o) X := by
  obtain ⟨i0, i1, i2, i3, i4, it⟩ := cG8 tq iq To 1 r o hI
  have := aX9 (l := r) (P := 0) (Q := 512) (by omega)
  have := aX9 (l := r) (P := 512) (Q := (r.length : Int)) (by omega)
  refine stRs_1 (h := bW3) (1, (List.take (Int.toNat ((r.length : Int) - (512))) (List.drop (Int.toNat (512)) r)), (o ++ [(tq, iq, (List.take (Int.toNat (512 - (0))) (List.drop (Int.toNat (0)) r)), 0)])) ?_ (cH2 ⟨by omega, tl_go (by omega) (by simp) dr5 i1, by simp only [List.length_append, List.length_cons, List.length_nil]; omega, fun h => by omega, fun _ => by simp, by omega⟩) (by show ((List.take (Int.toNat ((r.length : Int) - (512))) (List.drop (Int.toNat (512)) r))).length < r.length; omega) (thXv (v := .int .i64 (tq)) rfl rfl (thXv (v := .int .i64 (iq)) rfl rfl (thXv (v := St' (List.take (Int.toNat ((r.length : Int) - (512))) (List.drop (Int.toNat (512)) r))) rfl rfl (thXv (v := rwG reC (o ++ [(tq, iq, (List.take (Int.toNat (512 - (0))) (List.drop (Int.toNat (0)) r)), 0)])) rfl rfl (aB4))))) runRs_p3
  unfold bW3
  exact hc (lnV rfl rfl (by omega)) <|hc (gtcT rfl (by omega)) <|hc (kMin (isZ (m := 512) rfl) (isX rfl) (denZ (m := 512) rfl) (by omega)) <|hc (kMid (P := 0) (Q := 512) (isX rfl) (.inl ⟨rfl, rfl⟩) (.inr ⟨_, _, rfl, (isZ (m := 512) rfl)⟩) (by omega) (by omega) (by omega) (denX rfl)) <|hc (kRaG (f := reC) (l := o) (a := (tq, iq, (List.take (Int.toNat (512 - (0))) (List.drop (Int.toNat (0)) r)), 0)) (isX rfl) (isL4 (isX rfl) (isX rfl) (isX rfl) (isZ (m := 0) rfl)) (denX rfl)) <|hc (kRfG aA8 (isX rfl) (by first | (rw [List.length_append]; omega) | (first | omega | (simp <;> omega))) (by first | (rw [List.length_append]; omega) | (first | omega | (simp <;> omega)))) <|hc (kMid (P := 512) (Q := (r.length : Int)) (isX rfl) (.inr ⟨_, _, rfl, (isZ (m := 512) rfl)⟩) (.inl ⟨rfl, by first | omega | (simp <;> omega)⟩) (by omega) (by omega) (by omega) (denX rfl)) <|hnil
theorem cL1 (hI : aS2 tq iq To (1, r, o)) (h0 : 0 < (r.length : Int)) (h1 : ¬ (512 ≤ (r.length : Int))) : RHRs tq iq To E' x' e' h' (1, r, o) X := by
  obtain ⟨i0, i1, i2, i3, i4, it⟩ := cG8 tq iq To 1 r o hI
  have := aX9 (l := r) (P := 0) (Q := (r.length : Int)) (by omega)
  have := bO9 (r.length : Int)
  have := aX9 (l := r) (P := (r.length : Int)) (Q := (r.length : Int)) (by omega)
  refine stRs_1 (h := bW2) (1, (List.take (Int.toNat ((r.length : Int) - ((r.length : Int)))) (List.drop (Int.toNat ((r.length : Int))) r)), (o ++ [(tq, iq, (List.take (Int.toNat ((r.length : Int) - (0))) (List.drop (Int.toNat (0)) r)), (pdI (r.length : Int)))])) ?_ (cH2 ⟨by omega, tl_one (by omega) (by omega) (by simp) (by simp) i1, by simp only [List.length_append, List.length_cons, List.length_nil]; omega, fun h => by omega, fun _ => by simp, by omega⟩) (by show ((List.take (Int.toNat ((r.length : Int) - ((r.length : Int)))) (List.drop (Int.toNat ((r.length : Int))) r))).length < r.length; omega) (thXv (v := .int .i64 (tq)) rfl rfl (thXv (v := .int .i64 (iq)) rfl rfl (thXv (v := St' (List.take (Int.toNat ((r.length : Int) - ((r.length : Int)))) (List.drop (Int.toNat ((r.length : Int))) r))) rfl rfl (thXv (v := rwG reC (o ++ [(tq, iq, (List.take (Int.toNat ((r.length : Int) - (0))) (List.drop (Int.toNat (0)) r)), (pdI (r.length : Int)))])) rfl rfl (aB4))))) runRs_p4
  unfold bW2
  exact hc (lnV rfl rfl (by omega)) <|hc (gtcT rfl (by omega)) <|hc (kMin (isZ (m := 512) rfl) (isX rfl) (denX rfl) (by omega)) <|hc (kMid (P := 0) (Q := (r.length : Int)) (isX rfl) (.inl ⟨rfl, rfl⟩) (.inr ⟨_, _, rfl, (isX rfl)⟩) (by omega) (by omega) (by omega) (denX rfl)) <|hc (cO2 (isX rfl) (denX rfl) (by omega) (by omega)) <|hc (kRaG (f := reC) (l := o) (a := (tq, iq, (List.take (Int.toNat ((r.length : Int) - (0))) (List.drop (Int.toNat (0)) r)), (pdI (r.length : Int)))) (isX rfl) (isL4 (isX rfl) (isX rfl) (isX rfl) (isX rfl)) (denX rfl)) <|hc (kRfG aA8 (isX rfl) (by first | (rw [List.length_append]; omega) | (first | omega | (simp <;> omega))) (by first | (rw [List.length_append]; omega) | (first | omega | (simp <;> omega)))) <|hc (kMid (P := (r.length : Int)) (Q := (r.length : Int)) (isX rfl) (.inr ⟨_, _, rfl, (isX rfl)⟩) (.inl ⟨rfl, by first | omega | (simp <;> omega)⟩) (by omega) (by omega) (by omega) (denX rfl)) <|hnil
end
def cL8 (tq iq : Int) (To : List RC) : List Value := [.int .i64 (tq), .int .i64 (iq)]
def roERs_0 (tq iq : Int) (To : List RC) : List Value := []
noncomputable def ERs_0 (tq iq : Int) (To : List RC) : Cx := cx (nuX (cL8 tq iq To) (rX (roERs_0 tq iq To) (fun _ => .bool true))) (aA7 (aA6 (l := cL8 tq iq To) rfl)) 0 aA5 aA0
theorem roundsRs_0 (tq iq : Int) (To : List RC) (x0 : To.length = 0) (st : Nat × LB × List RC) (X : Nat → Value) (hI : aS2 tq iq To st) : RHRs tq iq To (ERs_0 tq iq To) (.exit 0) [(0, .x 0), (1, .x 1), (7, .nils)] [] st X := by
  obtain ⟨tag, r, o⟩ := st
  have hI0 := hI
  obtain ⟨i0, i1, i2, i3, i4, it⟩ := cG8 tq iq To tag r o hI
  rcases (show tag = 0 ∨ tag = 1 from by omega) with rfl | rfl
  · skip
    by_cases h0 : 0 < (r.length : Int)
    · by_cases h1 : 512 ≤ (r.length : Int)
      · exact cL4 hI0 h0 h1
      · exact cL3 hI0 h0 h1
    · skip
      refine lvRs_0 (h := bW4) rfl ?_ (thXv (v := .int .i64 (tq)) rfl rfl (thXv (v := .int .i64 (iq)) rfl rfl (aB4))) runRs_p2
      unfold bW4
      exact hc (lnV rfl rfl (by omega)) <|hc (gtcF rfl (by omega)) <|hnil
  · skip
    by_cases h0 : 0 < (r.length : Int)
    · by_cases h1 : 512 ≤ (r.length : Int)
      · exact cL2 hI0 h0 h1
      · exact cL1 hI0 h0 h1
    · exfalso; have e := congrArg List.length (cI6 (by omega) i1); have := i4 rfl; omega
theorem lfOkRs_0 {l : LF} {h : LH} (tq iq : Int) (To : List RC) (x0 : To.length = 0) (st : Nat × LB × List RC) (hI : aS2 tq iq To st) (hl : l.hp = some h) (hs : aM1 l h 35 aQ6 (.exit 0) 1 331 343 = true) {th0 : LA} {sg0 : List (Nat × Nat)} (hth0 : ∀ X, ThOk (cx nu one 0 aA5 aA0) (DRs tq iq To st X) th0) (h0 : aH4 l h 35 331 332 th0 sg0 (epRs st) (hpRs st) = true) {thx : LA} (hthx : ThOk (ERs_0 tq iq To) (cx nu one 0 aA5 aA0) thx) (hx : aM2 l h 35 331 343 thx [(0, .x 0), (1, .x 1), (7, .nils)] [] = true) : LfOk (cx nu one 0 aA5 aA0) bS7 l :=
  bE6 (E := ERs_0 tq iq To) (aS2 tq iq To) (muRs tq iq To) (DRs tq iq To) (fun _ _ => rfl) (fun _ _ => rfl) (fun _ _ => rfl) (fun st X t ht => aG8.trans (aJ1 ((by decide : ∀ t, t ∈ aQ6 → t < 1000000) t ht))) rfl rfl rfl hl hs ebRs rfl rfl st hI hth0 h0 hthx hx (roundsRs_0 tq iq To x0)
def cL7 (tq iq : Int) (To : List RC) : List Value := [.int .i64 (tq), .int .i64 (iq)]
def roERs_1 (tq iq : Int) (To : List RC) : List Value := [rwG reC To]
noncomputable def ERs_1 (tq iq : Int) (To : List RC) : Cx := cx (nuX (cL7 tq iq To) (rX (roERs_1 tq iq To) (fun _ => .bool true))) (aA7 (aA6 (l := cL7 tq iq To) rfl)) 0 aA5 aA0
theorem roundsRs_1 (tq iq : Int) (To : List RC) (x0 : ¬ To.length = 0) (st : Nat × LB × List RC) (X : Nat → Value) (hI : aS2 tq iq To st) : RHRs tq iq To (ERs_1 tq iq To) (.exit 0) [(0, .x 0), (1, .x 1), (7, .sr 331)] [(331, .r 2000000 31 4 false)] st X := by
  obtain ⟨tag, r, o⟩ := st
  have hI0 := hI
  obtain ⟨i0, i1, i2, i3, i4, it⟩ := cG8 tq iq To tag r o hI
  rcases (show tag = 0 ∨ tag = 1 from by omega) with rfl | rfl
  · skip
    by_cases h0 : 0 < (r.length : Int)
    · by_cases h1 : 512 ≤ (r.length : Int)
      · exact cL4 hI0 h0 h1
      · exact cL3 hI0 h0 h1
    · exfalso; have e := congrArg List.length (cI6 (by omega) i1); rw [i3 rfl] at e; exact x0 e.symm
  · skip
    by_cases h0 : 0 < (r.length : Int)
    · by_cases h1 : 512 ≤ (r.length : Int)
      · exact cL2 hI0 h0 h1
      · exact cL1 hI0 h0 h1
    · skip
      refine lvRs_1 (h := bW1) rfl ?_ (thXv (v := .int .i64 (tq)) rfl rfl (thXv (v := .int .i64 (iq)) rfl rfl (thXe (v := rwG reC o) (u := rwG reC To) rfl rfl (congrArg (rwG reC) (cI6 (by omega) i1)) (aB4)))) runRs_p5
      unfold bW1
      exact hc (lnV rfl rfl (by omega)) <|hc (gtcF rfl (by omega)) <|hnil
theorem lfOkRs_1 {l : LF} {h : LH} (tq iq : Int) (To : List RC) (x0 : ¬ To.length = 0) (st : Nat × LB × List RC) (hI : aS2 tq iq To st) (hl : l.hp = some h) (hs : aM1 l h 35 aQ6 (.exit 0) 1 331 343 = true) {th0 : LA} {sg0 : List (Nat × Nat)} (hth0 : ∀ X, ThOk (cx nu one 0 aA5 aA0) (DRs tq iq To st X) th0) (h0 : aH4 l h 35 331 332 th0 sg0 (epRs st) (hpRs st) = true) {thx : LA} (hthx : ThOk (ERs_1 tq iq To) (cx nu one 0 aA5 aA0) thx) (hx : aM2 l h 35 331 343 thx [(0, .x 0), (1, .x 1), (7, .sr 331)] [(331, .r 2000000 31 4 false)] = true) : LfOk (cx nu one 0 aA5 aA0) bS7 l :=
  bE6 (E := ERs_1 tq iq To) (aS2 tq iq To) (muRs tq iq To) (DRs tq iq To) (fun _ _ => rfl) (fun _ _ => rfl) (fun _ _ => rfl) (fun st X t ht => aG8.trans (aJ1 ((by decide : ∀ t, t ∈ aQ6 → t < 1000000) t ht))) rfl rfl rfl hl hs ebRs rfl rfl st hI hth0 h0 hthx hx (roundsRs_1 tq iq To x0)
noncomputable def fi10 : FI := (tabk.fn.get 10).getD default
theorem bL8 : tabk.fn.get 10 = some fi10 := by kernel_rfl
theorem aN7 : fi10.body = some (Try.f10.body.getD .skip) := by kernel_rfl
theorem fiB10 : fi10.body.isSome = true := by rw [aN7]; rfl
theorem cH7 : (aC5 (Try.f10.body.getD .skip)).all (fun b => !(aY0 (Go.AX.keyOf b) 8888888)) = true := by kernel_rfl
def aPRsl : List AV := [.x 0, .x 1, .x 2]
def hpRsl : LE := []
def nuRsl (tq iq : Int) (sq : LB) : List Value := [.int .i64 (tq), .int .i64 (iq), St' sq, St' ([] : LB), .int .i64 (tq), .int .i64 (iq), St' ([] : LB), .int .i64 (tq), .int .i64 (iq)]
def roRsl (tq iq : Int) (sq : LB) : List Value := [rwS ([] : List LB), rwG reC (([] : List (Int × Int × LB × Int)) ++ [(tq, iq, ([] : LB), 0)]), rwS ([] : List LB), rwG reC ((spX tq iq sq).1 ++ tlS tq iq (spX tq iq sq).2), rwG reC (((spX tq iq sq).1 ++ tlS tq iq (spX tq iq sq).2) ++ [(tq, iq, ([] : LB), 0)])]
noncomputable def DRsl (tq iq : Int) (sq : LB) : Cx := cx (nuX (nuRsl tq iq sq) (rX (roRsl tq iq sq) (fun _ => .bool true))) (aA7 (aA6 (l := nuRsl tq iq sq) rfl)) 0 aA5 aA0
def bJ8 : LK := [(.rn, .x 2000000), (.ra (.x 2000000) [.x 4, .x 5, .s 0 0, I6 0], .x 2000001), (.rf (.x 2000001) 4 40, .b true)]
def lh4 : LH := ⟨1, 331, 343, [], []⟩
def lf4 : LF := ⟨2, 35, [(0, .x 0), (1, .x 1), (2, .x 2), (7, .nils)], [], (.exit 0), [(0, .x 4), (1, .x 5), (7, .nils)], some lh4⟩
noncomputable def bZ3 : Tab := aF9 ((tbl bJ8)) 10 fi10 [lf4]
theorem runRsl_c0 (e : Unit) : okCf (call bZ3 2000 10 aPRsl ⟨aC4 hpRsl ((fun _ : Unit => T.leaf) e), 331, 0, 0⟩) (.sr 331) [(2000000, .x 2000001)] [(331, 344)] 331 361 [(331, .r 2000000 31 4 false)] = true := by kernel_rfl
def bJ7 : LK := [(.ra (.x 2000003) [.x 7, .x 8, .s 0 0, I6 0], .x 2000004), (.rf (.x 2000004) 4 40, .b true)]
def lh5 : LH := ⟨1, 331, 343, [], [(331, .r 2000003 31 4 false)]⟩
def lf5 : LF := ⟨2, 35, [(0, .x 0), (1, .x 1), (2, .x 2), (7, .nils)], [], (.exit 0), [(0, .x 7), (1, .x 8), (7, .sr 331)], some lh5⟩
noncomputable def bZ2 : Tab := aF9 ((tbl bJ7)) 10 fi10 [lf5]
theorem runRsl_c1 (e : Unit) : okCf (call bZ2 2000 10 aPRsl ⟨aC4 hpRsl ((fun _ : Unit => T.leaf) e), 331, 0, 0⟩) (.sr 331) [(2000000, .x 2000004)] [(331, 344)] 331 361 [(331, .r 2000000 31 4 false)] = true := by kernel_rfl
def cC3 (tq iq : Int) (sq : LB) : List Value := []
def roERsl_0 (tq iq : Int) (sq : LB) : List Value := [rwG reC (spS tq iq sq)]
noncomputable def cR0 (tq iq : Int) (sq : LB) : Cx := cx (nuX (cC3 tq iq sq) (rX (roERsl_0 tq iq sq) (fun _ => .bool true))) (aA7 (aA6 (l := cC3 tq iq sq) rfl)) 0 aA5 aA0
theorem aW1 {l : LF} {h : LH} {q : Nat × AV} (tq iq : Int) (sq : LB) (p0 : sq.length ≤ 100000) (hl : l.hp = some h) (hq : l.post = [q]) (hs : cF7 l h 1 331 361 = true) {th0 : LA} {sg0 : List (Nat × Nat)} (hth0 : ThOk (cx nu one 0 aA5 aA0) (DRsl tq iq sq) th0) (h0 : (inAs th0 (sgB 331 331 sg0) aPRsl (l.pre.map (·.2)) && aF8 331 331 th0 sg0 (aC4 h.pre .leaf) hpRsl && aF6 (numsOf 331 sg0 hpRsl)) = true) {thx : LA} (hthx : ThOk (cR0 tq iq sq) (cx nu one 0 aA5 aA0) thx) (hx : (inA thx (sgB 331 361 []) 8 q.2 (.sr 331) && aF8 331 361 thx [] (aC4 [(331, .r 2000000 31 4 false)] .leaf) h.post && aF6 (numsOf 331 [] h.post)) = true) : CfOk (cx nu one 0 aA5 aA0) 10 l := by
  have hgl := aL0 (t := tq) (i := iq) sq
  have hgt := aM4 tq iq (spX tq iq sq).2
  have hga : ((spX tq iq sq).1 ++ tlS tq iq (spX tq iq sq).2).length = (spX tq iq sq).1.length + (tlS tq iq (spX tq iq sq).2).length := List.length_append
  by_cases d0 : ((spX tq iq sq).1 ++ tlS tq iq (spX tq iq sq).2).length = 0
  · skip
    have hgl := aL0 (t := tq) (i := iq) sq
    have hgt := aM4 tq iq (spX tq iq sq).2
    have hga : ((spX tq iq sq).1 ++ tlS tq iq (spX tq iq sq).2).length = (spX tq iq sq).1.length + (tlS tq iq (spX tq iq sq).2).length := List.length_append
    have ho : ∀ a' r', (a', r') ∈ bJ8 → HOk (DRsl tq iq sq) a' r' := by
      unfold bJ8
      exact hc (kRn (denX rfl)) <|hc (kRaG (f := reC) (l := ([] : List (Int × Int × LB × Int))) (a := (tq, iq, ([] : LB), 0)) (isX rfl) (isL4 (isX rfl) (isX rfl) (isSx (l := ([] : LB)) 0 0 rfl) (isZ (m := 0) rfl)) (denX rfl)) <|hc (kRfG aA8 (isX rfl) (by first | (rw [List.length_append]; omega) | (first | omega | (simp <;> omega))) (by first | (rw [List.length_append]; omega) | (first | omega | (simp <;> omega)))) <|hnil
    exact cP6 (D := DRsl tq iq sq) (E := cR0 tq iq sq) (Gf := (fun _ : Unit => T.leaf)) (f := 2000) (tb := bZ3) rfl rfl rfl rfl rfl rfl hl hq hs rfl hth0 h0 hthx hx (aC6.lp1 ((aC2 _ _).hyps ho) (by omega) bL8 aN7 (aE4 (aG5 rfl ⟨0, keyRs, lfOkRs_0 (l := lf4) (h := lh4) tq iq ((spX tq iq sq).1 ++ tlS tq iq (spX tq iq sq).2) (by assumption) (0, sq, []) (cH2 ⟨by omega, rfl, by simp only [List.length_nil]; omega, fun _ => rfl, fun h => by omega, by omega⟩) rfl (by kernel_rfl) (th0 := [(0, .x 0), (1, .x 1), (2, .x 2)]) (sg0 := []) (fun X => thXv (v := .int .i64 (tq)) rfl rfl (thXv (v := .int .i64 (iq)) rfl rfl (thXv (v := St' sq) rfl rfl (aB4)))) (by kernel_rfl) (thx := [(4, .x 0), (5, .x 1)]) (thXv (v := .int .i64 (tq)) rfl rfl (thXv (v := .int .i64 (iq)) rfl rfl (aB4))) (by kernel_rfl)⟩) aR5)) rfl (aR9 (by omega)) fiB10 (.inl ⟨fun _ => rfl, ⟨()⟩⟩) (thXe (v := rwG reC (([] : List (Int × Int × LB × Int)) ++ [(tq, iq, ([] : LB), 0)])) (u := rwG reC (spS tq iq sq)) rfl rfl (congrArg (rwG reC) (by first | exact cJ3 (by omega) (by omega) | exact cJ2 (by omega) (by omega) | exact cJ1 (by omega) | exact cJ0 (by omega) | exact cI9)) (aB4)) runRsl_c0
  · skip
    have hgl := aL0 (t := tq) (i := iq) sq
    have hgt := aM4 tq iq (spX tq iq sq).2
    have hga : ((spX tq iq sq).1 ++ tlS tq iq (spX tq iq sq).2).length = (spX tq iq sq).1.length + (tlS tq iq (spX tq iq sq).2).length := List.length_append
    have ho : ∀ a' r', (a', r') ∈ bJ7 → HOk (DRsl tq iq sq) a' r' := by
      unfold bJ7
      exact hc (kRaG (f := reC) (l := ((spX tq iq sq).1 ++ tlS tq iq (spX tq iq sq).2)) (a := (tq, iq, ([] : LB), 0)) (isX rfl) (isL4 (isX rfl) (isX rfl) (isSx (l := ([] : LB)) 0 0 rfl) (isZ (m := 0) rfl)) (denX rfl)) <|hc (kRfG aA8 (isX rfl) (by first | (rw [List.length_append]; omega) | (first | omega | (simp <;> omega))) (by first | (rw [List.length_append]; omega) | (first | omega | (simp <;> omega)))) <|hnil
    exact cP6 (D := DRsl tq iq sq) (E := cR0 tq iq sq) (Gf := (fun _ : Unit => T.leaf)) (f := 2000) (tb := bZ2) rfl rfl rfl rfl rfl rfl hl hq hs rfl hth0 h0 hthx hx (aC6.lp1 ((aC2 _ _).hyps ho) (by omega) bL8 aN7 (aE4 (aG5 rfl ⟨0, keyRs, lfOkRs_1 (l := lf5) (h := lh5) tq iq ((spX tq iq sq).1 ++ tlS tq iq (spX tq iq sq).2) (by assumption) (0, sq, []) (cH2 ⟨by omega, rfl, by simp only [List.length_nil]; omega, fun _ => rfl, fun h => by omega, by omega⟩) rfl (by kernel_rfl) (th0 := [(0, .x 0), (1, .x 1), (2, .x 2)]) (sg0 := []) (fun X => thXv (v := .int .i64 (tq)) rfl rfl (thXv (v := .int .i64 (iq)) rfl rfl (thXv (v := St' sq) rfl rfl (aB4)))) (by kernel_rfl) (thx := [(7, .x 0), (8, .x 1), (2000003, .x 2000000)]) (thXv (v := .int .i64 (tq)) rfl rfl (thXv (v := .int .i64 (iq)) rfl rfl (thXv (v := rwG reC ((spX tq iq sq).1 ++ tlS tq iq (spX tq iq sq).2)) rfl rfl (aB4)))) (by kernel_rfl)⟩) aR5)) rfl (aR9 (by omega)) fiB10 (.inl ⟨fun _ => rfl, ⟨()⟩⟩) (thXe (v := rwG reC (((spX tq iq sq).1 ++ tlS tq iq (spX tq iq sq).2) ++ [(tq, iq, ([] : LB), 0)])) (u := rwG reC (spS tq iq sq)) rfl rfl (congrArg (rwG reC) (by first | exact cJ3 (by omega) (by omega) | exact cJ2 (by omega) (by omega) | exact cJ1 (by omega) | exact cJ0 (by omega) | exact cI9)) (aB4)) runRsl_c1
end Go.Proofs.Ytfoalkoifcpdmaa.framesTells
