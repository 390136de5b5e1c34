/- A part of the proof: an interpreter of the model's own code on partly known states, and that what it answers is what the program answers. No condition of its own. -/
import Derived.Test.YtbipkiiaajklhaaDoorS1PathTellsO8
set_option maxRecDepth 100000
set_option linter.unusedVariables false
set_option linter.unusedSimpArgs false
set_option maxHeartbeats 4000000
namespace Go.Proofs.YtbipkiiaajklhaaDoor.pathTells
open Go Go.AX Go.Proofs Go.Proofs.YtbipkiiaajklhaaDoor
variable {nu : Nat → Value} {one : ∀ i, i < 1000000 → (nu i).oneCell' = true} {E' : Cx} {x' : Ex} {e' : LA} {h' : LE}
noncomputable def bD9 : Code := aL8 (Tryd.f20.body.getD .skip) 0
theorem aW8 : aK6 (aC0 (Tryd.f20.body.getD .skip)) 4 0 0 = true := by kernel_rfl
def aK7 : List Nat := []
def bS8 : LA := [(0, .x 0), (3, .nils), (4, .x 1), (5, .x 2)]
def bR4 : LE := []
def aH7 (s : LB) (T : List LB) (i f : Int) (o : List LB) : List Value := [St' s, .int .i64 (f), .int .i64 (i), .int .i64 ((s.length : Int)), .int .u8 (bt s (Int.toNat (i))), .int .i64 (i + 1), .int .i64 ((s.length : Int)), .int .u8 (bt s (Int.toNat (i))), St' (mdS s f i), .int .i64 (i + 1), .int .i64 ((s.length : Int)), St' (mdS s f i), .int .i64 (i + 1)]
def aT6 (s : LB) (T : List LB) (i f : Int) (o : List LB) : List Value := [rwS ([] : List LB), rwS ([] : List LB), rwS (([] : List LB) ++ [(mdS s f i)]), rwS ([] : List LB), rwS (([] : List LB) ++ [(mdS s f i)])]
def aN3 : LA := [(0, .x 0), (3, .sr 104), (4, .x 1), (5, .x 2)]
def aM8 : LE := [(104, .r 2000000 9 1 false)]
def aH6 (s : LB) (T : List LB) (i f : Int) (o : List LB) : List Value := [St' s, .int .i64 (f), .int .i64 (i), .int .i64 ((s.length : Int)), .int .u8 (bt s (Int.toNat (i))), .int .i64 (i + 1), .int .i64 ((s.length : Int)), .int .u8 (bt s (Int.toNat (i))), St' (mdS s f i), .int .i64 (i + 1), .int .i64 ((s.length : Int)), St' (mdS s f i), .int .i64 (i + 1), .int .i64 ((s.length : Int))]
def aT5 (s : LB) (T : List LB) (i f : Int) (o : List LB) : List Value := [rwS o, rwS ([] : List LB), rwS ([] : List LB), rwS (o ++ [(mdS s f i)]), rwS ([] : List LB), rwS (o ++ [(mdS s f i)]), rwS ([] : List LB)]
def bI3 (st : Nat × Int × Int × List LB) : LA := if st.1 = 0 then bS8 else aN3
def cK0 (st : Nat × Int × Int × List LB) : LE := if st.1 = 0 then bR4 else aM8
def cX8 (s : LB) (T : List LB) (st : Nat × Int × Int × List LB) : List Value := if st.1 = 0 then aH7 s T (st.2.1) (st.2.2.1) (st.2.2.2) else aH6 s T (st.2.1) (st.2.2.1) (st.2.2.2)
def roRs104 (s : LB) (T : List LB) (st : Nat × Int × Int × List LB) : List Value := if st.1 = 0 then aT6 s T (st.2.1) (st.2.2.1) (st.2.2.2) else aT5 s T (st.2.1) (st.2.2.1) (st.2.2.2)
theorem onRs104 (s : LB) (T : List LB) (st : Nat × Int × Int × List LB) : ∀ j, (nuL (cX8 s T st) j).oneCell' = true := by
  intro j
  unfold cX8
  by_cases g0 : st.1 = 0
  · rw [if_pos g0]; exact aA2 (l := aH7 s T (st.2.1) (st.2.2.1) (st.2.2.2)) rfl j
  rw [if_neg g0]
  exact aA2 (l := aH6 s T (st.2.1) (st.2.2.1) (st.2.2.2)) rfl j
theorem ebRs104 (st : Nat × Int × Int × List LB) : (lfB (bI3 st) && lfC aK7) = true := by
  unfold bI3
  by_cases g0 : st.1 = 0
  · rw [if_pos g0]; rfl
  rw [if_neg g0]
  rfl
noncomputable def cU4 (s : LB) (T : List LB) (st : Nat × Int × Int × List LB) (X : Nat → Value) : Cx := cx (nuX (cX8 s T st) (rX (roRs104 s T st) X)) (aA4 (onRs104 s T st)) 1 aA3 aA0
def aG7 (s : LB) (T : List LB) (st : Nat × Int × Int × List LB) : Prop := (0 ≤ (st.2.2.1)) ∧ ((st.2.2.1) ≤ (st.2.1)) ∧ ((st.2.1) ≤ (s.length : Int) + 1) ∧ (0 ≤ (st.2.1)) ∧ ((st.2.1) ≤ (s.length : Int) → ((st.2.2.2) ++ sp47 (mdS s (st.2.2.1) (st.2.1)) (s.drop (Int.toNat (st.2.1))) = T ∧ True)) ∧ (¬ (st.2.1) ≤ (s.length : Int) → (st.2.2.2) = T) ∧ ((st.1) = 0 → (st.2.2.2) = []) ∧ (((st.2.2.2).length : Int) ≤ (st.2.1)) ∧ ((st.1) = 0 → (st.2.1) ≤ (s.length : Int)) ∧ ((st.1) < 2)
abbrev CjRs104 (s : LB) (T : List LB) (tag : Nat) (i f : Int) (o : List LB) : Prop := (0 ≤ f) ∧ (f ≤ i) ∧ (i ≤ (s.length : Int) + 1) ∧ (0 ≤ i) ∧ (i ≤ (s.length : Int) → (o ++ sp47 (mdS s f i) (s.drop (Int.toNat i)) = T ∧ True)) ∧ (¬ i ≤ (s.length : Int) → o = T) ∧ (tag = 0 → o = []) ∧ ((o.length : Int) ≤ i) ∧ (tag = 0 → i ≤ (s.length : Int)) ∧ (tag < 2)
theorem aI4 {s : LB} {T : List LB} {tag : Nat} {i f : Int} {o : List LB} (h : CjRs104 s T tag i f o) : aG7 s T (tag, i, f, o) := h
theorem aQ6 (s : LB) (T : List LB) (tag : Nat) (i f : Int) (o : List LB) (h : aG7 s T (tag, i, f, o)) : (0 ≤ f) ∧ (f ≤ i) ∧ (i ≤ (s.length : Int) + 1) ∧ (0 ≤ i) ∧ (i ≤ (s.length : Int) → (o ++ sp47 (mdS s f i) (s.drop (Int.toNat i)) = T ∧ True)) ∧ (¬ i ≤ (s.length : Int) → o = T) ∧ (tag = 0 → o = []) ∧ ((o.length : Int) ≤ i) ∧ (tag = 0 → i ≤ (s.length : Int)) ∧ (tag < 2) := h
def bF5 (s : LB) (T : List LB) (st : Nat × Int × Int × List LB) : Nat := (s.length + 1 - (st.2.1).toNat)
abbrev aN5 (s : LB) (T : List LB) (E' : Cx) (ex' : Ex) (epx' : LA) (hpx' : LE) (st : Nat × Int × Int × List LB) (X : Nat → Value) : Prop := aC3 E' bD9 aK7 32 ex' 4 104 105 116 bI3 cK0 epx' hpx' (aG7 s T) (bF5 s T) (cU4 s T) st X
noncomputable abbrev aV6 (h : LK) (x : Ex) (th : LA) (sg : List (Nat × Nat)) (m : Nat) (ep : LA) (hp : LE) : Bool := aL4 (code (tbl h) 1500 [] bD9 (aH4 (aE4 bS8 aK7) 32) ⟨aD1 bR4 .leaf, 105, 0, 0⟩) x aK7 32 116 th sg 104 m ep hp
theorem bN8 {s : LB} {T : List LB} {i f : Int} {o : List LB} {X : Nat → Value} {h : LK} (y : Nat × Int × Int × List LB) {th : LA} {sg : List (Nat × Nat)} (ho : ∀ a' r', (a', r') ∈ h → HOk (cx (nuX (aH7 s T i f o) (rX (aT6 s T i f o) X)) (aA4 (aA2 (l := aH7 s T i f o) rfl)) 1 aA3 aA0) a' r') (hy : aG7 s T y) (lt : bF5 s T y < bF5 s T (0, i, f, o)) (ht : ThOk (cx (nuX (aH7 s T i f o) (rX (aT6 s T i f o) X)) (aA4 (aA2 (l := aH7 s T i f o) rfl)) 1 aA3 aA0) (cU4 s T y X) th) (run : aV6 h .normal th sg 105 (bI3 y) (cK0 y) = true) : aN5 s T E' x' e' h' (0, i, f, o) X :=
  aC3.next (tb := tbl h) (L := []) (f := 1500) y ((aB0 _ _).hyps ho) (LpOk.nil _) rfl hy lt ht run
theorem lvRs104_0 {s : LB} {T : List LB} {i f : Int} {o : List LB} {X : Nat → Value} {h : LK} {th : LA} {sg : List (Nat × Nat)} (hne : exB x' .normal = false) (ho : ∀ a' r', (a', r') ∈ h → HOk (cx (nuX (aH7 s T i f o) (rX (aT6 s T i f o) X)) (aA4 (aA2 (l := aH7 s T i f o) rfl)) 1 aA3 aA0) a' r') (ht : ThOk (cx (nuX (aH7 s T i f o) (rX (aT6 s T i f o) X)) (aA4 (aA2 (l := aH7 s T i f o) rfl)) 1 aA3 aA0) E' th) (run : aV6 h x' th sg 116 e' h' = true) : aN5 s T E' x' e' h' (0, i, f, o) X :=
  aC3.leave (tb := tbl h) (L := []) (f := 1500) ((aB0 _ _).hyps ho) (LpOk.nil _) rfl hne ht run
noncomputable abbrev aQ4 (h : LK) (x : Ex) (th : LA) (sg : List (Nat × Nat)) (m : Nat) (ep : LA) (hp : LE) : Bool := aL4 (code (tbl h) 1500 [] bD9 (aH4 (aE4 aN3 aK7) 32) ⟨aD1 aM8 .leaf, 105, 0, 0⟩) x aK7 32 116 th sg 104 m ep hp
theorem bN7 {s : LB} {T : List LB} {i f : Int} {o : List LB} {X : Nat → Value} {h : LK} (y : Nat × Int × Int × List LB) {th : LA} {sg : List (Nat × Nat)} (ho : ∀ a' r', (a', r') ∈ h → HOk (cx (nuX (aH6 s T i f o) (rX (aT5 s T i f o) X)) (aA4 (aA2 (l := aH6 s T i f o) rfl)) 1 aA3 aA0) a' r') (hy : aG7 s T y) (lt : bF5 s T y < bF5 s T (1, i, f, o)) (ht : ThOk (cx (nuX (aH6 s T i f o) (rX (aT5 s T i f o) X)) (aA4 (aA2 (l := aH6 s T i f o) rfl)) 1 aA3 aA0) (cU4 s T y X) th) (run : aQ4 h .normal th sg 105 (bI3 y) (cK0 y) = true) : aN5 s T E' x' e' h' (1, i, f, o) X :=
  aC3.next (tb := tbl h) (L := []) (f := 1500) y ((aB0 _ _).hyps ho) (LpOk.nil _) rfl hy lt ht run
theorem lvRs104_1 {s : LB} {T : List LB} {i f : Int} {o : List LB} {X : Nat → Value} {h : LK} {th : LA} {sg : List (Nat × Nat)} (hne : exB x' .normal = false) (ho : ∀ a' r', (a', r') ∈ h → HOk (cx (nuX (aH6 s T i f o) (rX (aT5 s T i f o) X)) (aA4 (aA2 (l := aH6 s T i f o) rfl)) 1 aA3 aA0) a' r') (ht : ThOk (cx (nuX (aH6 s T i f o) (rX (aT5 s T i f o) X)) (aA4 (aA2 (l := aH6 s T i f o) rfl)) 1 aA3 aA0) E' th) (run : aQ4 h x' th sg 116 e' h' = true) : aN5 s T E' x' e' h' (1, i, f, o) X :=
  aC3.leave (tb := tbl h) (L := []) (f := 1500) ((aB0 _ _).hyps ho) (LpOk.nil _) rfl hne ht run
def bH1 : LK := [(.len (.x 0), .x 3), (.bin .leq (.x 2) (.x 3), .b true), (.bin .eql (.x 2) (.x 3), .b false), (.idx (.x 0) (.x 2), .x 4), (.bin .eql (.x 4) (.i .u8 (.ofNat 47)), .b false), (.bin .add (.x 2) (I6 1), .x 5)]
theorem runRs104_p0 : aV6 bH1 .normal [(0, .x 0), (1, .x 1), (2, .x 5)] [] 105 bS8 bR4 = true := by kernel_rfl
def bH0 : LK := [(.rn, .x 2000001), (.len (.x 0), .x 6), (.bin .leq (.x 2) (.x 6), .b true), (.bin .eql (.x 2) (.x 6), .b false), (.idx (.x 0) (.x 2), .x 7), (.bin .eql (.x 7) (.i .u8 (.ofNat 47)), .b true), (.sub (.x 0) (some (.x 1)) (some (.x 2)), .x 8), (.ra (.x 2000001) [.x 8], .x 2000002), (.rf (.x 2000002) 1 16, .b true), (.bin .add (.x 2) (I6 1), .x 9)]
theorem runRs104_p1 : aV6 bH0 .normal [(0, .x 0), (1, .x 9), (2, .x 9), (2000000, .x 2000002)] [(104, 106)] 105 aN3 aM8 = true := by kernel_rfl
def bG9 : LK := [(.rn, .x 2000003), (.len (.x 0), .x 10), (.bin .leq (.x 2) (.x 10), .b true), (.bin .eql (.x 2) (.x 10), .b true), (.sub (.x 0) (some (.x 1)) (some (.x 2)), .x 11), (.ra (.x 2000003) [.x 11], .x 2000004), (.rf (.x 2000004) 1 16, .b true), (.bin .add (.x 2) (I6 1), .x 12)]
theorem runRs104_p2 : aV6 bG9 .normal [(0, .x 0), (1, .x 12), (2, .x 12), (2000000, .x 2000004)] [(104, 106)] 105 aN3 aM8 = true := by kernel_rfl
def bG8 : LK := [(.len (.x 0), .x 3), (.bin .leq (.x 2) (.x 3), .b true), (.bin .eql (.x 2) (.x 3), .b false), (.idx (.x 0) (.x 2), .x 4), (.bin .eql (.x 4) (.i .u8 (.ofNat 47)), .b false), (.bin .add (.x 2) (I6 1), .x 5)]
theorem runRs104_p3 : aQ4 bG8 .normal [(0, .x 0), (1, .x 1), (2, .x 5), (2000000, .x 2000000)] [(104, 104)] 105 aN3 aM8 = true := by kernel_rfl
def bG7 : LK := [(.len (.x 0), .x 6), (.bin .leq (.x 2) (.x 6), .b true), (.bin .eql (.x 2) (.x 6), .b false), (.idx (.x 0) (.x 2), .x 7), (.bin .eql (.x 7) (.i .u8 (.ofNat 47)), .b true), (.sub (.x 0) (some (.x 1)) (some (.x 2)), .x 8), (.ra (.x 2000000) [.x 8], .x 2000003), (.rf (.x 2000003) 1 16, .b true), (.bin .add (.x 2) (I6 1), .x 9)]
theorem runRs104_p4 : aQ4 bG7 .normal [(0, .x 0), (1, .x 9), (2, .x 9), (2000000, .x 2000003)] [(104, 106)] 105 aN3 aM8 = true := by kernel_rfl
def bG6 : LK := [(.len (.x 0), .x 10), (.bin .leq (.x 2) (.x 10), .b true), (.bin .eql (.x 2) (.x 10), .b true), (.sub (.x 0) (some (.x 1)) (some (.x 2)), .x 11), (.ra (.x 2000000) [.x 11], .x 2000005), (.rf (.x 2000005) 1 16, .b true), (.bin .add (.x 2) (I6 1), .x 12)]
theorem runRs104_p5 : aQ4 bG6 .normal [(0, .x 0), (1, .x 12), (2, .x 12), (2000000, .x 2000005)] [(104, 106)] 105 aN3 aM8 = true := by kernel_rfl
def bG5 : LK := [(.len (.x 0), .x 13), (.bin .leq (.x 2) (.x 13), .b false)]
theorem runRs104_p6 : aQ4 bG5 (.exit 0) [(2000000, .x 2000000)] [(104, 104)] 116 [(3, .sr 104)] [(104, .r 2000000 9 1 false)] = true := by kernel_rfl
section
variable {s : LB} {T : List LB} (c0 : s.length ≤ 1000000) {i f : Int} {o : List LB} {X : Nat → Value}
include c0
theorem nxRs104_p0 (hI : aG7 s T (0, i, f, o)) (h1 : ¬ (i = (s.length : Int))) (h2 : ¬ (bt s (Int.toNat (i)) = 47)) : aN5 s T E' x' e' h' (0, i, f, o) X := by
  obtain ⟨i0, i1, i2, i3, i4, i5, i6, i7, i8, it⟩ := aQ6 s T 0 i f o hI
  have := aB6 s (Int.toNat (i)); have := aB7 s (Int.toNat (i))
  refine bN8 (h := bH1) (0, (i + 1), f, ([] : List LB)) ?_ (aI4 ⟨by omega, by omega, by omega, by omega, fun _ => ⟨rs_a (o := []) (by omega) (by omega) (by omega) (by assumption) (show [] ++ sp47 (mdS s f i) (s.drop (Int.toNat i)) = T from by have e := i4 (by omega); rw [i6 rfl] at e; exact e.1), trivial⟩, fun h => by omega, fun _ => rfl, by first | omega | (simp only [List.length_append, List.length_cons, List.length_nil]; omega), fun _ => by omega, by omega⟩) (by show s.length + 1 - (i + 1).toNat < s.length + 1 - i.toNat; omega) (thXv (v := St' s) rfl rfl (thXv (v := .int .i64 (f)) rfl rfl (thXi (b := ((i + 1))) rfl rfl (by omega) (aA6)))) runRs104_p0
  unfold bH1
  exact hc (lnV rfl rfl (by omega)) <|hc (leT rfl rfl (by omega)) <|hc (eqXF rfl rfl (by omega)) <|hc (ixV rfl rfl rfl (by omega)) <|hc (eqcF rfl (by omega)) <|hc (adC rfl rfl (by omega)) <|hnil
theorem nxRs104_p1 (hI : aG7 s T (0, i, f, o)) (h1 : ¬ (i = (s.length : Int))) (h2 : bt s (Int.toNat (i)) = 47) : aN5 s T E' x' e' h' (0, i, f, o) X := by
  obtain ⟨i0, i1, i2, i3, i4, i5, i6, i7, i8, it⟩ := aQ6 s T 0 i f o hI
  have := aB6 s (Int.toNat (i)); have := aB7 s (Int.toNat (i))
  have := lenMd (l := s) (P := f) (Q := i) (by omega)
  refine bN8 (h := bH0) (1, (i + 1), i + 1, (([] : List LB) ++ [(mdS s f i)])) ?_ (aI4 ⟨by omega, by omega, by omega, by omega, fun _ => ⟨rs_b (o := []) (by omega) (by omega) (by assumption) (show [] ++ sp47 (mdS s f i) (s.drop (Int.toNat i)) = T from by have e := i4 (by omega); rw [i6 rfl] at e; exact e.1), trivial⟩, fun h => by omega, fun h => by omega, by first | omega | (simp only [List.length_append, List.length_cons, List.length_nil]; omega), fun h => by omega, by omega⟩) (by show s.length + 1 - (i + 1).toNat < s.length + 1 - i.toNat; omega) (thXv (v := St' s) rfl rfl (thXi (b := ((i + 1))) rfl rfl (by omega) (thXi (b := ((i + 1))) rfl rfl (by omega) (thXv (v := rwS (([] : List LB) ++ [(mdS s f i)])) rfl rfl (aA6))))) runRs104_p1
  unfold bH0
  exact hc (kRn (denX rfl)) <|hc (lnV rfl rfl (by omega)) <|hc (leT rfl rfl (by omega)) <|hc (eqXF rfl rfl (by omega)) <|hc (ixV rfl rfl rfl (by omega)) <|hc (eqcT rfl (by omega)) <|hc (kMid (P := f) (Q := i) (isX rfl) (.inr ⟨_, _, rfl, (isX rfl)⟩) (.inr ⟨_, _, rfl, (isX rfl)⟩) (by omega) (by omega) (by omega) (denX rfl)) <|hc (kRa (isX rfl) (isX rfl) (denX rfl)) <|hc (kRf (isX rfl) (by first | omega | (simp <;> omega)) (by first | omega | (simp <;> omega))) <|hc (adC rfl rfl (by omega)) <|hnil
theorem nxRs104_p2 (hI : aG7 s T (0, i, f, o)) (h1 : i = (s.length : Int)) : aN5 s T E' x' e' h' (0, i, f, o) X := by
  obtain ⟨i0, i1, i2, i3, i4, i5, i6, i7, i8, it⟩ := aQ6 s T 0 i f o hI
  have := lenMd (l := s) (P := f) (Q := i) (by omega)
  refine bN8 (h := bG9) (1, (i + 1), i + 1, (([] : List LB) ++ [(mdS s f i)])) ?_ (aI4 ⟨by omega, by omega, by omega, by omega, fun h => by omega, fun _ => rs_c (o := []) (by omega) (show [] ++ sp47 (mdS s f i) (s.drop (Int.toNat i)) = T from by have e := i4 (by omega); rw [i6 rfl] at e; exact e.1), fun h => by omega, by first | omega | (simp only [List.length_append, List.length_cons, List.length_nil]; omega), fun h => by omega, by omega⟩) (by show s.length + 1 - (i + 1).toNat < s.length + 1 - i.toNat; omega) (thXv (v := St' s) rfl rfl (thXi (b := ((i + 1))) rfl rfl (by omega) (thXi (b := ((i + 1))) rfl rfl (by omega) (thXv (v := rwS (([] : List LB) ++ [(mdS s f i)])) rfl rfl (aA6))))) runRs104_p2
  unfold bG9
  exact hc (kRn (denX rfl)) <|hc (lnV rfl rfl (by omega)) <|hc (leT rfl rfl (by omega)) <|hc (eqXT rfl rfl (by omega)) <|hc (kMid (P := f) (Q := i) (isX rfl) (.inr ⟨_, _, rfl, (isX rfl)⟩) (.inr ⟨_, _, rfl, (isX rfl)⟩) (by omega) (by omega) (by omega) (denX rfl)) <|hc (kRa (isX rfl) (isX rfl) (denX rfl)) <|hc (kRf (isX rfl) (by first | omega | (simp <;> omega)) (by first | omega | (simp <;> omega))) <|hc (adC rfl rfl (by omega)) <|hnil
theorem nxRs104_p3 (hI : aG7 s T (1, i, f, o)) (h0 : i ≤ (s.length : Int)) (h1 : ¬ (i = (s.length : Int))) (h2 : ¬ (bt s (Int.toNat (i)) = 47)) : aN5 s T E' x' e' h' (1, i, f, o) X := by
  obtain ⟨i0, i1, i2, i3, i4, i5, i6, i7, i8, it⟩ := aQ6 s T 1 i f o hI
  have := aB6 s (Int.toNat (i)); have := aB7 s (Int.toNat (i))
  refine bN7 (h := bG8) (1, (i + 1), f, o) ?_ (aI4 ⟨by omega, by omega, by omega, by omega, fun _ => ⟨rs_a (by omega) (by omega) (by omega) (by assumption) (i4 (by omega)).1, trivial⟩, fun h => by omega, fun h => by omega, by first | omega | (simp only [List.length_append, List.length_cons, List.length_nil]; omega), fun h => by omega, by omega⟩) (by show s.length + 1 - (i + 1).toNat < s.length + 1 - i.toNat; omega) (thXv (v := St' s) rfl rfl (thXv (v := .int .i64 (f)) rfl rfl (thXi (b := ((i + 1))) rfl rfl (by omega) (thXv (v := rwS o) rfl rfl (aA6))))) runRs104_p3
  unfold bG8
  exact hc (lnV rfl rfl (by omega)) <|hc (leT rfl rfl (by omega)) <|hc (eqXF rfl rfl (by omega)) <|hc (ixV rfl rfl rfl (by omega)) <|hc (eqcF rfl (by omega)) <|hc (adC rfl rfl (by omega)) <|hnil
theorem nxRs104_p4 (hI : aG7 s T (1, i, f, o)) (h0 : i ≤ (s.length : Int)) (h1 : ¬ (i = (s.length : Int))) (h2 : bt s (Int.toNat (i)) = 47) : aN5 s T E' x' e' h' (1, i, f, o) X := by
  obtain ⟨i0, i1, i2, i3, i4, i5, i6, i7, i8, it⟩ := aQ6 s T 1 i f o hI
  have := aB6 s (Int.toNat (i)); have := aB7 s (Int.toNat (i))
  have := lenMd (l := s) (P := f) (Q := i) (by omega)
  refine bN7 (h := bG7) (1, (i + 1), i + 1, (o ++ [(mdS s f i)])) ?_ (aI4 ⟨by omega, by omega, by omega, by omega, fun _ => ⟨rs_b (by omega) (by omega) (by assumption) (i4 (by omega)).1, trivial⟩, fun h => by omega, fun h => by omega, by first | omega | (simp only [List.length_append, List.length_cons, List.length_nil]; omega), fun h => by omega, by omega⟩) (by show s.length + 1 - (i + 1).toNat < s.length + 1 - i.toNat; omega) (thXv (v := St' s) rfl rfl (thXi (b := ((i + 1))) rfl rfl (by omega) (thXi (b := ((i + 1))) rfl rfl (by omega) (thXv (v := rwS (o ++ [(mdS s f i)])) rfl rfl (aA6))))) runRs104_p4
  unfold bG7
  exact hc (lnV rfl rfl (by omega)) <|hc (leT rfl rfl (by omega)) <|hc (eqXF rfl rfl (by omega)) <|hc (ixV rfl rfl rfl (by omega)) <|hc (eqcT rfl (by omega)) <|hc (kMid (P := f) (Q := i) (isX rfl) (.inr ⟨_, _, rfl, (isX rfl)⟩) (.inr ⟨_, _, rfl, (isX rfl)⟩) (by omega) (by omega) (by omega) (denX rfl)) <|hc (kRa (isX rfl) (isX rfl) (denX rfl)) <|hc (kRf (isX rfl) (by first | omega | (simp <;> omega)) (by first | omega | (simp <;> omega))) <|hc (adC rfl rfl (by omega)) <|hnil
theorem nxRs104_p5 (hI : aG7 s T (1, i, f, o)) (h0 : i ≤ (s.length : Int)) (h1 : i = (s.length : Int)) : aN5 s T E' x' e' h' (1, i, f, o) X := by
  obtain ⟨i0, i1, i2, i3, i4, i5, i6, i7, i8, it⟩ := aQ6 s T 1 i f o hI
  have := lenMd (l := s) (P := f) (Q := i) (by omega)
  refine bN7 (h := bG6) (1, (i + 1), i + 1, (o ++ [(mdS s f i)])) ?_ (aI4 ⟨by omega, by omega, by omega, by omega, fun h => by omega, fun _ => rs_c (by omega) (i4 (by omega)).1, fun h => by omega, by first | omega | (simp only [List.length_append, List.length_cons, List.length_nil]; omega), fun h => by omega, by omega⟩) (by show s.length + 1 - (i + 1).toNat < s.length + 1 - i.toNat; omega) (thXv (v := St' s) rfl rfl (thXi (b := ((i + 1))) rfl rfl (by omega) (thXi (b := ((i + 1))) rfl rfl (by omega) (thXv (v := rwS (o ++ [(mdS s f i)])) rfl rfl (aA6))))) runRs104_p5
  unfold bG6
  exact hc (lnV rfl rfl (by omega)) <|hc (leT rfl rfl (by omega)) <|hc (eqXT rfl rfl (by omega)) <|hc (kMid (P := f) (Q := i) (isX rfl) (.inr ⟨_, _, rfl, (isX rfl)⟩) (.inr ⟨_, _, rfl, (isX rfl)⟩) (by omega) (by omega) (by omega) (denX rfl)) <|hc (kRa (isX rfl) (isX rfl) (denX rfl)) <|hc (kRf (isX rfl) (by first | omega | (simp <;> omega)) (by first | omega | (simp <;> omega))) <|hc (adC rfl rfl (by omega)) <|hnil
end
def bX3 (s : LB) (T : List LB) : List Value := []
def roERs104_0 (s : LB) (T : List LB) : List Value := [rwS T]
noncomputable def cL1 (s : LB) (T : List LB) : Cx := cx (nuX (bX3 s T) (rX (roERs104_0 s T) (fun _ => .bool true))) (aA4 (aA2 (l := bX3 s T) rfl)) 1 aA3 aA0
theorem roundsRs104_0 (s : LB) (T : List LB) (c0 : s.length ≤ 1000000) (st : Nat × Int × Int × List LB) (X : Nat → Value) (hI : aG7 s T st) : aN5 s T (cL1 s T) (.exit 0) [(3, .sr 104)] [(104, .r 2000000 9 1 false)] st X := by
  obtain ⟨tag, i, f, o⟩ := st
  have hI0 := hI
  obtain ⟨i0, i1, i2, i3, i4, i5, i6, i7, i8, it⟩ := aQ6 s T tag i f o hI
  rcases (show tag = 0 ∨ tag = 1 from by omega) with rfl | rfl
  · skip
    by_cases h1 : i = (s.length : Int)
    · exact nxRs104_p2 c0 hI0 h1
    · by_cases h2 : bt s (Int.toNat (i)) = 47
      · exact nxRs104_p1 c0 hI0 h1 h2
      · exact nxRs104_p0 c0 hI0 h1 h2
  · skip
    by_cases h0 : i ≤ (s.length : Int)
    · by_cases h1 : i = (s.length : Int)
      · exact nxRs104_p5 c0 hI0 h0 h1
      · by_cases h2 : bt s (Int.toNat (i)) = 47
        · exact nxRs104_p4 c0 hI0 h0 h1 h2
        · exact nxRs104_p3 c0 hI0 h0 h1 h2
    · skip
      refine lvRs104_1 (h := bG5) rfl ?_ (thXe (v := rwS o) (u := rwS T) rfl rfl (congrArg rwS (i5 (by omega))) (aA6)) runRs104_p6
      unfold bG5
      exact hc (lnV rfl rfl (by omega)) <|hc (leF rfl rfl (by omega)) <|hnil
theorem aJ8 {l : LF} {h : LH} (s : LB) (T : List LB) (c0 : s.length ≤ 1000000) (st : Nat × Int × Int × List LB) (hI : aG7 s T st) (hl : l.hp = some h) (hs : aF3 l h 32 aK7 (.exit 0) 4 104 116 = true) {th0 : LA} {sg0 : List (Nat × Nat)} (hth0 : ∀ X, ThOk (cx nu one 1 aA3 aA0) (cU4 s T st X) th0) (h0 : aD9 l h 32 104 105 th0 sg0 (bI3 st) (cK0 st) = true) {thx : LA} (hthx : ThOk (cL1 s T) (cx nu one 1 aA3 aA0) thx) (hx : aF5 l h 32 104 116 thx [(3, .sr 104)] [(104, .r 2000000 9 1 false)] = true) : LfOk (cx nu one 1 aA3 aA0) bD9 l :=
  aL5 (E := cL1 s T) (aG7 s T) (bF5 s T) (cU4 s T) (fun _ _ => rfl) (fun _ _ => rfl) (fun _ _ => rfl) (fun st X t ht => aD3.trans (aE2 ((by decide : ∀ t, t ∈ aK7 → t < 1000000) t ht))) rfl rfl rfl hl hs ebRs104 rfl rfl st hI hth0 h0 hthx hx (roundsRs104_0 s T c0)
noncomputable def aV3 : Code := aL8 (Tryd.f10.body.getD .skip) 0
theorem dR7 : aK6 (aC0 (Tryd.f10.body.getD .skip)) 4 0 0 = true := by kernel_rfl
def aI0 : List Nat := []
def bS9 : LA := [(3, .nils), (4, .sr 104), (5, .x 0)]
def bR5 : LE := [(104, .r 2000000 9 1 false)]
def aH9 (q T : List LB) (i : Int) (o : List LB) : List Value := [.int .i64 (i), .int .i64 ((q.length : Int)), St' (List.getD q (Int.toNat (i)) []), .int .i64 (i + 1), .int .i64 ((q.length : Int)), St' (List.getD q (Int.toNat (i)) []), .int .i64 (i + 1), .int .i64 ((q.length : Int))]
def aT8 (q T : List LB) (i : Int) (o : List LB) : List Value := [rwS q, rwS ([] : List LB), rwS (([] : List LB) ++ [(List.getD q (Int.toNat (i)) [])]), rwS ([] : List LB), rwS ([] : List LB)]
def aV1 : LA := [(3, .sr 124), (4, .sr 104), (5, .x 0)]
def aU9 : LE := [(104, .r 2000000 9 1 false), (124, .r 2000001 9 1 false)]
def aH8 (q T : List LB) (i : Int) (o : List LB) : List Value := [.int .i64 (i), .int .i64 ((q.length : Int)), St' (List.getD q (Int.toNat (i)) []), .int .i64 (i + 1), .int .i64 ((q.length : Int)), St' (List.getD q (Int.toNat (i)) []), .int .i64 (i + 1), .int .i64 ((q.length : Int))]
def aT7 (q T : List LB) (i : Int) (o : List LB) : List Value := [rwS q, rwS o, rwS ([] : List LB), rwS (o ++ [(List.getD q (Int.toNat (i)) [])]), rwS ([] : List LB), rwS ([] : List LB)]
def bA5 (st : Nat × Int × List LB) : LA := if st.1 = 0 then bS9 else aV1
def bR6 (st : Nat × Int × List LB) : LE := if st.1 = 0 then bR5 else aU9
def cX9 (q T : List LB) (st : Nat × Int × List LB) : List Value := if st.1 = 0 then aH9 q T (st.2.1) (st.2.2) else aH8 q T (st.2.1) (st.2.2)
def roRf104 (q T : List LB) (st : Nat × Int × List LB) : List Value := if st.1 = 0 then aT8 q T (st.2.1) (st.2.2) else aT7 q T (st.2.1) (st.2.2)
theorem onRf104 (q T : List LB) (st : Nat × Int × List LB) : ∀ j, (nuL (cX9 q T st) j).oneCell' = true := by
  intro j
  unfold cX9
  by_cases g0 : st.1 = 0
  · rw [if_pos g0]; exact aA2 (l := aH9 q T (st.2.1) (st.2.2)) rfl j
  rw [if_neg g0]
  exact aA2 (l := aH8 q T (st.2.1) (st.2.2)) rfl j
theorem eL3 (st : Nat × Int × List LB) : (lfB (bA5 st) && lfC aI0) = true := by
  unfold bA5
  by_cases g0 : st.1 = 0
  · rw [if_pos g0]; rfl
  rw [if_neg g0]
  rfl
noncomputable def bU4 (q T : List LB) (st : Nat × Int × List LB) (X : Nat → Value) : Cx := cx (nuX (cX9 q T st) (rX (roRf104 q T st) X)) (aA4 (onRf104 q T st)) 1 aA3 aA0
def aF8 (q T : List LB) (st : Nat × Int × List LB) : Prop := (0 ≤ (st.2.1)) ∧ ((st.2.1) ≤ (q.length : Int)) ∧ ((st.2.2) ++ (q.drop (Int.toNat (st.2.1))).filter (fun p => !(p == [])) = T) ∧ (((st.2.2).length : Int) ≤ (st.2.1)) ∧ ((st.1) = 0 → (st.2.2) = []) ∧ ((st.1) = 1 → 1 ≤ (st.2.2).length) ∧ ((st.1) < 2)
abbrev CjRf104 (q T : List LB) (tag : Nat) (i : Int) (o : List LB) : Prop := (0 ≤ i) ∧ (i ≤ (q.length : Int)) ∧ (o ++ (q.drop (Int.toNat i)).filter (fun p => !(p == [])) = T) ∧ ((o.length : Int) ≤ i) ∧ (tag = 0 → o = []) ∧ (tag = 1 → 1 ≤ o.length) ∧ (tag < 2)
theorem aW6 {q T : List LB} {tag : Nat} {i : Int} {o : List LB} (h : CjRf104 q T tag i o) : aF8 q T (tag, i, o) := h
theorem aW2 (q T : List LB) (tag : Nat) (i : Int) (o : List LB) (h : aF8 q T (tag, i, o)) : (0 ≤ i) ∧ (i ≤ (q.length : Int)) ∧ (o ++ (q.drop (Int.toNat i)).filter (fun p => !(p == [])) = T) ∧ ((o.length : Int) ≤ i) ∧ (tag = 0 → o = []) ∧ (tag = 1 → 1 ≤ o.length) ∧ (tag < 2) := h
def bA1 (q T : List LB) (st : Nat × Int × List LB) : Nat := (q.length - (st.2.1).toNat)
abbrev aO9 (q T : List LB) (E' : Cx) (ex' : Ex) (epx' : LA) (hpx' : LE) (st : Nat × Int × List LB) (X : Nat → Value) : Prop := aC3 E' aV3 aI0 27 ex' 4 124 125 132 bA5 bR6 epx' hpx' (aF8 q T) (bA1 q T) (bU4 q T) st X
noncomputable abbrev aV8 (h : LK) (x : Ex) (th : LA) (sg : List (Nat × Nat)) (m : Nat) (ep : LA) (hp : LE) : Bool := aL4 (code (tbl h) 1500 [] aV3 (aH4 (aE4 bS9 aI0) 27) ⟨aD1 bR5 .leaf, 125, 0, 0⟩) x aI0 27 132 th sg 124 m ep hp
theorem cM3 {q T : List LB} {i : Int} {o : List LB} {X : Nat → Value} {h : LK} (y : Nat × Int × List LB) {th : LA} {sg : List (Nat × Nat)} (ho : ∀ a' r', (a', r') ∈ h → HOk (cx (nuX (aH9 q T i o) (rX (aT8 q T i o) X)) (aA4 (aA2 (l := aH9 q T i o) rfl)) 1 aA3 aA0) a' r') (hy : aF8 q T y) (lt : bA1 q T y < bA1 q T (0, i, o)) (ht : ThOk (cx (nuX (aH9 q T i o) (rX (aT8 q T i o) X)) (aA4 (aA2 (l := aH9 q T i o) rfl)) 1 aA3 aA0) (bU4 q T y X) th) (run : aV8 h .normal th sg 125 (bA5 y) (bR6 y) = true) : aO9 q T E' x' e' h' (0, i, o) X :=
  aC3.next (tb := tbl h) (L := []) (f := 1500) y ((aB0 _ _).hyps ho) (LpOk.nil _) rfl hy lt ht run
theorem lvRf104_0 {q T : List LB} {i : Int} {o : List LB} {X : Nat → Value} {h : LK} {th : LA} {sg : List (Nat × Nat)} (hne : exB x' .normal = false) (ho : ∀ a' r', (a', r') ∈ h → HOk (cx (nuX (aH9 q T i o) (rX (aT8 q T i o) X)) (aA4 (aA2 (l := aH9 q T i o) rfl)) 1 aA3 aA0) a' r') (ht : ThOk (cx (nuX (aH9 q T i o) (rX (aT8 q T i o) X)) (aA4 (aA2 (l := aH9 q T i o) rfl)) 1 aA3 aA0) E' th) (run : aV8 h x' th sg 132 e' h' = true) : aO9 q T E' x' e' h' (0, i, o) X :=
  aC3.leave (tb := tbl h) (L := []) (f := 1500) ((aB0 _ _).hyps ho) (LpOk.nil _) rfl hne ht run
noncomputable abbrev aV7 (h : LK) (x : Ex) (th : LA) (sg : List (Nat × Nat)) (m : Nat) (ep : LA) (hp : LE) : Bool := aL4 (code (tbl h) 1500 [] aV3 (aH4 (aE4 aV1 aI0) 27) ⟨aD1 aU9 .leaf, 125, 0, 0⟩) x aI0 27 132 th sg 124 m ep hp
theorem cM2 {q T : List LB} {i : Int} {o : List LB} {X : Nat → Value} {h : LK} (y : Nat × Int × List LB) {th : LA} {sg : List (Nat × Nat)} (ho : ∀ a' r', (a', r') ∈ h → HOk (cx (nuX (aH8 q T i o) (rX (aT7 q T i o) X)) (aA4 (aA2 (l := aH8 q T i o) rfl)) 1 aA3 aA0) a' r') (hy : aF8 q T y) (lt : bA1 q T y < bA1 q T (1, i, o)) (ht : ThOk (cx (nuX (aH8 q T i o) (rX (aT7 q T i o) X)) (aA4 (aA2 (l := aH8 q T i o) rfl)) 1 aA3 aA0) (bU4 q T y X) th) (run : aV7 h .normal th sg 125 (bA5 y) (bR6 y) = true) : aO9 q T E' x' e' h' (1, i, o) X :=
  aC3.next (tb := tbl h) (L := []) (f := 1500) y ((aB0 _ _).hyps ho) (LpOk.nil _) rfl hy lt ht run
theorem lvRf104_1 {q T : List LB} {i : Int} {o : List LB} {X : Nat → Value} {h : LK} {th : LA} {sg : List (Nat × Nat)} (hne : exB x' .normal = false) (ho : ∀ a' r', (a', r') ∈ h → HOk (cx (nuX (aH8 q T i o) (rX (aT7 q T i o) X)) (aA4 (aA2 (l := aH8 q T i o) rfl)) 1 aA3 aA0) a' r') (ht : ThOk (cx (nuX (aH8 q T i o) (rX (aT7 q T i o) X)) (aA4 (aA2 (l := aH8 q T i o) rfl)) 1 aA3 aA0) E' th) (run : aV7 h x' th sg 132 e' h' = true) : aO9 q T E' x' e' h' (1, i, o) X :=
  aC3.leave (tb := tbl h) (L := []) (f := 1500) ((aB0 _ _).hyps ho) (LpOk.nil _) rfl hne ht run
def bH7 : LK := [(.rn, .x 2000001), (.rl (.x 2000000) 1, .x 1), (.bin .lss (.x 0) (.x 1), .b true), (.el (.x 2000000) (.x 0) 1 0, .x 2), (.bin .neq (.x 2) (.s 0 0), .b true), (.ra (.x 2000001) [.x 2], .x 2000002), (.rf (.x 2000002) 1 16, .b true), (.bin .add (.x 0) (I6 1), .x 3)]
theorem runRf104_p0 : aV8 bH7 .normal [(0, .x 3), (2000000, .x 2000000), (2000001, .x 2000002)] [(124, 126)] 125 aV1 aU9 = true := by kernel_rfl
def bH6 : LK := [(.rl (.x 2000000) 1, .x 4), (.bin .lss (.x 0) (.x 4), .b true), (.el (.x 2000000) (.x 0) 1 0, .x 5), (.bin .neq (.x 5) (.s 0 0), .b false), (.bin .add (.x 0) (I6 1), .x 6)]
theorem runRf104_p1 : aV8 bH6 .normal [(0, .x 6), (2000000, .x 2000000)] [] 125 bS9 bR5 = true := by kernel_rfl
def bH5 : LK := [(.rl (.x 2000000) 1, .x 7), (.bin .lss (.x 0) (.x 7), .b false)]
theorem runRf104_p2 : aV8 bH5 (.exit 0) [] [] 132 [(3, .nils)] [] = true := by kernel_rfl
def bH4 : LK := [(.rl (.x 2000000) 1, .x 1), (.bin .lss (.x 0) (.x 1), .b true), (.el (.x 2000000) (.x 0) 1 0, .x 2), (.bin .neq (.x 2) (.s 0 0), .b true), (.ra (.x 2000001) [.x 2], .x 2000003), (.rf (.x 2000003) 1 16, .b true), (.bin .add (.x 0) (I6 1), .x 3)]
theorem runRf104_p3 : aV7 bH4 .normal [(0, .x 3), (2000000, .x 2000000), (2000001, .x 2000003)] [(124, 126)] 125 aV1 aU9 = true := by kernel_rfl
def bH3 : LK := [(.rl (.x 2000000) 1, .x 4), (.bin .lss (.x 0) (.x 4), .b true), (.el (.x 2000000) (.x 0) 1 0, .x 5), (.bin .neq (.x 5) (.s 0 0), .b false), (.bin .add (.x 0) (I6 1), .x 6)]
theorem runRf104_p4 : aV7 bH3 .normal [(0, .x 6), (2000000, .x 2000000), (2000001, .x 2000001)] [(124, 124)] 125 aV1 aU9 = true := by kernel_rfl
def bH2 : LK := [(.rl (.x 2000000) 1, .x 7), (.bin .lss (.x 0) (.x 7), .b false)]
theorem runRf104_p5 : aV7 bH2 (.exit 0) [(2000000, .x 2000001)] [(124, 124)] 132 [(3, .sr 124)] [(124, .r 2000000 9 1 false)] = true := by kernel_rfl
section
variable {q T : List LB} (c0 : q.length ≤ 1000001) {i : Int} {o : List LB} {X : Nat → Value}
include c0
theorem bW9 (hI : aF8 q T (0, i, o)) (h0 : i < (q.length : Int)) (h1 : ¬ (((List.getD q (Int.toNat (i)) []).length : Int) = 0)) : aO9 q T E' x' e' h' (0, i, o) X := by
  obtain ⟨i0, i1, i2, i3, i4, i5, it⟩ := aW2 q T 0 i o hI
  refine cM3 (h := bH7) (1, (i + 1), (([] : List LB) ++ [(List.getD q (Int.toNat (i)) [])])) ?_ (aW6 ⟨by omega, by omega, ft_y (o := []) (by omega) (by omega) (by assumption) (show [] ++ (q.drop (Int.toNat i)).filter (fun p => !(p == [])) = T from by have e := i2; rw [i4 rfl] at e; exact e), by first | omega | (simp only [List.length_append, List.length_cons, List.length_nil]; omega), fun h => by omega, fun _ => by simp, by omega⟩) (by show q.length - (i + 1).toNat < q.length - i.toNat; omega) (thXi (b := ((i + 1))) rfl rfl (by omega) (thXv (v := rwS q) rfl rfl (thXv (v := rwS (([] : List LB) ++ [(List.getD q (Int.toNat (i)) [])])) rfl rfl (aA6)))) runRf104_p0
  unfold bH7
  exact hc (kRn (denX rfl)) <|hc (kRl (isX rfl) (denX rfl) (by first | omega | (simp <;> omega))) <|hc (ltT rfl rfl (by omega)) <|hc (kEl (j := (Int.toNat (i))) (isX rfl) (isX rfl) (denX rfl) (by omega) (by first | omega | (simp <;> omega))) <|hc (kNeS (isX rfl) (isSx (l := ([] : LB)) 0 0 rfl) (bnT (nilF (by omega)))) <|hc (kRa (isX rfl) (isX rfl) (denX rfl)) <|hc (kRf (isX rfl) (by first | omega | (simp <;> omega)) (by first | omega | (simp <;> omega))) <|hc (adC rfl rfl (by omega)) <|hnil
theorem bW8 (hI : aF8 q T (0, i, o)) (h0 : i < (q.length : Int)) (h1 : ((List.getD q (Int.toNat (i)) []).length : Int) = 0) : aO9 q T E' x' e' h' (0, i, o) X := by
  obtain ⟨i0, i1, i2, i3, i4, i5, it⟩ := aW2 q T 0 i o hI
  refine cM3 (h := bH6) (0, (i + 1), ([] : List LB)) ?_ (aW6 ⟨by omega, by omega, ft_n (o := []) (by omega) (by omega) (by assumption) (show [] ++ (q.drop (Int.toNat i)).filter (fun p => !(p == [])) = T from by have e := i2; rw [i4 rfl] at e; exact e), by first | omega | (simp only [List.length_append, List.length_cons, List.length_nil]; omega), fun _ => rfl, fun h => by omega, by omega⟩) (by show q.length - (i + 1).toNat < q.length - i.toNat; omega) (thXi (b := ((i + 1))) rfl rfl (by omega) (thXv (v := rwS q) rfl rfl (aA6))) runRf104_p1
  unfold bH6
  exact hc (kRl (isX rfl) (denX rfl) (by first | omega | (simp <;> omega))) <|hc (ltT rfl rfl (by omega)) <|hc (kEl (j := (Int.toNat (i))) (isX rfl) (isX rfl) (denX rfl) (by omega) (by first | omega | (simp <;> omega))) <|hc (kNeS (isX rfl) (isSx (l := ([] : LB)) 0 0 rfl) (bnF (nilT (by omega)))) <|hc (adC rfl rfl (by omega)) <|hnil
theorem bW7 (hI : aF8 q T (1, i, o)) (h0 : i < (q.length : Int)) (h1 : ¬ (((List.getD q (Int.toNat (i)) []).length : Int) = 0)) : aO9 q T E' x' e' h' (1, i, o) X := by
  obtain ⟨i0, i1, i2, i3, i4, i5, it⟩ := aW2 q T 1 i o hI
  refine cM2 (h := bH4) (1, (i + 1), (o ++ [(List.getD q (Int.toNat (i)) [])])) ?_ (aW6 ⟨by omega, by omega, ft_y (by omega) (by omega) (by assumption) i2, by first | omega | (simp only [List.length_append, List.length_cons, List.length_nil]; omega), fun h => by omega, fun _ => by simp, by omega⟩) (by show q.length - (i + 1).toNat < q.length - i.toNat; omega) (thXi (b := ((i + 1))) rfl rfl (by omega) (thXv (v := rwS q) rfl rfl (thXv (v := rwS (o ++ [(List.getD q (Int.toNat (i)) [])])) rfl rfl (aA6)))) runRf104_p3
  unfold bH4
  exact hc (kRl (isX rfl) (denX rfl) (by first | omega | (simp <;> omega))) <|hc (ltT rfl rfl (by omega)) <|hc (kEl (j := (Int.toNat (i))) (isX rfl) (isX rfl) (denX rfl) (by omega) (by first | omega | (simp <;> omega))) <|hc (kNeS (isX rfl) (isSx (l := ([] : LB)) 0 0 rfl) (bnT (nilF (by omega)))) <|hc (kRa (isX rfl) (isX rfl) (denX rfl)) <|hc (kRf (isX rfl) (by first | omega | (simp <;> omega)) (by first | omega | (simp <;> omega))) <|hc (adC rfl rfl (by omega)) <|hnil
theorem bW6 (hI : aF8 q T (1, i, o)) (h0 : i < (q.length : Int)) (h1 : ((List.getD q (Int.toNat (i)) []).length : Int) = 0) : aO9 q T E' x' e' h' (1, i, o) X := by
  obtain ⟨i0, i1, i2, i3, i4, i5, it⟩ := aW2 q T 1 i o hI
  refine cM2 (h := bH3) (1, (i + 1), o) ?_ (aW6 ⟨by omega, by omega, ft_n (by omega) (by omega) (by assumption) i2, by first | omega | (simp only [List.length_append, List.length_cons, List.length_nil]; omega), fun h => by omega, fun _ => i5 rfl, by omega⟩) (by show q.length - (i + 1).toNat < q.length - i.toNat; omega) (thXi (b := ((i + 1))) rfl rfl (by omega) (thXv (v := rwS q) rfl rfl (thXv (v := rwS o) rfl rfl (aA6)))) runRf104_p4
  unfold bH3
  exact hc (kRl (isX rfl) (denX rfl) (by first | omega | (simp <;> omega))) <|hc (ltT rfl rfl (by omega)) <|hc (kEl (j := (Int.toNat (i))) (isX rfl) (isX rfl) (denX rfl) (by omega) (by first | omega | (simp <;> omega))) <|hc (kNeS (isX rfl) (isSx (l := ([] : LB)) 0 0 rfl) (bnF (nilT (by omega)))) <|hc (adC rfl rfl (by omega)) <|hnil
end
def bX5 (q T : List LB) : List Value := []
def roERf104_0 (q T : List LB) : List Value := []
noncomputable def cL3 (q T : List LB) : Cx := cx (nuX (bX5 q T) (rX (roERf104_0 q T) (fun _ => .bool true))) (aA4 (aA2 (l := bX5 q T) rfl)) 1 aA3 aA0
theorem roundsRf104_0 (q T : List LB) (c0 : q.length ≤ 1000001) (x0 : T.length = 0) (st : Nat × Int × List LB) (X : Nat → Value) (hI : aF8 q T st) : aO9 q T (cL3 q T) (.exit 0) [(3, .nils)] [] st X := by
  obtain ⟨tag, i, o⟩ := st
  have hI0 := hI
  obtain ⟨i0, i1, i2, i3, i4, i5, it⟩ := aW2 q T tag i o hI
  rcases (show tag = 0 ∨ tag = 1 from by omega) with rfl | rfl
  · skip
    by_cases h0 : i < (q.length : Int)
    · by_cases h1 : ((List.getD q (Int.toNat (i)) []).length : Int) = 0
      · exact bW8 c0 hI0 h0 h1
      · exact bW9 c0 hI0 h0 h1
    · skip
      refine lvRf104_0 (h := bH5) rfl ?_ (aA6) runRf104_p2
      unfold bH5
      exact hc (kRl (isX rfl) (denX rfl) (by first | omega | (simp <;> omega))) <|hc (ltF rfl rfl (by omega)) <|hnil
  · skip
    by_cases h0 : i < (q.length : Int)
    · by_cases h1 : ((List.getD q (Int.toNat (i)) []).length : Int) = 0
      · exact bW6 c0 hI0 h0 h1
      · exact bW7 c0 hI0 h0 h1
    · exfalso; have e := congrArg List.length (ft_e (by omega) i2); have := i5 rfl; omega
theorem lfOkRf104_0 {l : LF} {h : LH} (q T : List LB) (c0 : q.length ≤ 1000001) (x0 : T.length = 0) (st : Nat × Int × List LB) (hI : aF8 q T st) (hl : l.hp = some h) (hs : aF3 l h 27 aI0 (.exit 0) 4 124 132 = true) {th0 : LA} {sg0 : List (Nat × Nat)} (hth0 : ∀ X, ThOk (cx nu one 1 aA3 aA0) (bU4 q T st X) th0) (h0 : aD9 l h 27 124 125 th0 sg0 (bA5 st) (bR6 st) = true) {thx : LA} (hthx : ThOk (cL3 q T) (cx nu one 1 aA3 aA0) thx) (hx : aF5 l h 27 124 132 thx [(3, .nils)] [] = true) : LfOk (cx nu one 1 aA3 aA0) aV3 l :=
  aL5 (E := cL3 q T) (aF8 q T) (bA1 q T) (bU4 q T) (fun _ _ => rfl) (fun _ _ => rfl) (fun _ _ => rfl) (fun st X t ht => aD3.trans (aE2 ((by decide : ∀ t, t ∈ aI0 → t < 1000000) t ht))) rfl rfl rfl hl hs eL3 rfl rfl st hI hth0 h0 hthx hx (roundsRf104_0 q T c0 x0)
def bX4 (q T : List LB) : List Value := []
def roERf104_1 (q T : List LB) : List Value := [rwS T]
noncomputable def cL2 (q T : List LB) : Cx := cx (nuX (bX4 q T) (rX (roERf104_1 q T) (fun _ => .bool true))) (aA4 (aA2 (l := bX4 q T) rfl)) 1 aA3 aA0
theorem roundsRf104_1 (q T : List LB) (c0 : q.length ≤ 1000001) (x0 : ¬ T.length = 0) (st : Nat × Int × List LB) (X : Nat → Value) (hI : aF8 q T st) : aO9 q T (cL2 q T) (.exit 0) [(3, .sr 124)] [(124, .r 2000000 9 1 false)] st X := by
  obtain ⟨tag, i, o⟩ := st
  have hI0 := hI
  obtain ⟨i0, i1, i2, i3, i4, i5, it⟩ := aW2 q T tag i o hI
  rcases (show tag = 0 ∨ tag = 1 from by omega) with rfl | rfl
  · skip
    by_cases h0 : i < (q.length : Int)
    · by_cases h1 : ((List.getD q (Int.toNat (i)) []).length : Int) = 0
      · exact bW8 c0 hI0 h0 h1
      · exact bW9 c0 hI0 h0 h1
    · exfalso; have e := congrArg List.length (ft_e (by omega) i2); rw [i4 rfl] at e; exact x0 e.symm
  · skip
    by_cases h0 : i < (q.length : Int)
    · by_cases h1 : ((List.getD q (Int.toNat (i)) []).length : Int) = 0
      · exact bW6 c0 hI0 h0 h1
      · exact bW7 c0 hI0 h0 h1
    · skip
      refine lvRf104_1 (h := bH2) rfl ?_ (thXe (v := rwS o) (u := rwS T) rfl rfl (congrArg rwS (ft_e (by omega) i2)) (aA6)) runRf104_p5
      unfold bH2
      exact hc (kRl (isX rfl) (denX rfl) (by first | omega | (simp <;> omega))) <|hc (ltF rfl rfl (by omega)) <|hnil
theorem lfOkRf104_1 {l : LF} {h : LH} (q T : List LB) (c0 : q.length ≤ 1000001) (x0 : ¬ T.length = 0) (st : Nat × Int × List LB) (hI : aF8 q T st) (hl : l.hp = some h) (hs : aF3 l h 27 aI0 (.exit 0) 4 124 132 = true) {th0 : LA} {sg0 : List (Nat × Nat)} (hth0 : ∀ X, ThOk (cx nu one 1 aA3 aA0) (bU4 q T st X) th0) (h0 : aD9 l h 27 124 125 th0 sg0 (bA5 st) (bR6 st) = true) {thx : LA} (hthx : ThOk (cL2 q T) (cx nu one 1 aA3 aA0) thx) (hx : aF5 l h 27 124 132 thx [(3, .sr 124)] [(124, .r 2000000 9 1 false)] = true) : LfOk (cx nu one 1 aA3 aA0) aV3 l :=
  aL5 (E := cL2 q T) (aF8 q T) (bA1 q T) (bU4 q T) (fun _ _ => rfl) (fun _ _ => rfl) (fun _ _ => rfl) (fun st X t ht => aD3.trans (aE2 ((by decide : ∀ t, t ∈ aI0 → t < 1000000) t ht))) rfl rfl rfl hl hs eL3 rfl rfl st hI hth0 h0 hthx hx (roundsRf104_1 q T c0 x0)
noncomputable def fi10 : FI := (tabk.fn.get 10).getD default
theorem aN2 : tabk.fn.get 10 = some fi10 := by kernel_rfl
theorem aG0 : fi10.body = some (Tryd.f10.body.getD .skip) := by kernel_rfl
theorem fiB10 : fi10.body.isSome = true := by rw [aG0]; rfl
theorem bD7 : (aC0 (Tryd.f10.body.getD .skip)).all (fun b => !(aM1 (Go.AX.keyOf b) 8888888)) = true := by kernel_rfl
noncomputable def fi20 : FI := (tabk.fn.get 20).getD default
theorem bI1 : tabk.fn.get 20 = some fi20 := by kernel_rfl
theorem aN0 : fi20.body = some (Tryd.f20.body.getD .skip) := by kernel_rfl
theorem fiB20 : fi20.body.isSome = true := by rw [aN0]; rfl
theorem cfA20 : (aC0 (Tryd.f20.body.getD .skip)).all (fun b => !(aM1 (Go.AX.keyOf b) 8888888)) = true := by kernel_rfl
def cK9 : List AV := [.x 0]
def bI0 : LE := []
def eF0 (s : LB) : List Value := [St' s]
def roRSg94 (s : LB) : List Value := [rwS ([] : List LB), rwS (sp47 [] s), rwS ([] : List LB), rwS (sp47 [] s), rwS (segS s)]
noncomputable def cA7 (s : LB) : Cx := cx (nuX (eF0 s) (rX (roRSg94 s) (fun _ => .bool true))) (aA4 (aA2 (l := eF0 s) rfl)) 1 aA3 aA0
def bH9 : LK := []
def lh64 : LH := ⟨4, 104, 116, [], [(104, .r 2000001 9 1 false)]⟩
def lf64 : LF := ⟨4, 32, [(0, .x 0), (3, .nils), (4, I6 0), (5, I6 0)], [], (.exit 0), [(3, .sr 104)], some lh64⟩
def lh65 : LH := ⟨4, 124, 132, [(104, .r 2000001 9 1 false)], []⟩
def lf65 : LF := ⟨4, 27, [(3, .nils), (4, .sr 104), (5, I6 0)], [], (.exit 0), [(3, .nils)], some lh65⟩
noncomputable def bV4 : Tab := aB2 (aB2 ((tbl bH9)) 20 fi20 [lf64]) 10 fi10 [lf65]
theorem runRSg94_c0 (e : Unit) : okCf (call bV4 2000 10 cK9 ⟨aD1 bI0 ((fun _ : Unit => T.leaf) e), 94, 0, 0⟩) (.nils) [] [] 94 154 [] = true := by kernel_rfl
def bH8 : LK := []
def lh66 : LH := ⟨4, 104, 116, [], [(104, .r 2000003 9 1 false)]⟩
def lf66 : LF := ⟨4, 32, [(0, .x 0), (3, .nils), (4, I6 0), (5, I6 0)], [], (.exit 0), [(3, .sr 104)], some lh66⟩
def lh67 : LH := ⟨4, 124, 132, [(104, .r 2000003 9 1 false)], [(124, .r 2000004 9 1 false)]⟩
def lf67 : LF := ⟨4, 27, [(3, .nils), (4, .sr 104), (5, I6 0)], [], (.exit 0), [(3, .sr 124)], some lh67⟩
noncomputable def bV3 : Tab := aB2 (aB2 ((tbl bH8)) 20 fi20 [lf66]) 10 fi10 [lf67]
theorem runRSg94_c1 (e : Unit) : okCf (call bV3 2000 10 cK9 ⟨aD1 bI0 ((fun _ : Unit => T.leaf) e), 94, 0, 0⟩) (.sr 94) [(2000000, .x 2000004)] [(94, 124)] 94 154 [(94, .r 2000000 9 1 false)] = true := by kernel_rfl
def bX7 (s : LB) : List Value := []
def roERSg94_0 (s : LB) : List Value := []
noncomputable def dV6 (s : LB) : Cx := cx (nuX (bX7 s) (rX (roERSg94_0 s) (fun _ => .bool true))) (aA4 (aA2 (l := bX7 s) rfl)) 1 aA3 aA0
theorem aQ2 {l : LF} {h : LH} {q : Nat × AV} (s : LB) (p0 : s.length ≤ 1000000) (x0 : (segS s).length = 0) (hl : l.hp = some h) (hq : l.post = [q]) (hs : bZ8 l h 4 94 154 = true) {th0 : LA} {sg0 : List (Nat × Nat)} (hth0 : ThOk (cx nu one 1 aA3 aA0) (cA7 s) th0) (h0 : (inAs th0 (sgB 94 94 sg0) cK9 (l.pre.map (·.2)) && aG5 94 94 th0 sg0 (aD1 h.pre .leaf) bI0 && aG2 (numsOf 94 sg0 bI0)) = true) {thx : LA} (hthx : ThOk (dV6 s) (cx nu one 1 aA3 aA0) thx) (hx : (inA thx (sgB 94 154 []) 8 q.2 (.nils) && aG5 94 154 thx [] (aD1 [] .leaf) h.post && aG2 (numsOf 94 [] h.post)) = true) : CfOk (cx nu one 1 aA3 aA0) 10 l := by
  by_cases d0 : (segS s).length = 0
  · skip
    have hspl := bV9 s
    have ho : ∀ a' r', (a', r') ∈ bH9 → HOk (cA7 s) a' r' := by
      unfold bH9
      exact hnil
    exact dW1 (D := cA7 s) (E := dV6 s) (Gf := (fun _ : Unit => T.leaf)) (f := 2000) (tb := bV4) rfl rfl rfl rfl rfl rfl hl hq hs rfl hth0 h0 hthx hx (aB3.lp1 (aB3.lp1 ((aB0 _ _).hyps ho) (by omega) bI1 aN0 (aB1 (aB9 rfl ⟨0, aW8, aJ8 (l := lf64) (h := lh64) s (sp47 [] s) (by omega) (0, (0 : Int), (0 : Int), ([] : List LB)) (aI4 ⟨by omega, by omega, by omega, by omega, fun _ => ⟨by rw [bP0]; rfl, trivial⟩, fun h => by omega, fun _ => rfl, by simp, fun _ => by omega, by omega⟩) rfl (by kernel_rfl) (th0 := [(0, .x 0), (1, I6 0), (2, I6 0)]) (sg0 := []) (fun X => thXv (v := St' s) rfl rfl (aC2 (show Is _ (I6 0) (.int .i64 ((0 : Int))) from isTo (v := .int .i64 0) (isI _ _) (by first | rfl | (congr 1; omega))) (aC2 (show Is _ (I6 0) (.int .i64 ((0 : Int))) from isTo (v := .int .i64 0) (isI _ _) (by first | rfl | (congr 1; omega))) (aA6)))) (by kernel_rfl) (thx := [(2000001, .x 2000000)]) (thXv (v := rwS (sp47 [] s)) rfl rfl (aA6)) (by kernel_rfl)⟩) aC1)) (by omega) (aA8 (by omega) (by omega) aN2) aG0 (aB1 (aB9 rfl ⟨0, dR7, lfOkRf104_0 (l := lf65) (h := lh65) (sp47 [] s) (segS s) (by omega) (by assumption) (0, (0 : Int), ([] : List LB)) (aW6 ⟨by omega, by omega, rfl, by simp, fun _ => rfl, fun h => by omega, by omega⟩) rfl (by kernel_rfl) (th0 := [(0, I6 0), (2000000, .x 2000001)]) (sg0 := []) (fun X => aC2 (show Is _ (I6 0) (.int .i64 ((0 : Int))) from isTo (v := .int .i64 0) (isI _ _) (by first | rfl | (congr 1; omega))) (thXv (v := rwS (sp47 [] s)) rfl rfl (aA6))) (by kernel_rfl) (thx := []) (aA6) (by kernel_rfl)⟩) aC1)) rfl (aC7 (by omega)) fiB10 (.inl ⟨fun _ => rfl, ⟨()⟩⟩) (aA6) runRSg94_c0
  · exfalso; omega
def bX6 (s : LB) : List Value := []
def roERSg94_1 (s : LB) : List Value := [rwS (segS s)]
noncomputable def dV5 (s : LB) : Cx := cx (nuX (bX6 s) (rX (roERSg94_1 s) (fun _ => .bool true))) (aA4 (aA2 (l := bX6 s) rfl)) 1 aA3 aA0
theorem aL0 {l : LF} {h : LH} {q : Nat × AV} (s : LB) (p0 : s.length ≤ 1000000) (x0 : ¬ (segS s).length = 0) (hl : l.hp = some h) (hq : l.post = [q]) (hs : bZ8 l h 4 94 154 = true) {th0 : LA} {sg0 : List (Nat × Nat)} (hth0 : ThOk (cx nu one 1 aA3 aA0) (cA7 s) th0) (h0 : (inAs th0 (sgB 94 94 sg0) cK9 (l.pre.map (·.2)) && aG5 94 94 th0 sg0 (aD1 h.pre .leaf) bI0 && aG2 (numsOf 94 sg0 bI0)) = true) {thx : LA} (hthx : ThOk (dV5 s) (cx nu one 1 aA3 aA0) thx) (hx : (inA thx (sgB 94 154 []) 8 q.2 (.sr 94) && aG5 94 154 thx [] (aD1 [(94, .r 2000000 9 1 false)] .leaf) h.post && aG2 (numsOf 94 [] h.post)) = true) : CfOk (cx nu one 1 aA3 aA0) 10 l := by
  by_cases d0 : (segS s).length = 0
  · exfalso; omega
  · skip
    have hspl := bV9 s
    have ho : ∀ a' r', (a', r') ∈ bH8 → HOk (cA7 s) a' r' := by
      unfold bH8
      exact hnil
    exact dW1 (D := cA7 s) (E := dV5 s) (Gf := (fun _ : Unit => T.leaf)) (f := 2000) (tb := bV3) rfl rfl rfl rfl rfl rfl hl hq hs rfl hth0 h0 hthx hx (aB3.lp1 (aB3.lp1 ((aB0 _ _).hyps ho) (by omega) bI1 aN0 (aB1 (aB9 rfl ⟨0, aW8, aJ8 (l := lf66) (h := lh66) s (sp47 [] s) (by omega) (0, (0 : Int), (0 : Int), ([] : List LB)) (aI4 ⟨by omega, by omega, by omega, by omega, fun _ => ⟨by rw [bP0]; rfl, trivial⟩, fun h => by omega, fun _ => rfl, by simp, fun _ => by omega, by omega⟩) rfl (by kernel_rfl) (th0 := [(0, .x 0), (1, I6 0), (2, I6 0)]) (sg0 := []) (fun X => thXv (v := St' s) rfl rfl (aC2 (show Is _ (I6 0) (.int .i64 ((0 : Int))) from isTo (v := .int .i64 0) (isI _ _) (by first | rfl | (congr 1; omega))) (aC2 (show Is _ (I6 0) (.int .i64 ((0 : Int))) from isTo (v := .int .i64 0) (isI _ _) (by first | rfl | (congr 1; omega))) (aA6)))) (by kernel_rfl) (thx := [(2000003, .x 2000000)]) (thXv (v := rwS (sp47 [] s)) rfl rfl (aA6)) (by kernel_rfl)⟩) aC1)) (by omega) (aA8 (by omega) (by omega) aN2) aG0 (aB1 (aB9 rfl ⟨0, dR7, lfOkRf104_1 (l := lf67) (h := lh67) (sp47 [] s) (segS s) (by omega) (by assumption) (0, (0 : Int), ([] : List LB)) (aW6 ⟨by omega, by omega, rfl, by simp, fun _ => rfl, fun h => by omega, by omega⟩) rfl (by kernel_rfl) (th0 := [(0, I6 0), (2000000, .x 2000003)]) (sg0 := []) (fun X => aC2 (show Is _ (I6 0) (.int .i64 ((0 : Int))) from isTo (v := .int .i64 0) (isI _ _) (by first | rfl | (congr 1; omega))) (thXv (v := rwS (sp47 [] s)) rfl rfl (aA6))) (by kernel_rfl) (thx := [(2000004, .x 2000000)]) (thXv (v := rwS (segS s)) rfl rfl (aA6)) (by kernel_rfl)⟩) aC1)) rfl (aC7 (by omega)) fiB10 (.inl ⟨fun _ => rfl, ⟨()⟩⟩) (thXv (v := rwS (segS s)) rfl rfl (aA6)) runRSg94_c1
end Go.Proofs.YtbipkiiaajklhaaDoor.pathTells
