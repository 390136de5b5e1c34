/- A part of the proof: an interpreter of the model's own code on partly known states, and that what it answers is what the program answers. No condition of its own. -/
import Derived.Test.YtbipkiiaajklhaaDoorS1PathTellsO9
set_option maxRecDepth 100000
set_option linter.unusedVariables false
set_option linter.unusedSimpArgs false
set_option maxHeartbeats 4000000
namespace Go.Proofs.YtbipkiiaajklhaaDoor.pathTells
open Go Go.AX Go.Proofs Go.Proofs.YtbipkiiaajklhaaDoor
variable {nu : Nat → Value} {one : ∀ i, i < 1000000 → (nu i).oneCell' = true} {E' : Cx} {x' : Ex} {e' : LA} {h' : LE}
def bwS : LL → LL → Bool
  | _, [] => true
  | [], _ :: _ => false
  | a :: q, b :: w => decide (a = b) && bwS q w
theorem bwS_eq : ∀ q w : LL, bwS q w = (decide (w.length ≤ q.length) && decide (q.take w.length = w))
  | q, [] => by simp [bwS]
  | [], b :: w => by simp [bwS]
  | a :: q, b :: w => by
    rw [bwS, bwS_eq q w]
    by_cases h : a = b
    · subst h; simp
    · simp [h]
theorem bw_eq (s q : LB) : begS s q = bwS (segS s) (segS q) := (bwS_eq _ _).symm
section
variable {q w : LL} {i : Int} {C : Bool}
theorem bw_go (h0 : 0 ≤ i) (h1 : i < (q.length : Int)) (h2 : i < (w.length : Int)) (he : lI q i = lI w i) (h : bwS (q.drop (Int.toNat i)) (w.drop (Int.toNat i)) = C) : bwS (q.drop (Int.toNat (i + 1))) (w.drop (Int.toNat (i + 1))) = C := by
  rw [← h, cR7 h0 h1, cR7 h0 h2, bwS, decide_eq_true he, Bool.true_and]
theorem bw_no (h0 : 0 ≤ i) (h2 : i < (w.length : Int)) (h1 : (q.length : Int) ≤ i ∨ ¬ lI q i = lI w i) (h : bwS (q.drop (Int.toNat i)) (w.drop (Int.toNat i)) = C) : C = false := by
  rw [← h, cR7 h0 h2]
  by_cases hq : i < (q.length : Int)
  · rw [cR7 h0 hq, bwS, decide_eq_false (h1.resolve_left (by omega)), Bool.false_and]
  · rw [List.drop_eq_nil_of_le (by omega : q.length ≤ i.toNat), bwS]
theorem bw_end (h0 : 0 ≤ i) (h2 : ¬ i < (w.length : Int)) (h : bwS (q.drop (Int.toNat i)) (w.drop (Int.toNat i)) = C) : C = true := by
  rw [← h, List.drop_eq_nil_of_le (by omega : w.length ≤ i.toNat), bwS]
end
noncomputable def dU3 : Code := aL8 (Tryd.f12.body.getD .skip) 0
theorem keyRw : aK6 (aC0 (Tryd.f12.body.getD .skip)) 3 0 0 = true := by kernel_rfl
def bJ5 : List Nat := []
def eK6 : LA := [(5, .sr 94), (6, .sr 154), (7, .x 0)]
def eJ0 : LE := [(94, .r 2000000 9 1 false), (154, .r 2000001 9 1 false)]
def aY3 (q w : List LB) (C : Bool) (i : Int) : List Value := [.int .i64 (i), .int .i64 ((w.length : Int)), .int .i64 ((q.length : Int)), St' (lI q i), St' (lI w i), .int .i64 (i + 1), .int .i64 ((w.length : Int)), .int .i64 ((q.length : Int)), St' (lI q i), St' (lI w i), .int .i64 ((w.length : Int)), .int .i64 ((q.length : Int)), .int .i64 ((w.length : Int))]
def cN3 (q w : List LB) (C : Bool) (i : Int) : List Value := [rwS q, rwS w]
def epRw (st : Nat × Int) : LA := eK6
def hpRw (st : Nat × Int) : LE := eJ0
def nuRw (q w : List LB) (C : Bool) (st : Nat × Int) : List Value := aY3 q w C (st.2)
def roRw (q w : List LB) (C : Bool) (st : Nat × Int) : List Value := cN3 q w C (st.2)
theorem onRw (q w : List LB) (C : Bool) (st : Nat × Int) : ∀ j, (nuL (nuRw q w C st) j).oneCell' = true := by
  intro j
  unfold nuRw
  exact aA2 (l := aY3 q w C (st.2)) rfl j
theorem ebRw (st : Nat × Int) : (lfB (epRw st) && lfC bJ5) = true := by
  unfold epRw
  rfl
noncomputable def DRw (q w : List LB) (C : Bool) (st : Nat × Int) (X : Nat → Value) : Cx := cx (nuX (nuRw q w C st) (rX (roRw q w C st) X)) (aA4 (onRw q w C st)) 1 aA3 aA0
def bU1 (q w : List LB) (C : Bool) (st : Nat × Int) : Prop := (0 ≤ (st.2)) ∧ ((st.2) ≤ (w.length : Int)) ∧ ((st.2) ≤ (q.length : Int)) ∧ (bwS (q.drop (Int.toNat (st.2))) (w.drop (Int.toNat (st.2))) = C) ∧ ((st.1) < 1)
abbrev CjRw (q w : List LB) (C : Bool) (tag : Nat) (i : Int) : Prop := (0 ≤ i) ∧ (i ≤ (w.length : Int)) ∧ (i ≤ (q.length : Int)) ∧ (bwS (q.drop (Int.toNat i)) (w.drop (Int.toNat i)) = C) ∧ (tag < 1)
theorem mkIRw {q w : List LB} {C : Bool} {tag : Nat} {i : Int} (h : CjRw q w C tag i) : bU1 q w C (tag, i) := h
theorem unIRw (q w : List LB) (C : Bool) (tag : Nat) (i : Int) (h : bU1 q w C (tag, i)) : (0 ≤ i) ∧ (i ≤ (w.length : Int)) ∧ (i ≤ (q.length : Int)) ∧ (bwS (q.drop (Int.toNat i)) (w.drop (Int.toNat i)) = C) ∧ (tag < 1) := h
def muRw (q w : List LB) (C : Bool) (st : Nat × Int) : Nat := (w.length - (st.2).toNat)
abbrev RHRw (q w : List LB) (C : Bool) (E' : Cx) (ex' : Ex) (epx' : LA) (hpx' : LE) (st : Nat × Int) (X : Nat → Value) : Prop := aC3 E' dU3 bJ5 33 ex' 4 224 224 226 epRw hpRw epx' hpx' (bU1 q w C) (muRw q w C) (DRw q w C) st X
noncomputable abbrev cA6 (h : LK) (x : Ex) (th : LA) (sg : List (Nat × Nat)) (m : Nat) (ep : LA) (hp : LE) : Bool := aL4 (code (tbl h) 1500 [] dU3 (aH4 (aE4 eK6 bJ5) 33) ⟨aD1 eJ0 .leaf, 224, 0, 0⟩) x bJ5 33 226 th sg 224 m ep hp
theorem stRw_0 {q w : List LB} {C : Bool} {i : Int} {X : Nat → Value} {h : LK} (y : Nat × Int) {th : LA} {sg : List (Nat × Nat)} (ho : ∀ a' r', (a', r') ∈ h → HOk (cx (nuX (aY3 q w C i) (rX (cN3 q w C i) X)) (aA4 (aA2 (l := aY3 q w C i) rfl)) 1 aA3 aA0) a' r') (hy : bU1 q w C y) (lt : muRw q w C y < muRw q w C (0, i)) (ht : ThOk (cx (nuX (aY3 q w C i) (rX (cN3 q w C i) X)) (aA4 (aA2 (l := aY3 q w C i) rfl)) 1 aA3 aA0) (DRw q w C y X) th) (run : cA6 h .normal th sg 224 (epRw y) (hpRw y) = true) : RHRw q w C E' x' e' h' (0, i) X :=
  aC3.next (tb := tbl h) (L := []) (f := 1500) y ((aB0 _ _).hyps ho) (LpOk.nil _) rfl hy lt ht run
theorem eH7 {q w : List LB} {C : Bool} {i : Int} {X : Nat → Value} {h : LK} {th : LA} {sg : List (Nat × Nat)} (hne : exB x' .normal = false) (ho : ∀ a' r', (a', r') ∈ h → HOk (cx (nuX (aY3 q w C i) (rX (cN3 q w C i) X)) (aA4 (aA2 (l := aY3 q w C i) rfl)) 1 aA3 aA0) a' r') (ht : ThOk (cx (nuX (aY3 q w C i) (rX (cN3 q w C i) X)) (aA4 (aA2 (l := aY3 q w C i) rfl)) 1 aA3 aA0) E' th) (run : cA6 h x' th sg 226 e' h' = true) : RHRw q w C E' x' e' h' (0, i) X :=
  aC3.leave (tb := tbl h) (L := []) (f := 1500) ((aB0 _ _).hyps ho) (LpOk.nil _) rfl hne ht run
def dB8 : LK := [(.rl (.x 2000001) 1, .x 1), (.bin .lss (.x 0) (.x 1), .b true), (.rl (.x 2000000) 1, .x 2), (.bin .geq (.x 0) (.x 2), .b false), (.el (.x 2000000) (.x 0) 1 0, .x 3), (.el (.x 2000001) (.x 0) 1 0, .x 4), (.bin .neq (.x 3) (.x 4), .b false), (.bin .add (.x 0) (I6 1), .x 5)]
theorem runRw_p0 : cA6 dB8 .normal [(0, .x 5), (2000000, .x 2000000), (2000001, .x 2000001)] [] 224 eK6 eJ0 = true := by kernel_rfl
def dB7 : LK := [(.rl (.x 2000001) 1, .x 6), (.bin .lss (.x 0) (.x 6), .b true), (.rl (.x 2000000) 1, .x 7), (.bin .geq (.x 0) (.x 7), .b false), (.el (.x 2000000) (.x 0) 1 0, .x 8), (.el (.x 2000001) (.x 0) 1 0, .x 9), (.bin .neq (.x 8) (.x 9), .b true)]
theorem runRw_p1 : cA6 dB7 .ret [] [] 226 [(4, .b false)] [] = true := by kernel_rfl
def dB6 : LK := [(.rl (.x 2000001) 1, .x 10), (.bin .lss (.x 0) (.x 10), .b true), (.rl (.x 2000000) 1, .x 11), (.bin .geq (.x 0) (.x 11), .b true)]
theorem runRw_p2 : cA6 dB6 .ret [] [] 226 [(4, .b false)] [] = true := by kernel_rfl
def dB5 : LK := [(.rl (.x 2000001) 1, .x 12), (.bin .lss (.x 0) (.x 12), .b false)]
theorem runRw_p3 : cA6 dB5 (.exit 0) [] [] 226 [] [] = true := by kernel_rfl
section
variable {q w : List LB} {C : Bool} (c0 : q.length ≤ 1000000) (c1 : w.length ≤ 1000000) {i : Int} {X : Nat → Value}
include c0 c1
theorem eE5 (hI : bU1 q w C (0, i)) (h0 : i < (w.length : Int)) (h1 : ¬ ((q.length : Int) ≤ i)) (h2 : (lI q i) = (lI w i)) : RHRw q w C E' x' e' h' (0, i) X := by
  obtain ⟨i0, i1, i2, i3, it⟩ := unIRw q w C 0 i hI
  refine stRw_0 (h := dB8) (0, (i + 1)) ?_ (mkIRw ⟨by omega, by omega, by omega, bw_go (by omega) (by omega) (by omega) (by assumption) i3, by omega⟩) (by show w.length - (i + 1).toNat < w.length - i.toNat; omega) (thXi (b := ((i + 1))) rfl rfl (by omega) (thXv (v := rwS q) rfl rfl (thXv (v := rwS w) rfl rfl (aA6)))) runRw_p0
  unfold dB8
  exact hc (kRl (isX rfl) (denX rfl) (by first | omega | (simp <;> omega))) <|hc (ltT rfl rfl (by omega)) <|hc (kRl (isX rfl) (denX rfl) (by first | omega | (simp <;> omega))) <|hc (geF rfl rfl (by omega)) <|hc (kEl (j := (Int.toNat (i))) (isX rfl) (isX rfl) (denX rfl) (by omega) (by omega)) <|hc (kEl (j := (Int.toNat (i))) (isX rfl) (isX rfl) (denX rfl) (by omega) (by omega)) <|hc (kNeS (isX rfl) (isX rfl) (bnF (by first | exact decide_eq_true rfl | exact decide_eq_true ‹_› | exact decide_eq_false ‹_›))) <|hc (adC rfl rfl (by omega)) <|hnil
end
def eF9 (q w : List LB) (C : Bool) : List Value := []
def roERw_0 (q w : List LB) (C : Bool) : List Value := []
noncomputable def ERw_0 (q w : List LB) (C : Bool) : Cx := cx (nuX (eF9 q w C) (rX (roERw_0 q w C) (fun _ => .bool true))) (aA4 (aA2 (l := eF9 q w C) rfl)) 1 aA3 aA0
theorem roundsRw_0 (q w : List LB) (C : Bool) (c0 : q.length ≤ 1000000) (c1 : w.length ≤ 1000000) (x0 : C = true) (st : Nat × Int) (X : Nat → Value) (hI : bU1 q w C st) : RHRw q w C (ERw_0 q w C) (.exit 0) [] [] st X := by
  obtain ⟨tag, i⟩ := st
  have hI0 := hI
  obtain ⟨i0, i1, i2, i3, it⟩ := unIRw q w C tag i hI
  obtain rfl : tag = 0 := by omega
  skip
  by_cases h0 : i < (w.length : Int)
  · by_cases h1 : (q.length : Int) ≤ i
    · exfalso; have h := bw_no (by omega) (by omega) (by first | exact .inl (by omega) | exact .inr (by assumption)) i3; rw [x0] at h; cases h
    · by_cases h2 : (lI q i) = (lI w i)
      · exact eE5 c0 c1 hI0 h0 h1 h2
      · exfalso; have h := bw_no (by omega) (by omega) (by first | exact .inl (by omega) | exact .inr (by assumption)) i3; rw [x0] at h; cases h
  · skip
    refine eH7 (h := dB5) rfl ?_ (aA6) runRw_p3
    unfold dB5
    exact hc (kRl (isX rfl) (denX rfl) (by first | omega | (simp <;> omega))) <|hc (ltF rfl rfl (by omega)) <|hnil
theorem lfOkRw_0 {l : LF} {h : LH} (q w : List LB) (C : Bool) (c0 : q.length ≤ 1000000) (c1 : w.length ≤ 1000000) (x0 : C = true) (st : Nat × Int) (hI : bU1 q w C st) (hl : l.hp = some h) (hs : aF3 l h 33 bJ5 (.exit 0) 4 224 226 = true) {th0 : LA} {sg0 : List (Nat × Nat)} (hth0 : ∀ X, ThOk (cx nu one 1 aA3 aA0) (DRw q w C st X) th0) (h0 : aD9 l h 33 224 224 th0 sg0 (epRw st) (hpRw st) = true) {thx : LA} (hthx : ThOk (ERw_0 q w C) (cx nu one 1 aA3 aA0) thx) (hx : aF5 l h 33 224 226 thx [] [] = true) : LfOk (cx nu one 1 aA3 aA0) dU3 l :=
  aL5 (E := ERw_0 q w C) (bU1 q w C) (muRw q w C) (DRw q w C) (fun _ _ => rfl) (fun _ _ => rfl) (fun _ _ => rfl) (fun st X t ht => aD3.trans (aE2 ((by decide : ∀ t, t ∈ bJ5 → t < 1000000) t ht))) rfl rfl rfl hl hs ebRw rfl rfl st hI hth0 h0 hthx hx (roundsRw_0 q w C c0 c1 x0)
def eF8 (q w : List LB) (C : Bool) : List Value := []
def roERw_1 (q w : List LB) (C : Bool) : List Value := []
noncomputable def ERw_1 (q w : List LB) (C : Bool) : Cx := cx (nuX (eF8 q w C) (rX (roERw_1 q w C) (fun _ => .bool true))) (aA4 (aA2 (l := eF8 q w C) rfl)) 1 aA3 aA0
theorem roundsRw_1 (q w : List LB) (C : Bool) (c0 : q.length ≤ 1000000) (c1 : w.length ≤ 1000000) (x0 : C = false) (st : Nat × Int) (X : Nat → Value) (hI : bU1 q w C st) : RHRw q w C (ERw_1 q w C) .ret [(4, .b false)] [] st X := by
  obtain ⟨tag, i⟩ := st
  have hI0 := hI
  obtain ⟨i0, i1, i2, i3, it⟩ := unIRw q w C tag i hI
  obtain rfl : tag = 0 := by omega
  skip
  by_cases h0 : i < (w.length : Int)
  · by_cases h1 : (q.length : Int) ≤ i
    · skip
      refine eH7 (h := dB6) rfl ?_ (aA6) runRw_p2
      unfold dB6
      exact hc (kRl (isX rfl) (denX rfl) (by first | omega | (simp <;> omega))) <|hc (ltT rfl rfl (by omega)) <|hc (kRl (isX rfl) (denX rfl) (by first | omega | (simp <;> omega))) <|hc (geT rfl rfl (by omega)) <|hnil
    · by_cases h2 : (lI q i) = (lI w i)
      · exact eE5 c0 c1 hI0 h0 h1 h2
      · skip
        refine eH7 (h := dB7) rfl ?_ (aA6) runRw_p1
        unfold dB7
        exact hc (kRl (isX rfl) (denX rfl) (by first | omega | (simp <;> omega))) <|hc (ltT rfl rfl (by omega)) <|hc (kRl (isX rfl) (denX rfl) (by first | omega | (simp <;> omega))) <|hc (geF rfl rfl (by omega)) <|hc (kEl (j := (Int.toNat (i))) (isX rfl) (isX rfl) (denX rfl) (by omega) (by omega)) <|hc (kEl (j := (Int.toNat (i))) (isX rfl) (isX rfl) (denX rfl) (by omega) (by omega)) <|hc (kNeS (isX rfl) (isX rfl) (bnT (by first | exact decide_eq_true rfl | exact decide_eq_true ‹_› | exact decide_eq_false ‹_›))) <|hnil
  · exfalso; have h := bw_end (by omega) (by omega) i3; rw [x0] at h; cases h
theorem lfOkRw_1 {l : LF} {h : LH} (q w : List LB) (C : Bool) (c0 : q.length ≤ 1000000) (c1 : w.length ≤ 1000000) (x0 : C = false) (st : Nat × Int) (hI : bU1 q w C st) (hl : l.hp = some h) (hs : aF3 l h 33 bJ5 .ret 4 224 226 = true) {th0 : LA} {sg0 : List (Nat × Nat)} (hth0 : ∀ X, ThOk (cx nu one 1 aA3 aA0) (DRw q w C st X) th0) (h0 : aD9 l h 33 224 224 th0 sg0 (epRw st) (hpRw st) = true) {thx : LA} (hthx : ThOk (ERw_1 q w C) (cx nu one 1 aA3 aA0) thx) (hx : aF5 l h 33 224 226 thx [(4, .b false)] [] = true) : LfOk (cx nu one 1 aA3 aA0) dU3 l :=
  aL5 (E := ERw_1 q w C) (bU1 q w C) (muRw q w C) (DRw q w C) (fun _ _ => rfl) (fun _ _ => rfl) (fun _ _ => rfl) (fun st X t ht => aD3.trans (aE2 ((by decide : ∀ t, t ∈ bJ5 → t < 1000000) t ht))) rfl rfl rfl hl hs ebRw rfl rfl st hI hth0 h0 hthx hx (roundsRw_1 q w C c0 c1 x0)
noncomputable def fi12 : FI := (tabk.fn.get 12).getD default
theorem bS4 : tabk.fn.get 12 = some fi12 := by kernel_rfl
theorem bS3 : fi12.body = some (Tryd.f12.body.getD .skip) := by kernel_rfl
theorem eJ8 : fi12.body.isSome = true := by rw [bS3]; rfl
theorem cfA12 : (aC0 (Tryd.f12.body.getD .skip)).all (fun b => !(aM1 (Go.AX.keyOf b) 8888888)) = true := by kernel_rfl
def dE6 : LK := []
def lh68 : LH := ⟨4, 94, 154, [], [(94, .r 2000001 9 1 false)]⟩
def lf68 : LF := ⟨8888888, 0, [(0, .x 0)], [], .normal, [(0, .sr 94)], some lh68⟩
def lh69 : LH := ⟨4, 94, 154, [], [(94, .r 2000002 9 1 false)]⟩
def lf69 : LF := ⟨8888888, 0, [(0, .x 1)], [], .normal, [(0, .sr 94)], some lh69⟩
def lh70 : LH := ⟨4, 154, 214, [], [(154, .r 2000002 9 1 false)]⟩
def lf70 : LF := ⟨8888888, 0, [(0, .x 1)], [], .normal, [(0, .sr 154)], some lh70⟩
def lh71 : LH := ⟨4, 224, 226, [(94, .r 2000001 9 1 false), (154, .r 2000002 9 1 false)], []⟩
def lf71 : LF := ⟨3, 33, [(5, .sr 94), (6, .sr 154), (7, I6 0)], [], (.exit 0), [], some lh71⟩
noncomputable def dL5 : Tab := aB2 (aB2 ({ tabk with hyp := dE6 }) 10 fi10 [lf68, lf70]) 12 fi12 [lf71]
theorem runRbg_0 (e : Nat) : okA (call dL5 9000 12 [.x 0, .x 1] ⟨H0 e , 4, 0, 0⟩) (.b true) = true := by kernel_rfl
def cD9 (s q : LB) : List Value := [St' s, St' q]
def dZ2 (s q : LB) : List Value := [rwS ([] : List LB), rwS (segS s), rwS (segS q)]
theorem eC8 (s q : LB) : ∀ j, (nuL (cD9 s q) j).oneCell' = true := aA2 (l := cD9 s q) rfl
theorem pathRbg_0 (s q : LB) (b0 : s.length ≤ 9223372036854775807) (b1 : q.length ≤ 9223372036854775807) (p0 : s.length ≤ 1000000) (p1 : q.length ≤ 1000000) (h0 : ¬ ((segS s).length = 0)) (h1 : ¬ ((segS q).length = 0)) (h2 : begS s q = true) (w : World) (hl : aA3 w) : CwR 12 #[St' s, St' q] w (.bool true) := by
  have := aD5 s
  have := aD5 q
  have ho : ∀ k r, (k, r) ∈ dE6 → HOk (cx (nuX (cD9 s q) (rX (dZ2 s q) (fun _ => .bool true))) (aA4 (eC8 s q)) 1 aA3 aA0) k r := by
    unfold dE6
    exact hnil
  refine runC (tb := dL5) (ra := .b true) rfl (aB3.lp1 (aB3.lp2 ((aB0 (nuX (cD9 s q) (rX (dZ2 s q) (fun _ => .bool true))) (aA4 (eC8 s q))).hyps ho) (by omega) aN2 aG0 (aB1 (.inr ⟨⟨rfl, rfl⟩, bD7, aL0 (l := lf68) (h := lh68) (q := (0, .sr 94)) s (by omega) (by assumption) rfl rfl (by kernel_rfl) (th0 := [(0, .x 0)]) (sg0 := []) (thXv (v := St' s) rfl rfl (aA6)) (by kernel_rfl) (thx := [(2000001, .x 2000000)]) (thXv (v := rwS (segS s)) rfl rfl (aA6)) (by kernel_rfl)⟩) (aB1 (.inr ⟨⟨rfl, rfl⟩, bD7, aO7 (l := lf69) (l' := lf70) (h := lh69) (h' := lh70) (q := (0, .sr 94)) (q' := (0, .sr 154)) (ids := [2000002]) (sg := [(154, 94)] ++ sgJ 4 150) (aL0 (l := lf69) (h := lh69) (q := (0, .sr 94)) q (by omega) (by assumption) rfl rfl (by kernel_rfl) (th0 := [(0, .x 1)]) (sg0 := []) (thXv (v := St' q) rfl rfl (aA6)) (by kernel_rfl) (thx := [(2000002, .x 2000000)]) (thXv (v := rwS (segS q)) rfl rfl (aA6)) (by kernel_rfl)) rfl rfl rfl rfl (by kernel_rfl) (by kernel_rfl)⟩) aC1))) (by omega) (aA8 (by omega) (by omega) bS4) bS3 (aB1 (aB9 rfl ⟨0, keyRw, lfOkRw_0 (l := lf71) (h := lh71) (segS s) (segS q) (begS s q) (by omega) (by omega) (by assumption) (0, (0 : Int)) (mkIRw ⟨by omega, by omega, by omega, (bw_eq _ _).symm, by omega⟩) rfl (by kernel_rfl) (th0 := [(0, I6 0), (2000000, .x 2000001), (2000001, .x 2000002)]) (sg0 := []) (fun X => aC2 (show Is _ (I6 0) (.int .i64 ((0 : Int))) from isTo (v := .int .i64 0) (isI _ _) (by first | rfl | (congr 1; omega))) (thXv (v := rwS (segS s)) rfl rfl (thXv (v := rwS (segS q)) rfl rfl (aA6)))) (by kernel_rfl) (thx := []) (aA6) (by kernel_rfl)⟩) aC1)) rfl (aC7 (by omega)) eJ8 (fun e => runRbg_0 e ) (args := [St' s, St' q]) (by simp only [RelL, Rel]; exact ⟨_, _, rfl, rfl, ⟨_, _, rfl, rfl, rfl⟩⟩) w hl fun x hx => ?_
  simp only [Rel, RelL] at hx
  exact hx
def dE5 : LK := []
def lf75 : LF := ⟨3, 33, [(5, .sr 94), (6, .sr 154), (7, I6 0)], [], .ret, [(4, .b false)], some lh71⟩
noncomputable def dL4 : Tab := aB2 (aB2 ({ tabk with hyp := dE5 }) 10 fi10 [lf68, lf70]) 12 fi12 [lf75]
theorem runRbg_1 (e : Nat) : okA (call dL4 9000 12 [.x 0, .x 1] ⟨H0 e , 4, 0, 0⟩) (.b false) = true := by kernel_rfl
def cD8 (s q : LB) : List Value := [St' s, St' q]
def dZ1 (s q : LB) : List Value := [rwS ([] : List LB), rwS (segS s), rwS (segS q)]
theorem eC7 (s q : LB) : ∀ j, (nuL (cD8 s q) j).oneCell' = true := aA2 (l := cD8 s q) rfl
theorem pathRbg_1 (s q : LB) (b0 : s.length ≤ 9223372036854775807) (b1 : q.length ≤ 9223372036854775807) (p0 : s.length ≤ 1000000) (p1 : q.length ≤ 1000000) (h0 : ¬ ((segS s).length = 0)) (h1 : ¬ ((segS q).length = 0)) (h2 : ¬ (begS s q = true)) (w : World) (hl : aA3 w) : CwR 12 #[St' s, St' q] w (.bool false) := by
  have := aD5 s
  have := aD5 q
  have ho : ∀ k r, (k, r) ∈ dE5 → HOk (cx (nuX (cD8 s q) (rX (dZ1 s q) (fun _ => .bool true))) (aA4 (eC7 s q)) 1 aA3 aA0) k r := by
    unfold dE5
    exact hnil
  refine runC (tb := dL4) (ra := .b false) rfl (aB3.lp1 (aB3.lp2 ((aB0 (nuX (cD8 s q) (rX (dZ1 s q) (fun _ => .bool true))) (aA4 (eC7 s q))).hyps ho) (by omega) aN2 aG0 (aB1 (.inr ⟨⟨rfl, rfl⟩, bD7, aL0 (l := lf68) (h := lh68) (q := (0, .sr 94)) s (by omega) (by assumption) rfl rfl (by kernel_rfl) (th0 := [(0, .x 0)]) (sg0 := []) (thXv (v := St' s) rfl rfl (aA6)) (by kernel_rfl) (thx := [(2000001, .x 2000000)]) (thXv (v := rwS (segS s)) rfl rfl (aA6)) (by kernel_rfl)⟩) (aB1 (.inr ⟨⟨rfl, rfl⟩, bD7, aO7 (l := lf69) (l' := lf70) (h := lh69) (h' := lh70) (q := (0, .sr 94)) (q' := (0, .sr 154)) (ids := [2000002]) (sg := [(154, 94)] ++ sgJ 4 150) (aL0 (l := lf69) (h := lh69) (q := (0, .sr 94)) q (by omega) (by assumption) rfl rfl (by kernel_rfl) (th0 := [(0, .x 1)]) (sg0 := []) (thXv (v := St' q) rfl rfl (aA6)) (by kernel_rfl) (thx := [(2000002, .x 2000000)]) (thXv (v := rwS (segS q)) rfl rfl (aA6)) (by kernel_rfl)) rfl rfl rfl rfl (by kernel_rfl) (by kernel_rfl)⟩) aC1))) (by omega) (aA8 (by omega) (by omega) bS4) bS3 (aB1 (aB9 rfl ⟨0, keyRw, lfOkRw_1 (l := lf75) (h := lh71) (segS s) (segS q) (begS s q) (by omega) (by omega) (by simpa using (by assumption : ¬ begS s q = true)) (0, (0 : Int)) (mkIRw ⟨by omega, by omega, by omega, (bw_eq _ _).symm, by omega⟩) rfl (by kernel_rfl) (th0 := [(0, I6 0), (2000000, .x 2000001), (2000001, .x 2000002)]) (sg0 := []) (fun X => aC2 (show Is _ (I6 0) (.int .i64 ((0 : Int))) from isTo (v := .int .i64 0) (isI _ _) (by first | rfl | (congr 1; omega))) (thXv (v := rwS (segS s)) rfl rfl (thXv (v := rwS (segS q)) rfl rfl (aA6)))) (by kernel_rfl) (thx := []) (aA6) (by kernel_rfl)⟩) aC1)) rfl (aC7 (by omega)) eJ8 (fun e => runRbg_1 e ) (args := [St' s, St' q]) (by simp only [RelL, Rel]; exact ⟨_, _, rfl, rfl, ⟨_, _, rfl, rfl, rfl⟩⟩) w hl fun x hx => ?_
  simp only [Rel, RelL] at hx
  exact hx
def dE4 : LK := [(.rl (.x 2000001) 1, .x 2), (.bin .lss (I6 0) (.x 2), .b true)]
def lh76 : LH := ⟨4, 94, 154, [], []⟩
def lf76 : LF := ⟨8888888, 0, [(0, .x 0)], [], .normal, [(0, .nils)], some lh76⟩
def lf77 : LF := ⟨8888888, 0, [(0, .x 1)], [], .normal, [(0, .sr 94)], some lh68⟩
def lh78 : LH := ⟨4, 154, 214, [], [(154, .r 2000001 9 1 false)]⟩
def lf78 : LF := ⟨8888888, 0, [(0, .x 1)], [], .normal, [(0, .sr 154)], some lh78⟩
noncomputable def dL3 : Tab := aB2 ({ tabk with hyp := dE4 }) 10 fi10 [lf76, lf78]
theorem runRbg_2 (e : Nat) : okA (call dL3 9000 12 [.x 0, .x 1] ⟨H0 e , 4, 0, 0⟩) (.b false) = true := by kernel_rfl
def cD7 (s q : LB) : List Value := [St' s, St' q, .int .i64 (((segS q).length : Int))]
def dZ0 (s q : LB) : List Value := [rwS ([] : List LB), rwS (segS q)]
theorem eC6 (s q : LB) : ∀ j, (nuL (cD7 s q) j).oneCell' = true := aA2 (l := cD7 s q) rfl
theorem pathRbg_2 (s q : LB) (b0 : s.length ≤ 9223372036854775807) (b1 : q.length ≤ 9223372036854775807) (p0 : s.length ≤ 1000000) (p1 : q.length ≤ 1000000) (h0 : (segS s).length = 0) (h1 : ¬ ((segS q).length = 0)) (w : World) (hl : aA3 w) : CwR 12 #[St' s, St' q] w (.bool false) := by
  have := aD5 s
  have := aD5 q
  have ho : ∀ k r, (k, r) ∈ dE4 → HOk (cx (nuX (cD7 s q) (rX (dZ0 s q) (fun _ => .bool true))) (aA4 (eC6 s q)) 1 aA3 aA0) k r := by
    unfold dE4
    exact hc (kRl (isX rfl) (denX rfl) (by first | omega | (simp <;> omega))) <|hc (kLt (isZ (m := 0) rfl) (isX rfl) (decide_eq_true (by omega))) <|hnil
  refine runC (tb := dL3) (ra := .b false) rfl (aB3.lp2 ((aB0 (nuX (cD7 s q) (rX (dZ0 s q) (fun _ => .bool true))) (aA4 (eC6 s q))).hyps ho) (by omega) aN2 aG0 (aB1 (.inr ⟨⟨rfl, rfl⟩, bD7, aQ2 (l := lf76) (h := lh76) (q := (0, .nils)) s (by omega) (by assumption) rfl rfl (by kernel_rfl) (th0 := [(0, .x 0)]) (sg0 := []) (thXv (v := St' s) rfl rfl (aA6)) (by kernel_rfl) (thx := []) (aA6) (by kernel_rfl)⟩) (aB1 (.inr ⟨⟨rfl, rfl⟩, bD7, aO7 (l := lf77) (l' := lf78) (h := lh68) (h' := lh78) (q := (0, .sr 94)) (q' := (0, .sr 154)) (ids := [2000001]) (sg := [(154, 94)] ++ sgJ 4 150) (aL0 (l := lf77) (h := lh68) (q := (0, .sr 94)) q (by omega) (by assumption) rfl rfl (by kernel_rfl) (th0 := [(0, .x 1)]) (sg0 := []) (thXv (v := St' q) rfl rfl (aA6)) (by kernel_rfl) (thx := [(2000001, .x 2000000)]) (thXv (v := rwS (segS q)) rfl rfl (aA6)) (by kernel_rfl)) rfl rfl rfl rfl (by kernel_rfl) (by kernel_rfl)⟩) aC1))) rfl (aA8 (by omega) (by omega) bS4) eJ8 (fun e => runRbg_2 e ) (args := [St' s, St' q]) (by simp only [RelL, Rel]; exact ⟨_, _, rfl, rfl, ⟨_, _, rfl, rfl, rfl⟩⟩) w hl fun x hx => ?_
  simp only [Rel, RelL] at hx
  exact hx
def dE3 : LK := []
def lf80 : LF := ⟨8888888, 0, [(0, .x 1)], [], .normal, [(0, .nils)], some lh76⟩
def lh81 : LH := ⟨4, 154, 214, [], []⟩
def lf81 : LF := ⟨8888888, 0, [(0, .x 1)], [], .normal, [(0, .nils)], some lh81⟩
noncomputable def dL2 : Tab := aB2 ({ tabk with hyp := dE3 }) 10 fi10 [lf76, lf81]
theorem runRbg_3 (e : Nat) : okA (call dL2 9000 12 [.x 0, .x 1] ⟨H0 e , 4, 0, 0⟩) (.b true) = true := by kernel_rfl
def cD6 (s q : LB) : List Value := [St' s, St' q]
def dY9 (s q : LB) : List Value := [rwS ([] : List LB)]
theorem eC5 (s q : LB) : ∀ j, (nuL (cD6 s q) j).oneCell' = true := aA2 (l := cD6 s q) rfl
theorem pathRbg_3 (s q : LB) (b0 : s.length ≤ 9223372036854775807) (b1 : q.length ≤ 9223372036854775807) (p0 : s.length ≤ 1000000) (p1 : q.length ≤ 1000000) (h0 : (segS s).length = 0) (h1 : (segS q).length = 0) (w : World) (hl : aA3 w) : CwR 12 #[St' s, St' q] w (.bool true) := by
  have := aD5 s
  have := aD5 q
  have ho : ∀ k r, (k, r) ∈ dE3 → HOk (cx (nuX (cD6 s q) (rX (dY9 s q) (fun _ => .bool true))) (aA4 (eC5 s q)) 1 aA3 aA0) k r := by
    unfold dE3
    exact hnil
  refine runC (tb := dL2) (ra := .b true) rfl (aB3.lp2 ((aB0 (nuX (cD6 s q) (rX (dY9 s q) (fun _ => .bool true))) (aA4 (eC5 s q))).hyps ho) (by omega) aN2 aG0 (aB1 (.inr ⟨⟨rfl, rfl⟩, bD7, aQ2 (l := lf76) (h := lh76) (q := (0, .nils)) s (by omega) (by assumption) rfl rfl (by kernel_rfl) (th0 := [(0, .x 0)]) (sg0 := []) (thXv (v := St' s) rfl rfl (aA6)) (by kernel_rfl) (thx := []) (aA6) (by kernel_rfl)⟩) (aB1 (.inr ⟨⟨rfl, rfl⟩, bD7, aO7 (l := lf80) (l' := lf81) (h := lh76) (h' := lh81) (q := (0, .nils)) (q' := (0, .nils)) (ids := []) (sg := [] ++ sgJ 4 150) (aQ2 (l := lf80) (h := lh76) (q := (0, .nils)) q (by omega) (by assumption) rfl rfl (by kernel_rfl) (th0 := [(0, .x 1)]) (sg0 := []) (thXv (v := St' q) rfl rfl (aA6)) (by kernel_rfl) (thx := []) (aA6) (by kernel_rfl)) rfl rfl rfl rfl (by kernel_rfl) (by kernel_rfl)⟩) aC1))) rfl (aA8 (by omega) (by omega) bS4) eJ8 (fun e => runRbg_3 e ) (args := [St' s, St' q]) (by simp only [RelL, Rel]; exact ⟨_, _, rfl, rfl, ⟨_, _, rfl, rfl, rfl⟩⟩) w hl fun x hx => ?_
  simp only [Rel, RelL] at hx
  exact hx
def dE2 : LK := []
noncomputable def dL1 : Tab := aB2 ({ tabk with hyp := dE2 }) 10 fi10 [lf68, lf81]
theorem runRbg_4 (e : Nat) : okA (call dL1 9000 12 [.x 0, .x 1] ⟨H0 e , 4, 0, 0⟩) (.b true) = true := by kernel_rfl
def cD5 (s q : LB) : List Value := [St' s, St' q]
def dY8 (s q : LB) : List Value := [rwS ([] : List LB), rwS (segS s)]
theorem eC4 (s q : LB) : ∀ j, (nuL (cD5 s q) j).oneCell' = true := aA2 (l := cD5 s q) rfl
theorem pathRbg_4 (s q : LB) (b0 : s.length ≤ 9223372036854775807) (b1 : q.length ≤ 9223372036854775807) (p0 : s.length ≤ 1000000) (p1 : q.length ≤ 1000000) (h0 : ¬ ((segS s).length = 0)) (h1 : (segS q).length = 0) (w : World) (hl : aA3 w) : CwR 12 #[St' s, St' q] w (.bool true) := by
  have := aD5 s
  have := aD5 q
  have ho : ∀ k r, (k, r) ∈ dE2 → HOk (cx (nuX (cD5 s q) (rX (dY8 s q) (fun _ => .bool true))) (aA4 (eC4 s q)) 1 aA3 aA0) k r := by
    unfold dE2
    exact hnil
  refine runC (tb := dL1) (ra := .b true) rfl (aB3.lp2 ((aB0 (nuX (cD5 s q) (rX (dY8 s q) (fun _ => .bool true))) (aA4 (eC4 s q))).hyps ho) (by omega) aN2 aG0 (aB1 (.inr ⟨⟨rfl, rfl⟩, bD7, aL0 (l := lf68) (h := lh68) (q := (0, .sr 94)) s (by omega) (by assumption) rfl rfl (by kernel_rfl) (th0 := [(0, .x 0)]) (sg0 := []) (thXv (v := St' s) rfl rfl (aA6)) (by kernel_rfl) (thx := [(2000001, .x 2000000)]) (thXv (v := rwS (segS s)) rfl rfl (aA6)) (by kernel_rfl)⟩) (aB1 (.inr ⟨⟨rfl, rfl⟩, bD7, aO7 (l := lf80) (l' := lf81) (h := lh76) (h' := lh81) (q := (0, .nils)) (q' := (0, .nils)) (ids := []) (sg := [] ++ sgJ 4 150) (aQ2 (l := lf80) (h := lh76) (q := (0, .nils)) q (by omega) (by assumption) rfl rfl (by kernel_rfl) (th0 := [(0, .x 1)]) (sg0 := []) (thXv (v := St' q) rfl rfl (aA6)) (by kernel_rfl) (thx := []) (aA6) (by kernel_rfl)) rfl rfl rfl rfl (by kernel_rfl) (by kernel_rfl)⟩) aC1))) rfl (aA8 (by omega) (by omega) bS4) eJ8 (fun e => runRbg_4 e ) (args := [St' s, St' q]) (by simp only [RelL, Rel]; exact ⟨_, _, rfl, rfl, ⟨_, _, rfl, rfl, rfl⟩⟩) w hl fun x hx => ?_
  simp only [Rel, RelL] at hx
  exact hx
theorem callsRbg (s q : LB) (b0 : s.length ≤ 9223372036854775807) (b1 : q.length ≤ 9223372036854775807) (p0 : s.length ≤ 1000000) (p1 : q.length ≤ 1000000) (w : World) (hl : aA3 w) : CwR 12 #[St' s, St' q] w (.bool (begS s q)) := by
  by_cases h0 : (segS s).length = 0
  · by_cases h1 : (segS q).length = 0
    · rw [show (.bool (begS s q) : Value) = (.bool true : Value) from by first | (rw [bg_z (by omega)]; done) | (rw [bg_n (by omega)]; done) | exact congrArg Value.bool (by assumption) | exact congrArg Value.bool (by simpa using (by assumption : ¬ begS s q = true))]
      exact pathRbg_3 s q b0 b1 p0 p1 h0 h1 w hl
    · rw [show (.bool (begS s q) : Value) = (.bool false : Value) from by first | (rw [bg_z (by omega)]; done) | (rw [bg_n (by omega)]; done) | exact congrArg Value.bool (by assumption) | exact congrArg Value.bool (by simpa using (by assumption : ¬ begS s q = true))]
      exact pathRbg_2 s q b0 b1 p0 p1 h0 h1 w hl
  · by_cases h1 : (segS q).length = 0
    · rw [show (.bool (begS s q) : Value) = (.bool true : Value) from by first | (rw [bg_z (by omega)]; done) | (rw [bg_n (by omega)]; done) | exact congrArg Value.bool (by assumption) | exact congrArg Value.bool (by simpa using (by assumption : ¬ begS s q = true))]
      exact pathRbg_4 s q b0 b1 p0 p1 h0 h1 w hl
    · by_cases h2 : begS s q = true
      · rw [show (.bool (begS s q) : Value) = (.bool true : Value) from by first | (rw [bg_z (by omega)]; done) | (rw [bg_n (by omega)]; done) | exact congrArg Value.bool (by assumption) | exact congrArg Value.bool (by simpa using (by assumption : ¬ begS s q = true))]
        exact pathRbg_0 s q b0 b1 p0 p1 h0 h1 h2 w hl
      · rw [show (.bool (begS s q) : Value) = (.bool false : Value) from by first | (rw [bg_z (by omega)]; done) | (rw [bg_n (by omega)]; done) | exact congrArg Value.bool (by assumption) | exact congrArg Value.bool (by simpa using (by assumption : ¬ begS s q = true))]
        exact pathRbg_1 s q b0 b1 p0 p1 h0 h1 h2 w hl
theorem dS8 {x0 x1 r : AV} {s q : LB} (i0 : Is (cx nu one 1 aA3 aA0) x0 (St' s)) (i1 : Is (cx nu one 1 aA3 aA0) x1 (St' q)) (hr : Den (cx nu one 1 aA3 aA0) r (.bool (begS s q))) (b0 : s.length ≤ 9223372036854775807) (b1 : q.length ≤ 9223372036854775807) (p0 : s.length ≤ 1000000) (p1 : q.length ≤ 1000000) : HOk (cx nu one 1 aA3 aA0) (.call 12 [x0, x1]) r := by
  intro ρ args ha w hl _
  simp only [RelL] at ha
  obtain ⟨v0, t0, rfl, a0, v1, t1, rfl, a1, rfl⟩ := ha
  have e0 := i0 ρ _ a0; subst e0
  have e1 := i1 ρ _ a1; subst e1
  exact (callsRbg s q b0 b1 p0 p1 w hl).mono fun e w' he => ⟨_, he.1, hr ρ, he.2⟩
end Go.Proofs.YtbipkiiaajklhaaDoor.pathTells
