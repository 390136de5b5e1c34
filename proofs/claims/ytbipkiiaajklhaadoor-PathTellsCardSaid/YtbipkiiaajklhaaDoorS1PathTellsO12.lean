/- A part of the proof: an interpreter of the model's own code on partly known states, and that what it answers is what the program answers. No condition of its own. -/
import Derived.Test.YtbipkiiaajklhaaDoorS1PathTellsO11
set_option maxRecDepth 100000
set_option linter.unusedVariables false
set_option linter.unusedSimpArgs false
set_option maxHeartbeats 4000000
namespace Go.Proofs.YtbipkiiaajklhaaDoor.pathTells
open Go Go.AX Go.Proofs Go.Proofs.YtbipkiiaajklhaaDoor
variable {nu : Nat → Value} {one : ∀ i, i < 1000000 → (nu i).oneCell' = true} {E' : Cx} {x' : Ex} {e' : LA} {h' : LE}
noncomputable def eM2 : Code := aL8 (Tryd.f6.body.getD .skip) 1
theorem keyRj : aK6 (aC0 (Tryd.f6.body.getD .skip)) 21 1 0 = true := by kernel_rfl
def bY5 : List Nat := [6]
def eK8 : LA := [(5, .sr 124), (10, .x 0), (11, .x 1)]
def eJ2 : LE := [(124, .r 2000000 9 1 false)]
def aY7 (q : List LB) (i : Int) (s : LB) : List Value := [St' s, .int .i64 (i), St' ([] : LB), .int .i64 ((q.length : Int)), St' (s ++ [u8 47]), St' (List.getD q (Int.toNat (i)) []), St' (s ++ ([u8 47] ++ (List.getD q (Int.toNat (i)) []))), .int .i64 (i + 1), St' ([] : LB), .int .i64 ((q.length : Int))]
def cN7 (q : List LB) (i : Int) (s : LB) : List Value := [rwS q]
def epRj (st : Nat × Int × LB) : LA := eK8
def hpRj (st : Nat × Int × LB) : LE := eJ2
def nuRj (q : List LB) (st : Nat × Int × LB) : List Value := aY7 q (st.2.1) (st.2.2)
def roRj (q : List LB) (st : Nat × Int × LB) : List Value := cN7 q (st.2.1) (st.2.2)
theorem onRj (q : List LB) (st : Nat × Int × LB) : ∀ j, (nuL (nuRj q st) j).oneCell' = true := by
  intro j
  unfold nuRj
  exact aA2 (l := aY7 q (st.2.1) (st.2.2)) rfl j
theorem ebRj (st : Nat × Int × LB) : (lfB (epRj st) && lfC bY5) = true := by
  unfold epRj
  rfl
noncomputable def DRj (q : List LB) (st : Nat × Int × LB) (X : Nat → Value) : Cx := cx (nuX (nuRj q st) (rX (roRj q st) X)) (aA4 (onRj q st)) 1 aA3 aA0
def cU3 (q : List LB) (st : Nat × Int × LB) : Prop := (0 ≤ (st.2.1)) ∧ ((st.2.1) ≤ (q.length : Int)) ∧ ((st.2.2) = fl47 (q.take (Int.toNat (st.2.1)))) ∧ ((st.1) < 1)
abbrev CjRj (q : List LB) (tag : Nat) (i : Int) (s : LB) : Prop := (0 ≤ i) ∧ (i ≤ (q.length : Int)) ∧ (s = fl47 (q.take (Int.toNat i))) ∧ (tag < 1)
theorem mkIRj {q : List LB} {tag : Nat} {i : Int} {s : LB} (h : CjRj q tag i s) : cU3 q (tag, i, s) := h
theorem unIRj (q : List LB) (tag : Nat) (i : Int) (s : LB) (h : cU3 q (tag, i, s)) : (0 ≤ i) ∧ (i ≤ (q.length : Int)) ∧ (s = fl47 (q.take (Int.toNat i))) ∧ (tag < 1) := h
def muRj (q : List LB) (st : Nat × Int × LB) : Nat := (q.length - (st.2.1).toNat)
abbrev RHRj (q : List LB) (E' : Cx) (ex' : Ex) (epx' : LA) (hpx' : LE) (st : Nat × Int × LB) (X : Nat → Value) : Prop := aC3 E' eM2 bY5 94 ex' 4 149 149 155 epRj hpRj epx' hpx' (cU3 q) (muRj q) (DRj q) st X
noncomputable abbrev dV1 (h : LK) (x : Ex) (th : LA) (sg : List (Nat × Nat)) (m : Nat) (ep : LA) (hp : LE) : Bool := aL4 (code (tbl h) 1500 [] eM2 (aH4 (aE4 eK8 bY5) 94) ⟨aD1 eJ2 .leaf, 149, 0, 0⟩) x bY5 94 155 th sg 149 m ep hp
theorem stRj_0 {q : List LB} {i : Int} {s : LB} {X : Nat → Value} {h : LK} (y : Nat × Int × LB) {th : LA} {sg : List (Nat × Nat)} (ho : ∀ a' r', (a', r') ∈ h → HOk (cx (nuX (aY7 q i s) (rX (cN7 q i s) X)) (aA4 (aA2 (l := aY7 q i s) rfl)) 1 aA3 aA0) a' r') (hy : cU3 q y) (lt : muRj q y < muRj q (0, i, s)) (ht : ThOk (cx (nuX (aY7 q i s) (rX (cN7 q i s) X)) (aA4 (aA2 (l := aY7 q i s) rfl)) 1 aA3 aA0) (DRj q y X) th) (run : dV1 h .normal th sg 149 (epRj y) (hpRj y) = true) : RHRj q E' x' e' h' (0, i, s) X :=
  aC3.next (tb := tbl h) (L := []) (f := 1500) y ((aB0 _ _).hyps ho) (LpOk.nil _) rfl hy lt ht run
theorem lvRj_0 {q : List LB} {i : Int} {s : LB} {X : Nat → Value} {h : LK} {th : LA} {sg : List (Nat × Nat)} (hne : exB x' .normal = false) (ho : ∀ a' r', (a', r') ∈ h → HOk (cx (nuX (aY7 q i s) (rX (cN7 q i s) X)) (aA4 (aA2 (l := aY7 q i s) rfl)) 1 aA3 aA0) a' r') (ht : ThOk (cx (nuX (aY7 q i s) (rX (cN7 q i s) X)) (aA4 (aA2 (l := aY7 q i s) rfl)) 1 aA3 aA0) E' th) (run : dV1 h x' th sg 155 e' h' = true) : RHRj q E' x' e' h' (0, i, s) X :=
  aC3.leave (tb := tbl h) (L := []) (f := 1500) ((aB0 _ _).hyps ho) (LpOk.nil _) rfl hne ht run
def dD7 : LK := [(.rl (.x 2000000) 1, .x 3), (.bin .lss (.x 1) (.x 3), .b true), (.bin .add (.x 0) (.s 1 47), .x 4), (.el (.x 2000000) (.x 1) 1 0, .x 5), (.bin .add (.x 4) (.x 5), .x 6), (.bin .add (.x 1) (I6 1), .x 7)]
theorem runRj_p0 : dV1 dD7 .normal [(0, .x 6), (1, .x 7), (2000000, .x 2000000)] [] 149 eK8 eJ2 = true := by kernel_rfl
def dD6 : LK := [(.rl (.x 2000000) 1, .x 9), (.bin .lss (.x 1) (.x 9), .b false)]
theorem runRj_p1 : dV1 dD6 (.exit 3) [(0, .x 0)] [] 155 [(10, .x 0)] [] = true := by kernel_rfl
section
variable {q : List LB} (c0 : (fl47 q).length ≤ 1000) (c1 : q.length ≤ 1000) {i : Int} {s : LB} {X : Nat → Value}
include c0 c1
theorem nxRj_p0 (hI : cU3 q (0, i, s)) (h0 : i < (q.length : Int)) : RHRj q E' x' e' h' (0, i, s) X := by
  obtain ⟨i0, i1, i2, it⟩ := unIRj q 0 i s hI
  have hfs := (dT4 (by omega) (by omega) i2).2
  simp only [List.length_append, List.length_cons, List.length_nil] at hfs
  refine stRj_0 (h := dD7) (0, (i + 1), (s ++ ([u8 47] ++ (List.getD q (Int.toNat (i)) [])))) ?_ (mkIRj ⟨by omega, by omega, (dT4 (by omega) (by omega) i2).1, by omega⟩) (by show q.length - (i + 1).toNat < q.length - i.toNat; omega) (thXv (v := St' (s ++ ([u8 47] ++ (List.getD q (Int.toNat (i)) [])))) rfl rfl (thXi (b := ((i + 1))) rfl rfl (by omega) (thXv (v := rwS q) rfl rfl (aA6)))) runRj_p0
  unfold dD7
  exact hc (kRl (isX rfl) (denX rfl) (by first | omega | (simp <;> omega))) <|hc (ltT rfl rfl (by omega)) <|hc (kCat (isX rfl) (isSx (l := [u8 47]) 1 47 rfl) (denX rfl) (by first | rfl | (simp; done)) (by first | omega | (simp only [List.length_append, List.length_cons, List.length_nil]; omega))) <|hc (kEl (j := (Int.toNat (i))) (isX rfl) (isX rfl) (denX rfl) (by omega) (by first | omega | (simp <;> omega))) <|hc (kCat (isX rfl) (isX rfl) (denX rfl) (by first | rfl | (simp; done)) (by first | omega | (simp only [List.length_append, List.length_cons, List.length_nil]; omega))) <|hc (adC rfl rfl (by omega)) <|hnil
end
def eG5 (q : List LB) : List Value := [St' (fl47 q)]
def roERj_0 (q : List LB) : List Value := []
noncomputable def ERj_0 (q : List LB) : Cx := cx (nuX (eG5 q) (rX (roERj_0 q) (fun _ => .bool true))) (aA4 (aA2 (l := eG5 q) rfl)) 1 aA3 aA0
theorem roundsRj_0 (q : List LB) (c0 : (fl47 q).length ≤ 1000) (c1 : q.length ≤ 1000) (st : Nat × Int × LB) (X : Nat → Value) (hI : cU3 q st) : RHRj q (ERj_0 q) (.exit 3) [(10, .x 0)] [] st X := by
  obtain ⟨tag, i, s⟩ := st
  have hI0 := hI
  obtain ⟨i0, i1, i2, it⟩ := unIRj q tag i s hI
  obtain rfl : tag = 0 := by omega
  skip
  by_cases h0 : i < (q.length : Int)
  · exact nxRj_p0 c0 c1 hI0 h0
  · skip
    refine lvRj_0 (h := dD6) rfl ?_ (thXe (v := St' s) (u := St' (fl47 q)) rfl rfl (congrArg (fun l => St' l) (fl_end (by omega) i2)) (aA6)) runRj_p1
    unfold dD6
    exact hc (kRl (isX rfl) (denX rfl) (by first | omega | (simp <;> omega))) <|hc (ltF rfl rfl (by omega)) <|hnil
theorem dR4 {l : LF} {h : LH} (q : List LB) (c0 : (fl47 q).length ≤ 1000) (c1 : q.length ≤ 1000) (st : Nat × Int × LB) (hI : cU3 q st) (hl : l.hp = some h) (hs : aF3 l h 94 bY5 (.exit 3) 4 149 155 = true) {th0 : LA} {sg0 : List (Nat × Nat)} (hth0 : ∀ X, ThOk (cx nu one 1 aA3 aA0) (DRj q st X) th0) (h0 : aD9 l h 94 149 149 th0 sg0 (epRj st) (hpRj st) = true) {thx : LA} (hthx : ThOk (ERj_0 q) (cx nu one 1 aA3 aA0) thx) (hx : aF5 l h 94 149 155 thx [(10, .x 0)] [] = true) : LfOk (cx nu one 1 aA3 aA0) eM2 l :=
  aL5 (E := ERj_0 q) (cU3 q) (muRj q) (DRj q) (fun _ _ => rfl) (fun _ _ => rfl) (fun _ _ => rfl) (fun st X t ht => aD3.trans (aE2 ((by decide : ∀ t, t ∈ bY5 → t < 1000000) t ht))) rfl rfl rfl hl hs ebRj rfl rfl st hI hth0 h0 hthx hx (roundsRj_0 q c0 c1)
noncomputable def fi6 : FI := (tabk.fn.get 6).getD default
theorem dT8 : tabk.fn.get 6 = some fi6 := by kernel_rfl
theorem bD2 : fi6.body = some (Tryd.f6.body.getD .skip) := by kernel_rfl
theorem fiB6 : fi6.body.isSome = true := by rw [bD2]; rfl
theorem cfA6 : (aC0 (Tryd.f6.body.getD .skip)).all (fun b => !(aM1 (Go.AX.keyOf b) 8888888)) = true := by kernel_rfl
theorem dT5 : tabk.fn.get 6 = some (fI Tryd.f6 0) ∧ (fI Tryd.f6 0).body.isSome = true := ⟨rfl, by kernel_rfl⟩
def cI7 : LK := [(.len (.x 0), .x 2), (.bin .eql (.x 2) (I6 0), .b true)]
theorem runRcl_0 (e : Nat) : okA (call (tbl cI7) 9000 6 [.x 0] ⟨H0 e , 4, 0, 0⟩) (.tu [.s 0 0, I6 10]) = true := by kernel_rfl
def cD4 (s : LB) : List Value := [St' s, St' ([] : LB), .int .i64 ((s.length : Int))]
def dY7 (s : LB) : List Value := [rwS ([] : List LB)]
theorem eC3 (s : LB) : ∀ j, (nuL (cD4 s) j).oneCell' = true := aA2 (l := cD4 s) rfl
theorem pathRcl_0 (s : LB) (b0 : s.length ≤ 9223372036854775807) (p0 : s.length ≤ 400) (h0 : (s.length : Int) = 0) (w : World) (hl : aA3 w) : CwR 6 #[St' s] w (.tuple #[St' ([] : LB), .int .i64 10]) := by
  have ho : ∀ k r, (k, r) ∈ cI7 → HOk (cx (nuX (cD4 s) (rX (dY7 s) (fun _ => .bool true))) (aA4 (eC3 s)) 1 aA3 aA0) k r := by
    unfold cI7
    exact hc (lnV rfl rfl (by omega)) <|hc (eqcT rfl (by omega)) <|hnil
  refine runC (tb := (tbl cI7)) (ra := .tu [.s 0 0, I6 10]) rfl ((aB0 (nuX (cD4 s) (rX (dY7 s) (fun _ => .bool true))) (aA4 (eC3 s))).hyps ho) rfl dT5.1 dT5.2 (fun e => runRcl_0 e ) (args := [St' s]) (by simp only [RelL, Rel]; exact ⟨_, _, rfl, rfl, rfl⟩) w hl fun x hx => ?_
  simp only [Rel, RelL] at hx
  obtain ⟨_, rfl, ⟨_, _, rfl, ⟨rfl, _⟩, ⟨_, _, rfl, rfl, rfl⟩⟩⟩ := hx
  rfl
def cI6 : LK := [(.len (.x 0), .x 2), (.bin .eql (.x 2) (I6 0), .b false), (.idx (.x 0) (I6 0), .x 3), (.bin .neq (.x 3) (.i .u8 (.ofNat 47)), .b true)]
theorem runRcl_1 (e : Nat) : okA (call (tbl cI6) 9000 6 [.x 0] ⟨H0 e , 4, 0, 0⟩) (.tu [.s 0 0, I6 10]) = true := by kernel_rfl
def cD3 (s : LB) : List Value := [St' s, St' ([] : LB), .int .i64 ((s.length : Int)), .int .u8 (bt s 0)]
def dY6 (s : LB) : List Value := [rwS ([] : List LB)]
theorem eC2 (s : LB) : ∀ j, (nuL (cD3 s) j).oneCell' = true := aA2 (l := cD3 s) rfl
theorem pathRcl_1 (s : LB) (b0 : s.length ≤ 9223372036854775807) (p0 : s.length ≤ 400) (h0 : ¬ ((s.length : Int) = 0)) (h1 : ¬ (bt s 0 = 47)) (w : World) (hl : aA3 w) : CwR 6 #[St' s] w (.tuple #[St' ([] : LB), .int .i64 10]) := by
  have := aB6 s 0; have := aB7 s 0
  have ho : ∀ k r, (k, r) ∈ cI6 → HOk (cx (nuX (cD3 s) (rX (dY6 s) (fun _ => .bool true))) (aA4 (eC2 s)) 1 aA3 aA0) k r := by
    unfold cI6
    exact hc (lnV rfl rfl (by omega)) <|hc (eqcF rfl (by omega)) <|hc (ixC rfl rfl (by omega)) <|hc (necT rfl (by omega)) <|hnil
  refine runC (tb := (tbl cI6)) (ra := .tu [.s 0 0, I6 10]) rfl ((aB0 (nuX (cD3 s) (rX (dY6 s) (fun _ => .bool true))) (aA4 (eC2 s))).hyps ho) rfl dT5.1 dT5.2 (fun e => runRcl_1 e ) (args := [St' s]) (by simp only [RelL, Rel]; exact ⟨_, _, rfl, rfl, rfl⟩) w hl fun x hx => ?_
  simp only [Rel, RelL] at hx
  obtain ⟨_, rfl, ⟨_, _, rfl, ⟨rfl, _⟩, ⟨_, _, rfl, rfl, rfl⟩⟩⟩ := hx
  rfl
def dE1 : LK := [(.len (.x 0), .x 2), (.bin .eql (.x 2) (I6 0), .b false), (.idx (.x 0) (I6 0), .x 3), (.bin .neq (.x 3) (.i .u8 (.ofNat 47)), .b false), (.sub (.x 0) (some (I6 1)) none, .x 4)]
def lh85 : LH := ⟨4, 104, 116, [], [(104, .r 2000001 9 1 false)]⟩
def lf85 : LF := ⟨4, 32, [(0, .x 4), (3, .nils), (4, I6 0), (5, I6 0)], [], (.exit 0), [(3, .sr 104)], some lh85⟩
def lh86 : LH := ⟨4, 124, 144, [(104, .r 2000001 9 1 false)], []⟩
def lf86 : LF := ⟨7, 94, [(2, .s 0 0), (3, I6 0), (4, .sr 104), (7, I6 0), (6, .b false), (5, .nils)], [], .ret, [(2, .s 0 0), (3, I6 10)], some lh86⟩
noncomputable def dL0 : Tab := aB2 (aB2 ({ tabk with hyp := dE1 }) 20 fi20 [lf85]) 6 fi6 [lf86]
theorem runRcl_2 (e : Nat) : okA (call dL0 9000 6 [.x 0] ⟨H0 e , 4, 0, 0⟩) (.tu [.s 0 0, I6 10]) = true := by kernel_rfl
def cD2 (s : LB) : List Value := [St' s, St' ([] : LB), .int .i64 ((s.length : Int)), .int .u8 (bt s 0), St' (List.drop (Int.toNat (1)) s)]
def dY5 (s : LB) : List Value := [rwS ([] : List LB), rwS (sp47 [] (List.drop (Int.toNat (1)) s))]
theorem eC1 (s : LB) : ∀ j, (nuL (cD2 s) j).oneCell' = true := aA2 (l := cD2 s) rfl
theorem pathRcl_2 (s : LB) (b0 : s.length ≤ 9223372036854775807) (p0 : s.length ≤ 400) (h0 : ¬ ((s.length : Int) = 0)) (h1 : bt s 0 = 47) (h2 : rQx s = none) (w : World) (hl : aA3 w) : CwR 6 #[St' s] w (.tuple #[St' ([] : LB), .int .i64 10]) := by
  have := aB6 s 0; have := aB7 s 0
  have := aH0 (l := s) (P := 1) (by omega) (by omega)
  have hspl := bV9 (List.drop (Int.toNat (1)) s)
  have hmem : ∀ x ∈ sp47 [] (List.drop (Int.toNat (1)) s), x.length ≤ 400 := fun x hx => by have := dN8 _ x hx; rw [List.length_drop] at this; omega
  have hrt := dP2 s
  have ho : ∀ k r, (k, r) ∈ dE1 → HOk (cx (nuX (cD2 s) (rX (dY5 s) (fun _ => .bool true))) (aA4 (eC1 s)) 1 aA3 aA0) k r := by
    unfold dE1
    exact hc (lnV rfl rfl (by omega)) <|hc (eqcF rfl (by omega)) <|hc (ixC rfl rfl (by omega)) <|hc (necF rfl (by omega)) <|hc (drC rfl rfl (by omega)) <|hnil
  refine runC (tb := dL0) (ra := .tu [.s 0 0, I6 10]) rfl (aB3.lp1 (aB3.lp1 ((aB0 (nuX (cD2 s) (rX (dY5 s) (fun _ => .bool true))) (aA4 (eC1 s))).hyps ho) (by omega) bI1 aN0 (aB1 (aB9 rfl ⟨0, aW8, aJ8 (l := lf85) (h := lh85) (List.drop (Int.toNat (1)) s) (sp47 [] (List.drop (Int.toNat (1)) s)) (by omega) (0, (0 : Int), (0 : Int), ([] : List LB)) (aI4 ⟨by omega, by omega, by omega, by omega, fun _ => ⟨by rw [bP0]; rfl, trivial⟩, fun h => by omega, fun _ => rfl, by simp, fun _ => by omega, by omega⟩) rfl (by kernel_rfl) (th0 := [(0, .x 4), (1, I6 0), (2, I6 0)]) (sg0 := []) (fun X => thXv (v := St' (List.drop (Int.toNat (1)) s)) rfl rfl (aC2 (show Is _ (I6 0) (.int .i64 ((0 : Int))) from isTo (v := .int .i64 0) (isI _ _) (by first | rfl | (congr 1; omega))) (aC2 (show Is _ (I6 0) (.int .i64 ((0 : Int))) from isTo (v := .int .i64 0) (isI _ _) (by first | rfl | (congr 1; omega))) (aA6)))) (by kernel_rfl) (thx := [(2000001, .x 2000000)]) (thXv (v := rwS (sp47 [] (List.drop (Int.toNat (1)) s))) rfl rfl (aA6)) (by kernel_rfl)⟩) aC1)) (by omega) (aA8 (by omega) (by omega) dT8) bD2 (aB1 (aB9 rfl ⟨0, keyRm, lfOkRm_2 (l := lf86) (h := lh86) (sp47 [] (List.drop (Int.toNat (1)) s)) (rQx s) (rTx s) (rBx s) ((rKx s).2) (by omega) hmem (by assumption) (0, (0 : Int), ([] : List LB), false) (bL0 ⟨by omega, by omega, rfl, rfl, fun _ => rfl, by simp, by omega⟩) rfl (by kernel_rfl) (th0 := [(0, I6 0), (1, .b false), (2000000, .x 2000001)]) (sg0 := []) (fun X => aC2 (show Is _ (I6 0) (.int .i64 ((0 : Int))) from isTo (v := .int .i64 0) (isI _ _) (by first | rfl | (congr 1; omega))) (aC2 (show Is _ (.b false) (.bool false) from isTo (v := .bool false) (isBb) (by first | rfl | (simp; done))) (thXv (v := rwS (sp47 [] (List.drop (Int.toNat (1)) s))) rfl rfl (aA6)))) (by kernel_rfl) (thx := []) (aA6) (by kernel_rfl)⟩) aC1)) rfl (aC7 (by omega)) fiB6 (fun e => runRcl_2 e ) (args := [St' s]) (by simp only [RelL, Rel]; exact ⟨_, _, rfl, rfl, rfl⟩) w hl fun x hx => ?_
  simp only [Rel, RelL] at hx
  obtain ⟨_, rfl, ⟨_, _, rfl, ⟨rfl, _⟩, ⟨_, _, rfl, rfl, rfl⟩⟩⟩ := hx
  rfl
def dE0 : LK := [(.len (.x 0), .x 2), (.bin .eql (.x 2) (I6 0), .b false), (.idx (.x 0) (I6 0), .x 3), (.bin .neq (.x 3) (.i .u8 (.ofNat 47)), .b false), (.sub (.x 0) (some (I6 1)) none, .x 4), (.eqb (.x 5) (.b true), .b false), (.bin .eql (.x 6) (.s 0 0), .b false)]
def lh88 : LH := ⟨4, 124, 144, [(104, .r 2000001 9 1 false)], [(124, .r 2000002 9 1 false)]⟩
def lf88 : LF := ⟨7, 94, [(2, .s 0 0), (3, I6 0), (4, .sr 104), (7, I6 0), (6, .b false), (5, .nils)], [], (.exit 0), [(5, .sr 124), (6, .x 5)], some lh88⟩
def lh89 : LH := ⟨4, 149, 155, [(124, .r 2000002 9 1 false)], []⟩
def lf89 : LF := ⟨21, 94, [(5, .sr 124), (10, .s 0 0), (11, I6 0)], [6], (.exit 3), [(10, .x 6)], some lh89⟩
noncomputable def dK9 : Tab := aB2 (aB2 ({ tabk with hyp := dE0 }) 20 fi20 [lf85]) 6 fi6 [lf88, lf89]
theorem runRcl_3 (e : Nat) : okA (call dK9 9000 6 [.x 0] ⟨H0 e , 4, 0, 0⟩) (.tu [.x 6, I6 0]) = true := by kernel_rfl
def cD1 (s : LB) : List Value := [St' s, St' ([] : LB), .int .i64 ((s.length : Int)), .int .u8 (bt s 0), St' (List.drop (Int.toNat (1)) s), .bool ((rKx s).2), St' (fl47 (rTx s))]
def dY4 (s : LB) : List Value := [rwS ([] : List LB), rwS (sp47 [] (List.drop (Int.toNat (1)) s)), rwS (rTx s)]
theorem eC0 (s : LB) : ∀ j, (nuL (cD1 s) j).oneCell' = true := aA2 (l := cD1 s) rfl
theorem pathRcl_3 (s : LB) (b0 : s.length ≤ 9223372036854775807) (p0 : s.length ≤ 400) (h0 : ¬ ((s.length : Int) = 0)) (h1 : bt s 0 = 47) (h2 : ¬ (rQx s = none)) (h3 : rBx s = true) (h4 : ¬ ((rKx s).2 = true)) (w : World) (hl : aA3 w) : CwR 6 #[St' s] w (.tuple #[St' (fl47 (rTx s)), .int .i64 0]) := by
  have := aB6 s 0; have := aB7 s 0
  have := aH0 (l := s) (P := 1) (by omega) (by omega)
  have hspl := bV9 (List.drop (Int.toNat (1)) s)
  have hmem : ∀ x ∈ sp47 [] (List.drop (Int.toNat (1)) s), x.length ≤ 400 := fun x hx => by have := dN8 _ x hx; rw [List.length_drop] at this; omega
  have hrt := dP2 s
  have hkf := rKx_f (s := s) (by assumption) (by simpa using (by assumption : ¬ (rKx s).2 = true))
  have ho : ∀ k r, (k, r) ∈ dE0 → HOk (cx (nuX (cD1 s) (rX (dY4 s) (fun _ => .bool true))) (aA4 (eC0 s)) 1 aA3 aA0) k r := by
    unfold dE0
    exact hc (lnV rfl rfl (by omega)) <|hc (eqcF rfl (by omega)) <|hc (ixC rfl rfl (by omega)) <|hc (necF rfl (by omega)) <|hc (drC rfl rfl (by omega)) <|hc (kEqF1 (isX rfl) (by assumption)) <|hc (kEqS (isX rfl) (isSx (l := ([] : LB)) 0 0 rfl) (nilF (by omega))) <|hnil
  refine runC (tb := dK9) (ra := .tu [.x 6, I6 0]) rfl (aB3.lp1 (aB3.lp1 ((aB0 (nuX (cD1 s) (rX (dY4 s) (fun _ => .bool true))) (aA4 (eC0 s))).hyps ho) (by omega) bI1 aN0 (aB1 (aB9 rfl ⟨0, aW8, aJ8 (l := lf85) (h := lh85) (List.drop (Int.toNat (1)) s) (sp47 [] (List.drop (Int.toNat (1)) s)) (by omega) (0, (0 : Int), (0 : Int), ([] : List LB)) (aI4 ⟨by omega, by omega, by omega, by omega, fun _ => ⟨by rw [bP0]; rfl, trivial⟩, fun h => by omega, fun _ => rfl, by simp, fun _ => by omega, by omega⟩) rfl (by kernel_rfl) (th0 := [(0, .x 4), (1, I6 0), (2, I6 0)]) (sg0 := []) (fun X => thXv (v := St' (List.drop (Int.toNat (1)) s)) rfl rfl (aC2 (show Is _ (I6 0) (.int .i64 ((0 : Int))) from isTo (v := .int .i64 0) (isI _ _) (by first | rfl | (congr 1; omega))) (aC2 (show Is _ (I6 0) (.int .i64 ((0 : Int))) from isTo (v := .int .i64 0) (isI _ _) (by first | rfl | (congr 1; omega))) (aA6)))) (by kernel_rfl) (thx := [(2000001, .x 2000000)]) (thXv (v := rwS (sp47 [] (List.drop (Int.toNat (1)) s))) rfl rfl (aA6)) (by kernel_rfl)⟩) aC1)) (by omega) (aA8 (by omega) (by omega) dT8) bD2 (aB1 (aB9 rfl ⟨0, keyRm, dR3 (l := lf88) (h := lh88) (sp47 [] (List.drop (Int.toNat (1)) s)) (rQx s) (rTx s) (rBx s) ((rKx s).2) (by omega) hmem (aQ8 (by assumption)) (by assumption) (0, (0 : Int), ([] : List LB), false) (bL0 ⟨by omega, by omega, rfl, rfl, fun _ => rfl, by simp, by omega⟩) rfl (by kernel_rfl) (th0 := [(0, I6 0), (1, .b false), (2000000, .x 2000001)]) (sg0 := []) (fun X => aC2 (show Is _ (I6 0) (.int .i64 ((0 : Int))) from isTo (v := .int .i64 0) (isI _ _) (by first | rfl | (congr 1; omega))) (aC2 (show Is _ (.b false) (.bool false) from isTo (v := .bool false) (isBb) (by first | rfl | (simp; done))) (thXv (v := rwS (sp47 [] (List.drop (Int.toNat (1)) s))) rfl rfl (aA6)))) (by kernel_rfl) (thx := [(5, .x 0), (2000002, .x 2000000)]) (thXv (v := .bool ((rKx s).2)) rfl rfl (thXv (v := rwS (rTx s)) rfl rfl (aA6))) (by kernel_rfl)⟩) (aB1 (aB9 rfl ⟨1, keyRj, dR4 (l := lf89) (h := lh89) (rTx s) (by omega) (by omega) (0, (0 : Int), ([] : LB)) (mkIRj ⟨by omega, by omega, rfl, by omega⟩) rfl (by kernel_rfl) (th0 := [(0, .s 0 0), (1, I6 0), (2000000, .x 2000002)]) (sg0 := []) (fun X => aC2 (show Is _ (.s 0 0) (St' ([] : LB)) from isTo (v := St' ([] : LB)) (isSx (l := ([] : LB)) 0 0 rfl) (by first | rfl | (simp; done))) (aC2 (show Is _ (I6 0) (.int .i64 ((0 : Int))) from isTo (v := .int .i64 0) (isI _ _) (by first | rfl | (congr 1; omega))) (thXv (v := rwS (rTx s)) rfl rfl (aA6)))) (by kernel_rfl) (thx := [(6, .x 0)]) (thXv (v := St' (fl47 (rTx s))) rfl rfl (aA6)) (by kernel_rfl)⟩) aC1))) rfl (aC7 (by omega)) fiB6 (fun e => runRcl_3 e ) (args := [St' s]) (by simp only [RelL, Rel]; exact ⟨_, _, rfl, rfl, rfl⟩) w hl fun x hx => ?_
  simp only [Rel, RelL] at hx
  obtain ⟨_, rfl, ⟨_, _, rfl, rfl, ⟨_, _, rfl, rfl, rfl⟩⟩⟩ := hx
  rfl
def dD9 : LK := [(.len (.x 0), .x 2), (.bin .eql (.x 2) (I6 0), .b false), (.idx (.x 0) (I6 0), .x 3), (.bin .neq (.x 3) (.i .u8 (.ofNat 47)), .b false), (.sub (.x 0) (some (I6 1)) none, .x 4), (.eqb (.x 5) (.b true), .b true)]
def lf91 : LF := ⟨7, 94, [(2, .s 0 0), (3, I6 0), (4, .sr 104), (7, I6 0), (6, .b false), (5, .nils)], [], (.exit 0), [(5, .nils), (6, .x 5)], some lh86⟩
noncomputable def dK8 : Tab := aB2 (aB2 ({ tabk with hyp := dD9 }) 20 fi20 [lf85]) 6 fi6 [lf91]
theorem runRcl_4 (e : Nat) : okA (call dK8 9000 6 [.x 0] ⟨H0 e , 4, 0, 0⟩) (.tu [.s 1 47, I6 0]) = true := by kernel_rfl
def cD0 (s : LB) : List Value := [St' s, St' ([] : LB), .int .i64 ((s.length : Int)), .int .u8 (bt s 0), St' (List.drop (Int.toNat (1)) s), .bool ((rKx s).2)]
def dY3 (s : LB) : List Value := [rwS ([] : List LB), rwS (sp47 [] (List.drop (Int.toNat (1)) s))]
theorem eB9 (s : LB) : ∀ j, (nuL (cD0 s) j).oneCell' = true := aA2 (l := cD0 s) rfl
theorem pathRcl_4 (s : LB) (b0 : s.length ≤ 9223372036854775807) (p0 : s.length ≤ 400) (h0 : ¬ ((s.length : Int) = 0)) (h1 : bt s 0 = 47) (h2 : ¬ (rQx s = none)) (h3 : ¬ (rBx s = true)) (w : World) (hl : aA3 w) : CwR 6 #[St' s] w (.tuple #[St' [u8 47], .int .i64 0]) := by
  have := aB6 s 0; have := aB7 s 0
  have := aH0 (l := s) (P := 1) (by omega) (by omega)
  have hspl := bV9 (List.drop (Int.toNat (1)) s)
  have hmem : ∀ x ∈ sp47 [] (List.drop (Int.toNat (1)) s), x.length ≤ 400 := fun x hx => by have := dN8 _ x hx; rw [List.length_drop] at this; omega
  have hrt := dP2 s
  have hkt := rKx_t (s := s) (by assumption) (by simpa using (by assumption : ¬ rBx s = true))
  have ho : ∀ k r, (k, r) ∈ dD9 → HOk (cx (nuX (cD0 s) (rX (dY3 s) (fun _ => .bool true))) (aA4 (eB9 s)) 1 aA3 aA0) k r := by
    unfold dD9
    exact hc (lnV rfl rfl (by omega)) <|hc (eqcF rfl (by omega)) <|hc (ixC rfl rfl (by omega)) <|hc (necF rfl (by omega)) <|hc (drC rfl rfl (by omega)) <|hc (kEqT1 (isX rfl) (by assumption)) <|hnil
  refine runC (tb := dK8) (ra := .tu [.s 1 47, I6 0]) rfl (aB3.lp1 (aB3.lp1 ((aB0 (nuX (cD0 s) (rX (dY3 s) (fun _ => .bool true))) (aA4 (eB9 s))).hyps ho) (by omega) bI1 aN0 (aB1 (aB9 rfl ⟨0, aW8, aJ8 (l := lf85) (h := lh85) (List.drop (Int.toNat (1)) s) (sp47 [] (List.drop (Int.toNat (1)) s)) (by omega) (0, (0 : Int), (0 : Int), ([] : List LB)) (aI4 ⟨by omega, by omega, by omega, by omega, fun _ => ⟨by rw [bP0]; rfl, trivial⟩, fun h => by omega, fun _ => rfl, by simp, fun _ => by omega, by omega⟩) rfl (by kernel_rfl) (th0 := [(0, .x 4), (1, I6 0), (2, I6 0)]) (sg0 := []) (fun X => thXv (v := St' (List.drop (Int.toNat (1)) s)) rfl rfl (aC2 (show Is _ (I6 0) (.int .i64 ((0 : Int))) from isTo (v := .int .i64 0) (isI _ _) (by first | rfl | (congr 1; omega))) (aC2 (show Is _ (I6 0) (.int .i64 ((0 : Int))) from isTo (v := .int .i64 0) (isI _ _) (by first | rfl | (congr 1; omega))) (aA6)))) (by kernel_rfl) (thx := [(2000001, .x 2000000)]) (thXv (v := rwS (sp47 [] (List.drop (Int.toNat (1)) s))) rfl rfl (aA6)) (by kernel_rfl)⟩) aC1)) (by omega) (aA8 (by omega) (by omega) dT8) bD2 (aB1 (aB9 rfl ⟨0, keyRm, lfOkRm_0 (l := lf91) (h := lh86) (sp47 [] (List.drop (Int.toNat (1)) s)) (rQx s) (rTx s) (rBx s) ((rKx s).2) (by omega) hmem (rKx_n (by assumption) (by simpa using (by assumption : ¬ rBx s = true)) rfl) (by simpa using (by assumption : ¬ rBx s = true)) (0, (0 : Int), ([] : List LB), false) (bL0 ⟨by omega, by omega, rfl, rfl, fun _ => rfl, by simp, by omega⟩) rfl (by kernel_rfl) (th0 := [(0, I6 0), (1, .b false), (2000000, .x 2000001)]) (sg0 := []) (fun X => aC2 (show Is _ (I6 0) (.int .i64 ((0 : Int))) from isTo (v := .int .i64 0) (isI _ _) (by first | rfl | (congr 1; omega))) (aC2 (show Is _ (.b false) (.bool false) from isTo (v := .bool false) (isBb) (by first | rfl | (simp; done))) (thXv (v := rwS (sp47 [] (List.drop (Int.toNat (1)) s))) rfl rfl (aA6)))) (by kernel_rfl) (thx := [(5, .x 0)]) (thXv (v := .bool ((rKx s).2)) rfl rfl (aA6)) (by kernel_rfl)⟩) aC1)) rfl (aC7 (by omega)) fiB6 (fun e => runRcl_4 e ) (args := [St' s]) (by simp only [RelL, Rel]; exact ⟨_, _, rfl, rfl, rfl⟩) w hl fun x hx => ?_
  simp only [Rel, RelL] at hx
  obtain ⟨_, rfl, ⟨_, _, rfl, ⟨rfl, _⟩, ⟨_, _, rfl, rfl, rfl⟩⟩⟩ := hx
  rfl
def dD8 : LK := [(.len (.x 0), .x 2), (.bin .eql (.x 2) (I6 0), .b false), (.idx (.x 0) (I6 0), .x 3), (.bin .neq (.x 3) (.i .u8 (.ofNat 47)), .b false), (.sub (.x 0) (some (I6 1)) none, .x 4), (.eqb (.x 5) (.b true), .b true), (.bin .add (.x 6) (.s 1 47), .x 7)]
noncomputable def dK7 : Tab := aB2 (aB2 ({ tabk with hyp := dD8 }) 20 fi20 [lf85]) 6 fi6 [lf88, lf89]
theorem runRcl_5 (e : Nat) : okA (call dK7 9000 6 [.x 0] ⟨H0 e , 4, 0, 0⟩) (.tu [.x 7, I6 0]) = true := by kernel_rfl
def cC9 (s : LB) : List Value := [St' s, St' ([] : LB), .int .i64 ((s.length : Int)), .int .u8 (bt s 0), St' (List.drop (Int.toNat (1)) s), .bool ((rKx s).2), St' (fl47 (rTx s)), St' ((fl47 (rTx s)) ++ [u8 47])]
def dY2 (s : LB) : List Value := [rwS ([] : List LB), rwS (sp47 [] (List.drop (Int.toNat (1)) s)), rwS (rTx s)]
theorem eB8 (s : LB) : ∀ j, (nuL (cC9 s) j).oneCell' = true := aA2 (l := cC9 s) rfl
theorem pathRcl_5 (s : LB) (b0 : s.length ≤ 9223372036854775807) (p0 : s.length ≤ 400) (h0 : ¬ ((s.length : Int) = 0)) (h1 : bt s 0 = 47) (h2 : ¬ (rQx s = none)) (h3 : rBx s = true) (h4 : (rKx s).2 = true) (w : World) (hl : aA3 w) : CwR 6 #[St' s] w (.tuple #[St' ((fl47 (rTx s)) ++ [u8 47]), .int .i64 0]) := by
  have := aB6 s 0; have := aB7 s 0
  have := aH0 (l := s) (P := 1) (by omega) (by omega)
  have hspl := bV9 (List.drop (Int.toNat (1)) s)
  have hmem : ∀ x ∈ sp47 [] (List.drop (Int.toNat (1)) s), x.length ≤ 400 := fun x hx => by have := dN8 _ x hx; rw [List.length_drop] at this; omega
  have hrt := dP2 s
  have ho : ∀ k r, (k, r) ∈ dD8 → HOk (cx (nuX (cC9 s) (rX (dY2 s) (fun _ => .bool true))) (aA4 (eB8 s)) 1 aA3 aA0) k r := by
    unfold dD8
    exact hc (lnV rfl rfl (by omega)) <|hc (eqcF rfl (by omega)) <|hc (ixC rfl rfl (by omega)) <|hc (necF rfl (by omega)) <|hc (drC rfl rfl (by omega)) <|hc (kEqT1 (isX rfl) (by assumption)) <|hc (kCat (isX rfl) (isSx (l := [u8 47]) 1 47 rfl) (denX rfl) (by first | rfl | (simp; done)) (by first | omega | (simp only [List.length_append, List.length_cons, List.length_nil]; omega))) <|hnil
  refine runC (tb := dK7) (ra := .tu [.x 7, I6 0]) rfl (aB3.lp1 (aB3.lp1 ((aB0 (nuX (cC9 s) (rX (dY2 s) (fun _ => .bool true))) (aA4 (eB8 s))).hyps ho) (by omega) bI1 aN0 (aB1 (aB9 rfl ⟨0, aW8, aJ8 (l := lf85) (h := lh85) (List.drop (Int.toNat (1)) s) (sp47 [] (List.drop (Int.toNat (1)) s)) (by omega) (0, (0 : Int), (0 : Int), ([] : List LB)) (aI4 ⟨by omega, by omega, by omega, by omega, fun _ => ⟨by rw [bP0]; rfl, trivial⟩, fun h => by omega, fun _ => rfl, by simp, fun _ => by omega, by omega⟩) rfl (by kernel_rfl) (th0 := [(0, .x 4), (1, I6 0), (2, I6 0)]) (sg0 := []) (fun X => thXv (v := St' (List.drop (Int.toNat (1)) s)) rfl rfl (aC2 (show Is _ (I6 0) (.int .i64 ((0 : Int))) from isTo (v := .int .i64 0) (isI _ _) (by first | rfl | (congr 1; omega))) (aC2 (show Is _ (I6 0) (.int .i64 ((0 : Int))) from isTo (v := .int .i64 0) (isI _ _) (by first | rfl | (congr 1; omega))) (aA6)))) (by kernel_rfl) (thx := [(2000001, .x 2000000)]) (thXv (v := rwS (sp47 [] (List.drop (Int.toNat (1)) s))) rfl rfl (aA6)) (by kernel_rfl)⟩) aC1)) (by omega) (aA8 (by omega) (by omega) dT8) bD2 (aB1 (aB9 rfl ⟨0, keyRm, dR3 (l := lf88) (h := lh88) (sp47 [] (List.drop (Int.toNat (1)) s)) (rQx s) (rTx s) (rBx s) ((rKx s).2) (by omega) hmem (aQ8 (by assumption)) (by assumption) (0, (0 : Int), ([] : List LB), false) (bL0 ⟨by omega, by omega, rfl, rfl, fun _ => rfl, by simp, by omega⟩) rfl (by kernel_rfl) (th0 := [(0, I6 0), (1, .b false), (2000000, .x 2000001)]) (sg0 := []) (fun X => aC2 (show Is _ (I6 0) (.int .i64 ((0 : Int))) from isTo (v := .int .i64 0) (isI _ _) (by first | rfl | (congr 1; omega))) (aC2 (show Is _ (.b false) (.bool false) from isTo (v := .bool false) (isBb) (by first | rfl | (simp; done))) (thXv (v := rwS (sp47 [] (List.drop (Int.toNat (1)) s))) rfl rfl (aA6)))) (by kernel_rfl) (thx := [(5, .x 0), (2000002, .x 2000000)]) (thXv (v := .bool ((rKx s).2)) rfl rfl (thXv (v := rwS (rTx s)) rfl rfl (aA6))) (by kernel_rfl)⟩) (aB1 (aB9 rfl ⟨1, keyRj, dR4 (l := lf89) (h := lh89) (rTx s) (by omega) (by omega) (0, (0 : Int), ([] : LB)) (mkIRj ⟨by omega, by omega, rfl, by omega⟩) rfl (by kernel_rfl) (th0 := [(0, .s 0 0), (1, I6 0), (2000000, .x 2000002)]) (sg0 := []) (fun X => aC2 (show Is _ (.s 0 0) (St' ([] : LB)) from isTo (v := St' ([] : LB)) (isSx (l := ([] : LB)) 0 0 rfl) (by first | rfl | (simp; done))) (aC2 (show Is _ (I6 0) (.int .i64 ((0 : Int))) from isTo (v := .int .i64 0) (isI _ _) (by first | rfl | (congr 1; omega))) (thXv (v := rwS (rTx s)) rfl rfl (aA6)))) (by kernel_rfl) (thx := [(6, .x 0)]) (thXv (v := St' (fl47 (rTx s))) rfl rfl (aA6)) (by kernel_rfl)⟩) aC1))) rfl (aC7 (by omega)) fiB6 (fun e => runRcl_5 e ) (args := [St' s]) (by simp only [RelL, Rel]; exact ⟨_, _, rfl, rfl, rfl⟩) w hl fun x hx => ?_
  simp only [Rel, RelL] at hx
  obtain ⟨_, rfl, ⟨_, _, rfl, rfl, ⟨_, _, rfl, rfl, rfl⟩⟩⟩ := hx
  rfl
theorem callsRcl (s : LB) (b0 : s.length ≤ 9223372036854775807) (p0 : s.length ≤ 400) (w : World) (hl : aA3 w) : CwR 6 #[St' s] w (if aB4 unS s = none then .tuple #[St' [], .int .i64 10] else .tuple #[St' ((aB4 unS s).getD []), .int .i64 0]) := by
  by_cases h0 : (s.length : Int) = 0
  · rw [show (if aB4 unS s = none then .tuple #[St' [], .int .i64 10] else .tuple #[St' ((aB4 unS s).getD []), .int .i64 0] : Value) = (.tuple #[St' ([] : LB), .int .i64 10] : Value) from by rw [if_pos (rc_0 (by omega))]]
    exact pathRcl_0 s b0 p0 h0 w hl
  · by_cases h1 : bt s 0 = 47
    · by_cases h2 : rQx s = none
      · rw [show (if aB4 unS s = none then .tuple #[St' [], .int .i64 10] else .tuple #[St' ((aB4 unS s).getD []), .int .i64 0] : Value) = (.tuple #[St' ([] : LB), .int .i64 10] : Value) from by rw [if_pos (rc_n (by omega) (by assumption) (by assumption))]]
        exact pathRcl_2 s b0 p0 h0 h1 h2 w hl
      · by_cases h3 : rBx s = true
        · by_cases h4 : (rKx s).2 = true
          · rw [show (if aB4 unS s = none then .tuple #[St' [], .int .i64 10] else .tuple #[St' ((aB4 unS s).getD []), .int .i64 0] : Value) = (.tuple #[St' ((fl47 (rTx s)) ++ [u8 47]), .int .i64 0] : Value) from by have hc := rc_y (by omega) (by assumption) (by assumption) (by assumption); rw [if_neg (by rw [hc]; simp), hc, Option.getD_some, ob_t]]
            exact pathRcl_5 s b0 p0 h0 h1 h2 h3 h4 w hl
          · rw [show (if aB4 unS s = none then .tuple #[St' [], .int .i64 10] else .tuple #[St' ((aB4 unS s).getD []), .int .i64 0] : Value) = (.tuple #[St' (fl47 (rTx s)), .int .i64 0] : Value) from by have hc := rc_y (by omega) (by assumption) (by assumption) (by simpa using (by assumption : ¬ (rKx s).2 = true)); rw [if_neg (by rw [hc]; simp), hc, Option.getD_some, ob_f (by have h1 := rKx_f (s := s) (by assumption) (by simpa using (by assumption : ¬ (rKx s).2 = true)); have h2 := aZ3 (rTx s); omega)]]
            exact pathRcl_3 s b0 p0 h0 h1 h2 h3 h4 w hl
        · rw [show (if aB4 unS s = none then .tuple #[St' [], .int .i64 10] else .tuple #[St' ((aB4 unS s).getD []), .int .i64 0] : Value) = (.tuple #[St' [u8 47], .int .i64 0] : Value) from by have hc := rc_y (by omega) (by assumption) (by assumption) (rKx_t (by assumption) (by simpa using (by assumption : ¬ rBx s = true))); rw [if_neg (by rw [hc]; simp), hc, Option.getD_some, eB3 (by assumption) (by simpa using (by assumption : ¬ rBx s = true))]; rfl]
          exact pathRcl_4 s b0 p0 h0 h1 h2 h3 w hl
    · rw [show (if aB4 unS s = none then .tuple #[St' [], .int .i64 10] else .tuple #[St' ((aB4 unS s).getD []), .int .i64 0] : Value) = (.tuple #[St' ([] : LB), .int .i64 10] : Value) from by rw [if_pos (rc_h (by omega) (by assumption))]]
      exact pathRcl_1 s b0 p0 h0 h1 w hl
theorem dS7 {x0 r : AV} {s : LB} (i0 : Is (cx nu one 1 aA3 aA0) x0 (St' s)) (hr : Den (cx nu one 1 aA3 aA0) r (if aB4 unS s = none then .tuple #[St' [], .int .i64 10] else .tuple #[St' ((aB4 unS s).getD []), .int .i64 0])) (b0 : s.length ≤ 9223372036854775807) (p0 : s.length ≤ 400) : HOk (cx nu one 1 aA3 aA0) (.call 6 [x0]) r := by
  intro ρ args ha w hl _
  simp only [RelL] at ha
  obtain ⟨v0, t0, rfl, a0, rfl⟩ := ha
  have e0 := i0 ρ _ a0; subst e0
  exact (callsRcl s b0 p0 w hl).mono fun e w' he => ⟨_, he.1, hr ρ, he.2⟩
end Go.Proofs.YtbipkiiaajklhaaDoor.pathTells
