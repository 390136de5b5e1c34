/- A part of the proof: what an interpreter answers on partly known states is what the program answers. No condition. -/
import Derived.Test.YtjkdkpdjmapieaaDoorE1FieldTellsO
set_option maxRecDepth 100000
set_option linter.unusedVariables false
set_option linter.unusedSimpArgs false
set_option maxHeartbeats 4000000
namespace Go.Proofs.YtjkdkpdjmapieaaDoor.fieldTells
open Go Go.AX Go.Proofs Go.Proofs.YtjkdkpdjmapieaaDoor
variable {nu : Nat → Value} {one : ∀ i, i < 1000000 → (nu i).oneCell' = true} {E' : Cx} {x' : Ex} {e' : LA} {h' : LE}
def dW : Nat := 115792089237316195423570985008687907853099843482180094807725896704192950567424
def cj (M : Nat) (b : UInt8) : Bool := tb8 M (b.toNat : Int)
def cA (s : LB) : Bool := s.all (cj dW)
theorem al_at {M : Nat} {s : LB} {i : Int} (h0 : 0 ≤ i) (h : i < s.length) : (s.drop i.toNat).all (cj M) = (tb8 M (bt s i.toNat) && (s.drop (Int.toNat (i + 1))).all (cj M)) := by
  have e : s.drop i.toNat = u8 (bt s i.toNat) :: s.drop (i.toNat + 1) := by
    rw [List.drop_eq_getElem_cons (by omega), jP, List.getD_eq_getElem?_getD, List.getElem?_eq_getElem (by omega), Option.getD_some]
  rw [e, List.all_cons, cj, l7 (bF _ _) (bG _ _), show (i + 1).toNat = i.toNat + 1 by omega]
theorem BK {M : Nat} {s : LB} {i : Int} {A : Bool} (h0 : 0 ≤ i) (h : i < s.length) (hb : tb8 M (bt s i.toNat) = true) (hA : (s.drop i.toNat).all (cj M) = A) : (s.drop (Int.toNat (i + 1))).all (cj M) = A := by
  rw [al_at h0 h, hb, Bool.true_and] at hA; exact hA
theorem BL {M : Nat} {s : LB} {i : Int} {A : Bool} (h0 : 0 ≤ i) (h : i < s.length) (hb : tb8 M (bt s i.toNat) = false) (hA : (s.drop i.toNat).all (cj M) = A) : A = false := by
  rw [al_at h0 h, hb, Bool.false_and] at hA; exact hA.symm
theorem al_end {M : Nat} {s : LB} {i : Int} {A : Bool} (h : (s.length : Int) ≤ i) (hA : (s.drop i.toNat).all (cj M) = A) : A = true := by
  rw [List.drop_eq_nil_of_le (by omega)] at hA; exact hA.symm
theorem vs_c {c : Int} (h0 : 0 ≤ c) (h1 : c ≤ 255) : tb8 dW c = decide (c = 9 ∨ (32 ≤ c ∧ c ≠ 127)) := by
  obtain ⟨n, rfl⟩ := Int.eq_ofNat_of_zero_le h0
  have h : ∀ m : Fin 256, tb8 dW (m.val : Int) = decide ((m.val : Int) = 9 ∨ (32 ≤ (m.val : Int) ∧ (m.val : Int) ≠ 127)) := by decide +kernel
  exact h ⟨n, by omega⟩
theorem vR {c : Int} (h0 : 0 ≤ c) (h1 : c ≤ 255) (h : c = 9 ∨ (32 ≤ c ∧ c ≠ 127)) : tb8 dW c = true := by rw [vs_c h0 h1]; exact decide_eq_true h
theorem vS {c : Int} (h0 : 0 ≤ c) (h1 : c ≤ 255) (h : ¬ (c = 9 ∨ (32 ≤ c ∧ c ≠ 127))) : tb8 dW c = false := by rw [vs_c h0 h1]; exact decide_eq_false h
noncomputable def A0 : Code := cS (Tryd.f39.body.getD .skip) 0
theorem keyVi : cU (br (Tryd.f39.body.getD .skip)) 2 0 0 = true := by kernel_rfl
def kr : List Nat := []
def Ah : LA := [(0, .x 0), (2, .b false), (7, .x 1), (5, .x 0), (6, .x 2)]
def zd : LE := []
def wM (s : LB) (A : Bool) (i : Int) : List Value := [St' s, .int .i64 (i), .int .i64 ((s.length : Int)), .int .u8 (bt s i.toNat), .int .i64 (i + 1), .int .u8 (bt s i.toNat), .int .i64 (i + 1), .int .u8 (bt s i.toNat), .int .u8 (bt s i.toNat)]
def roVi_0 (s : LB) (A : Bool) (i : Int) : List Value := []
def pL (st : Nat × Int) : LA := Ah
def ze (st : Nat × Int) : LE := zd
def nuVi (s : LB) (A : Bool) (st : Nat × Int) : List Value := wM s A (st.2)
def roVi (s : LB) (A : Bool) (st : Nat × Int) : List Value := roVi_0 s A (st.2)
theorem onVi (s : LB) (A : Bool) (st : Nat × Int) : ∀ j, (ai (nuVi s A st) j).oneCell' = true := by
  intro j
  unfold nuVi
  exact aQ (l := wM s A (st.2)) rfl j
theorem ebVi (st : Nat × Int) : (cG (pL st) && cO kr) = true := by
  unfold pL
  rfl
noncomputable def DVi (s : LB) (A : Bool) (st : Nat × Int) (X : Nat → Value) : Cx := cx (af (nuVi s A st) (rX (roVi s A st) X)) (ah (onVi s A st)) 1 aC aG
abbrev CjVi (s : LB) (A : Bool) (tag : Nat) (i : Int) : Prop := (0 ≤ i) ∧ (i ≤ (s.length : Int)) ∧ ((s.drop i.toNat).all (cj dW) = A) ∧ (tag < 1)
def jJ (s : LB) (A : Bool) (st : Nat × Int) : Prop := CjVi s A st.1 (st.2)
theorem yA {s : LB} {A : Bool} {tag : Nat} {i : Int} (h : CjVi s A tag i) : jJ s A (tag, i) := h
theorem vW (s : LB) (A : Bool) (tag : Nat) (i : Int) (h : jJ s A (tag, i)) : CjVi s A tag i := h
def rS (s : LB) (A : Bool) (st : Nat × Int) : Nat := (s.length - (st.2).toNat)
abbrev qE (s : LB) (A : Bool) (E' : Cx) (ex' : Ex) (epx' : LA) (hpx' : LE) (st : Nat × Int) (X : Nat → Value) : Prop := a6 E' A0 kr 23 ex' 4 4 4 4 pL ze epx' hpx' (jJ s A) (rS s A) (DVi s A) st X
noncomputable abbrev Bq (s : LB) (A : Bool) (i : Int) (X : Nat → Value) : Cx := cx (af (wM s A i) (rX (roVi_0 s A i) X)) (ah (aQ (l := wM s A i) rfl)) 1 aC aG
noncomputable abbrev nN (h : LK) (x : Ex) (th : LA) (sg : List (Nat × Nat)) (m : Nat) (ep : LA) (hp : LE) : Bool := bn (code (aV h) 900 [] A0 (bc (bf Ah kr) 23) ⟨ay zd .leaf, 4, 0, 0⟩) x kr 23 4 th sg 4 m ep hp
theorem stVi_0 {s : LB} {A : Bool} {i : Int} {X : Nat → Value} {h : LK} (y : Nat × Int) {th : LA} {sg : List (Nat × Nat)} (ho : ∀ a' r', (a', r') ∈ h → aL (Bq s A i X) a' r') (hy : jJ s A y) (lt : rS s A y < rS s A (0, i)) (ht : aw (Bq s A i X) (DVi s A y X) th) (run : nN h .normal th sg 4 (pL y) (ze y) = true) : qE s A E' x' e' h' (0, i) X :=
  a6.next (tb := aV h) (L := []) (f := 900) y ((ae _ _).hyps ho) (bA.nil _) rfl hy lt ht run
theorem Dp {s : LB} {A : Bool} {i : Int} {X : Nat → Value} {h : LK} {th : LA} {sg : List (Nat × Nat)} (hne : cI x' .normal = false) (ho : ∀ a' r', (a', r') ∈ h → aL (Bq s A i X) a' r') (ht : aw (Bq s A i X) E' th) (run : nN h x' th sg 4 e' h' = true) : qE s A E' x' e' h' (0, i) X :=
  a6.leave (tb := aV h) (L := []) (f := 900) ((ae _ _).hyps ho) (bA.nil _) rfl hne ht run
def Ej : LK := [(.bin .lss (.x 1) (.x 2), .b false)]
theorem runVi_p0 : nN Ej (.exit 0) [(0, .x 0)] [] 4 [(0, .x 0), (2, .b false)] [] = true := by kernel_rfl
def Ei : LK := [(.bin .lss (.x 1) (.x 2), .b true), (.idx (.x 0) (.x 1), .x 3), (.bin .eql (.x 3) (.i .u8 (.ofNat 9)), .b false), (.bin .lss (.x 3) (.i .u8 (.ofNat 32)), .b false), (.bin .eql (.x 3) (.i .u8 (.ofNat 127)), .b false), (.bin .add (.x 1) (I6 1), .x 4)]
theorem runVi_p1 : nN Ei .normal [(0, .x 0), (1, .x 4), (2, .x 2)] [] 4 Ah zd = true := by kernel_rfl
def Eh : LK := [(.bin .lss (.x 1) (.x 2), .b true), (.idx (.x 0) (.x 1), .x 5), (.bin .eql (.x 5) (.i .u8 (.ofNat 9)), .b true), (.bin .add (.x 1) (I6 1), .x 6)]
theorem runVi_p2 : nN Eh .normal [(0, .x 0), (1, .x 6), (2, .x 2)] [] 4 Ah zd = true := by kernel_rfl
def Eg : LK := [(.bin .lss (.x 1) (.x 2), .b true), (.idx (.x 0) (.x 1), .x 7), (.bin .eql (.x 7) (.i .u8 (.ofNat 9)), .b false), (.bin .lss (.x 7) (.i .u8 (.ofNat 32)), .b true)]
theorem runVi_p3 : nN Eg .ret [] [] 4 [(2, .b false)] [] = true := by kernel_rfl
def Ef : LK := [(.bin .lss (.x 1) (.x 2), .b true), (.idx (.x 0) (.x 1), .x 8), (.bin .eql (.x 8) (.i .u8 (.ofNat 9)), .b false), (.bin .lss (.x 8) (.i .u8 (.ofNat 32)), .b false), (.bin .eql (.x 8) (.i .u8 (.ofNat 127)), .b true)]
theorem runVi_p4 : nN Ef .ret [] [] 4 [(2, .b false)] [] = true := by kernel_rfl
section
set_option linter.unusedSectionVars false
variable {s : LB} {A : Bool} (c0 : s.length ≤ 140737488355328) {i : Int} {X : Nat → Value}
include c0
theorem aZ1 (hI : jJ s A (0, i)) (h0 : i < (s.length : Int)) (h1 : ¬ (bt s i.toNat = 9)) (h2 : ¬ (bt s i.toNat < 32)) (h3 : ¬ (bt s i.toNat = 127)) : qE s A E' x' e' h' (0, i) X := by
  obtain ⟨i0, i1, i2, it⟩ := vW s A 0 i hI
  have := bF s i.toNat; have := bG s i.toNat
  refine stVi_0 (h := Ei) (0, (i + 1)) ?_ (yA ⟨by omega, by omega, BK (by omega) (by omega) (vR (bF _ _) (bG _ _) (by omega)) i2, by omega⟩) (by show s.length - (i + 1).toNat < s.length - i.toNat; omega) (aB (v := St' s) rfl rfl (bT (b := ((i + 1))) rfl rfl (by omega) (aB (v := .int .i64 ((s.length : Int))) rfl rfl (aI)))) runVi_p1
  unfold Ei
  exact hc (ba rfl rfl (by omega)) <|hc (cm rfl rfl rfl (by omega)) <|hc (ek rfl (by omega)) <|hc (ei rfl (by omega)) <|hc (ek rfl (by omega)) <|hc (bO rfl rfl (by omega)) <|hnil
theorem aZ0 (hI : jJ s A (0, i)) (h0 : i < (s.length : Int)) (h1 : bt s i.toNat = 9) : qE s A E' x' e' h' (0, i) X := by
  obtain ⟨i0, i1, i2, it⟩ := vW s A 0 i hI
  have := bF s i.toNat; have := bG s i.toNat
  refine stVi_0 (h := Eh) (0, (i + 1)) ?_ (yA ⟨by omega, by omega, BK (by omega) (by omega) (vR (bF _ _) (bG _ _) (by omega)) i2, by omega⟩) (by show s.length - (i + 1).toNat < s.length - i.toNat; omega) (aB (v := St' s) rfl rfl (bT (b := ((i + 1))) rfl rfl (by omega) (aB (v := .int .i64 ((s.length : Int))) rfl rfl (aI)))) runVi_p2
  unfold Eh
  exact hc (ba rfl rfl (by omega)) <|hc (cm rfl rfl rfl (by omega)) <|hc (gZ rfl (by omega)) <|hc (bO rfl rfl (by omega)) <|hnil
end
def bB9 (s : LB) (A : Bool) : List Value := [St' s]
def roEVi_0 (s : LB) (A : Bool) : List Value := []
noncomputable def EVi_0 (s : LB) (A : Bool) : Cx := cx (af (bB9 s A) (rX (roEVi_0 s A) (fun _ => .bool true))) (ah (aQ (l := bB9 s A) rfl)) 1 aC aG
theorem roundsVi_0 (s : LB) (A : Bool) (c0 : s.length ≤ 140737488355328) (x0 : A = true) (st : Nat × Int) (X : Nat → Value) (hI : jJ s A st) : qE s A (EVi_0 s A) (.exit 0) [(0, .x 0), (2, .b false)] [] st X := by
  obtain ⟨tag, i⟩ := st
  have hI0 := hI
  obtain ⟨i0, i1, i2, it⟩ := vW s A tag i hI
  obtain rfl : tag = 0 := by omega
  skip
  by_cases h0 : i < (s.length : Int)
  · by_cases h1 : bt s i.toNat = 9
    · exact aZ0 c0 hI0 h0 h1
    · by_cases h2 : bt s i.toNat < 32
      · exfalso; have e := BL (by omega) (by omega) (vS (bF _ _) (bG _ _) (by omega)) i2; rw [e] at x0; exact absurd x0 (by simp)
      · by_cases h3 : bt s i.toNat = 127
        · exfalso; have e := BL (by omega) (by omega) (vS (bF _ _) (bG _ _) (by omega)) i2; rw [e] at x0; exact absurd x0 (by simp)
        · exact aZ1 c0 hI0 h0 h1 h2 h3
  · skip
    refine Dp (h := Ej) rfl ?_ (aB (v := St' s) rfl rfl (aI)) runVi_p0
    unfold Ej
    exact hc (dB rfl rfl (by omega)) <|hnil
theorem lfOkVi_0 (s : LB) (A : Bool) (c0 : s.length ≤ 140737488355328) (x0 : A = true) : ax (cx nu one 1 aC aG) (EVi_0 s A) A0 kr 23 (.exit 0) 4 4 4 4 pL ze [(0, .x 0), (2, .b false)] [] (jJ s A) (DVi s A) :=
  cF (rS s A) (fun _ _ => rfl) (fun _ _ => rfl) (fun _ _ => rfl) (fun st X t ht => cE.trans (cD ((by decide : ∀ t, t ∈ kr → t < 1000000) t ht))) rfl rfl rfl ebVi rfl rfl (roundsVi_0 s A c0 x0)
def bB8 (s : LB) (A : Bool) : List Value := []
def roEVi_1 (s : LB) (A : Bool) : List Value := []
noncomputable def EVi_1 (s : LB) (A : Bool) : Cx := cx (af (bB8 s A) (rX (roEVi_1 s A) (fun _ => .bool true))) (ah (aQ (l := bB8 s A) rfl)) 1 aC aG
theorem roundsVi_1 (s : LB) (A : Bool) (c0 : s.length ≤ 140737488355328) (x0 : A = false) (st : Nat × Int) (X : Nat → Value) (hI : jJ s A st) : qE s A (EVi_1 s A) .ret [(2, .b false)] [] st X := by
  obtain ⟨tag, i⟩ := st
  have hI0 := hI
  obtain ⟨i0, i1, i2, it⟩ := vW s A tag i hI
  obtain rfl : tag = 0 := by omega
  skip
  by_cases h0 : i < (s.length : Int)
  · by_cases h1 : bt s i.toNat = 9
    · exact aZ0 c0 hI0 h0 h1
    · by_cases h2 : bt s i.toNat < 32
      · skip
        have := bF s i.toNat; have := bG s i.toNat
        refine Dp (h := Eg) rfl ?_ (aI) runVi_p3
        unfold Eg
        exact hc (ba rfl rfl (by omega)) <|hc (cm rfl rfl rfl (by omega)) <|hc (ek rfl (by omega)) <|hc (jb rfl (by omega)) <|hnil
      · by_cases h3 : bt s i.toNat = 127
        · skip
          have := bF s i.toNat; have := bG s i.toNat
          refine Dp (h := Ef) rfl ?_ (aI) runVi_p4
          unfold Ef
          exact hc (ba rfl rfl (by omega)) <|hc (cm rfl rfl rfl (by omega)) <|hc (ek rfl (by omega)) <|hc (ei rfl (by omega)) <|hc (gZ rfl (by omega)) <|hnil
        · exact aZ1 c0 hI0 h0 h1 h2 h3
  · exfalso; have e := al_end (by omega) i2; rw [e] at x0; exact absurd x0 (by simp)
theorem lfOkVi_1 (s : LB) (A : Bool) (c0 : s.length ≤ 140737488355328) (x0 : A = false) : ax (cx nu one 1 aC aG) (EVi_1 s A) A0 kr 23 .ret 4 4 4 4 pL ze [(2, .b false)] [] (jJ s A) (DVi s A) :=
  cF (rS s A) (fun _ _ => rfl) (fun _ _ => rfl) (fun _ _ => rfl) (fun st X t ht => cE.trans (cD ((by decide : ∀ t, t ∈ kr → t < 1000000) t ht))) rfl rfl rfl ebVi rfl rfl (roundsVi_1 s A c0 x0)
noncomputable def tT : FI := (bB.fn.get 39).getD default
theorem bF4 : bB.fn.get 39 = some tT := by kernel_rfl
theorem Hy : tT.body = some (Tryd.f39.body.getD .skip) := by kernel_rfl
theorem fiB39 : tT.body.isSome = true := by rw [Hy]; rfl
def Ee : LK := [(.len (.x 0), .x 1)]
def lh1 : LH := ⟨4, 4, 4, [], []⟩
def lf1 : LF := ⟨2, 23, [(0, .x 0), (2, .b false), (7, I6 0), (5, .x 0), (6, .x 1)], [], (.exit 0), [(0, .x 2), (2, .b false)], some lh1⟩
noncomputable def aA4 : Tab := bI ({ bB with hyp := Ee }) 39 tT [lf1]
theorem runVisible_0 (e : Nat) : okA (call aA4 9000 39 [.x 0] ⟨H0 e , 4, 0, 0⟩) (.b true) = true := by kernel_rfl
def wL (s : LB) : List Value := [St' s, .int .i64 ((s.length : Int)), St' s]
theorem pathVisible_0 (s : LB) (b0 : s.length ≤ 9223372036854775807) (p0 : s.length ≤ 140737488355328) (h0 : s.all (cj dW) = true) (w : World) (hl : aC w) : bN 39 #[St' s] w (.bool true) := by
  have ho : ∀ k r, (k, r) ∈ Ee → aL (cx (ai (wL s)) (fun j _ => aQ (l := wL s) rfl j) 1 aC aG) k r := by
    unfold Ee
    exact hc (au rfl rfl (by omega)) <|hnil
  refine bp (tb := aA4) (ra := .b true) rfl (ar.bS ((ae (ai (wL s)) (fun j _ => aQ (l := wL s) rfl j)).hyps ho) (by omega) bF4 Hy (bH (bR rfl ⟨0, keyVi, ax.use (l := lf1) (h := lh1) (lfOkVi_0 s (s.all (cj dW)) (by omega) (by assumption)) (0, (0 : Int)) (yA ⟨by omega, by omega, rfl, by omega⟩) rfl (by kernel_rfl) (ao := [(0, .x 0), (1, I6 0), (2, .x 1)]) (aj := []) (fun X => aB (v := St' s) rfl rfl (bK (show Is _ (I6 0) (.int .i64 ((0 : Int))) from bL (v := .int .i64 0) (bP _ _) (by first | rfl | (congr 1; omega))) (aB (v := .int .i64 ((s.length : Int))) rfl rfl (aI)))) (by kernel_rfl) (ak := [(2, .x 0)]) (aB (v := St' s) rfl rfl (aI)) (by kernel_rfl)⟩) bE)) rfl (cP (by omega)) fiB39 (fun e => runVisible_0 e ) (args := [St' s]) (by simp only [aF, Rel]; exact ⟨_, _, rfl, rfl, rfl⟩) w hl fun x hx => ?_
  simp only [Rel, aF] at hx
  exact hx
def Ed : LK := [(.len (.x 0), .x 1)]
def lf3 : LF := ⟨2, 23, [(0, .x 0), (2, .b false), (7, I6 0), (5, .x 0), (6, .x 1)], [], .ret, [(2, .b false)], some lh1⟩
noncomputable def aA3 : Tab := bI ({ bB with hyp := Ed }) 39 tT [lf3]
theorem runVisible_1 (e : Nat) : okA (call aA3 9000 39 [.x 0] ⟨H0 e , 4, 0, 0⟩) (.b false) = true := by kernel_rfl
def wK (s : LB) : List Value := [St' s, .int .i64 ((s.length : Int))]
theorem pathVisible_1 (s : LB) (b0 : s.length ≤ 9223372036854775807) (p0 : s.length ≤ 140737488355328) (h0 : ¬ (s.all (cj dW) = true)) (w : World) (hl : aC w) : bN 39 #[St' s] w (.bool false) := by
  have ho : ∀ k r, (k, r) ∈ Ed → aL (cx (ai (wK s)) (fun j _ => aQ (l := wK s) rfl j) 1 aC aG) k r := by
    unfold Ed
    exact hc (au rfl rfl (by omega)) <|hnil
  refine bp (tb := aA3) (ra := .b false) rfl (ar.bS ((ae (ai (wK s)) (fun j _ => aQ (l := wK s) rfl j)).hyps ho) (by omega) bF4 Hy (bH (bR rfl ⟨0, keyVi, ax.use (l := lf3) (h := lh1) (lfOkVi_1 s (s.all (cj dW)) (by omega) (by simpa using (by assumption : ¬ (s.all (cj dW) = true)))) (0, (0 : Int)) (yA ⟨by omega, by omega, rfl, by omega⟩) rfl (by kernel_rfl) (ao := [(0, .x 0), (1, I6 0), (2, .x 1)]) (aj := []) (fun X => aB (v := St' s) rfl rfl (bK (show Is _ (I6 0) (.int .i64 ((0 : Int))) from bL (v := .int .i64 0) (bP _ _) (by first | rfl | (congr 1; omega))) (aB (v := .int .i64 ((s.length : Int))) rfl rfl (aI)))) (by kernel_rfl) (ak := []) (aI) (by kernel_rfl)⟩) bE)) rfl (cP (by omega)) fiB39 (fun e => runVisible_1 e ) (args := [St' s]) (by simp only [aF, Rel]; exact ⟨_, _, rfl, rfl, rfl⟩) w hl fun x hx => ?_
  simp only [Rel, aF] at hx
  exact hx
theorem callsVisible (s : LB) (b0 : s.length ≤ 9223372036854775807) (p0 : s.length ≤ 140737488355328) (w : World) (hl : aC w) : bN 39 #[St' s] w (.bool (cA s)) := by
  by_cases h0 : s.all (cj dW) = true
  · rw [show (.bool (cA s) : Value) = (.bool true : Value) from by unfold cA; first | (simp [*]; done)]
    exact pathVisible_0 s b0 p0 h0 w hl
  · rw [show (.bool (cA s) : Value) = (.bool false : Value) from by unfold cA; first | (simp [*]; done)]
    exact pathVisible_1 s b0 p0 h0 w hl
theorem jq {x0 r : AV} {s : LB} (i0 : Is (cx nu one 1 aC aG) x0 (St' s)) (hr : Den (cx nu one 1 aC aG) r (.bool (cA s))) (b0 : s.length ≤ 9223372036854775807 := by omega) (p0 : s.length ≤ 140737488355328 := by omega) : aL (cx nu one 1 aC aG) (.call 39 [x0]) r := by
  intro ρ args ha w hl _
  simp only [aF] at ha
  obtain ⟨v0, t0, rfl, a0, rfl⟩ := ha
  have e0 := i0 ρ _ a0; subst e0
  exact (callsVisible s b0 p0 w hl).mono fun e w' he => ⟨_, he.1, hr ρ, he.2⟩
noncomputable def A1 : Code := cS (Tryd.f30.body.getD .skip) 0
theorem keyPl : cU (br (Tryd.f30.body.getD .skip)) 2 0 0 = true := by kernel_rfl
def kt : List Nat := []
def Am : LA := [(0, .x 0), (2, .b false), (3, .x 1)]
def zj : LE := []
def wi (s : LB) (A : Bool) (i : Int) : List Value := [St' s, .int .i64 (i), .int .i64 ((s.length : Int)), .int .i64 ((s.length : Int)), .int .u8 (bt s i.toNat), .int .i64 (i + 1), .int .i64 ((s.length : Int)), .int .u8 (bt s i.toNat), .int .i64 (i + 1), .int .i64 ((s.length : Int)), .int .u8 (bt s i.toNat), .int .i64 ((s.length : Int)), .int .u8 (bt s i.toNat)]
def roPl_0 (s : LB) (A : Bool) (i : Int) : List Value := []
def pP (st : Nat × Int) : LA := Am
def zk (st : Nat × Int) : LE := zj
def nuPl (s : LB) (A : Bool) (st : Nat × Int) : List Value := wi s A (st.2)
def roPl (s : LB) (A : Bool) (st : Nat × Int) : List Value := roPl_0 s A (st.2)
theorem onPl (s : LB) (A : Bool) (st : Nat × Int) : ∀ j, (ai (nuPl s A st) j).oneCell' = true := by
  intro j
  unfold nuPl
  exact aQ (l := wi s A (st.2)) rfl j
theorem ebPl (st : Nat × Int) : (cG (pP st) && cO kt) = true := by
  unfold pP
  rfl
noncomputable def DPl (s : LB) (A : Bool) (st : Nat × Int) (X : Nat → Value) : Cx := cx (af (nuPl s A st) (rX (roPl s A st) X)) (ah (onPl s A st)) 1 aC aG
abbrev CjPl (s : LB) (A : Bool) (tag : Nat) (i : Int) : Prop := (0 ≤ i) ∧ (i ≤ (s.length : Int)) ∧ ((s.drop i.toNat).all (cj dW) = A) ∧ (tag < 1)
def jK (s : LB) (A : Bool) (st : Nat × Int) : Prop := CjPl s A st.1 (st.2)
theorem yC {s : LB} {A : Bool} {tag : Nat} {i : Int} (h : CjPl s A tag i) : jK s A (tag, i) := h
theorem vX (s : LB) (A : Bool) (tag : Nat) (i : Int) (h : jK s A (tag, i)) : CjPl s A tag i := h
def rT (s : LB) (A : Bool) (st : Nat × Int) : Nat := (s.length - (st.2).toNat)
abbrev qF (s : LB) (A : Bool) (E' : Cx) (ex' : Ex) (epx' : LA) (hpx' : LE) (st : Nat × Int) (X : Nat → Value) : Prop := a6 E' A1 kt 26 ex' 4 4 4 4 pP zk epx' hpx' (jK s A) (rT s A) (DPl s A) st X
noncomputable abbrev B0 (s : LB) (A : Bool) (i : Int) (X : Nat → Value) : Cx := cx (af (wi s A i) (rX (roPl_0 s A i) X)) (ah (aQ (l := wi s A i) rfl)) 1 aC aG
noncomputable abbrev nO (h : LK) (x : Ex) (th : LA) (sg : List (Nat × Nat)) (m : Nat) (ep : LA) (hp : LE) : Bool := bn (code (aV h) 900 [] A1 (bc (bf Am kt) 26) ⟨ay zj .leaf, 4, 0, 0⟩) x kt 26 4 th sg 4 m ep hp
theorem stPl_0 {s : LB} {A : Bool} {i : Int} {X : Nat → Value} {h : LK} (y : Nat × Int) {th : LA} {sg : List (Nat × Nat)} (ho : ∀ a' r', (a', r') ∈ h → aL (B0 s A i X) a' r') (hy : jK s A y) (lt : rT s A y < rT s A (0, i)) (ht : aw (B0 s A i X) (DPl s A y X) th) (run : nO h .normal th sg 4 (pP y) (zk y) = true) : qF s A E' x' e' h' (0, i) X :=
  a6.next (tb := aV h) (L := []) (f := 900) y ((ae _ _).hyps ho) (bA.nil _) rfl hy lt ht run
theorem Dq {s : LB} {A : Bool} {i : Int} {X : Nat → Value} {h : LK} {th : LA} {sg : List (Nat × Nat)} (hne : cI x' .normal = false) (ho : ∀ a' r', (a', r') ∈ h → aL (B0 s A i X) a' r') (ht : aw (B0 s A i X) E' th) (run : nO h x' th sg 4 e' h' = true) : qF s A E' x' e' h' (0, i) X :=
  a6.leave (tb := aV h) (L := []) (f := 900) ((ae _ _).hyps ho) (bA.nil _) rfl hne ht run
def FV : LK := [(.len (.x 0), .x 2), (.bin .lss (.x 1) (.x 2), .b false)]
theorem runPl_p0 : nO FV (.exit 0) [(0, .x 0)] [] 4 [(0, .x 0), (2, .b false)] [] = true := by kernel_rfl
def FU : LK := [(.len (.x 0), .x 3), (.bin .lss (.x 1) (.x 3), .b true), (.idx (.x 0) (.x 1), .x 4), (.bin .lss (.x 4) (.i .u8 (.ofNat 32)), .b false), (.bin .eql (.x 4) (.i .u8 (.ofNat 127)), .b false), (.bin .add (.x 1) (I6 1), .x 5)]
theorem runPl_p1 : nO FU .normal [(0, .x 0), (1, .x 5)] [] 4 Am zj = true := by kernel_rfl
def FT : LK := [(.len (.x 0), .x 6), (.bin .lss (.x 1) (.x 6), .b true), (.idx (.x 0) (.x 1), .x 7), (.bin .lss (.x 7) (.i .u8 (.ofNat 32)), .b true), (.bin .neq (.x 7) (.i .u8 (.ofNat 9)), .b false), (.bin .eql (.x 7) (.i .u8 (.ofNat 127)), .b false), (.bin .add (.x 1) (I6 1), .x 8)]
theorem runPl_p2 : nO FT .normal [(0, .x 0), (1, .x 8)] [] 4 Am zj = true := by kernel_rfl
def FR : LK := [(.len (.x 0), .x 9), (.bin .lss (.x 1) (.x 9), .b true), (.idx (.x 0) (.x 1), .x 10), (.bin .lss (.x 10) (.i .u8 (.ofNat 32)), .b true), (.bin .neq (.x 10) (.i .u8 (.ofNat 9)), .b true)]
theorem runPl_p3 : nO FR .ret [] [] 4 [(2, .b false)] [] = true := by kernel_rfl
def FQ : LK := [(.len (.x 0), .x 11), (.bin .lss (.x 1) (.x 11), .b true), (.idx (.x 0) (.x 1), .x 12), (.bin .lss (.x 12) (.i .u8 (.ofNat 32)), .b false), (.bin .eql (.x 12) (.i .u8 (.ofNat 127)), .b true)]
theorem runPl_p4 : nO FQ .ret [] [] 4 [(2, .b false)] [] = true := by kernel_rfl
section
set_option linter.unusedSectionVars false
variable {s : LB} {A : Bool} (c0 : s.length ≤ 140737488355328) {i : Int} {X : Nat → Value}
include c0
theorem aZ9 (hI : jK s A (0, i)) (h0 : i < (s.length : Int)) (h1 : ¬ (bt s i.toNat < 32)) (h2 : ¬ (bt s i.toNat = 127)) : qF s A E' x' e' h' (0, i) X := by
  obtain ⟨i0, i1, i2, it⟩ := vX s A 0 i hI
  have := bF s i.toNat; have := bG s i.toNat
  refine stPl_0 (h := FU) (0, (i + 1)) ?_ (yC ⟨by omega, by omega, BK (by omega) (by omega) (vR (bF _ _) (bG _ _) (by omega)) i2, by omega⟩) (by show s.length - (i + 1).toNat < s.length - i.toNat; omega) (aB (v := St' s) rfl rfl (bT (b := ((i + 1))) rfl rfl (by omega) (aI))) runPl_p1
  unfold FU
  exact hc (au rfl rfl (by omega)) <|hc (ba rfl rfl (by omega)) <|hc (cm rfl rfl rfl (by omega)) <|hc (ei rfl (by omega)) <|hc (ek rfl (by omega)) <|hc (bO rfl rfl (by omega)) <|hnil
theorem aZ8 (hI : jK s A (0, i)) (h0 : i < (s.length : Int)) (h1 : bt s i.toNat < 32) (h2 : bt s i.toNat = 9) : qF s A E' x' e' h' (0, i) X := by
  obtain ⟨i0, i1, i2, it⟩ := vX s A 0 i hI
  have := bF s i.toNat; have := bG s i.toNat
  refine stPl_0 (h := FT) (0, (i + 1)) ?_ (yC ⟨by omega, by omega, BK (by omega) (by omega) (vR (bF _ _) (bG _ _) (by omega)) i2, by omega⟩) (by show s.length - (i + 1).toNat < s.length - i.toNat; omega) (aB (v := St' s) rfl rfl (bT (b := ((i + 1))) rfl rfl (by omega) (aI))) runPl_p2
  unfold FT
  exact hc (au rfl rfl (by omega)) <|hc (ba rfl rfl (by omega)) <|hc (cm rfl rfl rfl (by omega)) <|hc (jb rfl (by omega)) <|hc (necF rfl (by omega)) <|hc (ek rfl (by omega)) <|hc (bO rfl rfl (by omega)) <|hnil
end
def bC6 (s : LB) (A : Bool) : List Value := [St' s]
def roEPl_0 (s : LB) (A : Bool) : List Value := []
noncomputable def EPl_0 (s : LB) (A : Bool) : Cx := cx (af (bC6 s A) (rX (roEPl_0 s A) (fun _ => .bool true))) (ah (aQ (l := bC6 s A) rfl)) 1 aC aG
theorem roundsPl_0 (s : LB) (A : Bool) (c0 : s.length ≤ 140737488355328) (x0 : A = true) (st : Nat × Int) (X : Nat → Value) (hI : jK s A st) : qF s A (EPl_0 s A) (.exit 0) [(0, .x 0), (2, .b false)] [] st X := by
  obtain ⟨tag, i⟩ := st
  have hI0 := hI
  obtain ⟨i0, i1, i2, it⟩ := vX s A tag i hI
  obtain rfl : tag = 0 := by omega
  skip
  by_cases h0 : i < (s.length : Int)
  · by_cases h1 : bt s i.toNat < 32
    · by_cases h2 : bt s i.toNat = 9
      · exact aZ8 c0 hI0 h0 h1 h2
      · exfalso; have e := BL (by omega) (by omega) (vS (bF _ _) (bG _ _) (by omega)) i2; rw [e] at x0; exact absurd x0 (by simp)
    · by_cases h2 : bt s i.toNat = 127
      · exfalso; have e := BL (by omega) (by omega) (vS (bF _ _) (bG _ _) (by omega)) i2; rw [e] at x0; exact absurd x0 (by simp)
      · exact aZ9 c0 hI0 h0 h1 h2
  · skip
    refine Dq (h := FV) rfl ?_ (aB (v := St' s) rfl rfl (aI)) runPl_p0
    unfold FV
    exact hc (au rfl rfl (by omega)) <|hc (dB rfl rfl (by omega)) <|hnil
theorem lfOkPl_0 (s : LB) (A : Bool) (c0 : s.length ≤ 140737488355328) (x0 : A = true) : ax (cx nu one 1 aC aG) (EPl_0 s A) A1 kt 26 (.exit 0) 4 4 4 4 pP zk [(0, .x 0), (2, .b false)] [] (jK s A) (DPl s A) :=
  cF (rT s A) (fun _ _ => rfl) (fun _ _ => rfl) (fun _ _ => rfl) (fun st X t ht => cE.trans (cD ((by decide : ∀ t, t ∈ kt → t < 1000000) t ht))) rfl rfl rfl ebPl rfl rfl (roundsPl_0 s A c0 x0)
def bC5 (s : LB) (A : Bool) : List Value := []
def roEPl_1 (s : LB) (A : Bool) : List Value := []
noncomputable def EPl_1 (s : LB) (A : Bool) : Cx := cx (af (bC5 s A) (rX (roEPl_1 s A) (fun _ => .bool true))) (ah (aQ (l := bC5 s A) rfl)) 1 aC aG
theorem roundsPl_1 (s : LB) (A : Bool) (c0 : s.length ≤ 140737488355328) (x0 : A = false) (st : Nat × Int) (X : Nat → Value) (hI : jK s A st) : qF s A (EPl_1 s A) .ret [(2, .b false)] [] st X := by
  obtain ⟨tag, i⟩ := st
  have hI0 := hI
  obtain ⟨i0, i1, i2, it⟩ := vX s A tag i hI
  obtain rfl : tag = 0 := by omega
  skip
  by_cases h0 : i < (s.length : Int)
  · by_cases h1 : bt s i.toNat < 32
    · by_cases h2 : bt s i.toNat = 9
      · exact aZ8 c0 hI0 h0 h1 h2
      · skip
        have := bF s i.toNat; have := bG s i.toNat
        refine Dq (h := FR) rfl ?_ (aI) runPl_p3
        unfold FR
        exact hc (au rfl rfl (by omega)) <|hc (ba rfl rfl (by omega)) <|hc (cm rfl rfl rfl (by omega)) <|hc (jb rfl (by omega)) <|hc (necT rfl (by omega)) <|hnil
    · by_cases h2 : bt s i.toNat = 127
      · skip
        have := bF s i.toNat; have := bG s i.toNat
        refine Dq (h := FQ) rfl ?_ (aI) runPl_p4
        unfold FQ
        exact hc (au rfl rfl (by omega)) <|hc (ba rfl rfl (by omega)) <|hc (cm rfl rfl rfl (by omega)) <|hc (ei rfl (by omega)) <|hc (gZ rfl (by omega)) <|hnil
      · exact aZ9 c0 hI0 h0 h1 h2
  · exfalso; have e := al_end (by omega) i2; rw [e] at x0; exact absurd x0 (by simp)
theorem lfOkPl_1 (s : LB) (A : Bool) (c0 : s.length ≤ 140737488355328) (x0 : A = false) : ax (cx nu one 1 aC aG) (EPl_1 s A) A1 kt 26 .ret 4 4 4 4 pP zk [(2, .b false)] [] (jK s A) (DPl s A) :=
  cF (rT s A) (fun _ _ => rfl) (fun _ _ => rfl) (fun _ _ => rfl) (fun st X t ht => cE.trans (cD ((by decide : ∀ t, t ∈ kt → t < 1000000) t ht))) rfl rfl rfl ebPl rfl rfl (roundsPl_1 s A c0 x0)
noncomputable def tV : FI := (bB.fn.get 30).getD default
theorem bF5 : bB.fn.get 30 = some tV := by kernel_rfl
theorem H2 : tV.body = some (Tryd.f30.body.getD .skip) := by kernel_rfl
theorem fiB30 : tV.body.isSome = true := by rw [H2]; rfl
def FP : LK := []
def lh8 : LH := ⟨4, 4, 4, [], []⟩
def lf8 : LF := ⟨2, 26, [(0, .x 0), (2, .b false), (3, I6 0)], [], (.exit 0), [(0, .x 1), (2, .b false)], some lh8⟩
noncomputable def aF5 : Tab := bI ({ bB with hyp := FP }) 30 tV [lf8]
theorem runPlain_0 (e : Nat) : okA (call aF5 9000 30 [.x 0] ⟨H0 e , 4, 0, 0⟩) (.b true) = true := by kernel_rfl
def wh (s : LB) : List Value := [St' s, St' s]
theorem pathPlain_0 (s : LB) (b0 : s.length ≤ 9223372036854775807) (p0 : s.length ≤ 140737488355328) (h0 : s.all (cj dW) = true) (w : World) (hl : aC w) : bN 30 #[St' s] w (.bool true) := by
  have ho : ∀ k r, (k, r) ∈ FP → aL (cx (ai (wh s)) (fun j _ => aQ (l := wh s) rfl j) 1 aC aG) k r := by
    unfold FP
    exact hnil
  refine bp (tb := aF5) (ra := .b true) rfl (ar.bS ((ae (ai (wh s)) (fun j _ => aQ (l := wh s) rfl j)).hyps ho) (by omega) bF5 H2 (bH (bR rfl ⟨0, keyPl, ax.use (l := lf8) (h := lh8) (lfOkPl_0 s (s.all (cj dW)) (by omega) (by assumption)) (0, (0 : Int)) (yC ⟨by omega, by omega, rfl, by omega⟩) rfl (by kernel_rfl) (ao := [(0, .x 0), (1, I6 0)]) (aj := []) (fun X => aB (v := St' s) rfl rfl (bK (show Is _ (I6 0) (.int .i64 ((0 : Int))) from bL (v := .int .i64 0) (bP _ _) (by first | rfl | (congr 1; omega))) (aI))) (by kernel_rfl) (ak := [(1, .x 0)]) (aB (v := St' s) rfl rfl (aI)) (by kernel_rfl)⟩) bE)) rfl (cP (by omega)) fiB30 (fun e => runPlain_0 e ) (args := [St' s]) (by simp only [aF, Rel]; exact ⟨_, _, rfl, rfl, rfl⟩) w hl fun x hx => ?_
  simp only [Rel, aF] at hx
  exact hx
def FO : LK := []
def lf10 : LF := ⟨2, 26, [(0, .x 0), (2, .b false), (3, I6 0)], [], .ret, [(2, .b false)], some lh8⟩
noncomputable def aF4 : Tab := bI ({ bB with hyp := FO }) 30 tV [lf10]
theorem runPlain_1 (e : Nat) : okA (call aF4 9000 30 [.x 0] ⟨H0 e , 4, 0, 0⟩) (.b false) = true := by kernel_rfl
def wg (s : LB) : List Value := [St' s]
theorem pathPlain_1 (s : LB) (b0 : s.length ≤ 9223372036854775807) (p0 : s.length ≤ 140737488355328) (h0 : ¬ (s.all (cj dW) = true)) (w : World) (hl : aC w) : bN 30 #[St' s] w (.bool false) := by
  have ho : ∀ k r, (k, r) ∈ FO → aL (cx (ai (wg s)) (fun j _ => aQ (l := wg s) rfl j) 1 aC aG) k r := by
    unfold FO
    exact hnil
  refine bp (tb := aF4) (ra := .b false) rfl (ar.bS ((ae (ai (wg s)) (fun j _ => aQ (l := wg s) rfl j)).hyps ho) (by omega) bF5 H2 (bH (bR rfl ⟨0, keyPl, ax.use (l := lf10) (h := lh8) (lfOkPl_1 s (s.all (cj dW)) (by omega) (by simpa using (by assumption : ¬ (s.all (cj dW) = true)))) (0, (0 : Int)) (yC ⟨by omega, by omega, rfl, by omega⟩) rfl (by kernel_rfl) (ao := [(0, .x 0), (1, I6 0)]) (aj := []) (fun X => aB (v := St' s) rfl rfl (bK (show Is _ (I6 0) (.int .i64 ((0 : Int))) from bL (v := .int .i64 0) (bP _ _) (by first | rfl | (congr 1; omega))) (aI))) (by kernel_rfl) (ak := []) (aI) (by kernel_rfl)⟩) bE)) rfl (cP (by omega)) fiB30 (fun e => runPlain_1 e ) (args := [St' s]) (by simp only [aF, Rel]; exact ⟨_, _, rfl, rfl, rfl⟩) w hl fun x hx => ?_
  simp only [Rel, aF] at hx
  exact hx
theorem callsPlain (s : LB) (b0 : s.length ≤ 9223372036854775807) (p0 : s.length ≤ 140737488355328) (w : World) (hl : aC w) : bN 30 #[St' s] w (.bool (cA s)) := by
  by_cases h0 : s.all (cj dW) = true
  · rw [show (.bool (cA s) : Value) = (.bool true : Value) from by unfold cA; first | (simp [*]; done)]
    exact pathPlain_0 s b0 p0 h0 w hl
  · rw [show (.bool (cA s) : Value) = (.bool false : Value) from by unfold cA; first | (simp [*]; done)]
    exact pathPlain_1 s b0 p0 h0 w hl
theorem mj {x0 r : AV} {s : LB} (i0 : Is (cx nu one 1 aC aG) x0 (St' s)) (hr : Den (cx nu one 1 aC aG) r (.bool (cA s))) (b0 : s.length ≤ 9223372036854775807 := by omega) (p0 : s.length ≤ 140737488355328 := by omega) : aL (cx nu one 1 aC aG) (.call 30 [x0]) r := by
  intro ρ args ha w hl _
  simp only [aF] at ha
  obtain ⟨v0, t0, rfl, a0, rfl⟩ := ha
  have e0 := i0 ρ _ a0; subst e0
  exact (callsPlain s b0 p0 w hl).mono fun e w' he => ⟨_, he.1, hr ρ, he.2⟩
def bl (b : UInt8) : Bool := tb8 4294967808 (b.toNat : Int)
def dF (l : LB) : LB := (l.reverse.dropWhile bl).reverse
def cT (l : LB) : LB := l.dropWhile bl
def trS (l : LB) : LB := cT (dF l)
theorem bG5 {l : LB} {i : Nat} (h : i + 1 = l.length) : ∃ p, l = p ++ [u8 (bt l i)] ∧ p = l.take i := by
  refine ⟨l.take i, ?_, rfl⟩
  rw [jP, List.getD_eq_getElem?_getD, List.getElem?_eq_getElem (by omega), Option.getD_some]
  have := List.take_append_getElem (l := l) (i := i) (by omega)
  rw [this, h, List.take_length]
theorem A8 {c : Int} (h0 : 0 ≤ c) (h1 : c ≤ 255) : bl (u8 c) = tb8 4294967808 c := by unfold bl; rw [l7 h0 h1]
theorem aO3 {l : LB} {i : Nat} (h : i + 1 = l.length) (hb : tb8 4294967808 (bt l i) = true) : dF (l.take i) = dF l := by
  obtain ⟨p, e, hp⟩ := bG5 h
  rw [← hp]
  conv => rhs; rw [e]
  unfold dF
  rw [List.reverse_append, List.reverse_singleton, List.singleton_append, List.dropWhile_cons, A8 (bF _ _) (bG _ _), hb]; rfl
theorem trR_end {l : LB} {i : Nat} (h : i + 1 = l.length) (hb : ¬ (tb8 4294967808 (bt l i) = true)) : dF l = l := by
  obtain ⟨p, e, hp⟩ := bG5 h
  have hb : tb8 4294967808 (bt l i) = false := by simpa using hb
  have : (l.reverse.dropWhile bl) = l.reverse := by
    conv => lhs; rw [e]
    conv => rhs; rw [e]
    rw [List.reverse_append, List.reverse_singleton, List.singleton_append, List.dropWhile_cons, A8 (bF _ _) (bG _ _), hb]; rfl
  unfold dF; rw [this, List.reverse_reverse]
theorem trR_nil {l : LB} (h : l.length = 0) : dF l = l := by rw [List.eq_nil_of_length_eq_zero h]; rfl
theorem IW {l : LB} (h : 0 < l.length) : l = u8 (bt l 0) :: l.drop 1 := by
  cases l with
  | nil => simp at h
  | cons a r => rw [jP]; rfl
theorem aO4 {l : LB} (h : 0 < l.length) (hb : tb8 4294967808 (bt l 0) = true) : cT (l.drop 1) = cT l := by
  conv => rhs; rw [IW h]
  unfold cT
  rw [List.dropWhile_cons, A8 (bF _ _) (bG _ _), hb]; rfl
theorem trL_end {l : LB} (h : 0 < l.length) (hb : ¬ (tb8 4294967808 (bt l 0) = true)) : cT l = l := by
  have hb : tb8 4294967808 (bt l 0) = false := by simpa using hb
  conv => lhs; rw [IW h]
  unfold cT
  rw [List.dropWhile_cons, A8 (bF _ _) (bG _ _), hb]
  exact (IW h).symm
theorem trL_nil {l : LB} (h : l.length = 0) : cT l = l := by rw [List.eq_nil_of_length_eq_zero h]; rfl
theorem aW6 (l : LB) : (dF l).length ≤ l.length := by
  have := (List.dropWhile_sublist (p := bl) (l := l.reverse)).length_le
  unfold dF; simpa using this
theorem aW7 (l : LB) : (cT l).length ≤ l.length := (List.dropWhile_sublist (p := bl) (l := l)).length_le
section
open Go.Shelf
def shT_ren : Go.Shelf.Ren := ⟨fun | 160 => 40 | 232 => 56 | 231 => 55 | 227 => 57 | 234 => 59 | 233 => 58 | 236 => 61 | 235 => 60 | 228 => 68 | 271 => 71 | 151 => 70 | 197 => 69 | 120 => 80 | 152 => 79 | 260 => 78 | 137 => 54 | 119 => 82 | 224 => 73 | 225 => 72 | 217 => 67 | 266 => 77 | n => n, fun | 9 => 9 | 4 => 4 | 3 => 3 | 5 => 5 | 117 => 101 | 116 => 100 | 0 => 0 | 124 => 104 | 21 => 21 | 105 => 113 | 46 => 117 | 119 => 122 | 139 => 125 | 138 => 124 | n => n, fun | 3 => 2 | 4 => 3 | n => n⟩
theorem shT : Go.Proofs.Lays.n160 Tryd.prog shT_ren := {
  mixed := by kernel_rfl
  f119 := Tryd.func82.trans (congrArg some (by kernel_rfl))
  f120 := Tryd.func80.trans (congrArg some (by kernel_rfl))
  f137 := Tryd.func54.trans (congrArg some (by kernel_rfl))
  f151 := Tryd.func70.trans (congrArg some (by kernel_rfl))
  f152 := Tryd.func79.trans (congrArg some (by kernel_rfl))
  f160 := Tryd.func40.trans (congrArg some (by kernel_rfl))
  f197 := Tryd.func69.trans (congrArg some (by kernel_rfl))
  f217 := Tryd.func67.trans (congrArg some (by kernel_rfl))
  f224 := Tryd.func73.trans (congrArg some (by kernel_rfl))
  f225 := Tryd.func72.trans (congrArg some (by kernel_rfl))
  f227 := Tryd.func57.trans (congrArg some (by kernel_rfl))
  f228 := Tryd.func68.trans (congrArg some (by kernel_rfl))
  f231 := Tryd.func55.trans (congrArg some (by kernel_rfl))
  f232 := Tryd.func56.trans (congrArg some (by kernel_rfl))
  f233 := Tryd.func58.trans (congrArg some (by kernel_rfl))
  f234 := Tryd.func59.trans (congrArg some (by kernel_rfl))
  f235 := Tryd.func60.trans (congrArg some (by kernel_rfl))
  f236 := Tryd.func61.trans (congrArg some (by kernel_rfl))
  f260 := Tryd.func78.trans (congrArg some (by kernel_rfl))
  f266 := Tryd.func77.trans (congrArg some (by kernel_rfl))
  f271 := Tryd.func71.trans (congrArg some (by kernel_rfl))
  t0 := Tryd.underlying0
  a0 := Tryd.isAgg0
  z0 := Tryd.sizeOf0
  v0 := Tryd.zeroValue0
  t3 := Tryd.underlying3
  a3 := Tryd.isAgg3
  z3 := Tryd.sizeOf3
  v3 := Tryd.zeroValue3
  t4 := Tryd.underlying4
  a4 := Tryd.isAgg4
  z4 := Tryd.sizeOf4
  v4 := Tryd.zeroValue4
  t5 := Tryd.underlying5
  a5 := Tryd.isAgg5
  z5 := Tryd.sizeOf5
  v5 := Tryd.zeroValue5
  t9 := Tryd.underlying9
  a9 := Tryd.isAgg9
  z9 := Tryd.sizeOf9
  v9 := Tryd.zeroValue9
  t21 := Tryd.underlying21
  a21 := Tryd.isAgg21
  z21 := Tryd.sizeOf21
  v21 := Tryd.zeroValue21
  t46 := Tryd.underlying117
  a46 := Tryd.isAgg117
  z46 := Tryd.sizeOf117
  v46 := Tryd.zeroValue117
  t105 := Tryd.underlying113
  a105 := Tryd.isAgg113
  z105 := Tryd.sizeOf113
  v105 := Tryd.zeroValue113
  t116 := Tryd.underlying100
  a116 := Tryd.isAgg100
  z116 := Tryd.sizeOf100
  t117 := Tryd.underlying101
  a117 := Tryd.isAgg101
  z117 := Tryd.sizeOf101
  v117 := Tryd.zeroValue101
  t119 := Tryd.underlying122
  a119 := Tryd.isAgg122
  z119 := Tryd.sizeOf122
  t124 := Tryd.underlying104
  a124 := Tryd.isAgg104
  z124 := Tryd.sizeOf104
  v124 := Tryd.zeroValue104
  t138 := Tryd.underlying124
  a138 := Tryd.isAgg124
  z138 := Tryd.sizeOf124
  v138 := Tryd.zeroValue124
  t139 := Tryd.underlying125
  a139 := Tryd.isAgg125
  z139 := Tryd.sizeOf125
  v139 := Tryd.zeroValue125
  g3 := by kernel_rfl
  g4 := by kernel_rfl }
end
theorem bl_in (b : UInt8) : ([32, 9] : LB).contains b = bl b := by
  have h : ∀ m : Fin 256, ([32, 9] : LB).contains (UInt8.ofNat m.val) = bl (UInt8.ofNat m.val) := by decide +kernel
  have := h ⟨b.toNat, b.toNat_lt⟩
  simpa using this
theorem trS_lib (s : LB) : Lib.trimS s [32, 9] = trS s := by
  have e : (fun b => ([32, 9] : LB).contains b) = bl := funext bl_in
  unfold Lib.trimS Lib.trimLeftS Lib.trimRightS
  rw [e]; rfl
theorem callsTrim (s : LB) (b0 : s.length ≤ 140737488355328) (w : World) : Calls Tryd.prog 40 #[St' s, St' [u8 32, u8 9]] w fun e w' => e = .returned (St' (trS s)) ∧ Go.RowKit.Below w.heap.size w w' := by
  have h := Any.strings_Trim_laid shT (by kernel_rfl) ⟨s.toArray⟩ ⟨#[32, 9]⟩ w (show s.toArray.size ≤ _ by rw [List.size_toArray]; omega) (by decide) (ascii_of_all (by decide))
  rw [show (⟨s.toArray⟩ : ByteArray).data.toList = s by simp, show (⟨#[32, 9]⟩ : ByteArray).data.toList = [32, 9] from rfl, trS_lib] at h; exact h
theorem eF {x0 x1 r : AV} {s : LB} (i0 : Is (cx nu one 1 aC aG) x0 (St' s)) (i1 : Is (cx nu one 1 aC aG) x1 (St' [u8 32, u8 9])) (hr : Den (cx nu one 1 aC aG) r (St' (trS s))) (_ : s.length ≤ 9223372036854775807 := by omega) (p0 : s.length ≤ 140737488355328 := by omega) : aL (cx nu one 1 aC aG) (.call 40 [x0, x1]) r := by
  intro ρ args ha w hl _
  simp only [aF] at ha
  obtain ⟨v0, t0, rfl, a0, v1, t1, rfl, a1, rfl⟩ := ha
  have e0 := i0 ρ _ a0; subst e0
  have e1 := i1 ρ _ a1; subst e1
  exact (callsTrim s p0 w).mono fun e w' he => ⟨_, he.1, hr ρ, below_of he.2⟩
def aT (l : LB) : LB := dF (cT l)
theorem ld {c : Int} (h : c = 32 ∨ c = 9) : tb8 4294967808 c = true := by rcases h with rfl | rfl <;> decide
theorem bl_no {c : Int} (h0 : 0 ≤ c) (h1 : c ≤ 255) (a : ¬ c = 32) (b : ¬ c = 9) : ¬ (tb8 4294967808 c = true) := by
  obtain ⟨n, rfl⟩ := Int.eq_ofNat_of_zero_le h0
  have h : ∀ n : Nat, n < 256 → n ≠ 32 → n ≠ 9 → ¬ (tb8 4294967808 (n : Int) = true) := by decide
  exact h n (by omega) (by omega) (by omega)
noncomputable def Iq : Code := cS (Tryd.f31.body.getD .skip) 0
theorem keyQl : cU (br (Tryd.f31.body.getD .skip)) 1 0 0 = true := by kernel_rfl
def oR : List Nat := []
def Al : LA := [(0, .x 0)]
def zi : LE := []
def wc (T t : LB) : List Value := [St' t, .int .i64 ((t.length : Int)), .int .i64 ((t.length : Int)), .int .u8 (bt t 0), St' (List.drop (Int.toNat (1)) t), .int .i64 ((t.length : Int)), .int .u8 (bt t 0), St' (List.drop (Int.toNat (1)) t), .int .i64 ((t.length : Int)), .int .u8 (bt t 0)]
def roQl_0 (T t : LB) : List Value := []
def tv (st : Nat × LB) : LA := Al
def hpQl (st : Nat × LB) : LE := zi
def nuQl (T : LB) (st : Nat × LB) : List Value := wc T (st.2)
def roQl (T : LB) (st : Nat × LB) : List Value := roQl_0 T (st.2)
theorem onQl (T : LB) (st : Nat × LB) : ∀ j, (ai (nuQl T st) j).oneCell' = true := by
  intro j
  unfold nuQl
  exact aQ (l := wc T (st.2)) rfl j
theorem ebQl (st : Nat × LB) : (cG (tv st) && cO oR) = true := by
  unfold tv
  rfl
noncomputable def DQl (T : LB) (st : Nat × LB) (X : Nat → Value) : Cx := cx (af (nuQl T st) (rX (roQl T st) X)) (ah (onQl T st)) 1 aC aG
abbrev CjQl (T : LB) (tag : Nat) (t : LB) : Prop := (cT t = T) ∧ (t.length ≤ 140737488355328) ∧ (tag < 1)
def l5 (T : LB) (st : Nat × LB) : Prop := CjQl T st.1 (st.2)
theorem Dg {T : LB} {tag : Nat} {t : LB} (h : CjQl T tag t) : l5 T (tag, t) := h
theorem CX (T : LB) (tag : Nat) (t : LB) (h : l5 T (tag, t)) : CjQl T tag t := h
def xz (T : LB) (st : Nat × LB) : Nat := (st.2).length
abbrev uz (T : LB) (E' : Cx) (ex' : Ex) (epx' : LA) (hpx' : LE) (st : Nat × LB) (X : Nat → Value) : Prop := a6 E' Iq oR 30 ex' 4 4 4 4 tv hpQl epx' hpx' (l5 T) (xz T) (DQl T) st X
noncomputable abbrev Bz (T t : LB) (X : Nat → Value) : Cx := cx (af (wc T t) (rX (roQl_0 T t) X)) (ah (aQ (l := wc T t) rfl)) 1 aC aG
noncomputable abbrev p9 (h : LK) (x : Ex) (th : LA) (sg : List (Nat × Nat)) (m : Nat) (ep : LA) (hp : LE) : Bool := bn (code (aV h) 400 [] Iq (bc (bf Al oR) 30) ⟨ay zi .leaf, 4, 0, 0⟩) x oR 30 4 th sg 4 m ep hp
theorem stQl_0 {T t : LB} {X : Nat → Value} {h : LK} (y : Nat × LB) {th : LA} {sg : List (Nat × Nat)} (ho : ∀ a' r', (a', r') ∈ h → aL (Bz T t X) a' r') (hy : l5 T y) (lt : xz T y < xz T (0, t)) (ht : aw (Bz T t X) (DQl T y X) th) (run : p9 h .normal th sg 4 (tv y) (hpQl y) = true) : uz T E' x' e' h' (0, t) X :=
  a6.next (tb := aV h) (L := []) (f := 400) y ((ae _ _).hyps ho) (bA.nil _) rfl hy lt ht run
theorem lvQl_0 {T t : LB} {X : Nat → Value} {h : LK} {th : LA} {sg : List (Nat × Nat)} (hne : cI x' .normal = false) (ho : ∀ a' r', (a', r') ∈ h → aL (Bz T t X) a' r') (ht : aw (Bz T t X) E' th) (run : p9 h x' th sg 4 e' h' = true) : uz T E' x' e' h' (0, t) X :=
  a6.leave (tb := aV h) (L := []) (f := 400) ((ae _ _).hyps ho) (bA.nil _) rfl hne ht run
def FM : LK := [(.len (.x 0), .x 1), (.bin .gtr (.x 1) (I6 0), .b false)]
theorem runQl_p0 : p9 FM (.exit 0) [(0, .x 0)] [] 4 [(0, .x 0)] [] = true := by kernel_rfl
def FL : LK := [(.len (.x 0), .x 2), (.bin .gtr (.x 2) (I6 0), .b true), (.idx (.x 0) (I6 0), .x 3), (.bin .eql (.x 3) (.i .u8 (.ofNat 32)), .b true), (.sub (.x 0) (some (I6 1)) none, .x 4)]
theorem runQl_p1 : p9 FL .normal [(0, .x 4)] [] 4 Al zi = true := by kernel_rfl
def FK : LK := [(.len (.x 0), .x 5), (.bin .gtr (.x 5) (I6 0), .b true), (.idx (.x 0) (I6 0), .x 6), (.bin .eql (.x 6) (.i .u8 (.ofNat 32)), .b false), (.bin .eql (.x 6) (.i .u8 (.ofNat 9)), .b true), (.sub (.x 0) (some (I6 1)) none, .x 7)]
theorem runQl_p2 : p9 FK .normal [(0, .x 7)] [] 4 Al zi = true := by kernel_rfl
def FJ : LK := [(.len (.x 0), .x 8), (.bin .gtr (.x 8) (I6 0), .b true), (.idx (.x 0) (I6 0), .x 9), (.bin .eql (.x 9) (.i .u8 (.ofNat 32)), .b false), (.bin .eql (.x 9) (.i .u8 (.ofNat 9)), .b false)]
theorem runQl_p3 : p9 FJ (.exit 0) [(0, .x 0)] [] 4 [(0, .x 0)] [] = true := by kernel_rfl
section
variable {T : LB} {t : LB} {X : Nat → Value}
theorem nxQl_p1 (hI : l5 T (0, t)) (h0 : 0 < (t.length : Int)) (h1 : bt t 0 = 32) : uz T E' x' e' h' (0, t) X := by
  obtain ⟨i0, i1, it⟩ := CX T 0 t hI
  have := bF t 0; have := bG t 0
  have := eA (l := t) (P := 1) (by omega) (by omega)
  refine stQl_0 (h := FL) (0, (List.drop (Int.toNat (1)) t)) ?_ (Dg ⟨by rw [← i0]; exact aO4 (by omega) (by first | exact ld (.inl (by omega)) | exact ld (.inr (by omega))), by rw [List.length_drop]; omega⟩) (by show (List.drop (Int.toNat (1)) t).length < t.length; rw [List.length_drop]; omega) (aB (v := St' (List.drop (Int.toNat (1)) t)) rfl rfl (aI)) runQl_p1
  unfold FL
  exact hc (au rfl rfl (by omega)) <|hc (dU rfl (by omega)) <|hc (ixC rfl rfl (by omega)) <|hc (gZ rfl (by omega)) <|hc (drC rfl rfl (by omega)) <|hnil
theorem nxQl_p2 (hI : l5 T (0, t)) (h0 : 0 < (t.length : Int)) (h1 : ¬ (bt t 0 = 32)) (h2 : bt t 0 = 9) : uz T E' x' e' h' (0, t) X := by
  obtain ⟨i0, i1, it⟩ := CX T 0 t hI
  have := bF t 0; have := bG t 0
  have := eA (l := t) (P := 1) (by omega) (by omega)
  refine stQl_0 (h := FK) (0, (List.drop (Int.toNat (1)) t)) ?_ (Dg ⟨by rw [← i0]; exact aO4 (by omega) (by first | exact ld (.inl (by omega)) | exact ld (.inr (by omega))), by rw [List.length_drop]; omega⟩) (by show (List.drop (Int.toNat (1)) t).length < t.length; rw [List.length_drop]; omega) (aB (v := St' (List.drop (Int.toNat (1)) t)) rfl rfl (aI)) runQl_p2
  unfold FK
  exact hc (au rfl rfl (by omega)) <|hc (dU rfl (by omega)) <|hc (ixC rfl rfl (by omega)) <|hc (ek rfl (by omega)) <|hc (gZ rfl (by omega)) <|hc (drC rfl rfl (by omega)) <|hnil
end
def bC4 (T : LB) : List Value := [St' T]
def roEQl_0 (T : LB) : List Value := []
noncomputable def EQl_0 (T : LB) : Cx := cx (af (bC4 T) (rX (roEQl_0 T) (fun _ => .bool true))) (ah (aQ (l := bC4 T) rfl)) 1 aC aG
theorem roundsQl_0 (T : LB) (st : Nat × LB) (X : Nat → Value) (hI : l5 T st) : uz T (EQl_0 T) (.exit 0) [(0, .x 0)] [] st X := by
  obtain ⟨tag, t⟩ := st
  have hI0 := hI
  obtain ⟨i0, i1, it⟩ := CX T tag t hI
  obtain rfl : tag = 0 := by omega
  skip
  by_cases h0 : 0 < (t.length : Int)
  · by_cases h1 : bt t 0 = 32
    · exact nxQl_p1 hI0 h0 h1
    · by_cases h2 : bt t 0 = 9
      · exact nxQl_p2 hI0 h0 h1 h2
      · skip
        have := bF t 0; have := bG t 0
        refine lvQl_0 (h := FJ) rfl ?_ (dK (v := St' t) (u := St' T) rfl rfl (congrArg (fun l => St' l) (by rw [← i0]; exact (trL_end (by omega) (bl_no (bF _ _) (bG _ _) (by assumption) (by assumption))).symm)) (aI)) runQl_p3
        unfold FJ
        exact hc (au rfl rfl (by omega)) <|hc (dU rfl (by omega)) <|hc (ixC rfl rfl (by omega)) <|hc (ek rfl (by omega)) <|hc (ek rfl (by omega)) <|hnil
  · skip
    refine lvQl_0 (h := FM) rfl ?_ (dK (v := St' t) (u := St' T) rfl rfl (congrArg (fun l => St' l) (by rw [← i0]; exact (trL_nil (by omega)).symm)) (aI)) runQl_p0
    unfold FM
    exact hc (au rfl rfl (by omega)) <|hc (bq rfl (by omega)) <|hnil
theorem lfOkQl_0 (T : LB) : ax (cx nu one 1 aC aG) (EQl_0 T) Iq oR 30 (.exit 0) 4 4 4 4 tv hpQl [(0, .x 0)] [] (l5 T) (DQl T) :=
  cF (xz T) (fun _ _ => rfl) (fun _ _ => rfl) (fun _ _ => rfl) (fun st X t ht => cE.trans (cD ((by decide : ∀ t, t ∈ oR → t < 1000000) t ht))) rfl rfl rfl ebQl rfl rfl (roundsQl_0 T)
noncomputable def Ip : Code := cS (Tryd.f31.body.getD .skip) 1
theorem keyQr : cU (br (Tryd.f31.body.getD .skip)) 3 1 0 = true := by kernel_rfl
def oQ : List Nat := []
def Ak : LA := [(0, .x 0)]
def zh : LE := []
def wZ (T t : LB) : List Value := [St' t, .int .i64 ((t.length : Int)), .int .i64 ((t.length : Int)), .int .i64 ((t.length : Int) - 1), .int .u8 (bt t (Int.toNat ((t.length : Int) - 1))), St' (List.take (Int.toNat ((t.length : Int) - 1)) t), .int .i64 ((t.length : Int)), .int .i64 ((t.length : Int) - 1), .int .u8 (bt t (Int.toNat ((t.length : Int) - 1))), St' (List.take (Int.toNat ((t.length : Int) - 1)) t), .int .i64 ((t.length : Int)), .int .i64 ((t.length : Int) - 1), .int .u8 (bt t (Int.toNat ((t.length : Int) - 1)))]
def roQr_0 (T t : LB) : List Value := []
def tr (st : Nat × LB) : LA := Ak
def hpQr (st : Nat × LB) : LE := zh
def nuQr (T : LB) (st : Nat × LB) : List Value := wZ T (st.2)
def roQr (T : LB) (st : Nat × LB) : List Value := roQr_0 T (st.2)
theorem onQr (T : LB) (st : Nat × LB) : ∀ j, (ai (nuQr T st) j).oneCell' = true := by
  intro j
  unfold nuQr
  exact aQ (l := wZ T (st.2)) rfl j
theorem ebQr (st : Nat × LB) : (cG (tr st) && cO oQ) = true := by
  unfold tr
  rfl
noncomputable def DQr (T : LB) (st : Nat × LB) (X : Nat → Value) : Cx := cx (af (nuQr T st) (rX (roQr T st) X)) (ah (onQr T st)) 1 aC aG
abbrev CjQr (T : LB) (tag : Nat) (t : LB) : Prop := (dF t = T) ∧ (t.length ≤ 140737488355328) ∧ (tag < 1)
def l4 (T : LB) (st : Nat × LB) : Prop := CjQr T st.1 (st.2)
theorem Df {T : LB} {tag : Nat} {t : LB} (h : CjQr T tag t) : l4 T (tag, t) := h
theorem CV (T : LB) (tag : Nat) (t : LB) (h : l4 T (tag, t)) : CjQr T tag t := h
def xy (T : LB) (st : Nat × LB) : Nat := (st.2).length
abbrev uy (T : LB) (E' : Cx) (ex' : Ex) (epx' : LA) (hpx' : LE) (st : Nat × LB) (X : Nat → Value) : Prop := a6 E' Ip oQ 30 ex' 4 4 4 4 tr hpQr epx' hpx' (l4 T) (xy T) (DQr T) st X
noncomputable abbrev Bx (T t : LB) (X : Nat → Value) : Cx := cx (af (wZ T t) (rX (roQr_0 T t) X)) (ah (aQ (l := wZ T t) rfl)) 1 aC aG
noncomputable abbrev p8 (h : LK) (x : Ex) (th : LA) (sg : List (Nat × Nat)) (m : Nat) (ep : LA) (hp : LE) : Bool := bn (code (aV h) 400 [] Ip (bc (bf Ak oQ) 30) ⟨ay zh .leaf, 4, 0, 0⟩) x oQ 30 4 th sg 4 m ep hp
theorem stQr_0 {T t : LB} {X : Nat → Value} {h : LK} (y : Nat × LB) {th : LA} {sg : List (Nat × Nat)} (ho : ∀ a' r', (a', r') ∈ h → aL (Bx T t X) a' r') (hy : l4 T y) (lt : xy T y < xy T (0, t)) (ht : aw (Bx T t X) (DQr T y X) th) (run : p8 h .normal th sg 4 (tr y) (hpQr y) = true) : uy T E' x' e' h' (0, t) X :=
  a6.next (tb := aV h) (L := []) (f := 400) y ((ae _ _).hyps ho) (bA.nil _) rfl hy lt ht run
theorem lvQr_0 {T t : LB} {X : Nat → Value} {h : LK} {th : LA} {sg : List (Nat × Nat)} (hne : cI x' .normal = false) (ho : ∀ a' r', (a', r') ∈ h → aL (Bx T t X) a' r') (ht : aw (Bx T t X) E' th) (run : p8 h x' th sg 4 e' h' = true) : uy T E' x' e' h' (0, t) X :=
  a6.leave (tb := aV h) (L := []) (f := 400) ((ae _ _).hyps ho) (bA.nil _) rfl hne ht run
def FH : LK := [(.len (.x 0), .x 1), (.bin .gtr (.x 1) (I6 0), .b false)]
theorem runQr_p0 : p8 FH (.exit 2) [(0, .x 0)] [] 4 [(0, .x 0)] [] = true := by kernel_rfl
def FG : LK := [(.len (.x 0), .x 2), (.bin .gtr (.x 2) (I6 0), .b true), (.bin .sub (.x 2) (I6 1), .x 3), (.idx (.x 0) (.x 3), .x 4), (.bin .eql (.x 4) (.i .u8 (.ofNat 32)), .b true), (.sub (.x 0) none (some (.x 3)), .x 5)]
theorem runQr_p1 : p8 FG .normal [(0, .x 5)] [] 4 Ak zh = true := by kernel_rfl
def FF : LK := [(.len (.x 0), .x 6), (.bin .gtr (.x 6) (I6 0), .b true), (.bin .sub (.x 6) (I6 1), .x 7), (.idx (.x 0) (.x 7), .x 8), (.bin .eql (.x 8) (.i .u8 (.ofNat 32)), .b false), (.bin .eql (.x 8) (.i .u8 (.ofNat 9)), .b true), (.sub (.x 0) none (some (.x 7)), .x 9)]
theorem runQr_p2 : p8 FF .normal [(0, .x 9)] [] 4 Ak zh = true := by kernel_rfl
def FE : LK := [(.len (.x 0), .x 10), (.bin .gtr (.x 10) (I6 0), .b true), (.bin .sub (.x 10) (I6 1), .x 11), (.idx (.x 0) (.x 11), .x 12), (.bin .eql (.x 12) (.i .u8 (.ofNat 32)), .b false), (.bin .eql (.x 12) (.i .u8 (.ofNat 9)), .b false)]
theorem runQr_p3 : p8 FE (.exit 2) [(0, .x 0)] [] 4 [(0, .x 0)] [] = true := by kernel_rfl
section
variable {T : LB} {t : LB} {X : Nat → Value}
theorem nxQr_p1 (hI : l4 T (0, t)) (h0 : 0 < (t.length : Int)) (h1 : bt t (Int.toNat ((t.length : Int) - 1)) = 32) : uy T E' x' e' h' (0, t) X := by
  obtain ⟨i0, i1, it⟩ := CV T 0 t hI
  have := bF t (Int.toNat ((t.length : Int) - 1)); have := bG t (Int.toNat ((t.length : Int) - 1))
  have := dq (l := t) (Q := (t.length : Int) - 1) (by omega) (by omega)
  refine stQr_0 (h := FG) (0, (List.take (Int.toNat ((t.length : Int) - 1)) t)) ?_ (Df ⟨by rw [← i0]; exact aO3 (i := (Int.toNat ((t.length : Int) - 1))) (by omega) (by first | exact ld (.inl (by omega)) | exact ld (.inr (by omega))), by rw [List.length_take]; omega⟩) (by show (List.take (Int.toNat ((t.length : Int) - 1)) t).length < t.length; rw [List.length_take]; omega) (aB (v := St' (List.take (Int.toNat ((t.length : Int) - 1)) t)) rfl rfl (aI)) runQr_p1
  unfold FG
  exact hc (au rfl rfl (by omega)) <|hc (dU rfl (by omega)) <|hc (sbC rfl rfl (by omega)) <|hc (cm rfl rfl rfl (by omega)) <|hc (gZ rfl (by omega)) <|hc (eS rfl rfl rfl (by omega)) <|hnil
theorem nxQr_p2 (hI : l4 T (0, t)) (h0 : 0 < (t.length : Int)) (h1 : ¬ (bt t (Int.toNat ((t.length : Int) - 1)) = 32)) (h2 : bt t (Int.toNat ((t.length : Int) - 1)) = 9) : uy T E' x' e' h' (0, t) X := by
  obtain ⟨i0, i1, it⟩ := CV T 0 t hI
  have := bF t (Int.toNat ((t.length : Int) - 1)); have := bG t (Int.toNat ((t.length : Int) - 1))
  have := dq (l := t) (Q := (t.length : Int) - 1) (by omega) (by omega)
  refine stQr_0 (h := FF) (0, (List.take (Int.toNat ((t.length : Int) - 1)) t)) ?_ (Df ⟨by rw [← i0]; exact aO3 (i := (Int.toNat ((t.length : Int) - 1))) (by omega) (by first | exact ld (.inl (by omega)) | exact ld (.inr (by omega))), by rw [List.length_take]; omega⟩) (by show (List.take (Int.toNat ((t.length : Int) - 1)) t).length < t.length; rw [List.length_take]; omega) (aB (v := St' (List.take (Int.toNat ((t.length : Int) - 1)) t)) rfl rfl (aI)) runQr_p2
  unfold FF
  exact hc (au rfl rfl (by omega)) <|hc (dU rfl (by omega)) <|hc (sbC rfl rfl (by omega)) <|hc (cm rfl rfl rfl (by omega)) <|hc (ek rfl (by omega)) <|hc (gZ rfl (by omega)) <|hc (eS rfl rfl rfl (by omega)) <|hnil
end
def bC3 (T : LB) : List Value := [St' T]
def roEQr_0 (T : LB) : List Value := []
noncomputable def EQr_0 (T : LB) : Cx := cx (af (bC3 T) (rX (roEQr_0 T) (fun _ => .bool true))) (ah (aQ (l := bC3 T) rfl)) 1 aC aG
theorem roundsQr_0 (T : LB) (st : Nat × LB) (X : Nat → Value) (hI : l4 T st) : uy T (EQr_0 T) (.exit 2) [(0, .x 0)] [] st X := by
  obtain ⟨tag, t⟩ := st
  have hI0 := hI
  obtain ⟨i0, i1, it⟩ := CV T tag t hI
  obtain rfl : tag = 0 := by omega
  skip
  by_cases h0 : 0 < (t.length : Int)
  · by_cases h1 : bt t (Int.toNat ((t.length : Int) - 1)) = 32
    · exact nxQr_p1 hI0 h0 h1
    · by_cases h2 : bt t (Int.toNat ((t.length : Int) - 1)) = 9
      · exact nxQr_p2 hI0 h0 h1 h2
      · skip
        have := bF t (Int.toNat ((t.length : Int) - 1)); have := bG t (Int.toNat ((t.length : Int) - 1))
        refine lvQr_0 (h := FE) rfl ?_ (dK (v := St' t) (u := St' T) rfl rfl (congrArg (fun l => St' l) (by rw [← i0]; exact (trR_end (i := (Int.toNat ((t.length : Int) - 1))) (by omega) (bl_no (bF _ _) (bG _ _) (by assumption) (by assumption))).symm)) (aI)) runQr_p3
        unfold FE
        exact hc (au rfl rfl (by omega)) <|hc (dU rfl (by omega)) <|hc (sbC rfl rfl (by omega)) <|hc (cm rfl rfl rfl (by omega)) <|hc (ek rfl (by omega)) <|hc (ek rfl (by omega)) <|hnil
  · skip
    refine lvQr_0 (h := FH) rfl ?_ (dK (v := St' t) (u := St' T) rfl rfl (congrArg (fun l => St' l) (by rw [← i0]; exact (trR_nil (by omega)).symm)) (aI)) runQr_p0
    unfold FH
    exact hc (au rfl rfl (by omega)) <|hc (bq rfl (by omega)) <|hnil
theorem lfOkQr_0 (T : LB) : ax (cx nu one 1 aC aG) (EQr_0 T) Ip oQ 30 (.exit 2) 4 4 4 4 tr hpQr [(0, .x 0)] [] (l4 T) (DQr T) :=
  cF (xy T) (fun _ _ => rfl) (fun _ _ => rfl) (fun _ _ => rfl) (fun st X t ht => cE.trans (cD ((by decide : ∀ t, t ∈ oQ → t < 1000000) t ht))) rfl rfl rfl ebQr rfl rfl (roundsQr_0 T)
noncomputable def AY : FI := (bB.fn.get 31).getD default
theorem fi31_at : bB.fn.get 31 = some AY := by kernel_rfl
theorem aM2 : AY.body = some (Tryd.f31.body.getD .skip) := by kernel_rfl
theorem fiB31 : AY.body.isSome = true := by rw [aM2]; rfl
def FN : LK := []
def yW : LH := ⟨4, 4, 4, [], []⟩
def lf14 : LF := ⟨1, 30, [(0, .x 0)], [], (.exit 0), [(0, .x 1)], some yW⟩
def lf15 : LF := ⟨3, 30, [(0, .x 1)], [], (.exit 2), [(0, .x 2)], some yW⟩
noncomputable def aF3 : Tab := bI ({ bB with hyp := FN }) 31 AY [lf14, lf15]
theorem runQTrim_0 (e : Nat) : okA (call aF3 9000 31 [.x 0] ⟨H0 e , 4, 0, 0⟩) (.x 2) = true := by kernel_rfl
def we (s : LB) : List Value := [St' s, St' (cT s), St' (dF (cT s))]
theorem pathQTrim_0 (s : LB) (b0 : s.length ≤ 9223372036854775807) (p0 : s.length ≤ 140737488355328) (w : World) (hl : aC w) : bN 31 #[St' s] w (St' (dF (cT s))) := by
  have := aW7 s
  have := aW6 (cT s)
  have ho : ∀ k r, (k, r) ∈ FN → aL (cx (ai (we s)) (fun j _ => aQ (l := we s) rfl j) 1 aC aG) k r := by
    unfold FN
    exact hnil
  refine bp (tb := aF3) (ra := .x 2) rfl (ar.bS ((ae (ai (we s)) (fun j _ => aQ (l := we s) rfl j)).hyps ho) (by omega) fi31_at aM2 (bH (bR rfl ⟨0, keyQl, ax.use (l := lf14) (h := yW) (lfOkQl_0 (cT s)) (0, s) (Dg ⟨rfl, by first | omega | (simp <;> omega)⟩) rfl (by kernel_rfl) (ao := [(0, .x 0)]) (aj := []) (fun X => aB (v := St' s) rfl rfl (aI)) (by kernel_rfl) (ak := [(1, .x 0)]) (aB (v := St' (cT s)) rfl rfl (aI)) (by kernel_rfl)⟩) (bH (bR rfl ⟨1, keyQr, ax.use (l := lf15) (h := yW) (lfOkQr_0 (dF (cT s))) (0, (cT s)) (Df ⟨rfl, by first | omega | (simp <;> omega)⟩) rfl (by kernel_rfl) (ao := [(0, .x 1)]) (aj := []) (fun X => aB (v := St' (cT s)) rfl rfl (aI)) (by kernel_rfl) (ak := [(2, .x 0)]) (aB (v := St' (dF (cT s))) rfl rfl (aI)) (by kernel_rfl)⟩) bE))) rfl (cP (by omega)) fiB31 (fun e => runQTrim_0 e ) (args := [St' s]) (by simp only [aF, Rel]; exact ⟨_, _, rfl, rfl, rfl⟩) w hl fun x hx => ?_
  simp only [Rel, aF] at hx
  exact hx
theorem callsQTrim (s : LB) (b0 : s.length ≤ 9223372036854775807) (p0 : s.length ≤ 140737488355328) (w : World) (hl : aC w) : bN 31 #[St' s] w (St' (aT s)) := by
  rw [show (St' (aT s) : Value) = (St' (dF (cT s)) : Value) from by rfl]
  exact pathQTrim_0 s b0 p0 w hl
theorem fe {x0 r : AV} {s : LB} (i0 : Is (cx nu one 1 aC aG) x0 (St' s)) (hr : Den (cx nu one 1 aC aG) r (St' (aT s))) (b0 : s.length ≤ 9223372036854775807 := by omega) (p0 : s.length ≤ 140737488355328 := by omega) : aL (cx nu one 1 aC aG) (.call 31 [x0]) r := by
  intro ρ args ha w hl _
  simp only [aF] at ha
  obtain ⟨v0, t0, rfl, a0, rfl⟩ := ha
  have e0 := i0 ρ _ a0; subst e0
  exact (callsQTrim s b0 p0 w hl).mono fun e w' he => ⟨_, he.1, hr ρ, he.2⟩
theorem IP {p : UInt8 → Bool} : ∀ (l r : LB), (l ++ r).dropWhile p = if l.all p then r.dropWhile p else l.dropWhile p ++ r
  | [], r => by simp
  | a :: l, r => by
    rw [List.cons_append, List.dropWhile_cons, List.dropWhile_cons, List.all_cons]
    cases h : p a with
    | true => simp only [if_true, Bool.true_and]; exact IP l r
    | false => simp
theorem IQ {p : UInt8 → Bool} : ∀ l : LB, l.all p = true → l.dropWhile p = []
  | [], _ => rfl
  | a :: l, h => by
    rw [List.all_cons, Bool.and_eq_true] at h
    rw [List.dropWhile_cons, h.1, if_pos rfl]; exact IQ l h.2
theorem trR_cons {a : UInt8} {l : LB} (h : bl a = false) : dF (a :: l) = a :: dF l := by
  unfold dF
  rw [List.reverse_cons, IP]
  split
  · rename_i h2
    rw [IQ l.reverse h2]
    simp [h]
  · simp
theorem trR_blank {a : UInt8} {l : LB} (h : bl a = true) : cT (dF (a :: l)) = cT (dF l) := by
  unfold dF
  rw [List.reverse_cons, IP]
  split
  · rename_i h2
    rw [IQ l.reverse h2]
    simp [h]
  · rw [List.reverse_append, List.reverse_singleton, List.singleton_append]
    unfold cT; rw [List.dropWhile_cons, h, if_pos rfl]
theorem dn : ∀ l : LB, trS l = aT l
  | [] => rfl
  | a :: l => by
    unfold trS aT
    cases h : bl a with
    | true =>
      rw [trR_blank h]
      have e : cT (a :: l) = cT l := by unfold cT; rw [List.dropWhile_cons, h, if_pos rfl]
      rw [e]; exact dn l
    | false =>
      have e : cT (a :: l) = a :: l := by unfold cT; rw [List.dropWhile_cons, h]; rfl
      rw [e, trR_cons h]
      unfold cT; rw [List.dropWhile_cons, h]; rfl
end Go.Proofs.YtjkdkpdjmapieaaDoor.fieldTells

