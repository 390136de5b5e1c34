/- A part of the proof: what an interpreter answers on partly known states is what the program answers. No condition. -/
import Derived.Test.YtcjanblpboaleaaDoorU1CgiCutsO
set_option maxRecDepth 100000
set_option linter.unusedVariables false
set_option linter.unusedSimpArgs false
set_option maxHeartbeats 4000000
namespace Go.Proofs.YtcjanblpboaleaaDoor.cgiCuts
open Go Go.AX Go.Proofs Go.Proofs.YtcjanblpboaleaaDoor
variable {nu : Nat → Value} {one : ∀ i, i < 1000000 → (nu i).oneCell' = true} {E' : Cx} {x' : Ex} {e' : LA} {h' : LE}
def jO : Nat := 115792089237316195423570985008687907853099843482180094807725896704192950567424
def gF (M : Nat) (b : UInt8) : Bool := tb8 M (b.toNat : Int)
def dk (s : LB) : Bool := s.all (gF jO)
theorem al_at {M : Nat} {s : LB} {i : Int} (h0 : 0 ≤ i) (h : i < s.length) : (s.drop i.toNat).all (gF M) = (tb8 M (bt s i.toNat) && (s.drop (Int.toNat (i + 1))).all (gF M)) := by
 have e : s.drop i.toNat = u8 (bt s i.toNat) :: s.drop (i.toNat + 1) := by
  rw [List.drop_eq_getElem_cons (by omega), qz, List.getD_eq_getElem?_getD, List.getElem?_eq_getElem (by omega), Option.getD_some]
 rw [e, List.all_cons, gF, nU (bQ _ _) (bR _ _), show (i + 1).toNat = i.toNat + 1 by omega]
theorem al_yes {M : Nat} {s : LB} {i : Int} {A : Bool} (h0 : 0 ≤ i) (h : i < s.length) (hb : tb8 M (bt s i.toNat) = true) (hA : (s.drop i.toNat).all (gF M) = A) : (s.drop (Int.toNat (i + 1))).all (gF M) = A := by
 rw [al_at h0 h, hb, Bool.true_and] at hA; exact hA
theorem al_no {M : Nat} {s : LB} {i : Int} {A : Bool} (h0 : 0 ≤ i) (h : i < s.length) (hb : tb8 M (bt s i.toNat) = false) (hA : (s.drop i.toNat).all (gF M) = A) : A = false := by
 rw [al_at h0 h, hb, Bool.false_and] at hA; exact hA.symm
theorem al_end {M : Nat} {s : LB} {i : Int} {A : Bool} (h : (s.length : Int) ≤ i) (hA : (s.drop i.toNat).all (gF M) = A) : A = true := by
 rw [List.drop_eq_nil_of_le (by omega)] at hA; exact hA.symm
theorem vs_c {c : Int} (h0 : 0 ≤ c) (h1 : c ≤ 255) : tb8 jO c = decide (c = 9 ∨ (32 ≤ c ∧ c ≠ 127)) := by
 obtain ⟨n, rfl⟩ := Int.eq_ofNat_of_zero_le h0
 have h : ∀ m : Fin 256, tb8 jO (m.val : Int) = decide ((m.val : Int) = 9 ∨ (32 ≤ (m.val : Int) ∧ (m.val : Int) ≠ 127)) := by decide +kernel
 exact h ⟨n, by omega⟩
theorem vs_y {c : Int} (h0 : 0 ≤ c) (h1 : c ≤ 255) (h : c = 9 ∨ (32 ≤ c ∧ c ≠ 127)) : tb8 jO c = true := by rw [vs_c h0 h1]; exact decide_eq_true h
theorem vs_n {c : Int} (h0 : 0 ≤ c) (h1 : c ≤ 255) (h : ¬ (c = 9 ∨ (32 ≤ c ∧ c ≠ 127))) : tb8 jO c = false := by rw [vs_c h0 h1]; exact decide_eq_false h
noncomputable def Al : Code := gi (Tryd.f52.body.getD .skip) 0
theorem keyVi : gC (di (Tryd.f52.body.getD .skip)) 2 0 0 = true := by kernel_rfl
def mf : List Nat := []
def AU : LA := [(0, .x 0), (2, .b false), (7, .x 1), (5, .x 0), (6, .x 2)]
def zl : LE := []
def we (s : LB) (A : Bool) (i : Int) : List Value := [St' s, .int .i64 (i), .int .i64 ((s.length : Int)), .int .u8 (bt s i.toNat), .int .i64 (i + 1), .int .u8 (bt s i.toNat), .int .i64 (i + 1), .int .u8 (bt s i.toNat), .int .u8 (bt s i.toNat)]
def roVi_0 (s : LB) (A : Bool) (i : Int) : List Value := []
def qR (st : Nat × Int) : LA := AU
def zm (st : Nat × Int) : LE := zl
def nuVi (s : LB) (A : Bool) (st : Nat × Int) : List Value := we s A (st.2)
def roVi (s : LB) (A : Bool) (st : Nat × Int) : List Value := roVi_0 s A (st.2)
theorem onVi (s : LB) (A : Bool) (st : Nat × Int) : ∀ j, (bA (nuVi s A st) j).oneCell' = true := by
 intro j
 unfold nuVi
 exact aV (l := we s A (st.2)) rfl j
theorem ebVi (st : Nat × Int) : (dX (qR st) && ef mf) = true := by
 unfold qR
 rfl
noncomputable def DVi (s : LB) (A : Bool) (st : Nat × Int) (X : Nat → Value) : Cx := cx (bG (nuVi s A st) (rX (roVi s A st) X)) (bJ (onVi s A st)) 1 aH aQ
abbrev CjVi (s : LB) (A : Bool) (tag : Nat) (i : Int) : Prop := (0 ≤ i) ∧ (i ≤ (s.length : Int)) ∧ ((s.drop i.toNat).all (gF jO) = A) ∧ (tag < 1)
def kj (s : LB) (A : Bool) (st : Nat × Int) : Prop := CjVi s A st.1 (st.2)
theorem yN {s : LB} {A : Bool} {tag : Nat} {i : Int} (h : CjVi s A tag i) : kj s A (tag, i) := h
theorem vE (s : LB) (A : Bool) (tag : Nat) (i : Int) (h : kj s A (tag, i)) : CjVi s A tag i := h
def sY (s : LB) (A : Bool) (st : Nat × Int) : Nat := (s.length - (st.2).toNat)
abbrev qk (s : LB) (A : Bool) (E' : Cx) (ex' : Ex) (epx' : LA) (hpx' : LE) (st : Nat × Int) (X : Nat → Value) : Prop := bj E' Al mf 23 ex' 4 4 4 4 qR zm epx' hpx' (kj s A) (sY s A) (DVi s A) st X
noncomputable abbrev BM (s : LB) (A : Bool) (i : Int) (X : Nat → Value) : Cx := cx (bG (we s A i) (rX (roVi_0 s A i) X)) (bJ (aV (l := we s A i) rfl)) 1 aH aQ
noncomputable abbrev ou (h : LK) (x : Ex) (th : LA) (sg : List (Nat × Nat)) (m : Nat) (ep : LA) (hp : LE) : Bool := bP (code (aT h) 900 [] Al (bD (bH AU mf) 23) ⟨ae zl .leaf, 4, 0, 0⟩) x mf 23 4 th sg 4 m ep hp
theorem stVi_0 {s : LB} {A : Bool} {i : Int} {X : Nat → Value} {h : LK} (y : Nat × Int) {th : LA} {sg : List (Nat × Nat)} (ho : ∀ a' r', (a', r') ∈ h → aM (BM s A i X) a' r') (hy : kj s A y) (lt : sY s A y < sY s A (0, i)) (ht : bE (BM s A i X) (DVi s A y X) th) (run : ou h .normal th sg 4 (qR y) (zm y) = true) : qk s A E' x' e' h' (0, i) X :=
 bj.next (tb := aT h) (L := []) (f := 900) y ((ab _ _).hyps ho) (bV.nil _) rfl hy lt ht run
theorem Cn {s : LB} {A : Bool} {i : Int} {X : Nat → Value} {h : LK} {th : LA} {sg : List (Nat × Nat)} (hne : cn x' .normal = false) (ho : ∀ a' r', (a', r') ∈ h → aM (BM s A i X) a' r') (ht : bE (BM s A i X) E' th) (run : ou h x' th sg 4 e' h' = true) : qk s A E' x' e' h' (0, i) X :=
 bj.leave (tb := aT h) (L := []) (f := 900) ((ab _ _).hyps ho) (bV.nil _) rfl hne ht run
def DV : LK := [(.bin .lss (.x 1) (.x 2), .b false)]
theorem runVi_p0 : ou DV (.exit 0) [(0, .x 0)] [] 4 [(0, .x 0), (2, .b false)] [] = true := by kernel_rfl
def DU : LK := [(.bin .lss (.x 1) (.x 2), .b true), (.idx (.x 0) (.x 1), .x 3), (.bin .eql (.x 3) (.i .u8 (.ofNat 9)), .b false), (.bin .lss (.x 3) (.i .u8 (.ofNat 32)), .b false), (.bin .eql (.x 3) (.i .u8 (.ofNat 127)), .b false), (.bin .add (.x 1) (I6 1), .x 4)]
theorem runVi_p1 : ou DU .normal [(0, .x 0), (1, .x 4), (2, .x 2)] [] 4 AU zl = true := by kernel_rfl
def DT : LK := [(.bin .lss (.x 1) (.x 2), .b true), (.idx (.x 0) (.x 1), .x 5), (.bin .eql (.x 5) (.i .u8 (.ofNat 9)), .b true), (.bin .add (.x 1) (I6 1), .x 6)]
theorem runVi_p2 : ou DT .normal [(0, .x 0), (1, .x 6), (2, .x 2)] [] 4 AU zl = true := by kernel_rfl
def DR : LK := [(.bin .lss (.x 1) (.x 2), .b true), (.idx (.x 0) (.x 1), .x 7), (.bin .eql (.x 7) (.i .u8 (.ofNat 9)), .b false), (.bin .lss (.x 7) (.i .u8 (.ofNat 32)), .b true)]
theorem runVi_p3 : ou DR .ret [] [] 4 [(2, .b false)] [] = true := by kernel_rfl
def DQ : LK := [(.bin .lss (.x 1) (.x 2), .b true), (.idx (.x 0) (.x 1), .x 8), (.bin .eql (.x 8) (.i .u8 (.ofNat 9)), .b false), (.bin .lss (.x 8) (.i .u8 (.ofNat 32)), .b false), (.bin .eql (.x 8) (.i .u8 (.ofNat 127)), .b true)]
theorem runVi_p4 : ou DQ .ret [] [] 4 [(2, .b false)] [] = true := by kernel_rfl
section
set_option linter.unusedSectionVars false
variable {s : LB} {A : Bool} (c0 : s.length ≤ 140737488355328) {i : Int} {X : Nat → Value}
include c0
theorem aS3 (hI : kj s A (0, i)) (h0 : i < (s.length : Int)) (h1 : ¬ (bt s i.toNat = 9)) (h2 : ¬ (bt s i.toNat < 32)) (h3 : ¬ (bt s i.toNat = 127)) : qk s A E' x' e' h' (0, i) X := by
 obtain ⟨i0, i1, i2, it⟩ := vE s A 0 i hI
 have := bQ s i.toNat; have := bR s i.toNat
 refine stVi_0 (h := DU) (0, (i + 1)) ?_ (yN ⟨by omega, by omega, al_yes (by omega) (by omega) (vs_y (bQ _ _) (bR _ _) (by omega)) i2, by omega⟩) (by show s.length - (i + 1).toNat < s.length - i.toNat; omega) (aB (v := St' s) (bc (b := ((i + 1))) rfl rfl (by omega) (aB (v := .int .i64 ((s.length : Int))) (aI)))) runVi_p1
 unfold DU
 exact hc bU <|hc dG <|hc eT <|hc lO <|hc eT <|hc au <|hnil
theorem aS2 (hI : kj s A (0, i)) (h0 : i < (s.length : Int)) (h1 : bt s i.toNat = 9) : qk s A E' x' e' h' (0, i) X := by
 obtain ⟨i0, i1, i2, it⟩ := vE s A 0 i hI
 have := bQ s i.toNat; have := bR s i.toNat
 refine stVi_0 (h := DT) (0, (i + 1)) ?_ (yN ⟨by omega, by omega, al_yes (by omega) (by omega) (vs_y (bQ _ _) (bR _ _) (by omega)) i2, by omega⟩) (by show s.length - (i + 1).toNat < s.length - i.toNat; omega) (aB (v := St' s) (bc (b := ((i + 1))) rfl rfl (by omega) (aB (v := .int .i64 ((s.length : Int))) (aI)))) runVi_p2
 unfold DT
 exact hc bU <|hc dG <|hc nA <|hc au <|hnil
end
def aT6 (s : LB) (A : Bool) : List Value := [St' s]
def roEVi_0 (s : LB) (A : Bool) : List Value := []
noncomputable def EVi_0 (s : LB) (A : Bool) : Cx := cx (bG (aT6 s A) (rX (roEVi_0 s A) (fun _ => .bool true))) (bJ (aV (l := aT6 s A) rfl)) 1 aH aQ
theorem roundsVi_0 (s : LB) (A : Bool) (c0 : s.length ≤ 140737488355328) (x0 : A = true) (st : Nat × Int) (X : Nat → Value) (hI : kj s A st) : qk s A (EVi_0 s A) (.exit 0) [(0, .x 0), (2, .b false)] [] st X := by
 obtain ⟨tag, i⟩ := st
 have hI0 := hI
 obtain ⟨i0, i1, i2, it⟩ := vE s A tag i hI
 obtain rfl : tag = 0 := by omega
 skip
 by_cases h0 : i < (s.length : Int)
 ·by_cases h1 : bt s i.toNat = 9
  ·exact aS2 c0 hI0 h0 h1
  ·by_cases h2 : bt s i.toNat < 32
   ·exfalso; have e := al_no (by omega) (by omega) (vs_n (bQ _ _) (bR _ _) (by omega)) i2; rw [e] at x0; exact absurd x0 (by simp)
   ·by_cases h3 : bt s i.toNat = 127
    ·exfalso; have e := al_no (by omega) (by omega) (vs_n (bQ _ _) (bR _ _) (by omega)) i2; rw [e] at x0; exact absurd x0 (by simp)
    ·exact aS3 c0 hI0 h0 h1 h2 h3
 ·refine Cn (h := DV) rfl ?_ (aB (v := St' s) (aI)) runVi_p0
  unfold DV
  exact hc dV <|hnil
theorem lfOkVi_0 (s : LB) (A : Bool) (c0 : s.length ≤ 140737488355328) (x0 : A = true) : bI (cx nu one 1 aH aQ) (EVi_0 s A) Al mf 23 (.exit 0) 4 4 4 4 qR zm [(0, .x 0), (2, .b false)] [] (kj s A) (DVi s A) :=
 dW (sY s A) (fun _ _ => rfl) (fun _ _ => rfl) (fun _ _ => rfl) (fun st X t ht => dT.trans (dS ((by decide : ∀ t, t ∈ mf → t < 1000000) t ht))) rfl rfl rfl ebVi rfl rfl (roundsVi_0 s A c0 x0)
def aT5 (s : LB) (A : Bool) : List Value := []
def roEVi_1 (s : LB) (A : Bool) : List Value := []
noncomputable def EVi_1 (s : LB) (A : Bool) : Cx := cx (bG (aT5 s A) (rX (roEVi_1 s A) (fun _ => .bool true))) (bJ (aV (l := aT5 s A) rfl)) 1 aH aQ
theorem roundsVi_1 (s : LB) (A : Bool) (c0 : s.length ≤ 140737488355328) (x0 : A = false) (st : Nat × Int) (X : Nat → Value) (hI : kj s A st) : qk s A (EVi_1 s A) .ret [(2, .b false)] [] st X := by
 obtain ⟨tag, i⟩ := st
 have hI0 := hI
 obtain ⟨i0, i1, i2, it⟩ := vE s A tag i hI
 obtain rfl : tag = 0 := by omega
 skip
 by_cases h0 : i < (s.length : Int)
 ·by_cases h1 : bt s i.toNat = 9
  ·exact aS2 c0 hI0 h0 h1
  ·by_cases h2 : bt s i.toNat < 32
   ·have := bQ s i.toNat; have := bR s i.toNat
    refine Cn (h := DR) rfl ?_ (aI) runVi_p3
    unfold DR
    exact hc bU <|hc dG <|hc eT <|hc yP <|hnil
   ·by_cases h3 : bt s i.toNat = 127
    ·have := bQ s i.toNat; have := bR s i.toNat
     refine Cn (h := DQ) rfl ?_ (aI) runVi_p4
     unfold DQ
     exact hc bU <|hc dG <|hc eT <|hc lO <|hc nA <|hnil
    ·exact aS3 c0 hI0 h0 h1 h2 h3
 ·exfalso; have e := al_end (by omega) i2; rw [e] at x0; exact absurd x0 (by simp)
theorem lfOkVi_1 (s : LB) (A : Bool) (c0 : s.length ≤ 140737488355328) (x0 : A = false) : bI (cx nu one 1 aH aQ) (EVi_1 s A) Al mf 23 .ret 4 4 4 4 qR zm [(2, .b false)] [] (kj s A) (DVi s A) :=
 dW (sY s A) (fun _ _ => rfl) (fun _ _ => rfl) (fun _ _ => rfl) (fun st X t ht => dT.trans (dS ((by decide : ∀ t, t ∈ mf → t < 1000000) t ht))) rfl rfl rfl ebVi rfl rfl (roundsVi_1 s A c0 x0)
noncomputable def tj : FI := (cD.fn.get 52).getD default
theorem aX2 : cD.fn.get 52 = some tj := by kernel_rfl
theorem F3 : tj.body = some (Tryd.f52.body.getD .skip) := by kernel_rfl
theorem fiB52 : tj.body.isSome = true := by rw [F3]; rfl
def DP : LK := [(.len (.x 0), .x 1)]
def lh1 : LH := ⟨4, 4, 4, [], []⟩
def lf1 : LF := ⟨2, 23, [(0, .x 0), (2, .b false), (7, I6 0), (5, .x 0), (6, .x 1)], [], (.exit 0), [(0, .x 2), (2, .b false)], some lh1⟩
noncomputable def aA4 : Tab := bL ({ cD with hyp := DP }) 52 tj [lf1]
theorem runVisible_0 (e : Nat) : okA (call aA4 9000 52 [.x 0] ⟨H0 e , 4, 0, 0⟩) (.b true) = true := by kernel_rfl
def wc (s : LB) : List Value := [St' s, .int .i64 ((s.length : Int)), St' s]
theorem pathVisible_0 (s : LB) (b0 : s.length ≤ 9223372036854775807) (p0 : s.length ≤ 140737488355328) (h0 : s.all (gF jO) = true) (w : World) (hl : aH w) : bp 52 #[St' s] w (.bool true) := by
 have ho : ∀ k r, (k, r) ∈ DP → aM (cx (bA (wc s)) (fun j _ => aV (l := wc s) rfl j) 1 aH aQ) k r := by
  unfold DP
  exact hc av <|hnil
 refine cR (tb := aA4) (ra := .b true) rfl (aq.bz ((ab (bA (wc s)) (fun j _ => aV (l := wc s) rfl j)).hyps ho) (by omega) aX2 F3 (bK (bx rfl ⟨0, keyVi, bI.use (l := lf1) (h := lh1) (lfOkVi_0 s (s.all (gF jO)) (by omega) (by assumption)) (0, (0 : Int)) (yN ⟨by omega, by omega, rfl, by omega⟩) rfl (by kernel_rfl) (ao := [(0, .x 0), (1, I6 0), (2, .x 1)]) (ai := []) (fun X => aB (v := St' s) (ad bS (aB (v := .int .i64 ((s.length : Int))) (aI)))) (by kernel_rfl) (ak := [(2, .x 0)]) (aB (v := St' s) (aI)) (by kernel_rfl)⟩) aj)) rfl (ez (by omega)) fiB52 (fun e => runVisible_0 e ) (args := [St' s]) (by simp only [aJ, Rel]; exact ⟨_, _, rfl, rfl, rfl⟩) w hl fun x hx => ?_
 simp only [Rel, aJ] at hx
 exact hx
def DN : LK := [(.len (.x 0), .x 1)]
def lf3 : LF := ⟨2, 23, [(0, .x 0), (2, .b false), (7, I6 0), (5, .x 0), (6, .x 1)], [], .ret, [(2, .b false)], some lh1⟩
noncomputable def aA3 : Tab := bL ({ cD with hyp := DN }) 52 tj [lf3]
theorem runVisible_1 (e : Nat) : okA (call aA3 9000 52 [.x 0] ⟨H0 e , 4, 0, 0⟩) (.b false) = true := by kernel_rfl
def wZ (s : LB) : List Value := [St' s, .int .i64 ((s.length : Int))]
theorem pathVisible_1 (s : LB) (b0 : s.length ≤ 9223372036854775807) (p0 : s.length ≤ 140737488355328) (h0 : ¬ (s.all (gF jO) = true)) (w : World) (hl : aH w) : bp 52 #[St' s] w (.bool false) := by
 have ho : ∀ k r, (k, r) ∈ DN → aM (cx (bA (wZ s)) (fun j _ => aV (l := wZ s) rfl j) 1 aH aQ) k r := by
  unfold DN
  exact hc av <|hnil
 refine cR (tb := aA3) (ra := .b false) rfl (aq.bz ((ab (bA (wZ s)) (fun j _ => aV (l := wZ s) rfl j)).hyps ho) (by omega) aX2 F3 (bK (bx rfl ⟨0, keyVi, bI.use (l := lf3) (h := lh1) (lfOkVi_1 s (s.all (gF jO)) (by omega) (by simpa using (by assumption : ¬ (s.all (gF jO) = true)))) (0, (0 : Int)) (yN ⟨by omega, by omega, rfl, by omega⟩) rfl (by kernel_rfl) (ao := [(0, .x 0), (1, I6 0), (2, .x 1)]) (ai := []) (fun X => aB (v := St' s) (ad bS (aB (v := .int .i64 ((s.length : Int))) (aI)))) (by kernel_rfl) (ak := []) (aI) (by kernel_rfl)⟩) aj)) rfl (ez (by omega)) fiB52 (fun e => runVisible_1 e ) (args := [St' s]) (by simp only [aJ, Rel]; exact ⟨_, _, rfl, rfl, rfl⟩) w hl fun x hx => ?_
 simp only [Rel, aJ] at hx
 exact hx
theorem callsVisible (s : LB) (b0 : s.length ≤ 9223372036854775807) (p0 : s.length ≤ 140737488355328) (w : World) (hl : aH w) : bp 52 #[St' s] w (.bool (dk s)) := by
 by_cases h0 : s.all (gF jO) = true
 ·rw [show (.bool (dk s) : Value) = (.bool true : Value) from by unfold dk; first | (simp [*]; done)]
  exact pathVisible_0 s b0 p0 h0 w hl
 ·rw [show (.bool (dk s) : Value) = (.bool false : Value) from by unfold dk; first | (simp [*]; done)]
  exact pathVisible_1 s b0 p0 h0 w hl
theorem ld {x0 r : AV} {s : LB} (i0 : Is (cx nu one 1 aH aQ) x0 (St' s)) (hr : Den (cx nu one 1 aH aQ) r (.bool (dk s))) (b0 : s.length ≤ 9223372036854775807 := by omega) (p0 : s.length ≤ 140737488355328 := by omega) : aM (cx nu one 1 aH aQ) (.call 52 [x0]) r := by
 intro ρ args ha w hl _
 simp only [aJ] at ha
 obtain ⟨v0, t0, rfl, a0, rfl⟩ := ha
 have e0 := i0 ρ _ a0; subst e0
 exact (callsVisible s b0 p0 w hl).mono fun e w' he => ⟨_, he.1, hr ρ, he.2⟩
def bl (b : UInt8) : Bool := tb8 4294967808 (b.toNat : Int)
def kB (l : LB) : LB := (l.reverse.dropWhile bl).reverse
def iZ (l : LB) : LB := l.dropWhile bl
def trS (l : LB) : LB := iZ (kB l)
theorem trR_len (l : LB) : (kB l).length ≤ l.length := by
 have := (List.dropWhile_sublist (p := bl) (l := l.reverse)).length_le
 unfold kB; simpa using this
theorem trL_len (l : LB) : (iZ l).length ≤ l.length := (List.dropWhile_sublist (p := bl) (l := l)).length_le
section
open Go.Shelf
def shT_ren : Go.Shelf.Ren := ⟨fun | 160 => 34 | 232 => 45 | 231 => 44 | 227 => 46 | 234 => 48 | 233 => 47 | 236 => 50 | 235 => 49 | 228 => 60 | 271 => 63 | 151 => 62 | 197 => 61 | 120 => 71 | 152 => 70 | 260 => 69 | 137 => 65 | 119 => 72 | 224 => 58 | 225 => 57 | 217 => 56 | 266 => 67 | n => n, fun | 9 => 9 | 4 => 4 | 3 => 3 | 5 => 5 | 117 => 103 | 116 => 102 | 0 => 0 | 124 => 106 | 21 => 21 | 105 => 115 | 46 => 113 | 119 => 122 | 139 => 125 | 138 => 124 | n => n, fun | 3 => 2 | 4 => 3 | n => n⟩
theorem shT : Go.Proofs.Lays.n160 Tryd.prog shT_ren := {
 mixed := by kernel_rfl
 f119 := Tryd.func72.trans (congrArg some (by kernel_rfl))
 f120 := Tryd.func71.trans (congrArg some (by kernel_rfl))
 f137 := Tryd.func65.trans (congrArg some (by kernel_rfl))
 f151 := Tryd.func62.trans (congrArg some (by kernel_rfl))
 f152 := Tryd.func70.trans (congrArg some (by kernel_rfl))
 f160 := Tryd.func34.trans (congrArg some (by kernel_rfl))
 f197 := Tryd.func61.trans (congrArg some (by kernel_rfl))
 f217 := Tryd.func56.trans (congrArg some (by kernel_rfl))
 f224 := Tryd.func58.trans (congrArg some (by kernel_rfl))
 f225 := Tryd.func57.trans (congrArg some (by kernel_rfl))
 f227 := Tryd.func46.trans (congrArg some (by kernel_rfl))
 f228 := Tryd.func60.trans (congrArg some (by kernel_rfl))
 f231 := Tryd.func44.trans (congrArg some (by kernel_rfl))
 f232 := Tryd.func45.trans (congrArg some (by kernel_rfl))
 f233 := Tryd.func47.trans (congrArg some (by kernel_rfl))
 f234 := Tryd.func48.trans (congrArg some (by kernel_rfl))
 f235 := Tryd.func49.trans (congrArg some (by kernel_rfl))
 f236 := Tryd.func50.trans (congrArg some (by kernel_rfl))
 f260 := Tryd.func69.trans (congrArg some (by kernel_rfl))
 f266 := Tryd.func67.trans (congrArg some (by kernel_rfl))
 f271 := Tryd.func63.trans (congrArg some (by kernel_rfl))
 t0 := Tryd.underlying0
 a0 := Tryd.isAgg0
 z0 := Tryd.sizeOf0
 v0 := Tryd.zeroValue0
 t3 := Tryd.underlying3
 a3 := Tryd.isAgg3
 z3 := Tryd.sizeOf3
 v3 := Tryd.zeroValue3
 t4 := Tryd.underlying4
 a4 := Tryd.isAgg4
 z4 := Tryd.sizeOf4
 v4 := Tryd.zeroValue4
 t5 := Tryd.underlying5
 a5 := Tryd.isAgg5
 z5 := Tryd.sizeOf5
 v5 := Tryd.zeroValue5
 t9 := Tryd.underlying9
 a9 := Tryd.isAgg9
 z9 := Tryd.sizeOf9
 v9 := Tryd.zeroValue9
 t21 := Tryd.underlying21
 a21 := Tryd.isAgg21
 z21 := Tryd.sizeOf21
 v21 := Tryd.zeroValue21
 t46 := Tryd.underlying113
 a46 := Tryd.isAgg113
 z46 := Tryd.sizeOf113
 v46 := Tryd.zeroValue113
 t105 := Tryd.underlying115
 a105 := Tryd.isAgg115
 z105 := Tryd.sizeOf115
 v105 := Tryd.zeroValue115
 t116 := Tryd.underlying102
 a116 := Tryd.isAgg102
 z116 := Tryd.sizeOf102
 t117 := Tryd.underlying103
 a117 := Tryd.isAgg103
 z117 := Tryd.sizeOf103
 v117 := Tryd.zeroValue103
 t119 := Tryd.underlying122
 a119 := Tryd.isAgg122
 z119 := Tryd.sizeOf122
 t124 := Tryd.underlying106
 a124 := Tryd.isAgg106
 z124 := Tryd.sizeOf106
 v124 := Tryd.zeroValue106
 t138 := Tryd.underlying124
 a138 := Tryd.isAgg124
 z138 := Tryd.sizeOf124
 v138 := Tryd.zeroValue124
 t139 := Tryd.underlying125
 a139 := Tryd.isAgg125
 z139 := Tryd.sizeOf125
 v139 := Tryd.zeroValue125
 g3 := by kernel_rfl
 g4 := by kernel_rfl }
end
theorem bl_in (b : UInt8) : ([32, 9] : LB).contains b = bl b := by
 have h : ∀ m : Fin 256, ([32, 9] : LB).contains (UInt8.ofNat m.val) = bl (UInt8.ofNat m.val) := by decide +kernel
 have := h ⟨b.toNat, b.toNat_lt⟩
 simpa using this
theorem trS_lib (s : LB) : Lib.trimS s [32, 9] = trS s := by
 have e : (fun b => ([32, 9] : LB).contains b) = bl := funext bl_in
 unfold Lib.trimS Lib.trimLeftS Lib.trimRightS
 rw [e]; rfl
theorem callsTrim (s : LB) (b0 : s.length ≤ 140737488355328) (w : World) : Calls Tryd.prog 34 #[St' s, St' [u8 32, u8 9]] w fun e w' => e = .returned (St' (trS s)) ∧ Go.RowKit.Below w.heap.size w w' := by
 have h := Any.strings_Trim_laid shT (by kernel_rfl) ⟨s.toArray⟩ ⟨#[32, 9]⟩ w (show s.toArray.size ≤ _ by rw [List.size_toArray]; omega) (by decide) (ascii_of_all (by decide))
 rw [show (⟨s.toArray⟩ : ByteArray).data.toList = s by simp, show (⟨#[32, 9]⟩ : ByteArray).data.toList = [32, 9] from rfl, trS_lib] at h; exact h
theorem ji {x0 x1 r : AV} {s : LB} (i0 : Is (cx nu one 1 aH aQ) x0 (St' s)) (i1 : Is (cx nu one 1 aH aQ) x1 (St' [u8 32, u8 9])) (hr : Den (cx nu one 1 aH aQ) r (St' (trS s))) (_ : s.length ≤ 9223372036854775807 := by omega) (p0 : s.length ≤ 140737488355328 := by omega) : aM (cx nu one 1 aH aQ) (.call 34 [x0, x1]) r := by
 intro ρ args ha w hl _
 simp only [aJ] at ha
 obtain ⟨v0, t0, rfl, a0, v1, t1, rfl, a1, rfl⟩ := ha
 have e0 := i0 ρ _ a0; subst e0
 have e1 := i1 ρ _ a1; subst e1
 exact (callsTrim s p0 w).mono fun e w' he => ⟨_, he.1, hr ρ, below_of he.2⟩
def bb (l : LB) : LB := kB (iZ l)
theorem GD {p : UInt8 → Bool} : ∀ (l r : LB), (l ++ r).dropWhile p = if l.all p then r.dropWhile p else l.dropWhile p ++ r
 | [], r => by simp
 | a :: l, r => by
  rw [List.cons_append, List.dropWhile_cons, List.dropWhile_cons, List.all_cons]
  cases h : p a with
  | true => simp only [if_true, Bool.true_and]; exact GD l r
  | false => simp
theorem GF {p : UInt8 → Bool} : ∀ l : LB, l.all p = true → l.dropWhile p = []
 | [], _ => rfl
 | a :: l, h => by
  rw [List.all_cons, Bool.and_eq_true] at h
  rw [List.dropWhile_cons, h.1, if_pos rfl]; exact GF l h.2
theorem trR_cons {a : UInt8} {l : LB} (h : bl a = false) : kB (a :: l) = a :: kB l := by
 unfold kB
 rw [List.reverse_cons, GD]
 split
 ·rename_i h2
  rw [GF l.reverse h2]
  simp [h]
 ·simp
theorem trR_blank {a : UInt8} {l : LB} (h : bl a = true) : iZ (kB (a :: l)) = iZ (kB l) := by
 unfold kB
 rw [List.reverse_cons, GD]
 split
 ·rename_i h2
  rw [GF l.reverse h2]
  simp [h]
 ·rw [List.reverse_append, List.reverse_singleton, List.singleton_append]
  unfold iZ; rw [List.dropWhile_cons, h, if_pos rfl]
theorem iY : ∀ l : LB, trS l = bb l
 | [] => rfl
 | a :: l => by
  unfold trS bb
  cases h : bl a with
  | true =>
   rw [trR_blank h]
   have e : iZ (a :: l) = iZ l := by unfold iZ; rw [List.dropWhile_cons, h, if_pos rfl]
   rw [e]; exact iY l
  | false =>
   have e : iZ (a :: l) = a :: l := by unfold iZ; rw [List.dropWhile_cons, h]; rfl
   rw [e, trR_cons h]
   unfold iZ; rw [List.dropWhile_cons, h]; rfl
end Go.Proofs.YtcjanblpboaleaaDoor.cgiCuts

