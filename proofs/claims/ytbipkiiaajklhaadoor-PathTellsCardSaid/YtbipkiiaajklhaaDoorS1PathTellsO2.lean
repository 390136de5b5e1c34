/- A part of the proof: an interpreter of the model's own code on partly known states, and that what it answers is what the program answers. No condition of its own. -/
import Derived.Test.YtbipkiiaajklhaaDoorS1PathTellsO
set_option maxRecDepth 100000
set_option linter.unusedVariables false
set_option linter.unusedSimpArgs false
set_option maxHeartbeats 4000000
namespace Go.Proofs.YtbipkiiaajklhaaDoor.pathTells
open Go Go.AX Go.Proofs Go.Proofs.YtbipkiiaajklhaaDoor
variable {nu : Nat → Value} {one : ∀ i, i < 1000000 → (nu i).oneCell' = true} {E' : Cx} {x' : Ex} {e' : LA} {h' : LE}
theorem aG8 (e : LB) : ((unS e).getD []).length ≤ e.length := by
  cases h : unS e with
  | none => simp
  | some t => exact (cB5 h).1
theorem pb_at {s : LB} {i : Int} (h0 : 0 ≤ i) (h : i < s.length) : (s.drop (Int.toNat i)).any pbB = (tb8 MPb (bt s (Int.toNat (i))) || (s.drop (Int.toNat (i + 1))).any pbB) := by
  have e : s.drop i.toNat = u8 (bt s i.toNat) :: s.drop (i.toNat + 1) := by
    rw [List.drop_eq_getElem_cons (by omega), dW7, List.getD_eq_getElem?_getD, List.getElem?_eq_getElem (by omega), Option.getD_some]
  rw [e, List.any_cons, pbB, bM0 (aB6 _ _) (aB7 _ _), show (i + 1).toNat = i.toNat + 1 by omega]
theorem pb_no {s : LB} {i : Int} {A : Bool} (h0 : 0 ≤ i) (h : i < s.length) (hb : tb8 MPb (bt s (Int.toNat (i))) = false) (hA : (s.drop (Int.toNat i)).any pbB = A) : (s.drop (Int.toNat (i + 1))).any pbB = A := by
  rw [pb_at h0 h, hb, Bool.false_or] at hA; exact hA
theorem bW1 {s : LB} {i : Int} {A : Bool} (h0 : 0 ≤ i) (h : i < s.length) (hb : tb8 MPb (bt s (Int.toNat (i))) = true) (hA : (s.drop (Int.toNat i)).any pbB = A) : A = true := by
  rw [pb_at h0 h, hb, Bool.true_or] at hA; exact hA.symm
theorem pb_end {s : LB} {i : Int} {A : Bool} (h : (s.length : Int) ≤ i) (hA : (s.drop (Int.toNat i)).any pbB = A) : A = false := by
  rw [List.drop_eq_nil_of_le (by omega)] at hA; exact hA.symm
def mByt : LB := [u8 97, u8 32, u8 112, u8 97, u8 116, u8 104, u8 32, u8 119, u8 105, u8 116, u8 104, u8 32, u8 97, u8 32, u8 98, u8 121, u8 116, u8 101, u8 32, u8 116, u8 104, u8 97, u8 116, u8 32, u8 109, u8 97, u8 121, u8 32, u8 110, u8 111, u8 116, u8 32, u8 98, u8 101]
def mOut : LB := [u8 97, u8 32, u8 112, u8 97, u8 116, u8 104, u8 32, u8 116, u8 104, u8 97, u8 116, u8 32, u8 108, u8 101, u8 97, u8 100, u8 115, u8 32, u8 111, u8 117, u8 116]
def mHd : LB := [u8 97, u8 32, u8 112, u8 97, u8 116, u8 104, u8 32, u8 116, u8 104, u8 97, u8 116, u8 32, u8 100, u8 111, u8 101, u8 115, u8 110, u8 39, u8 116, u8 32, u8 98, u8 101, u8 103, u8 105, u8 110, u8 32, u8 119, u8 105, u8 116, u8 104, u8 32, u8 97, u8 32, u8 115, u8 108, u8 97, u8 115, u8 104]
abbrev dcS (r : LB) : Option LB := decG unS r
abbrev gS (r : LB) : LB := (dcS r).getD []
def dcM (r : LB) : LB := if unS r = none then unM r else mByt
theorem dI6 {s : LB} (h : unS s = none) : dcS s = none ∧ dcM s = unM s := by
  refine ⟨by unfold dcS decG; rw [h], if_pos h⟩
theorem dI5 {s : LB} (h : ¬ unS s = none) (hb : ((unS s).getD []).any pbB = true) : dcS s = none ∧ dcM s = mByt := by
  refine ⟨?_, if_neg h⟩
  unfold dcS decG
  cases e : unS s with
  | none => rfl
  | some t => rw [e] at hb; exact if_pos hb
theorem dc_s {s : LB} (h : ¬ unS s = none) (hb : ¬ ((unS s).getD []).any pbB = true) : ¬ dcS s = none ∧ gS s = (unS s).getD [] := by
  unfold gS dcS decG
  cases e : unS s with
  | none => exact absurd e h
  | some t => rw [e] at hb; simp only; rw [if_neg (show ¬ t.any pbB = true from hb)]; exact ⟨by simp, rfl⟩
theorem aD2 (e : LB) : (gS e).length ≤ e.length := by
  by_cases h : unS e = none
  · unfold gS; rw [(dI6 h).1]; simp
  · by_cases hb : ((unS e).getD []).any pbB = true
    · unfold gS; rw [(dI5 h hb).1]; simp
    · rw [(dc_s h hb).2]; exact aG8 e
theorem pbF0 {c : Int} (h0 : 0 ≤ c) (h1 : c ≤ 255) (a0 : c < 32) : tb8 MPb c = true := by
  obtain ⟨n, rfl⟩ := Int.eq_ofNat_of_zero_le h0
  have h : ∀ m : Fin 256, (((m.val : Nat) : Int) < 32) → tb8 MPb ((m.val : Nat) : Int) = true := by decide +kernel
  exact h ⟨n, by omega⟩ a0
theorem pbF1 {c : Int} (h0 : 0 ≤ c) (h1 : c ≤ 255) (a0 : c = 127) : tb8 MPb c = true := by
  obtain ⟨n, rfl⟩ := Int.eq_ofNat_of_zero_le h0
  have h : ∀ m : Fin 256, (((m.val : Nat) : Int) = 127) → tb8 MPb ((m.val : Nat) : Int) = true := by decide +kernel
  exact h ⟨n, by omega⟩ a0
theorem pbF2 {c : Int} (h0 : 0 ≤ c) (h1 : c ≤ 255) (a0 : c = 47) : tb8 MPb c = true := by
  obtain ⟨n, rfl⟩ := Int.eq_ofNat_of_zero_le h0
  have h : ∀ m : Fin 256, (((m.val : Nat) : Int) = 47) → tb8 MPb ((m.val : Nat) : Int) = true := by decide +kernel
  exact h ⟨n, by omega⟩ a0
theorem pbF3 {c : Int} (h0 : 0 ≤ c) (h1 : c ≤ 255) (a0 : ¬ (c < 32)) (a1 : ¬ (c = 127)) (a2 : ¬ (c = 47)) : tb8 MPb c = false := by
  obtain ⟨n, rfl⟩ := Int.eq_ofNat_of_zero_le h0
  have h : ∀ m : Fin 256, (¬ (((m.val : Nat) : Int) < 32)) → (¬ (((m.val : Nat) : Int) = 127)) → (¬ (((m.val : Nat) : Int) = 47)) → tb8 MPb ((m.val : Nat) : Int) = false := by decide +kernel
  exact h ⟨n, by omega⟩ a0 a1 a2
noncomputable def dU5 : Code := aL8 (Tryd.f17.body.getD .skip) 0
theorem keyDc : aK6 (aC0 (Tryd.f17.body.getD .skip)) 5 0 0 = true := by kernel_rfl
def bJ7 : List Nat := []
def eK9 : LA := [(2, .s 0 0), (3, .ni), (4, .x 0), (16, .x 0), (17, .x 2), (18, .x 1)]
def eJ3 : LE := []
def aY8 (s : LB) (A : Bool) (i : Int) : List Value := [St' s, .int .i64 (i), .int .i64 ((s.length : Int)), St' ([] : LB), St' ([] : LB), .int .u8 (bt s (Int.toNat (i))), .int .i64 (i + 1), St' ([] : LB), .int .u8 (bt s (Int.toNat (i))), St' ([] : LB), .int .u8 (bt s (Int.toNat (i))), St' ([] : LB), .int .u8 (bt s (Int.toNat (i)))]
def cN8 (s : LB) (A : Bool) (i : Int) : List Value := [rwS ([] : List LB), rwS ([] : List LB), rwS ([] : List LB), rwS ([] : List LB), rwS ([] : List LB)]
def epDc (st : Nat × Int) : LA := eK9
def hpDc (st : Nat × Int) : LE := eJ3
def nuDc (s : LB) (A : Bool) (st : Nat × Int) : List Value := aY8 s A (st.2)
def roDc (s : LB) (A : Bool) (st : Nat × Int) : List Value := cN8 s A (st.2)
theorem onDc (s : LB) (A : Bool) (st : Nat × Int) : ∀ j, (nuL (nuDc s A st) j).oneCell' = true := by
  intro j
  unfold nuDc
  exact aA2 (l := aY8 s A (st.2)) rfl j
theorem ebDc (st : Nat × Int) : (lfB (epDc st) && lfC bJ7) = true := by
  unfold epDc
  rfl
noncomputable def DDc (s : LB) (A : Bool) (st : Nat × Int) (X : Nat → Value) : Cx := cx (nuX (nuDc s A st) (rX (roDc s A st) X)) (aA4 (onDc s A st)) 1 aA3 aA0
def bU3 (s : LB) (A : Bool) (st : Nat × Int) : Prop := (0 ≤ (st.2)) ∧ ((st.2) ≤ (s.length : Int)) ∧ ((s.drop (Int.toNat (st.2))).any pbB = A) ∧ ((st.1) < 1)
abbrev CjDc (s : LB) (A : Bool) (tag : Nat) (i : Int) : Prop := (0 ≤ i) ∧ (i ≤ (s.length : Int)) ∧ ((s.drop (Int.toNat i)).any pbB = A) ∧ (tag < 1)
theorem mkIDc {s : LB} {A : Bool} {tag : Nat} {i : Int} (h : CjDc s A tag i) : bU3 s A (tag, i) := h
theorem unIDc (s : LB) (A : Bool) (tag : Nat) (i : Int) (h : bU3 s A (tag, i)) : (0 ≤ i) ∧ (i ≤ (s.length : Int)) ∧ ((s.drop (Int.toNat i)).any pbB = A) ∧ (tag < 1) := h
def muDc (s : LB) (A : Bool) (st : Nat × Int) : Nat := (s.length - (st.2).toNat)
abbrev RHDc (s : LB) (A : Bool) (E' : Cx) (ex' : Ex) (epx' : LA) (hpx' : LE) (st : Nat × Int) (X : Nat → Value) : Prop := aC3 E' dU5 bJ7 36 ex' 4 4 4 4 epDc hpDc epx' hpx' (bU3 s A) (muDc s A) (DDc s A) st X
noncomputable abbrev bT9 (h : LK) (x : Ex) (th : LA) (sg : List (Nat × Nat)) (m : Nat) (ep : LA) (hp : LE) : Bool := aL4 (code (tbl h) 900 [] dU5 (aH4 (aE4 eK9 bJ7) 36) ⟨aD1 eJ3 .leaf, 4, 0, 0⟩) x bJ7 36 4 th sg 4 m ep hp
theorem stDc_0 {s : LB} {A : Bool} {i : Int} {X : Nat → Value} {h : LK} (y : Nat × Int) {th : LA} {sg : List (Nat × Nat)} (ho : ∀ a' r', (a', r') ∈ h → HOk (cx (nuX (aY8 s A i) (rX (cN8 s A i) X)) (aA4 (aA2 (l := aY8 s A i) rfl)) 1 aA3 aA0) a' r') (hy : bU3 s A y) (lt : muDc s A y < muDc s A (0, i)) (ht : ThOk (cx (nuX (aY8 s A i) (rX (cN8 s A i) X)) (aA4 (aA2 (l := aY8 s A i) rfl)) 1 aA3 aA0) (DDc s A y X) th) (run : bT9 h .normal th sg 4 (epDc y) (hpDc y) = true) : RHDc s A E' x' e' h' (0, i) X :=
  aC3.next (tb := tbl h) (L := []) (f := 900) y ((aB0 _ _).hyps ho) (LpOk.nil _) rfl hy lt ht run
theorem dQ7 {s : LB} {A : Bool} {i : Int} {X : Nat → Value} {h : LK} {th : LA} {sg : List (Nat × Nat)} (hne : exB x' .normal = false) (ho : ∀ a' r', (a', r') ∈ h → HOk (cx (nuX (aY8 s A i) (rX (cN8 s A i) X)) (aA4 (aA2 (l := aY8 s A i) rfl)) 1 aA3 aA0) a' r') (ht : ThOk (cx (nuX (aY8 s A i) (rX (cN8 s A i) X)) (aA4 (aA2 (l := aY8 s A i) rfl)) 1 aA3 aA0) E' th) (run : bT9 h x' th sg 4 e' h' = true) : RHDc s A E' x' e' h' (0, i) X :=
  aC3.leave (tb := tbl h) (L := []) (f := 900) ((aB0 _ _).hyps ho) (LpOk.nil _) rfl hne ht run
def dF3 : LK := [(.bin .lss (.x 1) (.x 2), .b false)]
theorem runDc_p0 : bT9 dF3 (.exit 0) [(0, .x 0)] [] 4 [(2, .s 0 0), (3, .ni), (4, .x 0)] [] = true := by kernel_rfl
def dF2 : LK := [(.bin .lss (.x 1) (.x 2), .b true), (.idx (.x 0) (.x 1), .x 5), (.bin .lss (.x 5) (.i .u8 (.ofNat 32)), .b false), (.bin .eql (.x 5) (.i .u8 (.ofNat 127)), .b false), (.bin .eql (.x 5) (.i .u8 (.ofNat 47)), .b false), (.bin .add (.x 1) (I6 1), .x 6)]
theorem runDc_p1 : bT9 dF2 .normal [(0, .x 0), (1, .x 6), (2, .x 2)] [] 4 eK9 eJ3 = true := by kernel_rfl
def dF1 : LK := [(.bin .lss (.x 1) (.x 2), .b true), (.idx (.x 0) (.x 1), .x 8), (.bin .lss (.x 8) (.i .u8 (.ofNat 32)), .b false), (.bin .eql (.x 8) (.i .u8 (.ofNat 127)), .b false), (.bin .eql (.x 8) (.i .u8 (.ofNat 47)), .b true)]
theorem runDc_p2 : bT9 dF1 .ret [] [] 4 [(2, .s 0 0), (3, .ifc 51 (.ag [I6 10, .s 34 3005282563799781573393914916697283980865317069800478624488273387950561852790939745]))] [] = true := by kernel_rfl
def dF0 : LK := [(.bin .lss (.x 1) (.x 2), .b true), (.idx (.x 0) (.x 1), .x 10), (.bin .lss (.x 10) (.i .u8 (.ofNat 32)), .b false), (.bin .eql (.x 10) (.i .u8 (.ofNat 127)), .b true)]
theorem runDc_p3 : bT9 dF0 .ret [] [] 4 [(2, .s 0 0), (3, .ifc 51 (.ag [I6 10, .s 34 3005282563799781573393914916697283980865317069800478624488273387950561852790939745]))] [] = true := by kernel_rfl
def dE9 : LK := [(.bin .lss (.x 1) (.x 2), .b true), (.idx (.x 0) (.x 1), .x 12), (.bin .lss (.x 12) (.i .u8 (.ofNat 32)), .b true)]
theorem runDc_p4 : bT9 dE9 .ret [] [] 4 [(2, .s 0 0), (3, .ifc 51 (.ag [I6 10, .s 34 3005282563799781573393914916697283980865317069800478624488273387950561852790939745]))] [] = true := by kernel_rfl
section
variable {s : LB} {A : Bool} (c0 : s.length ≤ 140737488355328) {i : Int} {X : Nat → Value}
include c0
theorem eE7 (hI : bU3 s A (0, i)) (h0 : i < (s.length : Int)) (h1 : ¬ (bt s (Int.toNat (i)) < 32)) (h2 : ¬ (bt s (Int.toNat (i)) = 127)) (h3 : ¬ (bt s (Int.toNat (i)) = 47)) : RHDc s A E' x' e' h' (0, i) X := by
  obtain ⟨i0, i1, i2, it⟩ := unIDc s A 0 i hI
  have := aB6 s (Int.toNat (i)); have := aB7 s (Int.toNat (i))
  refine stDc_0 (h := dF2) (0, (i + 1)) ?_ (mkIDc ⟨by omega, by omega, pb_no (by omega) (by omega) (pbF3 (aB6 _ _) (aB7 _ _) (by assumption) (by assumption) (by assumption)) i2, by omega⟩) (by show s.length - (i + 1).toNat < s.length - i.toNat; omega) (thXv (v := St' s) rfl rfl (thXi (b := ((i + 1))) rfl rfl (by omega) (thXv (v := .int .i64 ((s.length : Int))) rfl rfl (aA6)))) runDc_p1
  unfold dF2
  exact hc (ltT rfl rfl (by omega)) <|hc (ixV rfl rfl rfl (by omega)) <|hc (ltcF rfl (by omega)) <|hc (eqcF rfl (by omega)) <|hc (eqcF rfl (by omega)) <|hc (adC rfl rfl (by omega)) <|hnil
end
def eG7 (s : LB) (A : Bool) : List Value := [St' s]
def roEDc_0 (s : LB) (A : Bool) : List Value := []
noncomputable def EDc_0 (s : LB) (A : Bool) : Cx := cx (nuX (eG7 s A) (rX (roEDc_0 s A) (fun _ => .bool true))) (aA4 (aA2 (l := eG7 s A) rfl)) 1 aA3 aA0
theorem roundsDc_0 (s : LB) (A : Bool) (c0 : s.length ≤ 140737488355328) (x0 : A = false) (st : Nat × Int) (X : Nat → Value) (hI : bU3 s A st) : RHDc s A (EDc_0 s A) (.exit 0) [(2, .s 0 0), (3, .ni), (4, .x 0)] [] st X := by
  obtain ⟨tag, i⟩ := st
  have hI0 := hI
  obtain ⟨i0, i1, i2, it⟩ := unIDc s A tag i hI
  obtain rfl : tag = 0 := by omega
  skip
  by_cases h0 : i < (s.length : Int)
  · by_cases h1 : bt s (Int.toNat (i)) < 32
    · exfalso; have e := bW1 (by omega) (by omega) (by first | exact pbF0 (aB6 _ _) (aB7 _ _) (by assumption) | exact pbF1 (aB6 _ _) (aB7 _ _) (by assumption) | exact pbF2 (aB6 _ _) (aB7 _ _) (by assumption)) i2; rw [e] at x0; exact absurd x0 (by simp)
    · by_cases h2 : bt s (Int.toNat (i)) = 127
      · exfalso; have e := bW1 (by omega) (by omega) (by first | exact pbF0 (aB6 _ _) (aB7 _ _) (by assumption) | exact pbF1 (aB6 _ _) (aB7 _ _) (by assumption) | exact pbF2 (aB6 _ _) (aB7 _ _) (by assumption)) i2; rw [e] at x0; exact absurd x0 (by simp)
      · by_cases h3 : bt s (Int.toNat (i)) = 47
        · exfalso; have e := bW1 (by omega) (by omega) (by first | exact pbF0 (aB6 _ _) (aB7 _ _) (by assumption) | exact pbF1 (aB6 _ _) (aB7 _ _) (by assumption) | exact pbF2 (aB6 _ _) (aB7 _ _) (by assumption)) i2; rw [e] at x0; exact absurd x0 (by simp)
        · exact eE7 c0 hI0 h0 h1 h2 h3
  · skip
    refine dQ7 (h := dF3) rfl ?_ (thXv (v := St' s) rfl rfl (aA6)) runDc_p0
    unfold dF3
    exact hc (ltF rfl rfl (by omega)) <|hnil
theorem lfOkDc_0 {l : LF} {h : LH} (s : LB) (A : Bool) (c0 : s.length ≤ 140737488355328) (x0 : A = false) (st : Nat × Int) (hI : bU3 s A st) (hl : l.hp = some h) (hs : aF3 l h 36 bJ7 (.exit 0) 4 4 4 = true) {th0 : LA} {sg0 : List (Nat × Nat)} (hth0 : ∀ X, ThOk (cx nu one 1 aA3 aA0) (DDc s A st X) th0) (h0 : aD9 l h 36 4 4 th0 sg0 (epDc st) (hpDc st) = true) {thx : LA} (hthx : ThOk (EDc_0 s A) (cx nu one 1 aA3 aA0) thx) (hx : aF5 l h 36 4 4 thx [(2, .s 0 0), (3, .ni), (4, .x 0)] [] = true) : LfOk (cx nu one 1 aA3 aA0) dU5 l :=
  aL5 (E := EDc_0 s A) (bU3 s A) (muDc s A) (DDc s A) (fun _ _ => rfl) (fun _ _ => rfl) (fun _ _ => rfl) (fun st X t ht => aD3.trans (aE2 ((by decide : ∀ t, t ∈ bJ7 → t < 1000000) t ht))) rfl rfl rfl hl hs ebDc rfl rfl st hI hth0 h0 hthx hx (roundsDc_0 s A c0 x0)
def eG6 (s : LB) (A : Bool) : List Value := []
def roEDc_1 (s : LB) (A : Bool) : List Value := []
noncomputable def EDc_1 (s : LB) (A : Bool) : Cx := cx (nuX (eG6 s A) (rX (roEDc_1 s A) (fun _ => .bool true))) (aA4 (aA2 (l := eG6 s A) rfl)) 1 aA3 aA0
theorem roundsDc_1 (s : LB) (A : Bool) (c0 : s.length ≤ 140737488355328) (x0 : A = true) (st : Nat × Int) (X : Nat → Value) (hI : bU3 s A st) : RHDc s A (EDc_1 s A) .ret [(2, .s 0 0), (3, .ifc 51 (.ag [I6 10, .s 34 3005282563799781573393914916697283980865317069800478624488273387950561852790939745]))] [] st X := by
  obtain ⟨tag, i⟩ := st
  have hI0 := hI
  obtain ⟨i0, i1, i2, it⟩ := unIDc s A tag i hI
  obtain rfl : tag = 0 := by omega
  skip
  by_cases h0 : i < (s.length : Int)
  · by_cases h1 : bt s (Int.toNat (i)) < 32
    · skip
      have := aB6 s (Int.toNat (i)); have := aB7 s (Int.toNat (i))
      refine dQ7 (h := dE9) rfl ?_ (aA6) runDc_p4
      unfold dE9
      exact hc (ltT rfl rfl (by omega)) <|hc (ixV rfl rfl rfl (by omega)) <|hc (ltcT rfl (by omega)) <|hnil
    · by_cases h2 : bt s (Int.toNat (i)) = 127
      · skip
        have := aB6 s (Int.toNat (i)); have := aB7 s (Int.toNat (i))
        refine dQ7 (h := dF0) rfl ?_ (aA6) runDc_p3
        unfold dF0
        exact hc (ltT rfl rfl (by omega)) <|hc (ixV rfl rfl rfl (by omega)) <|hc (ltcF rfl (by omega)) <|hc (eqcT rfl (by omega)) <|hnil
      · by_cases h3 : bt s (Int.toNat (i)) = 47
        · skip
          have := aB6 s (Int.toNat (i)); have := aB7 s (Int.toNat (i))
          refine dQ7 (h := dF1) rfl ?_ (aA6) runDc_p2
          unfold dF1
          exact hc (ltT rfl rfl (by omega)) <|hc (ixV rfl rfl rfl (by omega)) <|hc (ltcF rfl (by omega)) <|hc (eqcF rfl (by omega)) <|hc (eqcT rfl (by omega)) <|hnil
        · exact eE7 c0 hI0 h0 h1 h2 h3
  · exfalso; have e := pb_end (by omega) i2; rw [e] at x0; exact absurd x0 (by simp)
theorem lfOkDc_1 {l : LF} {h : LH} (s : LB) (A : Bool) (c0 : s.length ≤ 140737488355328) (x0 : A = true) (st : Nat × Int) (hI : bU3 s A st) (hl : l.hp = some h) (hs : aF3 l h 36 bJ7 .ret 4 4 4 = true) {th0 : LA} {sg0 : List (Nat × Nat)} (hth0 : ∀ X, ThOk (cx nu one 1 aA3 aA0) (DDc s A st X) th0) (h0 : aD9 l h 36 4 4 th0 sg0 (epDc st) (hpDc st) = true) {thx : LA} (hthx : ThOk (EDc_1 s A) (cx nu one 1 aA3 aA0) thx) (hx : aF5 l h 36 4 4 thx [(2, .s 0 0), (3, .ifc 51 (.ag [I6 10, .s 34 3005282563799781573393914916697283980865317069800478624488273387950561852790939745]))] [] = true) : LfOk (cx nu one 1 aA3 aA0) dU5 l :=
  aL5 (E := EDc_1 s A) (bU3 s A) (muDc s A) (DDc s A) (fun _ _ => rfl) (fun _ _ => rfl) (fun _ _ => rfl) (fun st X t ht => aD3.trans (aE2 ((by decide : ∀ t, t ∈ bJ7 → t < 1000000) t ht))) rfl rfl rfl hl hs ebDc rfl rfl st hI hth0 h0 hthx hx (roundsDc_1 s A c0 x0)
noncomputable def fi17 : FI := (tabk.fn.get 17).getD default
theorem eK1 : tabk.fn.get 17 = some fi17 := by kernel_rfl
theorem bS0 : fi17.body = some (Tryd.f17.body.getD .skip) := by kernel_rfl
theorem fiB17 : fi17.body.isSome = true := by rw [bS0]; rfl
theorem cfA17 : (aC0 (Tryd.f17.body.getD .skip)).all (fun b => !(aM1 (Go.AX.keyOf b) 8888888)) = true := by kernel_rfl
theorem fiNDec : tabk.fn.get 17 = some (fI Tryd.f17 0) ∧ (fI Tryd.f17 0).body.isSome = true := ⟨rfl, by kernel_rfl⟩
def dE8 : LK := [(.call 28 [.x 0], .tu [.x 1, .ni]), (.len (.x 1), .x 2)]
def lh4 : LH := ⟨4, 4, 4, [], []⟩
def lf4 : LF := ⟨5, 36, [(2, .s 0 0), (3, .ni), (4, .x 1), (16, .x 1), (17, .x 2), (18, I6 0)], [], (.exit 0), [(2, .s 0 0), (3, .ni), (4, .x 3)], some lh4⟩
noncomputable def dL7 : Tab := aB2 ({ tabk with hyp := dE8 }) 17 fi17 [lf4]
theorem runDec_0 (e : Nat) : okA (call dL7 9000 17 [.x 0] ⟨H0 e , 4, 0, 0⟩) (.tu [.x 3, .ni]) = true := by kernel_rfl
def cE7 (s : LB) : List Value := [St' s, St' ((unS s).getD []), .int .i64 ((((unS s).getD []).length : Int)), St' ((unS s).getD [])]
theorem pathDec_0 (s : LB) (b0 : s.length ≤ 9223372036854775807) (p0 : s.length ≤ 140737488355328) (h0 : ¬ (unS s = none)) (h1 : ¬ (((unS s).getD []).any pbB = true)) (w : World) (hl : aA3 w) : CwR 17 #[St' s] w (.tuple #[St' ((unS s).getD []), .nilIface]) := by
  have hun := aG8 s
  have ho : ∀ k r, (k, r) ∈ dE8 → HOk (cx (nuL (cE7 s)) (fun j _ => aA2 (l := cE7 s) rfl j) 1 aA3 aA0) k r := by
    unfold dE8
    exact hc (cK1 (s := s) (isX rfl) (by rw [if_neg (by assumption)]; exact aE6 (denX rfl) aQ0) (by omega) (by omega)) <|hc (lnV rfl rfl (by omega)) <|hnil
  refine runC (tb := dL7) (ra := .tu [.x 3, .ni]) rfl (aB3.lp1 ((aB0 (nuL (cE7 s)) (fun j _ => aA2 (l := cE7 s) rfl j)).hyps ho) (by omega) eK1 bS0 (aB1 (aB9 rfl ⟨0, keyDc, lfOkDc_0 (l := lf4) (h := lh4) ((unS s).getD []) (((unS s).getD []).any pbB) (by omega) (by simpa using (by assumption : ¬ (((unS s).getD []).any pbB = true))) (0, (0 : Int)) (mkIDc ⟨by omega, by omega, rfl, by omega⟩) rfl (by kernel_rfl) (th0 := [(0, .x 1), (1, I6 0), (2, .x 2)]) (sg0 := []) (fun X => thXv (v := St' ((unS s).getD [])) rfl rfl (aC2 (show Is _ (I6 0) (.int .i64 ((0 : Int))) from isTo (v := .int .i64 0) (isI _ _) (by first | rfl | (congr 1; omega))) (thXv (v := .int .i64 ((((unS s).getD []).length : Int))) rfl rfl (aA6)))) (by kernel_rfl) (thx := [(3, .x 0)]) (thXv (v := St' ((unS s).getD [])) rfl rfl (aA6)) (by kernel_rfl)⟩) aC1)) rfl (aC7 (by omega)) fiB17 (fun e => runDec_0 e ) (args := [St' s]) (by simp only [RelL, Rel]; exact ⟨_, _, rfl, rfl, rfl⟩) w hl fun x hx => ?_
  simp only [Rel, RelL] at hx
  obtain ⟨_, rfl, ⟨_, _, rfl, rfl, ⟨_, _, rfl, rfl, rfl⟩⟩⟩ := hx
  rfl
def cJ3 : LK := [(.call 28 [.x 0], .tu [.s 0 0, .ifc 51 (.ag [I6 10, .x 1])])]
theorem runDec_1 (e : Nat) : okA (call (tbl cJ3) 9000 17 [.x 0] ⟨H0 e , 4, 0, 0⟩) (.tu [.s 0 0, .ifc 51 (.ag [I6 10, .x 1])]) = true := by kernel_rfl
def cE6 (s : LB) : List Value := [St' s, St' (unM s)]
theorem pathDec_1 (s : LB) (b0 : s.length ≤ 9223372036854775807) (p0 : s.length ≤ 140737488355328) (h0 : unS s = none) (w : World) (hl : aA3 w) : CwR 17 #[St' s] w (.tuple #[St' ([] : LB), .iface 51 (.agg #[.int .i64 10, St' (unM s)])]) := by
  have hun := aG8 s
  have ho : ∀ k r, (k, r) ∈ cJ3 → HOk (cx (nuL (cE6 s)) (fun j _ => aA2 (l := cE6 s) rfl j) 1 aA3 aA0) k r := by
    unfold cJ3
    exact hc (cK1 (s := s) (isX rfl) (by rw [if_pos (by assumption)]; exact aE6 bL4 (bT3 (dI4 (denI .i64 10) (denX rfl)))) (by omega) (by omega)) <|hnil
  refine runC (tb := (tbl cJ3)) (ra := .tu [.s 0 0, .ifc 51 (.ag [I6 10, .x 1])]) rfl ((aB0 (nuL (cE6 s)) (fun j _ => aA2 (l := cE6 s) rfl j)).hyps ho) rfl fiNDec.1 fiNDec.2 (fun e => runDec_1 e ) (args := [St' s]) (by simp only [RelL, Rel]; exact ⟨_, _, rfl, rfl, rfl⟩) w hl fun x hx => ?_
  simp only [Rel, RelL] at hx
  obtain ⟨_, rfl, ⟨_, _, rfl, ⟨rfl, _⟩, ⟨_, _, rfl, ⟨_, rfl, ⟨_, rfl, ⟨_, _, rfl, rfl, ⟨_, _, rfl, rfl, rfl⟩⟩⟩⟩, rfl⟩⟩⟩ := hx
  rfl
def dE7 : LK := [(.call 28 [.x 0], .tu [.x 1, .ni]), (.len (.x 1), .x 2)]
def lf5 : LF := ⟨5, 36, [(2, .s 0 0), (3, .ni), (4, .x 1), (16, .x 1), (17, .x 2), (18, I6 0)], [], .ret, [(2, .s 0 0), (3, .ifc 51 (.ag [I6 10, .s 34 3005282563799781573393914916697283980865317069800478624488273387950561852790939745]))], some lh4⟩
noncomputable def dL6 : Tab := aB2 ({ tabk with hyp := dE7 }) 17 fi17 [lf5]
theorem runDec_2 (e : Nat) : okA (call dL6 9000 17 [.x 0] ⟨H0 e , 4, 0, 0⟩) (.tu [.s 0 0, .ifc 51 (.ag [I6 10, .s 34 3005282563799781573393914916697283980865317069800478624488273387950561852790939745])]) = true := by kernel_rfl
def cE5 (s : LB) : List Value := [St' s, St' ((unS s).getD []), .int .i64 ((((unS s).getD []).length : Int))]
theorem pathDec_2 (s : LB) (b0 : s.length ≤ 9223372036854775807) (p0 : s.length ≤ 140737488355328) (h0 : ¬ (unS s = none)) (h1 : ((unS s).getD []).any pbB = true) (w : World) (hl : aA3 w) : CwR 17 #[St' s] w (.tuple #[St' ([] : LB), .iface 51 (.agg #[.int .i64 10, St' [u8 97, u8 32, u8 112, u8 97, u8 116, u8 104, u8 32, u8 119, u8 105, u8 116, u8 104, u8 32, u8 97, u8 32, u8 98, u8 121, u8 116, u8 101, u8 32, u8 116, u8 104, u8 97, u8 116, u8 32, u8 109, u8 97, u8 121, u8 32, u8 110, u8 111, u8 116, u8 32, u8 98, u8 101]])]) := by
  have hun := aG8 s
  have ho : ∀ k r, (k, r) ∈ dE7 → HOk (cx (nuL (cE5 s)) (fun j _ => aA2 (l := cE5 s) rfl j) 1 aA3 aA0) k r := by
    unfold dE7
    exact hc (cK1 (s := s) (isX rfl) (by rw [if_neg (by assumption)]; exact aE6 (denX rfl) aQ0) (by omega) (by omega)) <|hc (lnV rfl rfl (by omega)) <|hnil
  refine runC (tb := dL6) (ra := .tu [.s 0 0, .ifc 51 (.ag [I6 10, .s 34 3005282563799781573393914916697283980865317069800478624488273387950561852790939745])]) rfl (aB3.lp1 ((aB0 (nuL (cE5 s)) (fun j _ => aA2 (l := cE5 s) rfl j)).hyps ho) (by omega) eK1 bS0 (aB1 (aB9 rfl ⟨0, keyDc, lfOkDc_1 (l := lf5) (h := lh4) ((unS s).getD []) (((unS s).getD []).any pbB) (by omega) (by assumption) (0, (0 : Int)) (mkIDc ⟨by omega, by omega, rfl, by omega⟩) rfl (by kernel_rfl) (th0 := [(0, .x 1), (1, I6 0), (2, .x 2)]) (sg0 := []) (fun X => thXv (v := St' ((unS s).getD [])) rfl rfl (aC2 (show Is _ (I6 0) (.int .i64 ((0 : Int))) from isTo (v := .int .i64 0) (isI _ _) (by first | rfl | (congr 1; omega))) (thXv (v := .int .i64 ((((unS s).getD []).length : Int))) rfl rfl (aA6)))) (by kernel_rfl) (thx := []) (aA6) (by kernel_rfl)⟩) aC1)) rfl (aC7 (by omega)) fiB17 (fun e => runDec_2 e ) (args := [St' s]) (by simp only [RelL, Rel]; exact ⟨_, _, rfl, rfl, rfl⟩) w hl fun x hx => ?_
  simp only [Rel, RelL] at hx
  obtain ⟨_, rfl, ⟨_, _, rfl, ⟨rfl, _⟩, ⟨_, _, rfl, ⟨_, rfl, ⟨_, rfl, ⟨_, _, rfl, rfl, ⟨_, _, rfl, ⟨rfl, _⟩, rfl⟩⟩⟩⟩, rfl⟩⟩⟩ := hx
  rfl
theorem callsDec (s : LB) (b0 : s.length ≤ 9223372036854775807) (p0 : s.length ≤ 140737488355328) (w : World) (hl : aA3 w) : CwR 17 #[St' s] w (if dcS s = none then .tuple #[St' [], .iface 51 (.agg #[.int .i64 10, St' (dcM s)])] else .tuple #[St' (gS s), .nilIface]) := by
  by_cases h0 : unS s = none
  · rw [show (if dcS s = none then .tuple #[St' [], .iface 51 (.agg #[.int .i64 10, St' (dcM s)])] else .tuple #[St' (gS s), .nilIface] : Value) = (.tuple #[St' ([] : LB), .iface 51 (.agg #[.int .i64 10, St' (unM s)])] : Value) from by first | (have h := dI6 (s := s) (by assumption); rw [if_pos h.1, h.2]; done) | (have h := dI5 (s := s) (by assumption) (by assumption); rw [if_pos h.1, h.2]; rfl) | (have h := dc_s (s := s) (by assumption) (by assumption); rw [if_neg h.1, h.2]; done)]
    exact pathDec_1 s b0 p0 h0 w hl
  · by_cases h1 : ((unS s).getD []).any pbB = true
    · rw [show (if dcS s = none then .tuple #[St' [], .iface 51 (.agg #[.int .i64 10, St' (dcM s)])] else .tuple #[St' (gS s), .nilIface] : Value) = (.tuple #[St' ([] : LB), .iface 51 (.agg #[.int .i64 10, St' [u8 97, u8 32, u8 112, u8 97, u8 116, u8 104, u8 32, u8 119, u8 105, u8 116, u8 104, u8 32, u8 97, u8 32, u8 98, u8 121, u8 116, u8 101, u8 32, u8 116, u8 104, u8 97, u8 116, u8 32, u8 109, u8 97, u8 121, u8 32, u8 110, u8 111, u8 116, u8 32, u8 98, u8 101]])] : Value) from by first | (have h := dI6 (s := s) (by assumption); rw [if_pos h.1, h.2]; done) | (have h := dI5 (s := s) (by assumption) (by assumption); rw [if_pos h.1, h.2]; rfl) | (have h := dc_s (s := s) (by assumption) (by assumption); rw [if_neg h.1, h.2]; done)]
      exact pathDec_2 s b0 p0 h0 h1 w hl
    · rw [show (if dcS s = none then .tuple #[St' [], .iface 51 (.agg #[.int .i64 10, St' (dcM s)])] else .tuple #[St' (gS s), .nilIface] : Value) = (.tuple #[St' ((unS s).getD []), .nilIface] : Value) from by first | (have h := dI6 (s := s) (by assumption); rw [if_pos h.1, h.2]; done) | (have h := dI5 (s := s) (by assumption) (by assumption); rw [if_pos h.1, h.2]; rfl) | (have h := dc_s (s := s) (by assumption) (by assumption); rw [if_neg h.1, h.2]; done)]
      exact pathDec_0 s b0 p0 h0 h1 w hl
theorem aJ0 {x0 r : AV} {s : LB} (i0 : Is (cx nu one 1 aA3 aA0) x0 (St' s)) (hr : Den (cx nu one 1 aA3 aA0) r (if dcS s = none then .tuple #[St' [], .iface 51 (.agg #[.int .i64 10, St' (dcM s)])] else .tuple #[St' (gS s), .nilIface])) (b0 : s.length ≤ 9223372036854775807) (p0 : s.length ≤ 140737488355328) : HOk (cx nu one 1 aA3 aA0) (.call 17 [x0]) r := by
  intro ρ args ha w hl _
  simp only [RelL] at ha
  obtain ⟨v0, t0, rfl, a0, rfl⟩ := ha
  have e0 := i0 ρ _ a0; subst e0
  exact (callsDec s b0 p0 w hl).mono fun e w' he => ⟨_, he.1, hr ρ, he.2⟩
end Go.Proofs.YtbipkiiaajklhaaDoor.pathTells
