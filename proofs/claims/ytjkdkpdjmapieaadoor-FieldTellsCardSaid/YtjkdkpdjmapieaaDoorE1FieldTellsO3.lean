/- A part of the proof: what an interpreter answers on partly known states is what the program answers. No condition. -/
import Derived.Test.YtjkdkpdjmapieaaDoorE1FieldTellsO2
set_option maxRecDepth 100000
set_option linter.unusedVariables false
set_option linter.unusedSimpArgs false
set_option maxHeartbeats 4000000
namespace Go.Proofs.YtjkdkpdjmapieaaDoor.fieldTells
open Go Go.AX Go.Proofs Go.Proofs.YtjkdkpdjmapieaaDoor
variable {nu : Nat → Value} {one : ∀ i, i < 1000000 → (nu i).oneCell' = true} {E' : Cx} {x' : Ex} {e' : LA} {h' : LE}
def yO (c : Int) : Int := if 65 ≤ c ∧ c ≤ 90 then c + 32 else c
def lowU (b : UInt8) : UInt8 := u8 (yO (b.toNat : Int))
def aN (l : LB) : LB := l.map lowU
theorem aT9 {l : LB} {i : Nat} (hi : i < l.length) : l.drop i = u8 (bt l i) :: l.drop (i + 1) := by
  rw [List.drop_eq_getElem_cons hi, jP, List.getD_eq_getElem?_getD, List.getElem?_eq_getElem hi, Option.getD_some]
theorem low_take {l : LB} {i : Nat} (hi : i < l.length) : l.take (i + 1) = l.take i ++ [u8 (bt l i)] := by
  rw [List.take_succ_eq_append_getElem hi, jP, List.getD_eq_getElem?_getD, List.getElem?_eq_getElem hi, Option.getD_some]
theorem bE5 {c : Int} (h0 : 0 ≤ c) (h1 : c ≤ 255) : lowU (u8 c) = u8 (yO c) := by unfold lowU; rw [l7 h0 h1]
theorem yN {l : LB} {i : Nat} (hi : i < l.length) (h : ¬ (65 ≤ bt l i ∧ bt l i ≤ 90)) : l.take (i + 1) ++ aN (l.drop (i + 1)) = l.take i ++ aN (l.drop i) := by
  rw [low_take hi, aT9 hi, aN, aN, List.map_cons, bE5 (bF _ _) (bG _ _), yO, if_neg h]; simp
theorem low_set {l : LB} {i : Nat} (hi : i < l.length) (h : 65 ≤ bt l i ∧ bt l i ≤ 90) : (l.set i (u8 (bt l i + 32))).take (i + 1) ++ aN ((l.set i (u8 (bt l i + 32))).drop (i + 1)) = l.take i ++ aN (l.drop i) := by
  have h1 : (l.set i (u8 (bt l i + 32))).take (i + 1) = l.take i ++ [u8 (bt l i + 32)] := by
    rw [List.take_succ_eq_append_getElem (by simpa using hi), List.take_set_of_le (Nat.le_refl _)]; simp
  have h2 : (l.set i (u8 (bt l i + 32))).drop (i + 1) = l.drop (i + 1) := by rw [List.drop_set_of_lt (by omega)]
  rw [h1, h2, aT9 hi, aN, aN, List.map_cons, bE5 (bF _ _) (bG _ _), yO, if_pos h]; simp
theorem bE4 {l : LB} {i : Nat} (hi : l.length ≤ i) : l.take i ++ aN (l.drop i) = l := by
  rw [List.take_of_length_le hi, List.drop_eq_nil_of_le hi]; simp [aN]
noncomputable def Ir : Code := cS (Tryd.f43.body.getD .skip) 0
theorem keyLw : cU (br (Tryd.f43.body.getD .skip)) 3 0 0 = true := by kernel_rfl
def oS : List Nat := [0, 2, 6]
def tz : LA := [(3, .sy 4), (7, .sy 4), (8, .sy 4), (9, .x 1), (10, .x 2)]
def sd : LE := [(4, .t 0 5)]
def w8 (T l : LB) (i : Int) : List Value := [St' l, .int .i64 ((l.length : Int)), .int .i64 (i), .int .u8 (bt l i.toNat), .int .i64 (i + 1), .int .u8 (bt l i.toNat), .int .u8 ((bt l i.toNat) + 97), .int .u8 ((bt l i.toNat) + 32), St' (List.set l i.toNat (u8 ((bt l i.toNat) + 32))), .int .i64 (i + 1), .int .u8 (bt l i.toNat), .int .i64 (i + 1)]
def roLw_0 (T l : LB) (i : Int) : List Value := []
def uA (st : Nat × LB × Int) : LA := tz
def hpLw (st : Nat × LB × Int) : LE := sd
def nuLw (T : LB) (st : Nat × LB × Int) : List Value := w8 T (st.2.1) (st.2.2)
def roLw (T : LB) (st : Nat × LB × Int) : List Value := roLw_0 T (st.2.1) (st.2.2)
theorem onLw (T : LB) (st : Nat × LB × Int) : ∀ j, (ai (nuLw T st) j).oneCell' = true := by
  intro j
  unfold nuLw
  exact aQ (l := w8 T (st.2.1) (st.2.2)) rfl j
theorem ebLw (st : Nat × LB × Int) : (cG (uA st) && cO oS) = true := by
  unfold uA
  rfl
noncomputable def DLw (T : LB) (st : Nat × LB × Int) (X : Nat → Value) : Cx := cx (af (nuLw T st) (rX (roLw T st) X)) (ah (onLw T st)) 1 aC aG
abbrev CjLw (T : LB) (tag : Nat) (l : LB) (i : Int) : Prop := (0 ≤ i) ∧ (i ≤ (l.length : Int)) ∧ (l.take i.toNat ++ aN (l.drop i.toNat) = T) ∧ (l.length ≤ 140737488355328) ∧ (tag < 1)
def kI (T : LB) (st : Nat × LB × Int) : Prop := CjLw T st.1 (st.2.1) (st.2.2)
theorem yD {T : LB} {tag : Nat} {l : LB} {i : Int} (h : CjLw T tag l i) : kI T (tag, l, i) := h
theorem vY (T : LB) (tag : Nat) (l : LB) (i : Int) (h : kI T (tag, l, i)) : CjLw T tag l i := h
def x5 (T : LB) (st : Nat × LB × Int) : Nat := ((st.2.1).length - (st.2.2).toNat)
abbrev qG (T : LB) (E' : Cx) (ex' : Ex) (epx' : LA) (hpx' : LE) (st : Nat × LB × Int) (X : Nat → Value) : Prop := a6 E' Ir oS 30 ex' 4 5 5 5 uA hpLw epx' hpx' (kI T) (x5 T) (DLw T) st X
noncomputable abbrev B4 (T l : LB) (i : Int) (X : Nat → Value) : Cx := cx (af (w8 T l i) (rX (roLw_0 T l i) X)) (ah (aQ (l := w8 T l i) rfl)) 1 aC aG
noncomputable abbrev qB (h : LK) (x : Ex) (th : LA) (sg : List (Nat × Nat)) (m : Nat) (ep : LA) (hp : LE) : Bool := bn (code (aV h) 400 [] Ir (bc (bf tz oS) 30) ⟨ay sd .leaf, 5, 0, 0⟩) x oS 30 5 th sg 5 m ep hp
theorem Ck {T l : LB} {i : Int} {X : Nat → Value} {h : LK} (y : Nat × LB × Int) {th : LA} {sg : List (Nat × Nat)} (ho : ∀ a' r', (a', r') ∈ h → aL (B4 T l i X) a' r') (hy : kI T y) (lt : x5 T y < x5 T (0, l, i)) (ht : aw (B4 T l i X) (DLw T y X) th) (run : qB h .normal th sg 5 (uA y) (hpLw y) = true) : qG T E' x' e' h' (0, l, i) X :=
  a6.next (tb := aV h) (L := []) (f := 400) y ((ae _ _).hyps ho) (bA.nil _) rfl hy lt ht run
theorem lvLw_0 {T l : LB} {i : Int} {X : Nat → Value} {h : LK} {th : LA} {sg : List (Nat × Nat)} (hne : cI x' .normal = false) (ho : ∀ a' r', (a', r') ∈ h → aL (B4 T l i X) a' r') (ht : aw (B4 T l i X) E' th) (run : qB h x' th sg 5 e' h' = true) : qG T E' x' e' h' (0, l, i) X :=
  a6.leave (tb := aV h) (L := []) (f := 400) ((ae _ _).hyps ho) (bA.nil _) rfl hne ht run
def Fk : LK := [(.bin .lss (.x 2) (.x 1), .b false)]
theorem runLw_p0 : qB Fk (.exit 0) [(0, .x 0)] [] 5 [(3, .sy 4)] [(4, .t 0 5)] = true := by kernel_rfl
def Fj : LK := [(.bin .lss (.x 2) (.x 1), .b true), (.di (.x 0) (.x 2), .x 3), (.bin .geq (.x 3) (.i .u8 (.ofNat 65)), .b true), (.bin .leq (.x 3) (.i .u8 (.ofNat 90)), .b false), (.bin .add (.x 2) (I6 1), .x 4)]
theorem runLw_p1 : qB Fj .normal [(0, .x 0), (1, .x 1), (2, .x 4)] [] 5 tz sd = true := by kernel_rfl
def Fi : LK := [(.bin .lss (.x 2) (.x 1), .b true), (.di (.x 0) (.x 2), .x 5), (.bin .geq (.x 5) (.i .u8 (.ofNat 65)), .b true), (.bin .leq (.x 5) (.i .u8 (.ofNat 90)), .b true), (.bin .add (.x 5) (.i .u8 (.ofNat 97)), .x 6), (.bin .sub (.x 6) (.i .u8 (.ofNat 65)), .x 7), (.set (.x 0) (.x 2) (.x 7), .x 8), (.bin .add (.x 2) (I6 1), .x 9)]
theorem runLw_p2 : qB Fi .normal [(0, .x 8), (1, .x 1), (2, .x 9)] [] 5 tz sd = true := by kernel_rfl
def Fh : LK := [(.bin .lss (.x 2) (.x 1), .b true), (.di (.x 0) (.x 2), .x 10), (.bin .geq (.x 10) (.i .u8 (.ofNat 65)), .b false), (.bin .add (.x 2) (I6 1), .x 11)]
theorem runLw_p3 : qB Fh .normal [(0, .x 0), (1, .x 1), (2, .x 11)] [] 5 tz sd = true := by kernel_rfl
section
variable {T : LB} {l : LB} {i : Int} {X : Nat → Value}
theorem nxLw_p1 (hI : kI T (0, l, i)) (h0 : i < (l.length : Int)) (h1 : 65 ≤ bt l i.toNat) (h2 : ¬ (bt l i.toNat ≤ 90)) : qG T E' x' e' h' (0, l, i) X := by
  obtain ⟨i0, i1, i2, i3, it⟩ := vY T 0 l i hI
  have := bF l i.toNat; have := bG l i.toNat
  refine Ck (h := Fj) (0, l, (i + 1)) ?_ (yD ⟨by omega, by omega, by rw [← i2, show (i + 1).toNat = i.toNat + 1 by omega]; exact yN (by omega) (by omega), by omega, by omega⟩) (by show l.length - (i + 1).toNat < l.length - i.toNat; omega) (aB (v := St' l) rfl rfl (aB (v := .int .i64 ((l.length : Int))) rfl rfl (bT (b := ((i + 1))) rfl rfl (by omega) (aI)))) runLw_p1
  unfold Fj
  exact hc (ba rfl rfl (by omega)) <|hc (ik (i := i.toNat) (aA rfl) (aA rfl) (aE rfl) (by omega) (by first | omega | (simp <;> omega)) rfl) <|hc (jz rfl (by omega)) <|hc (yi rfl (by omega)) <|hc (bO rfl rfl (by omega)) <|hnil
theorem nxLw_p2 (hI : kI T (0, l, i)) (h0 : i < (l.length : Int)) (h1 : 65 ≤ bt l i.toNat) (h2 : bt l i.toNat ≤ 90) : qG T E' x' e' h' (0, l, i) X := by
  obtain ⟨i0, i1, i2, i3, it⟩ := vY T 0 l i hI
  have := bF l i.toNat; have := bG l i.toNat
  have : (List.set l i.toNat (u8 ((bt l i.toNat) + 32))).length = l.length := List.length_set ..
  refine Ck (h := Fi) (0, (List.set l i.toNat (u8 ((bt l i.toNat) + 32))), (i + 1)) ?_ (yD ⟨by omega, by rw [List.length_set]; omega, by rw [← i2, show (i + 1).toNat = i.toNat + 1 by omega]; exact low_set (by omega) (by omega), by rw [List.length_set]; omega, by omega⟩) (by show (List.set l i.toNat _).length - (i + 1).toNat < l.length - i.toNat; rw [List.length_set]; omega) (aB (v := St' (List.set l i.toNat (u8 ((bt l i.toNat) + 32)))) rfl rfl (dK (v := .int .i64 ((l.length : Int))) (u := .int .i64 (((List.set l i.toNat (u8 ((bt l i.toNat) + 32))).length : Int))) rfl rfl (congrArg (Value.int .i64) (by rw [List.length_set])) (bT (b := ((i + 1))) rfl rfl (by omega) (aI)))) runLw_p2
  unfold Fi
  exact hc (ba rfl rfl (by omega)) <|hc (ik (i := i.toNat) (aA rfl) (aA rfl) (aE rfl) (by omega) (by first | omega | (simp <;> omega)) rfl) <|hc (jz rfl (by omega)) <|hc (jg rfl (by omega)) <|hc (kAdd (aA rfl) (dr (m := 97) rfl) (aE rfl) (by omega) (fU8 (by omega) (by omega))) <|hc (kSub (aA rfl) (dr (m := 65) rfl) (aE rfl) (by omega) (fU8 (by omega) (by omega))) <|hc (kSet (i := i.toNat) (aA rfl) (aA rfl) (aA rfl) (aE rfl) (by omega) (by first | omega | (simp <;> omega)) (by omega) (by omega) rfl) <|hc (bO rfl rfl (by omega)) <|hnil
theorem nxLw_p3 (hI : kI T (0, l, i)) (h0 : i < (l.length : Int)) (h1 : ¬ (65 ≤ bt l i.toNat)) : qG T E' x' e' h' (0, l, i) X := by
  obtain ⟨i0, i1, i2, i3, it⟩ := vY T 0 l i hI
  have := bF l i.toNat; have := bG l i.toNat
  refine Ck (h := Fh) (0, l, (i + 1)) ?_ (yD ⟨by omega, by omega, by rw [← i2, show (i + 1).toNat = i.toNat + 1 by omega]; exact yN (by omega) (by omega), by omega, by omega⟩) (by show l.length - (i + 1).toNat < l.length - i.toNat; omega) (aB (v := St' l) rfl rfl (aB (v := .int .i64 ((l.length : Int))) rfl rfl (bT (b := ((i + 1))) rfl rfl (by omega) (aI)))) runLw_p3
  unfold Fh
  exact hc (ba rfl rfl (by omega)) <|hc (ik (i := i.toNat) (aA rfl) (aA rfl) (aE rfl) (by omega) (by first | omega | (simp <;> omega)) rfl) <|hc (gecF rfl (by omega)) <|hc (bO rfl rfl (by omega)) <|hnil
end
def bC9 (T : LB) : List Value := [St' T]
def roELw_0 (T : LB) : List Value := []
noncomputable def ELw_0 (T : LB) : Cx := cx (af (bC9 T) (rX (roELw_0 T) (fun _ => .bool true))) (ah (aQ (l := bC9 T) rfl)) 1 aC aG
theorem roundsLw_0 (T : LB) (st : Nat × LB × Int) (X : Nat → Value) (hI : kI T st) : qG T (ELw_0 T) (.exit 0) [(3, .sy 4)] [(4, .t 0 5)] st X := by
  obtain ⟨tag, l, i⟩ := st
  have hI0 := hI
  obtain ⟨i0, i1, i2, i3, it⟩ := vY T tag l i hI
  obtain rfl : tag = 0 := by omega
  skip
  by_cases h0 : i < (l.length : Int)
  · by_cases h1 : 65 ≤ bt l i.toNat
    · by_cases h2 : bt l i.toNat ≤ 90
      · exact nxLw_p2 hI0 h0 h1 h2
      · exact nxLw_p1 hI0 h0 h1 h2
    · exact nxLw_p3 hI0 h0 h1
  · skip
    refine lvLw_0 (h := Fk) rfl ?_ (dK (v := St' l) (u := St' T) rfl rfl (congrArg (fun l => St' l) (by rw [← i2]; exact (bE4 (by omega)).symm)) (aI)) runLw_p0
    unfold Fk
    exact hc (dB rfl rfl (by omega)) <|hnil
theorem lfOkLw_0 (T : LB) : ax (cx nu one 1 aC aG) (ELw_0 T) Ir oS 30 (.exit 0) 4 5 5 5 uA hpLw [(3, .sy 4)] [(4, .t 0 5)] (kI T) (DLw T) :=
  cF (x5 T) (fun _ _ => rfl) (fun _ _ => rfl) (fun _ _ => rfl) (fun st X t ht => cE.trans (cD ((by decide : ∀ t, t ∈ oS → t < 1000000) t ht))) rfl rfl rfl ebLw rfl rfl (roundsLw_0 T)
noncomputable def AR : FI := (bB.fn.get 43).getD default
theorem fi43_at : bB.fn.get 43 = some AR := by kernel_rfl
theorem aM0 : AR.body = some (Tryd.f43.body.getD .skip) := by kernel_rfl
theorem fiB43 : AR.body.isSome = true := by rw [aM0]; rfl
def GB : LK := [(.fit (.x 0), .b true), (.len (.x 0), .x 1)]
def lh7 : LH := ⟨4, 5, 5, [(4, .t 0 5)], [(4, .t 2 5)]⟩
def lf7 : LF := ⟨3, 30, [(3, .sy 4), (7, .sy 4), (8, .sy 4), (9, .x 1), (10, I6 0)], [0, 2, 6], (.exit 0), [(3, .sy 4)], some lh7⟩
noncomputable def aF6 : Tab := bI ({ bB with hyp := GB }) 43 AR [lf7]
theorem runLower_0 (e : Nat) : okA (call aF6 9000 43 [.x 0] ⟨H0 e , 4, 0, 0⟩) (.x 2) = true := by kernel_rfl
def xC (s : LB) : List Value := [St' s, .int .i64 ((s.length : Int)), St' (aN s)]
theorem pathLower_0 (s : LB) (b0 : s.length ≤ 9223372036854775807) (p0 : s.length ≤ 140737488355328) (w : World) (hl : aC w) : bN 43 #[St' s] w (St' (aN s)) := by
  have : (aN s).length = s.length := List.length_map ..
  have ho : ∀ k r, (k, r) ∈ GB → aL (cx (ai (xC s)) (fun j _ => aQ (l := xC s) rfl j) 1 aC aG) k r := by
    unfold GB
    exact hc (mc (aA rfl) (by first | omega | (simp <;> omega))) <|hc (au rfl rfl (by omega)) <|hnil
  refine bp (tb := aF6) (ra := .x 2) rfl (ar.bS ((ae (ai (xC s)) (fun j _ => aQ (l := xC s) rfl j)).hyps ho) (by omega) fi43_at aM0 (bH (bR rfl ⟨0, keyLw, ax.use (l := lf7) (h := lh7) (lfOkLw_0 (aN s)) (0, s, (0 : Int)) (yD ⟨by omega, by omega, by simp, by omega, by omega⟩) rfl (by kernel_rfl) (ao := [(0, .x 0), (1, .x 1), (2, I6 0)]) (aj := []) (fun X => aB (v := St' s) rfl rfl (aB (v := .int .i64 ((s.length : Int))) rfl rfl (bK (show Is _ (I6 0) (.int .i64 ((0 : Int))) from bL (v := .int .i64 0) (bP _ _) (by first | rfl | (congr 1; omega))) (aI)))) (by kernel_rfl) (ak := [(2, .x 0)]) (aB (v := St' (aN s)) rfl rfl (aI)) (by kernel_rfl)⟩) bE)) rfl (cP (by omega)) fiB43 (fun e => runLower_0 e ) (args := [St' s]) (by simp only [aF, Rel]; exact ⟨_, _, rfl, rfl, rfl⟩) w hl fun x hx => ?_
  simp only [Rel, aF] at hx
  exact hx
theorem callsLower (s : LB) (b0 : s.length ≤ 9223372036854775807) (p0 : s.length ≤ 140737488355328) (w : World) (hl : aC w) : bN 43 #[St' s] w (St' (aN s)) := by
  rw [show (St' (aN s) : Value) = (St' (aN s) : Value) from by rfl]
  exact pathLower_0 s b0 p0 w hl
theorem dc {x0 r : AV} {s : LB} (i0 : Is (cx nu one 1 aC aG) x0 (St' s)) (hr : Den (cx nu one 1 aC aG) r (St' (aN s))) (b0 : s.length ≤ 9223372036854775807 := by omega) (p0 : s.length ≤ 140737488355328 := by omega) : aL (cx nu one 1 aC aG) (.call 43 [x0]) r := by
  intro ρ args ha w hl _
  simp only [aF] at ha
  obtain ⟨v0, t0, rfl, a0, rfl⟩ := ha
  have e0 := i0 ρ _ a0; subst e0
  exact (callsLower s b0 p0 w hl).mono fun e w' he => ⟨_, he.1, hr ρ, he.2⟩
noncomputable def It : Code := cS (Tryd.f33.body.getD .skip) 0
theorem keyLq : cU (br (Tryd.f33.body.getD .skip)) 3 0 0 = true := by kernel_rfl
def oT : List Nat := []
def uC : LA := [(3, .sy 4), (4, .x 1)]
def sk : LE := [(4, .t 0 5)]
def xB (T l : LB) (i : Int) : List Value := [St' l, .int .i64 (i), .int .i64 ((l.length : Int)), .int .i64 ((l.length : Int)), .int .u8 (bt l i.toNat), .int .i64 (i + 1), .int .i64 ((l.length : Int)), .int .u8 (bt l i.toNat), .int .u8 ((bt l i.toNat) + 32), St' (List.set l i.toNat (u8 ((bt l i.toNat) + 32))), .int .i64 (i + 1), .int .i64 ((l.length : Int)), .int .u8 (bt l i.toNat), .int .i64 (i + 1)]
def roLq_0 (T l : LB) (i : Int) : List Value := []
def uD (st : Nat × LB × Int) : LA := uC
def hpLq (st : Nat × LB × Int) : LE := sk
def nuLq (T : LB) (st : Nat × LB × Int) : List Value := xB T (st.2.1) (st.2.2)
def roLq (T : LB) (st : Nat × LB × Int) : List Value := roLq_0 T (st.2.1) (st.2.2)
theorem onLq (T : LB) (st : Nat × LB × Int) : ∀ j, (ai (nuLq T st) j).oneCell' = true := by
  intro j
  unfold nuLq
  exact aQ (l := xB T (st.2.1) (st.2.2)) rfl j
theorem ebLq (st : Nat × LB × Int) : (cG (uD st) && cO oT) = true := by
  unfold uD
  rfl
noncomputable def DLq (T : LB) (st : Nat × LB × Int) (X : Nat → Value) : Cx := cx (af (nuLq T st) (rX (roLq T st) X)) (ah (onLq T st)) 1 aC aG
abbrev CjLq (T : LB) (tag : Nat) (l : LB) (i : Int) : Prop := (0 ≤ i) ∧ (i ≤ (l.length : Int)) ∧ (l.take i.toNat ++ aN (l.drop i.toNat) = T) ∧ (l.length ≤ 140737488355328) ∧ (tag < 1)
def kJ (T : LB) (st : Nat × LB × Int) : Prop := CjLq T st.1 (st.2.1) (st.2.2)
theorem yE {T : LB} {tag : Nat} {l : LB} {i : Int} (h : CjLq T tag l i) : kJ T (tag, l, i) := h
theorem vZ (T : LB) (tag : Nat) (l : LB) (i : Int) (h : kJ T (tag, l, i)) : CjLq T tag l i := h
def x6 (T : LB) (st : Nat × LB × Int) : Nat := ((st.2.1).length - (st.2.2).toNat)
abbrev qH (T : LB) (E' : Cx) (ex' : Ex) (epx' : LA) (hpx' : LE) (st : Nat × LB × Int) (X : Nat → Value) : Prop := a6 E' It oT 35 ex' 4 5 5 5 uD hpLq epx' hpx' (kJ T) (x6 T) (DLq T) st X
noncomputable abbrev B7 (T l : LB) (i : Int) (X : Nat → Value) : Cx := cx (af (xB T l i) (rX (roLq_0 T l i) X)) (ah (aQ (l := xB T l i) rfl)) 1 aC aG
noncomputable abbrev qC (h : LK) (x : Ex) (th : LA) (sg : List (Nat × Nat)) (m : Nat) (ep : LA) (hp : LE) : Bool := bn (code (aV h) 400 [] It (bc (bf uC oT) 35) ⟨ay sk .leaf, 5, 0, 0⟩) x oT 35 5 th sg 5 m ep hp
theorem Cl {T l : LB} {i : Int} {X : Nat → Value} {h : LK} (y : Nat × LB × Int) {th : LA} {sg : List (Nat × Nat)} (ho : ∀ a' r', (a', r') ∈ h → aL (B7 T l i X) a' r') (hy : kJ T y) (lt : x6 T y < x6 T (0, l, i)) (ht : aw (B7 T l i X) (DLq T y X) th) (run : qC h .normal th sg 5 (uD y) (hpLq y) = true) : qH T E' x' e' h' (0, l, i) X :=
  a6.next (tb := aV h) (L := []) (f := 400) y ((ae _ _).hyps ho) (bA.nil _) rfl hy lt ht run
theorem lvLq_0 {T l : LB} {i : Int} {X : Nat → Value} {h : LK} {th : LA} {sg : List (Nat × Nat)} (hne : cI x' .normal = false) (ho : ∀ a' r', (a', r') ∈ h → aL (B7 T l i X) a' r') (ht : aw (B7 T l i X) E' th) (run : qC h x' th sg 5 e' h' = true) : qH T E' x' e' h' (0, l, i) X :=
  a6.leave (tb := aV h) (L := []) (f := 400) ((ae _ _).hyps ho) (bA.nil _) rfl hne ht run
def GA : LK := [(.len (.x 0), .x 2), (.bin .lss (.x 1) (.x 2), .b false)]
theorem runLq_p0 : qC GA (.exit 0) [(0, .x 0)] [] 5 [(3, .sy 4)] [(4, .t 0 5)] = true := by kernel_rfl
def F9 : LK := [(.len (.x 0), .x 3), (.bin .lss (.x 1) (.x 3), .b true), (.di (.x 0) (.x 1), .x 4), (.bin .geq (.x 4) (.i .u8 (.ofNat 65)), .b true), (.bin .leq (.x 4) (.i .u8 (.ofNat 90)), .b false), (.bin .add (.x 1) (I6 1), .x 5)]
theorem runLq_p1 : qC F9 .normal [(0, .x 0), (1, .x 5)] [] 5 uC sk = true := by kernel_rfl
def F8 : LK := [(.len (.x 0), .x 6), (.bin .lss (.x 1) (.x 6), .b true), (.di (.x 0) (.x 1), .x 7), (.bin .geq (.x 7) (.i .u8 (.ofNat 65)), .b true), (.bin .leq (.x 7) (.i .u8 (.ofNat 90)), .b true), (.bin .add (.x 7) (.i .u8 (.ofNat 32)), .x 8), (.set (.x 0) (.x 1) (.x 8), .x 9), (.bin .add (.x 1) (I6 1), .x 10)]
theorem runLq_p2 : qC F8 .normal [(0, .x 9), (1, .x 10)] [] 5 uC sk = true := by kernel_rfl
def F7 : LK := [(.len (.x 0), .x 11), (.bin .lss (.x 1) (.x 11), .b true), (.di (.x 0) (.x 1), .x 12), (.bin .geq (.x 12) (.i .u8 (.ofNat 65)), .b false), (.bin .add (.x 1) (I6 1), .x 13)]
theorem runLq_p3 : qC F7 .normal [(0, .x 0), (1, .x 13)] [] 5 uC sk = true := by kernel_rfl
section
variable {T : LB} {l : LB} {i : Int} {X : Nat → Value}
theorem nxLq_p1 (hI : kJ T (0, l, i)) (h0 : i < (l.length : Int)) (h1 : 65 ≤ bt l i.toNat) (h2 : ¬ (bt l i.toNat ≤ 90)) : qH T E' x' e' h' (0, l, i) X := by
  obtain ⟨i0, i1, i2, i3, it⟩ := vZ T 0 l i hI
  have := bF l i.toNat; have := bG l i.toNat
  refine Cl (h := F9) (0, l, (i + 1)) ?_ (yE ⟨by omega, by omega, by rw [← i2, show (i + 1).toNat = i.toNat + 1 by omega]; exact yN (by omega) (by omega), by omega, by omega⟩) (by show l.length - (i + 1).toNat < l.length - i.toNat; omega) (aB (v := St' l) rfl rfl (bT (b := ((i + 1))) rfl rfl (by omega) (aI))) runLq_p1
  unfold F9
  exact hc (au rfl rfl (by omega)) <|hc (ba rfl rfl (by omega)) <|hc (ik (i := i.toNat) (aA rfl) (aA rfl) (aE rfl) (by omega) (by first | omega | (simp <;> omega)) rfl) <|hc (jz rfl (by omega)) <|hc (yi rfl (by omega)) <|hc (bO rfl rfl (by omega)) <|hnil
theorem nxLq_p2 (hI : kJ T (0, l, i)) (h0 : i < (l.length : Int)) (h1 : 65 ≤ bt l i.toNat) (h2 : bt l i.toNat ≤ 90) : qH T E' x' e' h' (0, l, i) X := by
  obtain ⟨i0, i1, i2, i3, it⟩ := vZ T 0 l i hI
  have := bF l i.toNat; have := bG l i.toNat
  have : (List.set l i.toNat (u8 ((bt l i.toNat) + 32))).length = l.length := List.length_set ..
  refine Cl (h := F8) (0, (List.set l i.toNat (u8 ((bt l i.toNat) + 32))), (i + 1)) ?_ (yE ⟨by omega, by rw [List.length_set]; omega, by rw [← i2, show (i + 1).toNat = i.toNat + 1 by omega]; exact low_set (by omega) (by omega), by rw [List.length_set]; omega, by omega⟩) (by show (List.set l i.toNat _).length - (i + 1).toNat < l.length - i.toNat; rw [List.length_set]; omega) (aB (v := St' (List.set l i.toNat (u8 ((bt l i.toNat) + 32)))) rfl rfl (bT (b := ((i + 1))) rfl rfl (by omega) (aI))) runLq_p2
  unfold F8
  exact hc (au rfl rfl (by omega)) <|hc (ba rfl rfl (by omega)) <|hc (ik (i := i.toNat) (aA rfl) (aA rfl) (aE rfl) (by omega) (by first | omega | (simp <;> omega)) rfl) <|hc (jz rfl (by omega)) <|hc (jg rfl (by omega)) <|hc (kAdd (aA rfl) (dr (m := 32) rfl) (aE rfl) (by omega) (fU8 (by omega) (by omega))) <|hc (kSet (i := i.toNat) (aA rfl) (aA rfl) (aA rfl) (aE rfl) (by omega) (by first | omega | (simp <;> omega)) (by omega) (by omega) rfl) <|hc (bO rfl rfl (by omega)) <|hnil
theorem nxLq_p3 (hI : kJ T (0, l, i)) (h0 : i < (l.length : Int)) (h1 : ¬ (65 ≤ bt l i.toNat)) : qH T E' x' e' h' (0, l, i) X := by
  obtain ⟨i0, i1, i2, i3, it⟩ := vZ T 0 l i hI
  have := bF l i.toNat; have := bG l i.toNat
  refine Cl (h := F7) (0, l, (i + 1)) ?_ (yE ⟨by omega, by omega, by rw [← i2, show (i + 1).toNat = i.toNat + 1 by omega]; exact yN (by omega) (by omega), by omega, by omega⟩) (by show l.length - (i + 1).toNat < l.length - i.toNat; omega) (aB (v := St' l) rfl rfl (bT (b := ((i + 1))) rfl rfl (by omega) (aI))) runLq_p3
  unfold F7
  exact hc (au rfl rfl (by omega)) <|hc (ba rfl rfl (by omega)) <|hc (ik (i := i.toNat) (aA rfl) (aA rfl) (aE rfl) (by omega) (by first | omega | (simp <;> omega)) rfl) <|hc (gecF rfl (by omega)) <|hc (bO rfl rfl (by omega)) <|hnil
end
def bD2 (T : LB) : List Value := [St' T]
def roELq_0 (T : LB) : List Value := []
noncomputable def ELq_0 (T : LB) : Cx := cx (af (bD2 T) (rX (roELq_0 T) (fun _ => .bool true))) (ah (aQ (l := bD2 T) rfl)) 1 aC aG
theorem roundsLq_0 (T : LB) (st : Nat × LB × Int) (X : Nat → Value) (hI : kJ T st) : qH T (ELq_0 T) (.exit 0) [(3, .sy 4)] [(4, .t 0 5)] st X := by
  obtain ⟨tag, l, i⟩ := st
  have hI0 := hI
  obtain ⟨i0, i1, i2, i3, it⟩ := vZ T tag l i hI
  obtain rfl : tag = 0 := by omega
  skip
  by_cases h0 : i < (l.length : Int)
  · by_cases h1 : 65 ≤ bt l i.toNat
    · by_cases h2 : bt l i.toNat ≤ 90
      · exact nxLq_p2 hI0 h0 h1 h2
      · exact nxLq_p1 hI0 h0 h1 h2
    · exact nxLq_p3 hI0 h0 h1
  · skip
    refine lvLq_0 (h := GA) rfl ?_ (dK (v := St' l) (u := St' T) rfl rfl (congrArg (fun l => St' l) (by rw [← i2]; exact (bE4 (by omega)).symm)) (aI)) runLq_p0
    unfold GA
    exact hc (au rfl rfl (by omega)) <|hc (dB rfl rfl (by omega)) <|hnil
theorem lfOkLq_0 (T : LB) : ax (cx nu one 1 aC aG) (ELq_0 T) It oT 35 (.exit 0) 4 5 5 5 uD hpLq [(3, .sy 4)] [(4, .t 0 5)] (kJ T) (DLq T) :=
  cF (x6 T) (fun _ _ => rfl) (fun _ _ => rfl) (fun _ _ => rfl) (fun st X t ht => cE.trans (cD ((by decide : ∀ t, t ∈ oT → t < 1000000) t ht))) rfl rfl rfl ebLq rfl rfl (roundsLq_0 T)
noncomputable def AW : FI := (bB.fn.get 33).getD default
theorem fi33_at : bB.fn.get 33 = some AW := by kernel_rfl
theorem aM1 : AW.body = some (Tryd.f33.body.getD .skip) := by kernel_rfl
theorem fiB33 : AW.body.isSome = true := by rw [aM1]; rfl
def GC : LK := [(.fit (.x 0), .b true)]
def lh16 : LH := ⟨4, 5, 5, [(4, .t 0 5)], [(4, .t 1 5)]⟩
def lf16 : LF := ⟨3, 35, [(3, .sy 4), (4, I6 0)], [], (.exit 0), [(3, .sy 4)], some lh16⟩
noncomputable def aC1 : Tab := bI ({ bB with hyp := GC }) 33 AW [lf16]
theorem runLowerR_0 (e : Nat) : okA (call aC1 9000 33 [.x 0] ⟨H0 e , 4, 0, 0⟩) (.x 1) = true := by kernel_rfl
def xD (s : LB) : List Value := [St' s, St' (aN s)]
theorem pathLowerR_0 (s : LB) (b0 : s.length ≤ 9223372036854775807) (p0 : s.length ≤ 140737488355328) (w : World) (hl : aC w) : bN 33 #[St' s] w (St' (aN s)) := by
  have : (aN s).length = s.length := List.length_map ..
  have ho : ∀ k r, (k, r) ∈ GC → aL (cx (ai (xD s)) (fun j _ => aQ (l := xD s) rfl j) 1 aC aG) k r := by
    unfold GC
    exact hc (mc (aA rfl) (by first | omega | (simp <;> omega))) <|hnil
  refine bp (tb := aC1) (ra := .x 1) rfl (ar.bS ((ae (ai (xD s)) (fun j _ => aQ (l := xD s) rfl j)).hyps ho) (by omega) fi33_at aM1 (bH (bR rfl ⟨0, keyLq, ax.use (l := lf16) (h := lh16) (lfOkLq_0 (aN s)) (0, s, (0 : Int)) (yE ⟨by omega, by omega, by simp, by omega, by omega⟩) rfl (by kernel_rfl) (ao := [(0, .x 0), (1, I6 0)]) (aj := []) (fun X => aB (v := St' s) rfl rfl (bK (show Is _ (I6 0) (.int .i64 ((0 : Int))) from bL (v := .int .i64 0) (bP _ _) (by first | rfl | (congr 1; omega))) (aI))) (by kernel_rfl) (ak := [(1, .x 0)]) (aB (v := St' (aN s)) rfl rfl (aI)) (by kernel_rfl)⟩) bE)) rfl (cP (by omega)) fiB33 (fun e => runLowerR_0 e ) (args := [St' s]) (by simp only [aF, Rel]; exact ⟨_, _, rfl, rfl, rfl⟩) w hl fun x hx => ?_
  simp only [Rel, aF] at hx
  exact hx
theorem callsLowerR (s : LB) (b0 : s.length ≤ 9223372036854775807) (p0 : s.length ≤ 140737488355328) (w : World) (hl : aC w) : bN 33 #[St' s] w (St' (aN s)) := by
  rw [show (St' (aN s) : Value) = (St' (aN s) : Value) from by rfl]
  exact pathLowerR_0 s b0 p0 w hl
theorem db {x0 r : AV} {s : LB} (i0 : Is (cx nu one 1 aC aG) x0 (St' s)) (hr : Den (cx nu one 1 aC aG) r (St' (aN s))) (b0 : s.length ≤ 9223372036854775807 := by omega) (p0 : s.length ≤ 140737488355328 := by omega) : aL (cx nu one 1 aC aG) (.call 33 [x0]) r := by
  intro ρ args ha w hl _
  simp only [aF] at ha
  obtain ⟨v0, t0, rfl, a0, rfl⟩ := ha
  have e0 := i0 ρ _ a0; subst e0
  exact (callsLowerR s b0 p0 w hl).mono fun e w' he => ⟨_, he.1, hr ρ, he.2⟩
end Go.Proofs.YtjkdkpdjmapieaaDoor.fieldTells

