/- A part of the proof: an interpreter of the model's own code on partly known states, and that what it answers is what the program answers. No condition of its own. -/
import Derived.Test.YtjkdkpdjmapieaaDoorE1FieldBackO2
set_option maxRecDepth 100000
set_option linter.unusedVariables false
set_option linter.unusedSimpArgs false
set_option maxHeartbeats 4000000
namespace Go.Proofs.YtjkdkpdjmapieaaDoor.fieldBack
open Go Go.AX Go.Proofs Go.Proofs.YtjkdkpdjmapieaaDoor
variable {nu : Nat → Value} {one : ∀ i, i < 1000000 → (nu i).oneCell' = true} {E' : Cx} {x' : Ex} {e' : LA} {h' : LE}
def lowB (c : Int) : Int := if 65 ≤ c ∧ c ≤ 90 then c + 32 else c
def lowU (b : UInt8) : UInt8 := u8 (lowB (b.toNat : Int))
def lowS (l : LB) : LB := l.map lowU
theorem u8_self (b : UInt8) : u8 (b.toNat : Int) = b := by
  have := u8_bt [b] 0
  simpa [bt] using this
theorem low_drop {l : LB} {i : Nat} (hi : i < l.length) : l.drop i = u8 (bt l i) :: l.drop (i + 1) := by
  rw [List.drop_eq_getElem_cons hi, u8_bt, List.getD_eq_getElem?_getD, List.getElem?_eq_getElem hi, Option.getD_some]
theorem low_take {l : LB} {i : Nat} (hi : i < l.length) : l.take (i + 1) = l.take i ++ [u8 (bt l i)] := by
  rw [List.take_succ_eq_append_getElem hi, u8_bt, List.getD_eq_getElem?_getD, List.getElem?_eq_getElem hi, Option.getD_some]
theorem lowU_u8 {c : Int} (h0 : 0 ≤ c) (h1 : c ≤ 255) : lowU (u8 c) = u8 (lowB c) := by unfold lowU; rw [u8_toNat h0 h1]
theorem low_keep {l : LB} {i : Nat} (hi : i < l.length) (h : ¬ (65 ≤ bt l i ∧ bt l i ≤ 90)) : l.take (i + 1) ++ lowS (l.drop (i + 1)) = l.take i ++ lowS (l.drop i) := by
  rw [low_take hi, low_drop hi, lowS, lowS, List.map_cons, lowU_u8 (bt_lo _ _) (bt_hi _ _), lowB, if_neg h]; simp
theorem low_set {l : LB} {i : Nat} (hi : i < l.length) (h : 65 ≤ bt l i ∧ bt l i ≤ 90) : (l.set i (u8 (bt l i + 32))).take (i + 1) ++ lowS ((l.set i (u8 (bt l i + 32))).drop (i + 1)) = l.take i ++ lowS (l.drop i) := by
  have h1 : (l.set i (u8 (bt l i + 32))).take (i + 1) = l.take i ++ [u8 (bt l i + 32)] := by
    rw [List.take_succ_eq_append_getElem (by simpa using hi), List.take_set_of_le (Nat.le_refl _)]; simp
  have h2 : (l.set i (u8 (bt l i + 32))).drop (i + 1) = l.drop (i + 1) := by rw [List.drop_set_of_lt (by omega)]
  rw [h1, h2, low_drop hi, lowS, lowS, List.map_cons, lowU_u8 (bt_lo _ _) (bt_hi _ _), lowB, if_pos h]; simp
theorem low_end {l : LB} {i : Nat} (hi : l.length ≤ i) : l.take i ++ lowS (l.drop i) = l := by
  rw [List.take_of_length_le hi, List.drop_eq_nil_of_le hi]; simp [lowS]
noncomputable def bodyLw : Code := loopNo (Tryd.f43.body.getD .skip) 0
theorem keyLw : oneKey (loopsOf (Tryd.f43.body.getD .skip)) 3 0 0 = true := by kernel_rfl
def keepLw : List Nat := [0, 2, 6]
def epLw_0 : LA := [(3, .sy 4), (7, .sy 4), (8, .sy 4), (9, .x 1), (10, .x 2)]
def hpLw_0 : LE := [(4, .t 0 5)]
def nuLw_0 (T l : LB) (i : Int) : List Value := [St' l, .int .i64 ((l.length : Int)), .int .i64 (i), .int .u8 (bt l (Int.toNat (i))), .int .i64 (i + 1), .int .u8 (bt l (Int.toNat (i))), .int .u8 ((bt l (Int.toNat (i))) + 97), .int .u8 ((bt l (Int.toNat (i))) + 32), St' (List.set l (Int.toNat (i)) (u8 ((bt l (Int.toNat (i))) + 32))), .int .i64 (i + 1), .int .u8 (bt l (Int.toNat (i))), .int .i64 (i + 1)]
def roLw_0 (T l : LB) (i : Int) : List Value := []
def epLw (st : Nat × LB × Int) : LA := epLw_0
def hpLw (st : Nat × LB × Int) : LE := hpLw_0
def nuLw (T : LB) (st : Nat × LB × Int) : List Value := nuLw_0 T (st.2.1) (st.2.2)
def roLw (T : LB) (st : Nat × LB × Int) : List Value := roLw_0 T (st.2.1) (st.2.2)
theorem onLw (T : LB) (st : Nat × LB × Int) : ∀ j, (nuL (nuLw T st) j).oneCell' = true := by
  intro j
  unfold nuLw
  exact nuL_one (l := nuLw_0 T (st.2.1) (st.2.2)) rfl j
theorem ebLw (st : Nat × LB × Int) : (lfB (epLw st) && lfC keepLw) = true := by
  unfold epLw
  rfl
noncomputable def DLw (T : LB) (st : Nat × LB × Int) (X : Nat → Value) : Cx := cx (nuX (nuLw T st) (rX (roLw T st) X)) (nuX_one (onLw T st)) 0 laidE laidE_stab
def InvLw (T : LB) (st : Nat × LB × Int) : Prop := (0 ≤ (st.2.2)) ∧ ((st.2.2) ≤ ((st.2.1).length : Int)) ∧ ((st.2.1).take (st.2.2).toNat ++ lowS ((st.2.1).drop (st.2.2).toNat) = T) ∧ ((st.2.1).length ≤ 140737488355328) ∧ ((st.1) < 1)
abbrev CjLw (T : LB) (tag : Nat) (l : LB) (i : Int) : Prop := (0 ≤ i) ∧ (i ≤ (l.length : Int)) ∧ (l.take i.toNat ++ lowS (l.drop i.toNat) = T) ∧ (l.length ≤ 140737488355328) ∧ (tag < 1)
theorem mkILw (T : LB) (tag : Nat) (l : LB) (i : Int) (h : CjLw T tag l i) : InvLw T (tag, l, i) := h
theorem unILw (T : LB) (tag : Nat) (l : LB) (i : Int) (h : InvLw T (tag, l, i)) : (0 ≤ i) ∧ (i ≤ (l.length : Int)) ∧ (l.take i.toNat ++ lowS (l.drop i.toNat) = T) ∧ (l.length ≤ 140737488355328) ∧ (tag < 1) := h
def muLw (T : LB) (st : Nat × LB × Int) : Nat := ((st.2.1).length - (st.2.2).toNat)
abbrev RHLw (T : LB) (E' : Cx) (ex' : Ex) (epx' : LA) (hpx' : LE) (st : Nat × LB × Int) (X : Nat → Value) : Prop := RoundH E' bodyLw keepLw 30 ex' 4 5 5 5 epLw hpLw epx' hpx' (InvLw T) (muLw T) (DLw T) st X
noncomputable abbrev RNLw_0 (h : LK) (x : Ex) (th : LA) (sg : List (Nat × Nat)) (m : Nat) (ep : LA) (hp : LE) : Bool := okRdH (code (tbl h) 400 [] bodyLw (envOf (headOf epLw_0 keepLw) 30) ⟨lhSet hpLw_0 .leaf, 5, 0, 0⟩) x keepLw 30 5 th sg 5 m ep hp
theorem stLw_0 (T l : LB) (i : Int) {X : Nat → Value} {h : LK} (y : Nat × LB × Int) {th : LA} {sg : List (Nat × Nat)} (ho : ∀ a' r', (a', r') ∈ h → HOk (cx (nuX (nuLw_0 T l i) (rX (roLw_0 T l i) X)) (nuX_one (nuL_one (l := nuLw_0 T l i) rfl)) 0 laidE laidE_stab) a' r') (hy : InvLw T y) (lt : muLw T y < muLw T (0, l, i)) (ht : ThOk (cx (nuX (nuLw_0 T l i) (rX (roLw_0 T l i) X)) (nuX_one (nuL_one (l := nuLw_0 T l i) rfl)) 0 laidE laidE_stab) (DLw T y X) th) (run : RNLw_0 h .normal th sg 5 (epLw y) (hpLw y) = true) : RHLw T E' x' e' h' (0, l, i) X :=
  RoundH.next (tb := tbl h) (L := []) (f := 400) y ((tabkOk _ _).hyps ho) (LpOk.nil _) rfl hy lt ht run
theorem lvLw_0 (T l : LB) (i : Int) {X : Nat → Value} {h : LK} {th : LA} {sg : List (Nat × Nat)} (hne : exB x' .normal = false) (ho : ∀ a' r', (a', r') ∈ h → HOk (cx (nuX (nuLw_0 T l i) (rX (roLw_0 T l i) X)) (nuX_one (nuL_one (l := nuLw_0 T l i) rfl)) 0 laidE laidE_stab) a' r') (ht : ThOk (cx (nuX (nuLw_0 T l i) (rX (roLw_0 T l i) X)) (nuX_one (nuL_one (l := nuLw_0 T l i) rfl)) 0 laidE laidE_stab) E' th) (run : RNLw_0 h x' th sg 5 e' h' = true) : RHLw T E' x' e' h' (0, l, i) X :=
  RoundH.leave (tb := tbl h) (L := []) (f := 400) ((tabkOk _ _).hyps ho) (LpOk.nil _) rfl hne ht run
def hyLw_p0 : LK := [(.bin .lss (.x 2) (.x 1), .b false)]
theorem runLw_p0 : RNLw_0 hyLw_p0 (.exit 0) [(0, .x 0)] [] 5 [(3, .sy 4)] [(4, .t 0 5)] = true := by kernel_rfl
def hyLw_p1 : LK := [(.bin .lss (.x 2) (.x 1), .b true), (.byt (.x 0) (.x 2), .x 3), (.bin .geq (.x 3) (.i .u8 (.ofNat 65)), .b true), (.bin .leq (.x 3) (.i .u8 (.ofNat 90)), .b false), (.bin .add (.x 2) (.i .i64 (.ofNat 1)), .x 4)]
theorem runLw_p1 : RNLw_0 hyLw_p1 .normal [(0, .x 0), (1, .x 1), (2, .x 4)] [] 5 epLw_0 hpLw_0 = true := by kernel_rfl
theorem nxLw_p1 (T : LB) (l : LB) (i : Int) (X : Nat → Value) (hI : InvLw T (0, l, i)) (h0 : i < (l.length : Int)) (h1 : 65 ≤ bt l (Int.toNat (i))) (h2 : ¬ (bt l (Int.toNat (i)) ≤ 90)) : RHLw T E' x' e' h' (0, l, i) X := by
  obtain ⟨i0, i1, i2, i3, it⟩ := unILw T 0 l i hI
  have := bt_lo l (Int.toNat (i)); have := bt_hi l (Int.toNat (i))
  refine stLw_0 T l i (h := hyLw_p1) (0, l, (i + 1)) ?_ (mkILw T 0 l (i + 1) ⟨by omega, by omega, by rw [← i2, show (i + 1).toNat = i.toNat + 1 by omega]; exact low_keep (by omega) (by omega), by omega, by omega⟩) (by show l.length - (i + 1).toNat < l.length - i.toNat; omega) (thXv (v := St' l) rfl rfl (thXv (v := .int .i64 ((l.length : Int))) rfl rfl (thXi (b := ((i + 1))) rfl rfl (by omega) (thNil)))) runLw_p1
  unfold hyLw_p1
  exact hc (ltT rfl rfl (by omega)) <|
   hc (kByt (i := (Int.toNat (i))) (isX rfl) (isX rfl) (denX rfl) (by omega) (by first | omega | (simp <;> omega)) rfl) <|
   hc (gecT rfl (by omega)) <|
   hc (lecF rfl (by omega)) <|
   hc (adC rfl rfl (by omega)) <|
   hnil
def hyLw_p2 : LK := [(.bin .lss (.x 2) (.x 1), .b true), (.byt (.x 0) (.x 2), .x 5), (.bin .geq (.x 5) (.i .u8 (.ofNat 65)), .b true), (.bin .leq (.x 5) (.i .u8 (.ofNat 90)), .b true), (.bin .add (.x 5) (.i .u8 (.ofNat 97)), .x 6), (.bin .sub (.x 6) (.i .u8 (.ofNat 65)), .x 7), (.set (.x 0) (.x 2) (.x 7), .x 8), (.bin .add (.x 2) (.i .i64 (.ofNat 1)), .x 9)]
theorem runLw_p2 : RNLw_0 hyLw_p2 .normal [(0, .x 8), (1, .x 1), (2, .x 9)] [] 5 epLw_0 hpLw_0 = true := by kernel_rfl
theorem nxLw_p2 (T : LB) (l : LB) (i : Int) (X : Nat → Value) (hI : InvLw T (0, l, i)) (h0 : i < (l.length : Int)) (h1 : 65 ≤ bt l (Int.toNat (i))) (h2 : bt l (Int.toNat (i)) ≤ 90) : RHLw T E' x' e' h' (0, l, i) X := by
  obtain ⟨i0, i1, i2, i3, it⟩ := unILw T 0 l i hI
  have := bt_lo l (Int.toNat (i)); have := bt_hi l (Int.toNat (i))
  have : (List.set l (Int.toNat (i)) (u8 ((bt l (Int.toNat (i))) + 32))).length = l.length := List.length_set ..
  refine stLw_0 T l i (h := hyLw_p2) (0, (List.set l (Int.toNat (i)) (u8 ((bt l (Int.toNat (i))) + 32))), (i + 1)) ?_ (mkILw T 0 (List.set l (Int.toNat (i)) (u8 ((bt l (Int.toNat (i))) + 32))) (i + 1) ⟨by omega, by rw [List.length_set]; omega, by rw [← i2, show (i + 1).toNat = i.toNat + 1 by omega]; exact low_set (by omega) (by omega), by rw [List.length_set]; omega, by omega⟩) (by show (List.set l (Int.toNat (i)) _).length - (i + 1).toNat < l.length - i.toNat; rw [List.length_set]; omega) (thXv (v := St' (List.set l (Int.toNat (i)) (u8 ((bt l (Int.toNat (i))) + 32)))) rfl rfl (thXe (v := .int .i64 ((l.length : Int))) (u := .int .i64 (((List.set l (Int.toNat (i)) (u8 ((bt l (Int.toNat (i))) + 32))).length : Int))) rfl rfl (congrArg (Value.int .i64) (by rw [List.length_set])) (thXi (b := ((i + 1))) rfl rfl (by omega) (thNil)))) runLw_p2
  unfold hyLw_p2
  exact hc (ltT rfl rfl (by omega)) <|
   hc (kByt (i := (Int.toNat (i))) (isX rfl) (isX rfl) (denX rfl) (by omega) (by first | omega | (simp <;> omega)) rfl) <|
   hc (gecT rfl (by omega)) <|
   hc (lecT rfl (by omega)) <|
   hc (kAdd (isX rfl) (isZ (m := 97) rfl) (denX rfl) (by omega) (fU8 (by omega) (by omega))) <|
   hc (kSub (isX rfl) (isZ (m := 65) rfl) (denX rfl) (by omega) (fU8 (by omega) (by omega))) <|
   hc (kSet (i := (Int.toNat (i))) (isX rfl) (isX rfl) (isX rfl) (denX rfl) (by omega) (by first | omega | (simp <;> omega)) (by omega) (by omega) rfl) <|
   hc (adC rfl rfl (by omega)) <|
   hnil
def hyLw_p3 : LK := [(.bin .lss (.x 2) (.x 1), .b true), (.byt (.x 0) (.x 2), .x 10), (.bin .geq (.x 10) (.i .u8 (.ofNat 65)), .b false), (.bin .add (.x 2) (.i .i64 (.ofNat 1)), .x 11)]
theorem runLw_p3 : RNLw_0 hyLw_p3 .normal [(0, .x 0), (1, .x 1), (2, .x 11)] [] 5 epLw_0 hpLw_0 = true := by kernel_rfl
theorem nxLw_p3 (T : LB) (l : LB) (i : Int) (X : Nat → Value) (hI : InvLw T (0, l, i)) (h0 : i < (l.length : Int)) (h1 : ¬ (65 ≤ bt l (Int.toNat (i)))) : RHLw T E' x' e' h' (0, l, i) X := by
  obtain ⟨i0, i1, i2, i3, it⟩ := unILw T 0 l i hI
  have := bt_lo l (Int.toNat (i)); have := bt_hi l (Int.toNat (i))
  refine stLw_0 T l i (h := hyLw_p3) (0, l, (i + 1)) ?_ (mkILw T 0 l (i + 1) ⟨by omega, by omega, by rw [← i2, show (i + 1).toNat = i.toNat + 1 by omega]; exact low_keep (by omega) (by omega), by omega, by omega⟩) (by show l.length - (i + 1).toNat < l.length - i.toNat; omega) (thXv (v := St' l) rfl rfl (thXv (v := .int .i64 ((l.length : Int))) rfl rfl (thXi (b := ((i + 1))) rfl rfl (by omega) (thNil)))) runLw_p3
  unfold hyLw_p3
  exact hc (ltT rfl rfl (by omega)) <|
   hc (kByt (i := (Int.toNat (i))) (isX rfl) (isX rfl) (denX rfl) (by omega) (by first | omega | (simp <;> omega)) rfl) <|
   hc (gecF rfl (by omega)) <|
   hc (adC rfl rfl (by omega)) <|
   hnil
def nuELw_0 (T : LB) : List Value := [St' T]
def roELw_0 (T : LB) : List Value := []
noncomputable def ELw_0 (T : LB) : Cx := cx (nuX (nuELw_0 T) (rX (roELw_0 T) (fun _ => .bool true))) (nuX_one (nuL_one (l := nuELw_0 T) rfl)) 0 laidE laidE_stab
theorem roundsLw_0 (T : LB) (st : Nat × LB × Int) (X : Nat → Value) (hI : InvLw T st) : RHLw T (ELw_0 T) (.exit 0) [(3, .sy 4)] [(4, .t 0 5)] st X := by
  obtain ⟨tag, l, i⟩ := st
  have hI0 := hI
  obtain ⟨i0, i1, i2, i3, it⟩ := unILw T tag l i hI
  obtain rfl : tag = 0 := by omega
  skip
  by_cases h0 : i < (l.length : Int)
  · by_cases h1 : 65 ≤ bt l (Int.toNat (i))
    · by_cases h2 : bt l (Int.toNat (i)) ≤ 90
      · exact nxLw_p2 T l i X hI0 h0 h1 h2
      · exact nxLw_p1 T l i X hI0 h0 h1 h2
    · exact nxLw_p3 T l i X hI0 h0 h1
  · skip
    refine lvLw_0 T l i (h := hyLw_p0) rfl ?_ (thXe (v := St' l) (u := St' T) rfl rfl (congrArg (fun l => St' l) (by rw [← i2]; exact (low_end (by omega)).symm)) (thNil)) runLw_p0
    unfold hyLw_p0
    exact hc (ltF rfl rfl (by omega)) <|
     hnil
theorem lfOkLw_0 {l : LF} {h : LH} (T : LB) (st : Nat × LB × Int) (hI : InvLw T st) (hl : l.hp = some h) (hs : lfSame l h 30 keepLw (.exit 0) 4 5 5 = true) {th0 : LA} {sg0 : List (Nat × Nat)} (hth0 : ∀ X, ThOk (cx nu one 0 laidE laidE_stab) (DLw T st X) th0) (h0 : startOk l h 30 5 5 th0 sg0 (epLw st) (hpLw st) = true) {thx : LA} (hthx : ThOk (ELw_0 T) (cx nu one 0 laidE laidE_stab) thx) (hx : exitOk l h 30 5 5 thx [(3, .sy 4)] [(4, .t 0 5)] = true) : LfOk (cx nu one 0 laidE laidE_stab) bodyLw l :=
  lfOkX (E := ELw_0 T) (InvLw T) (muLw T) (DLw T) (fun _ _ => rfl) (fun _ _ => rfl) (fun _ _ => rfl) (fun st X t ht => nuX_keep.trans (rX_keep ((by decide : ∀ t, t ∈ keepLw → t < 1000000) t ht))) rfl rfl rfl hl hs ebLw rfl rfl st hI hth0 h0 hthx hx (roundsLw_0 T)
noncomputable def fi43 : FI := (tabk.fn.get 43).getD default
theorem fi43_at : tabk.fn.get 43 = some fi43 := by kernel_rfl
theorem fi43_body : fi43.body = some (Tryd.f43.body.getD .skip) := by kernel_rfl
theorem fiB43 : fi43.body.isSome = true := by rw [fi43_body]; rfl
def hyLower_0 : LK := [(.fit (.x 0), .b true), (.len (.x 0), .x 1)]
def lh9 : LH := ⟨4, 5, 5, [(4, .t 0 5)], [(4, .t 2 5)]⟩
def lf9 : LF := ⟨3, 30, [(3, .sy 4), (7, .sy 4), (8, .sy 4), (9, .x 1), (10, .i .i64 (.ofNat 0))], [0, 2, 6], (.exit 0), [(3, .sy 4)], some lh9⟩
noncomputable def tabLower_0 : Tab := addLps ({ tabk with hyp := hyLower_0 }) 43 fi43 [lf9]
theorem runLower_0 : okA (call tabLower_0 9000 43 [.x 0] ⟨H0 , 4, 0, 0⟩) (.x 2) = true := by kernel_rfl
def nuLower_0 (s : LB) : List Value := [St' s, .int .i64 ((s.length : Int)), St' (lowS s)]
theorem pathLower_0 (s : LB) (b0 : s.length ≤ 9223372036854775807) (p0 : s.length ≤ 140737488355328) (w : World) (hl : laidE w) : CwR 43 #[St' s] w (St' (lowS s)) := by
  have : (lowS s).length = s.length := List.length_map ..
  have ho : ∀ k r, (k, r) ∈ hyLower_0 → HOk (cx (nuL (nuLower_0 s)) (fun j _ => nuL_one (l := nuLower_0 s) rfl j) 0 laidE laidE_stab) k r := by
    unfold hyLower_0
    exact hc (kFit (isX rfl) (by first | omega | (simp <;> omega))) <|
     hc (lnV rfl rfl (by omega)) <|
     hnil
  refine runC (tb := tabLower_0) (ra := .x 2) rfl (AllOk.lp1 ((tabkOk (nuL (nuLower_0 s)) (fun j _ => nuL_one (l := nuLower_0 s) rfl j)).hyps ho) (by omega) fi43_at fi43_body (lfCons (lpKnown rfl ⟨0, keyLw, lfOkLw_0 (l := lf9) (h := lh9) (lowS s) (0, s, (0 : Int)) (mkILw (lowS s) 0 s (0 : Int) ⟨by omega, by omega, by simp, by omega, by omega⟩) rfl (by kernel_rfl) (th0 := [(0, .x 0), (1, .x 1), (2, .i .i64 (.ofNat 0))]) (sg0 := []) (fun X => thXv (v := St' s) rfl rfl (thXv (v := .int .i64 ((s.length : Int))) rfl rfl (thCons (show Is _ (.i .i64 (.ofNat 0)) (.int .i64 ((0 : Int))) from isTo (v := .int .i64 0) (isI _ _) (by first | rfl | (congr 1; omega))) (thNil)))) (by kernel_rfl) (thx := [(2, .x 0)]) (thXv (v := St' (lowS s)) rfl rfl (thNil)) (by kernel_rfl)⟩) lfNil)) rfl (get_lps (by omega)) fiB43 (runLower_0 ) (args := [St' s]) (by simp only [RelL, Rel]; exact ⟨_, _, rfl, rfl, rfl⟩) w hl fun x hx => ?_
  simp only [Rel, RelL] at hx
  exact hx
theorem callsLower (s : LB) (b0 : s.length ≤ 9223372036854775807) (p0 : s.length ≤ 140737488355328) (w : World) (hl : laidE w) : CwR 43 #[St' s] w (St' (lowS s)) := by
  rw [show (St' (lowS s) : Value) = (St' (lowS s) : Value) from by rfl]
  exact pathLower_0 s b0 p0 w hl
theorem hokLower {x0 r : AV} {s : LB} (i0 : Is (cx nu one 0 laidE laidE_stab) x0 (St' s)) (hr : Den (cx nu one 0 laidE laidE_stab) r (St' (lowS s))) (b0 : s.length ≤ 9223372036854775807) (p0 : s.length ≤ 140737488355328) : HOk (cx nu one 0 laidE laidE_stab) (.call 43 [x0]) r := by
  intro ρ args ha w hl _
  simp only [RelL] at ha
  obtain ⟨v0, t0, rfl, a0, rfl⟩ := ha
  have e0 := i0 ρ _ a0; subst e0
  exact (callsLower s b0 p0 w hl).mono fun e w' he => ⟨_, he.1, hr ρ, he.2⟩
end Go.Proofs.YtjkdkpdjmapieaaDoor.fieldBack
