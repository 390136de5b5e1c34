/- A part of the proof: an interpreter of the model's own code on partly known states, and that what it answers is what the program answers. No condition of its own. -/
import Derived.Test.YtobklhnepmgbmaaDoorSeatD1
import Derived.Test.YtobklhnepmgbmaaDoorHXpart4
import Derived.Test.YtobklhnepmgbmaaDoorAXro
import Derived.Test.YtobklhnepmgbmaaDoorHKA
import Derived.Test.YtobklhnepmgbmaaDoorHKI
import Derived.Test.YtobklhnepmgbmaaDoorHKJ
set_option maxRecDepth 100000
set_option linter.unusedVariables false
set_option linter.unusedSimpArgs false
namespace Go.Proofs.YtobklhnepmgbmaaDoor.fieldCases
open Go Go.AX Go.Proofs Go.Proofs.YtobklhnepmgbmaaDoor
/-- the variables that the runs read are laid -/
def laidE (w : World) : Prop := True
theorem laidE_stab : ∀ w w' : World, (∀ k, k < 0 → w'.heap[k]? = w.heap[k]?) → laidE w → laidE w' := fun w w' h _ => trivial
theorem laidE_size {w : World} (h : laidE w) : 0 ≤ w.heap.size := by
  exact Nat.zero_le _
noncomputable def H0 : T Ent := .leaf
theorem runP {nu : Nat → Value} {one : ∀ i, i < 1000000 → (nu i).oneCell' = true} {tb : Tab} (h : AllOk (cx nu one 0 laidE laidE_stab) tb) (hng : tb.ng = 3) {f g : Nat} {fi : FI} (hfi : tb.fn.get g = some fi) (hb : fi.body.isSome = true) {l : List AV} {args : List Value}
    (hr : okB (call tb f g l ⟨H0 , 3, 0, 0⟩) = true) (hl : RelL (cx nu one 0 laidE laidE_stab) (fun _ => none) l args) (w : World) (hw : laidE w) :
    Calls Tryd.prog g ⟨args⟩ w fun e w' => e = .returned (.bool true) ∧ Go.AX.Below (Go.AX.Fz.lt w.heap.size) w w' := by
  obtain ⟨S, hS⟩ := okB_inv hr
  refine (run_okG h (H := H0 ) hfi hb (by rw [hng]; exact hS) hl w hw (laidE_size hw) fun v k hv => ?_).mono fun e' w' he => ?_
  · unfold H0 at hv
    simp [T.get_leaf] at hv
  · obtain ⟨x, ρ, rfl, hx, hb⟩ := he
    simp only [Rel] at hx
    exact ⟨by rw [hx], hb⟩
theorem runS {nu : Nat → Value} {one : ∀ i, i < 1000000 → (nu i).oneCell' = true} {tb : Tab} (h : AllOk (cx nu one 0 laidE laidE_stab) tb) (hng : tb.ng = 3) {f g : Nat} {fi : FI} (hfi : tb.fn.get g = some fi) (hb : fi.body.isSome = true) {l : List AV} {args : List Value} {len n : Nat}
    (hr : okS (call tb f g l ⟨H0 , 3, 0, 0⟩) len n = true) (hl : RelL (cx nu one 0 laidE laidE_stab) (fun _ => none) l args) (w : World) (hw : laidE w) :
    Calls Tryd.prog g ⟨args⟩ w fun e w' => e = .returned (St' (strB len n)) ∧ Go.AX.Below (Go.AX.Fz.lt w.heap.size) w w' := by
  obtain ⟨S, hS⟩ := okS_inv hr
  refine (run_okG h (H := H0 ) hfi hb (by rw [hng]; exact hS) hl w hw (laidE_size hw) fun v k hv => ?_).mono fun e' w' he => ?_
  · unfold H0 at hv
    simp [T.get_leaf] at hv
  · obtain ⟨x, ρ, rfl, hx, hb⟩ := he
    simp only [Rel] at hx
    exact ⟨by rw [hx.1], hb⟩
theorem runA {nu : Nat → Value} {one : ∀ i, i < 1000000 → (nu i).oneCell' = true} {tb : Tab} (h : AllOk (cx nu one 0 laidE laidE_stab) tb) (hng : tb.ng = 3) {f g : Nat} {fi : FI} (hfi : tb.fn.get g = some fi) (hb : fi.body.isSome = true) {l : List AV} {args : List Value} {ra : AV} (hnr : noR 8 ra = true)
    (hr : okA (call tb f g l ⟨H0 , 3, 0, 0⟩) ra = true) (hl : RelL (cx nu one 0 laidE laidE_stab) (fun _ => none) l args) (w : World) (hw : laidE w) :
    Calls Tryd.prog g ⟨args⟩ w fun e w' => ∃ x, e = .returned x ∧ Rel (cx nu one 0 laidE laidE_stab) (fun _ => none) ra x ∧ Go.AX.Below (Go.AX.Fz.lt w.heap.size) w w' := by
  obtain ⟨S, hS⟩ := okA_inv hr
  refine (run_okG h (H := H0 ) hfi hb (by rw [hng]; exact hS) hl w hw (laidE_size hw) fun v k hv => ?_).mono fun e' w' he => ?_
  · unfold H0 at hv
    simp [T.get_leaf] at hv
  · obtain ⟨x, ρ, rfl, hx, hb⟩ := he
    exact ⟨x, rfl, noR_rel 8 _ hnr _ hx, hb⟩
theorem runPR {nu : Nat → Value} {one : ∀ i, i < 1000000 → (nu i).oneCell' = true} {tb : Tab} (h : AllOk (cx nu one 0 laidE laidE_stab) tb) (hng : tb.ng = 3) {f g : Nat} {fi : FI} (hfi : tb.fn.get g = some fi) (hb : fi.body.isSome = true) {l : List AV} {args : List Value} (rs0 : List Ent) (rs : List R)
    (hr : okB (call tb f g l ⟨addR 3 rs0 (H0 ), 3 + rs0.length, 0, 0⟩) = true) (hl : RelL (cx nu one 0 laidE laidE_stab) (rhoA 3 rs) l args) (w : World) (hw : laidE w) (hlen : rs0.length = rs.length) (hbd : 3 + rs0.length ≤ 16777213) (hA : ∀ (j : Nat) (k : Ent) (r : R), rs0[j]? = some k → rs[j]? = some r → ArgAt (cx nu one 0 laidE laidE_stab) w (H0 ) k r) (hnd : ∀ (i j : Nat) (r q : R), rs[i]? = some r → rs[j]? = some q → r.blk = q.blk → i = j) :
    Calls Tryd.prog g ⟨args⟩ w fun e w' => e = .returned (.bool true) ∧ Go.AX.Below (Go.AX.Fz.lt w.heap.size) w w' := by
  obtain ⟨S, hS⟩ := okB_inv hr
  refine (run_okGA h (H := H0 ) hfi hb rs0 rs (by rw [hng]; exact hS) (by rw [hng]; exact hl) w hw (laidE_size hw) hlen (by rw [hng]; exact hbd) (hA ) hnd fun v k hv => ?_).mono fun e' w' he => ?_
  · unfold H0 at hv
    simp [T.get_leaf] at hv
  · obtain ⟨x, ρ, rfl, hx, hb⟩ := he
    simp only [Rel] at hx
    exact ⟨by rw [hx], hb⟩
noncomputable def fk : FI := ⟨Tryd.f4.body, Tryd.f4.ntmps, Tryd.f4.results.toList, 0, none, []⟩
theorem fk_at : tab.fn.get 4 = some fk := by kernel_rfl
theorem fk_body : fk.body.isSome = true := by kernel_rfl
theorem kk : okB (call tab 6000 4 [] ⟨H0 , 3, 0, 0⟩) = true := by kernel_rfl
noncomputable def tabk : Tab := addSum tab 4 fk (.b true)
section
variable (nu : Nat → Value) (one : ∀ i, i < 1000000 → (nu i).oneCell' = true)
theorem sumk : SumOk (cx nu one 0 laidE laidE_stab) 4 (.b true) := fun w hi hs => by
  refine (runP (tabOk nu one 0 laidE laidE_stab) rfl fk_at fk_body kk (args := []) (by simp only [RelL]) w hi).mono fun e w' he => ?_
  exact ⟨.bool true, he.1, by simp only [Rel], he.2⟩
theorem tabkOk : AllOk (cx nu one 0 laidE laidE_stab) tabk := (tabOk nu one 0 laidE laidE_stab).sum (by omega) fk_at fk_body (sumk nu one)
end
noncomputable def tbl (h : LK) : Tab := { tabk with hyp := h }
theorem fiE : ∃ fi, tabk.fn.get 3 = some fi ∧ fi.body.isSome = true := ⟨_, rfl, by kernel_rfl⟩
abbrev CwR (g : Nat) (args : Array Value) (w : World) (v : Value) : Prop := Calls Tryd.prog g args w fun e w' => e = .returned v ∧ Go.AX.Below (Go.AX.Fz.lt w.heap.size) w w'
theorem runC {nu : Nat → Value} {one : ∀ i, i < 1000000 → (nu i).oneCell' = true} {tb : Tab} {ra : AV} {v : Value} (hnr : noR 8 ra = true) (h : AllOk (cx nu one 0 laidE laidE_stab) tb) (hng : tb.ng = 3) {f g : Nat} {fi : FI} (hfi : tb.fn.get g = some fi) (hb : fi.body.isSome = true) {l : List AV} {args : List Value}
    (hr : okA (call tb f g l ⟨H0 , 3, 0, 0⟩) ra = true) (hl : RelL (cx nu one 0 laidE laidE_stab) (fun _ => none) l args) (w : World) (hw : laidE w) (hv : ∀ x, Rel (cx nu one 0 laidE laidE_stab) (fun _ => none) ra x → x = v) : CwR g ⟨args⟩ w v :=
  (runA h hng hfi hb hnr hr hl w hw).mono fun e w' he => by
    obtain ⟨x, rfl, hx, hb2⟩ := he
    exact ⟨by rw [hv x hx], hb2⟩
def lowB (c : Int) : Int := if 65 ≤ c ∧ c ≤ 90 then c + 32 else c
def lowU (b : UInt8) : UInt8 := u8 (lowB (b.toNat : Int))
def lowS (l : LB) : LB := l.map lowU
theorem u8_self (b : UInt8) : u8 (b.toNat : Int) = b := by
  have := u8_bt [b] 0
  simpa [bt] using this
theorem low_drop {l : LB} {i : Nat} (hi : i < l.length) : l.drop i = u8 (bt l i) :: l.drop (i + 1) := by
  rw [List.drop_eq_getElem_cons hi, u8_bt, List.getD_eq_getElem?_getD, List.getElem?_eq_getElem hi, Option.getD_some]
theorem low_take {l : LB} {i : Nat} (hi : i < l.length) : l.take (i + 1) = l.take i ++ [u8 (bt l i)] := by
  rw [List.take_succ_eq_append_getElem hi, u8_bt, List.getD_eq_getElem?_getD, List.getElem?_eq_getElem hi, Option.getD_some]
theorem lowU_u8 {c : Int} (h0 : 0 ≤ c) (h1 : c ≤ 255) : lowU (u8 c) = u8 (lowB c) := by unfold lowU; rw [u8_toNat h0 h1]
theorem low_keep {l : LB} {i : Nat} (hi : i < l.length) (h : ¬ (65 ≤ bt l i ∧ bt l i ≤ 90)) : l.take (i + 1) ++ lowS (l.drop (i + 1)) = l.take i ++ lowS (l.drop i) := by
  rw [low_take hi, low_drop hi, lowS, lowS, List.map_cons, lowU_u8 (bt_lo _ _) (bt_hi _ _), lowB, if_neg h]; simp
theorem low_set {l : LB} {i : Nat} (hi : i < l.length) (h : 65 ≤ bt l i ∧ bt l i ≤ 90) : (l.set i (u8 (bt l i + 32))).take (i + 1) ++ lowS ((l.set i (u8 (bt l i + 32))).drop (i + 1)) = l.take i ++ lowS (l.drop i) := by
  have h1 : (l.set i (u8 (bt l i + 32))).take (i + 1) = l.take i ++ [u8 (bt l i + 32)] := by
    rw [List.take_succ_eq_append_getElem (by simpa using hi), List.take_set_of_le (Nat.le_refl _)]; simp
  have h2 : (l.set i (u8 (bt l i + 32))).drop (i + 1) = l.drop (i + 1) := by rw [List.drop_set_of_lt (by omega)]
  rw [h1, h2, low_drop hi, lowS, lowS, List.map_cons, lowU_u8 (bt_lo _ _) (bt_hi _ _), lowB, if_pos h]; simp
theorem low_end {l : LB} {i : Nat} (hi : l.length ≤ i) : l.take i ++ lowS (l.drop i) = l := by
  rw [List.take_of_length_le hi, List.drop_eq_nil_of_le hi]; simp [lowS]
variable {nu : Nat → Value} {one : ∀ i, i < 1000000 → (nu i).oneCell' = true} {E' : Cx} {x' : Ex} {e' : LA} {h' : LE}
noncomputable def bodyLw : Code := loopNo (Tryd.f23.body.getD .skip) 0
theorem keyLw : oneKey (loopsOf (Tryd.f23.body.getD .skip)) 3 0 0 = true := by kernel_rfl
def keepLw : List Nat := [0, 2, 6]
def epLw_0 : LA := [(3, .sy 3), (7, .sy 3), (8, .sy 3), (9, .x 1), (10, .x 2)]
def hpLw_0 : LE := [(3, .t 0 5)]
def nuLw_0 (T l : LB) (i : Int) : List Value := [St' l, .int .i64 ((l.length : Int)), .int .i64 (i), .int .u8 (bt l (Int.toNat (i))), .int .i64 (i + 1), .int .u8 (bt l (Int.toNat (i))), .int .u8 ((bt l (Int.toNat (i))) + 97), .int .u8 ((bt l (Int.toNat (i))) + 32), St' (List.set l (Int.toNat (i)) (u8 ((bt l (Int.toNat (i))) + 32))), .int .i64 (i + 1), .int .u8 (bt l (Int.toNat (i))), .int .i64 (i + 1)]
def roLw_0 (T l : LB) (i : Int) : List Value := []
def epLw (st : Nat × LB × Int) : LA := epLw_0
def hpLw (st : Nat × LB × Int) : LE := hpLw_0
def nuLw (T : LB) (st : Nat × LB × Int) : List Value := nuLw_0 T (st.2.1) (st.2.2)
def roLw (T : LB) (st : Nat × LB × Int) : List Value := roLw_0 T (st.2.1) (st.2.2)
theorem onLw (T : LB) (st : Nat × LB × Int) : ∀ j, (nuL (nuLw T st) j).oneCell' = true := by
  intro j
  unfold nuLw
  exact nuL_one (l := nuLw_0 T (st.2.1) (st.2.2)) rfl j
theorem ebLw (st : Nat × LB × Int) : (lfB (epLw st) && lfC keepLw) = true := by
  unfold epLw
  rfl
noncomputable def DLw (T : LB) (st : Nat × LB × Int) (X : Nat → Value) : Cx := cx (nuX (nuLw T st) (rX (roLw T st) X)) (nuX_one (onLw T st)) 0 laidE laidE_stab
def InvLw (T : LB) (st : Nat × LB × Int) : Prop := (0 ≤ (st.2.2)) ∧ ((st.2.2) ≤ ((st.2.1).length : Int)) ∧ ((st.2.1).take (st.2.2).toNat ++ lowS ((st.2.1).drop (st.2.2).toNat) = T) ∧ ((st.2.1).length ≤ 140737488355328) ∧ ((st.1) < 1)
abbrev CjLw (T : LB) (tag : Nat) (l : LB) (i : Int) : Prop := (0 ≤ i) ∧ (i ≤ (l.length : Int)) ∧ (l.take i.toNat ++ lowS (l.drop i.toNat) = T) ∧ (l.length ≤ 140737488355328) ∧ (tag < 1)
theorem mkILw (T : LB) (tag : Nat) (l : LB) (i : Int) (h : CjLw T tag l i) : InvLw T (tag, l, i) := h
theorem unILw (T : LB) (tag : Nat) (l : LB) (i : Int) (h : InvLw T (tag, l, i)) : (0 ≤ i) ∧ (i ≤ (l.length : Int)) ∧ (l.take i.toNat ++ lowS (l.drop i.toNat) = T) ∧ (l.length ≤ 140737488355328) ∧ (tag < 1) := h
def muLw (T : LB) (st : Nat × LB × Int) : Nat := ((st.2.1).length - (st.2.2).toNat)
abbrev RHLw (T : LB) (E' : Cx) (ex' : Ex) (epx' : LA) (hpx' : LE) (st : Nat × LB × Int) (X : Nat → Value) : Prop := RoundH E' bodyLw keepLw 30 ex' 3 4 4 4 epLw hpLw epx' hpx' (InvLw T) (muLw T) (DLw T) st X
noncomputable abbrev RNLw_0 (h : LK) (x : Ex) (th : LA) (sg : List (Nat × Nat)) (m : Nat) (ep : LA) (hp : LE) : Bool := okRdH (code (tbl h) 400 [] bodyLw (envOf (headOf epLw_0 keepLw) 30) ⟨lhSet hpLw_0 .leaf, 4, 0, 0⟩) x keepLw 30 4 th sg 4 m ep hp
theorem stLw_0 (T l : LB) (i : Int) {X : Nat → Value} {h : LK} (y : Nat × LB × Int) {th : LA} {sg : List (Nat × Nat)} (ho : ∀ a' r', (a', r') ∈ h → HOk (cx (nuX (nuLw_0 T l i) (rX (roLw_0 T l i) X)) (nuX_one (nuL_one (l := nuLw_0 T l i) rfl)) 0 laidE laidE_stab) a' r') (hy : InvLw T y) (lt : muLw T y < muLw T (0, l, i)) (ht : ThOk (cx (nuX (nuLw_0 T l i) (rX (roLw_0 T l i) X)) (nuX_one (nuL_one (l := nuLw_0 T l i) rfl)) 0 laidE laidE_stab) (DLw T y X) th) (run : RNLw_0 h .normal th sg 4 (epLw y) (hpLw y) = true) : RHLw T E' x' e' h' (0, l, i) X :=
  RoundH.next (tb := tbl h) (L := []) (f := 400) y ((tabkOk _ _).hyps ho) (LpOk.nil _) rfl hy lt ht run
theorem lvLw_0 (T l : LB) (i : Int) {X : Nat → Value} {h : LK} {th : LA} {sg : List (Nat × Nat)} (hne : exB x' .normal = false) (ho : ∀ a' r', (a', r') ∈ h → HOk (cx (nuX (nuLw_0 T l i) (rX (roLw_0 T l i) X)) (nuX_one (nuL_one (l := nuLw_0 T l i) rfl)) 0 laidE laidE_stab) a' r') (ht : ThOk (cx (nuX (nuLw_0 T l i) (rX (roLw_0 T l i) X)) (nuX_one (nuL_one (l := nuLw_0 T l i) rfl)) 0 laidE laidE_stab) E' th) (run : RNLw_0 h x' th sg 4 e' h' = true) : RHLw T E' x' e' h' (0, l, i) X :=
  RoundH.leave (tb := tbl h) (L := []) (f := 400) ((tabkOk _ _).hyps ho) (LpOk.nil _) rfl hne ht run
def hyLw_p0 : LK := [(.bin .lss (.x 2) (.x 1), .b false)]
theorem runLw_p0 : RNLw_0 hyLw_p0 (.exit 0) [(0, .x 0)] [] 4 [(3, .sy 3)] [(3, .t 0 5)] = true := by kernel_rfl
def hyLw_p1 : LK := [(.bin .lss (.x 2) (.x 1), .b true), (.byt (.x 0) (.x 2), .x 3), (.bin .geq (.x 3) (.i .u8 (.ofNat 65)), .b true), (.bin .leq (.x 3) (.i .u8 (.ofNat 90)), .b false), (.bin .add (.x 2) (.i .i64 (.ofNat 1)), .x 4)]
theorem runLw_p1 : RNLw_0 hyLw_p1 .normal [(0, .x 0), (1, .x 1), (2, .x 4)] [] 4 epLw_0 hpLw_0 = true := by kernel_rfl
theorem nxLw_p1 (T : LB) (l : LB) (i : Int) (X : Nat → Value) (hI : InvLw T (0, l, i)) (h0 : i < (l.length : Int)) (h1 : 65 ≤ bt l (Int.toNat (i))) (h2 : ¬ (bt l (Int.toNat (i)) ≤ 90)) : RHLw T E' x' e' h' (0, l, i) X := by
  obtain ⟨i0, i1, i2, i3, it⟩ := unILw T 0 l i hI
  have := bt_lo l (Int.toNat (i)); have := bt_hi l (Int.toNat (i))
  refine stLw_0 T l i (h := hyLw_p1) (0, l, (i + 1)) ?_ (mkILw T 0 l (i + 1) ⟨by omega, by omega, by rw [← i2, show (i + 1).toNat = i.toNat + 1 by omega]; exact low_keep (by omega) (by omega), by omega, by omega⟩) (by show l.length - (i + 1).toNat < l.length - i.toNat; omega) (thXv (v := St' l) rfl rfl (thXv (v := .int .i64 ((l.length : Int))) rfl rfl (thXi (b := ((i + 1))) rfl rfl (by omega) (thNil)))) runLw_p1
  unfold hyLw_p1
  exact hc (ltT rfl rfl (by omega)) <|
   hc (kByt (i := (Int.toNat (i))) (isX rfl) (isX rfl) (denX rfl) (by omega) (by first | omega | (simp <;> omega)) rfl) <|
   hc (gecT rfl (by omega)) <|
   hc (lecF rfl (by omega)) <|
   hc (adC rfl rfl (by omega)) <|
   hnil
def hyLw_p2 : LK := [(.bin .lss (.x 2) (.x 1), .b true), (.byt (.x 0) (.x 2), .x 5), (.bin .geq (.x 5) (.i .u8 (.ofNat 65)), .b true), (.bin .leq (.x 5) (.i .u8 (.ofNat 90)), .b true), (.bin .add (.x 5) (.i .u8 (.ofNat 97)), .x 6), (.bin .sub (.x 6) (.i .u8 (.ofNat 65)), .x 7), (.set (.x 0) (.x 2) (.x 7), .x 8), (.bin .add (.x 2) (.i .i64 (.ofNat 1)), .x 9)]
theorem runLw_p2 : RNLw_0 hyLw_p2 .normal [(0, .x 8), (1, .x 1), (2, .x 9)] [] 4 epLw_0 hpLw_0 = true := by kernel_rfl
theorem nxLw_p2 (T : LB) (l : LB) (i : Int) (X : Nat → Value) (hI : InvLw T (0, l, i)) (h0 : i < (l.length : Int)) (h1 : 65 ≤ bt l (Int.toNat (i))) (h2 : bt l (Int.toNat (i)) ≤ 90) : RHLw T E' x' e' h' (0, l, i) X := by
  obtain ⟨i0, i1, i2, i3, it⟩ := unILw T 0 l i hI
  have := bt_lo l (Int.toNat (i)); have := bt_hi l (Int.toNat (i))
  have : (List.set l (Int.toNat (i)) (u8 ((bt l (Int.toNat (i))) + 32))).length = l.length := List.length_set ..
  refine stLw_0 T l i (h := hyLw_p2) (0, (List.set l (Int.toNat (i)) (u8 ((bt l (Int.toNat (i))) + 32))), (i + 1)) ?_ (mkILw T 0 (List.set l (Int.toNat (i)) (u8 ((bt l (Int.toNat (i))) + 32))) (i + 1) ⟨by omega, by rw [List.length_set]; omega, by rw [← i2, show (i + 1).toNat = i.toNat + 1 by omega]; exact low_set (by omega) (by omega), by rw [List.length_set]; omega, by omega⟩) (by show (List.set l (Int.toNat (i)) _).length - (i + 1).toNat < l.length - i.toNat; rw [List.length_set]; omega) (thXv (v := St' (List.set l (Int.toNat (i)) (u8 ((bt l (Int.toNat (i))) + 32)))) rfl rfl (thXe (v := .int .i64 ((l.length : Int))) (u := .int .i64 (((List.set l (Int.toNat (i)) (u8 ((bt l (Int.toNat (i))) + 32))).length : Int))) rfl rfl (congrArg (Value.int .i64) (by rw [List.length_set])) (thXi (b := ((i + 1))) rfl rfl (by omega) (thNil)))) runLw_p2
  unfold hyLw_p2
  exact hc (ltT rfl rfl (by omega)) <|
   hc (kByt (i := (Int.toNat (i))) (isX rfl) (isX rfl) (denX rfl) (by omega) (by first | omega | (simp <;> omega)) rfl) <|
   hc (gecT rfl (by omega)) <|
   hc (lecT rfl (by omega)) <|
   hc (kAdd (isX rfl) (isZ (m := 97) rfl) (denX rfl) (by omega) (fU8 (by omega) (by omega))) <|
   hc (kSub (isX rfl) (isZ (m := 65) rfl) (denX rfl) (by omega) (fU8 (by omega) (by omega))) <|
   hc (kSet (i := (Int.toNat (i))) (isX rfl) (isX rfl) (isX rfl) (denX rfl) (by omega) (by first | omega | (simp <;> omega)) (by omega) (by omega) rfl) <|
   hc (adC rfl rfl (by omega)) <|
   hnil
def hyLw_p3 : LK := [(.bin .lss (.x 2) (.x 1), .b true), (.byt (.x 0) (.x 2), .x 10), (.bin .geq (.x 10) (.i .u8 (.ofNat 65)), .b false), (.bin .add (.x 2) (.i .i64 (.ofNat 1)), .x 11)]
theorem runLw_p3 : RNLw_0 hyLw_p3 .normal [(0, .x 0), (1, .x 1), (2, .x 11)] [] 4 epLw_0 hpLw_0 = true := by kernel_rfl
theorem nxLw_p3 (T : LB) (l : LB) (i : Int) (X : Nat → Value) (hI : InvLw T (0, l, i)) (h0 : i < (l.length : Int)) (h1 : ¬ (65 ≤ bt l (Int.toNat (i)))) : RHLw T E' x' e' h' (0, l, i) X := by
  obtain ⟨i0, i1, i2, i3, it⟩ := unILw T 0 l i hI
  have := bt_lo l (Int.toNat (i)); have := bt_hi l (Int.toNat (i))
  refine stLw_0 T l i (h := hyLw_p3) (0, l, (i + 1)) ?_ (mkILw T 0 l (i + 1) ⟨by omega, by omega, by rw [← i2, show (i + 1).toNat = i.toNat + 1 by omega]; exact low_keep (by omega) (by omega), by omega, by omega⟩) (by show l.length - (i + 1).toNat < l.length - i.toNat; omega) (thXv (v := St' l) rfl rfl (thXv (v := .int .i64 ((l.length : Int))) rfl rfl (thXi (b := ((i + 1))) rfl rfl (by omega) (thNil)))) runLw_p3
  unfold hyLw_p3
  exact hc (ltT rfl rfl (by omega)) <|
   hc (kByt (i := (Int.toNat (i))) (isX rfl) (isX rfl) (denX rfl) (by omega) (by first | omega | (simp <;> omega)) rfl) <|
   hc (gecF rfl (by omega)) <|
   hc (adC rfl rfl (by omega)) <|
   hnil
def nuELw_0 (T : LB) : List Value := [St' T]
def roELw_0 (T : LB) : List Value := []
noncomputable def ELw_0 (T : LB) : Cx := cx (nuX (nuELw_0 T) (rX (roELw_0 T) (fun _ => .bool true))) (nuX_one (nuL_one (l := nuELw_0 T) rfl)) 0 laidE laidE_stab
theorem roundsLw_0 (T : LB) (st : Nat × LB × Int) (X : Nat → Value) (hI : InvLw T st) : RHLw T (ELw_0 T) (.exit 0) [(3, .sy 3)] [(3, .t 0 5)] st X := by
  obtain ⟨tag, l, i⟩ := st
  have hI0 := hI
  obtain ⟨i0, i1, i2, i3, it⟩ := unILw T tag l i hI
  obtain rfl : tag = 0 := by omega
  skip
  by_cases h0 : i < (l.length : Int)
  · by_cases h1 : 65 ≤ bt l (Int.toNat (i))
    · by_cases h2 : bt l (Int.toNat (i)) ≤ 90
      · exact nxLw_p2 T l i X hI0 h0 h1 h2
      · exact nxLw_p1 T l i X hI0 h0 h1 h2
    · exact nxLw_p3 T l i X hI0 h0 h1
  · skip
    refine lvLw_0 T l i (h := hyLw_p0) rfl ?_ (thXe (v := St' l) (u := St' T) rfl rfl (congrArg (fun l => St' l) (by rw [← i2]; exact (low_end (by omega)).symm)) (thNil)) runLw_p0
    unfold hyLw_p0
    exact hc (ltF rfl rfl (by omega)) <|
     hnil
theorem lfOkLw_0 {l : LF} {h : LH} (T : LB) (st : Nat × LB × Int) (hI : InvLw T st) (hl : l.hp = some h) (hs : lfSame l h 30 keepLw (.exit 0) 3 4 4 = true) {th0 : LA} {sg0 : List (Nat × Nat)} (hth0 : ∀ X, ThOk (cx nu one 0 laidE laidE_stab) (DLw T st X) th0) (h0 : startOk l h 30 4 4 th0 sg0 (epLw st) (hpLw st) = true) {thx : LA} (hthx : ThOk (ELw_0 T) (cx nu one 0 laidE laidE_stab) thx) (hx : exitOk l h 30 4 4 thx [(3, .sy 3)] [(3, .t 0 5)] = true) : LfOk (cx nu one 0 laidE laidE_stab) bodyLw l :=
  lfOkX (E := ELw_0 T) (InvLw T) (muLw T) (DLw T) (fun _ _ => rfl) (fun _ _ => rfl) (fun _ _ => rfl) (fun st X t ht => nuX_keep.trans (rX_keep ((by decide : ∀ t, t ∈ keepLw → t < 1000000) t ht))) rfl rfl rfl hl hs ebLw rfl rfl st hI hth0 h0 hthx hx (roundsLw_0 T)
noncomputable def fi23 : FI := (tabk.fn.get 23).getD default
theorem fi23_at : tabk.fn.get 23 = some fi23 := by kernel_rfl
theorem fi23_body : fi23.body = some (Tryd.f23.body.getD .skip) := by kernel_rfl
theorem fiB23 : fi23.body.isSome = true := by rw [fi23_body]; rfl
def hyLower_0 : LK := [(.fit (.x 0), .b true), (.len (.x 0), .x 1)]
def lh1 : LH := ⟨3, 4, 4, [(3, .t 0 5)], [(3, .t 2 5)]⟩
def lf1 : LF := ⟨3, 30, [(3, .sy 3), (7, .sy 3), (8, .sy 3), (9, .x 1), (10, .i .i64 (.ofNat 0))], [0, 2, 6], (.exit 0), [(3, .sy 3)], some lh1⟩
noncomputable def tabLower_0 : Tab := addLps ({ tabk with hyp := hyLower_0 }) 23 fi23 [lf1]
theorem runLower_0 : okA (call tabLower_0 9000 23 [.x 0] ⟨H0 , 3, 0, 0⟩) (.x 2) = true := by kernel_rfl
def nuLower_0 (s : LB) : List Value := [St' s, .int .i64 ((s.length : Int)), St' (lowS s)]
theorem pathLower_0 (s : LB) (b0 : s.length ≤ 9223372036854775807) (p0 : s.length ≤ 140737488355328) (w : World) (hl : laidE w) : CwR 23 #[St' s] w (St' (lowS s)) := by
  have : (lowS s).length = s.length := List.length_map ..
  have ho : ∀ k r, (k, r) ∈ hyLower_0 → HOk (cx (nuL (nuLower_0 s)) (fun j _ => nuL_one (l := nuLower_0 s) rfl j) 0 laidE laidE_stab) k r := by
    unfold hyLower_0
    exact hc (kFit (isX rfl) (by first | omega | (simp <;> omega))) <|
     hc (lnV rfl rfl (by omega)) <|
     hnil
  refine runC (tb := tabLower_0) (ra := .x 2) rfl (AllOk.lp1 ((tabkOk (nuL (nuLower_0 s)) (fun j _ => nuL_one (l := nuLower_0 s) rfl j)).hyps ho) (by omega) fi23_at fi23_body (lfCons (lpKnown rfl ⟨0, keyLw, lfOkLw_0 (l := lf1) (h := lh1) (lowS s) (0, s, (0 : Int)) (mkILw (lowS s) 0 s (0 : Int) ⟨by omega, by omega, by simp, by omega, by omega⟩) rfl (by kernel_rfl) (th0 := [(0, .x 0), (1, .x 1), (2, .i .i64 (.ofNat 0))]) (sg0 := []) (fun X => thXv (v := St' s) rfl rfl (thXv (v := .int .i64 ((s.length : Int))) rfl rfl (thCons (show Is _ (.i .i64 (.ofNat 0)) (.int .i64 ((0 : Int))) from isTo (v := .int .i64 0) (isI _ _) (by first | rfl | (congr 1; omega))) (thNil)))) (by kernel_rfl) (thx := [(2, .x 0)]) (thXv (v := St' (lowS s)) rfl rfl (thNil)) (by kernel_rfl)⟩) lfNil)) rfl (get_lps (by omega)) fiB23 (runLower_0 ) (args := [St' s]) (by simp only [RelL, Rel]; exact ⟨_, _, rfl, rfl, rfl⟩) w hl fun x hx => ?_
  simp only [Rel, RelL] at hx
  exact hx
theorem callsLower (s : LB) (b0 : s.length ≤ 9223372036854775807) (p0 : s.length ≤ 140737488355328) (w : World) (hl : laidE w) : CwR 23 #[St' s] w (St' (lowS s)) := by
  rw [show (St' (lowS s) : Value) = (St' (lowS s) : Value) from by rfl]
  exact pathLower_0 s b0 p0 w hl
theorem hokLower {x0 r : AV} {s : LB} (i0 : Is (cx nu one 0 laidE laidE_stab) x0 (St' s)) (hr : Den (cx nu one 0 laidE laidE_stab) r (St' (lowS s))) (b0 : s.length ≤ 9223372036854775807) (p0 : s.length ≤ 140737488355328) : HOk (cx nu one 0 laidE laidE_stab) (.call 23 [x0]) r := by
  intro ρ args ha w hl _
  simp only [RelL] at ha
  obtain ⟨v0, t0, rfl, a0, rfl⟩ := ha
  have e0 := i0 ρ _ a0; subst e0
  exact (callsLower s b0 p0 w hl).mono fun e w' he => ⟨_, he.1, hr ρ, he.2⟩
theorem nmAt {l : List (LB × LB)} {N : Nat} (h : ∀ q, q ∈ l → q.1.length ≤ N) (j : Nat) : (nthP l j).1.length ≤ N := by
  rw [nthP, List.getD_eq_getElem?_getD]
  cases hj : l[j]? with
  | none => exact Nat.zero_le _
  | some n => exact h n (List.mem_of_getElem? hj)
def dropS (nm : LB) (l : List (LB × LB)) : List (LB × LB) := l.filter fun p => !(lowS p.1 == lowS nm)
theorem dropS_y {nm : LB} {z : List (LB × LB)} {i : Int} (h0 : 0 ≤ i) (h1 : i < (z.length : Int)) (h : ¬ lowS (nthP z i.toNat).1 = lowS nm) : dropS nm (z.take (i + 1).toNat) = dropS nm (z.take i.toNat) ++ [((nthP z i.toNat).1, (nthP z i.toNat).2)] := by
  have e : (lowS (nthP z i.toNat).1 == lowS nm) = false := by simpa using h
  rw [takeP h0 h1, dropS, dropS, List.filter_append, List.filter_cons, e]; rfl
theorem dropS_n {nm : LB} {z : List (LB × LB)} {i : Int} (h0 : 0 ≤ i) (h1 : i < (z.length : Int)) (h : lowS (nthP z i.toNat).1 = lowS nm) : dropS nm (z.take (i + 1).toNat) = dropS nm (z.take i.toNat) := by
  have e : (lowS (nthP z i.toNat).1 == lowS nm) = true := by simpa using h
  rw [takeP h0 h1, dropS, dropS, List.filter_append, List.filter_cons, e]; simp
theorem dropS_x {nm : LB} {z : List (LB × LB)} {i : Int} (h0 : 0 ≤ i) (h1 : ¬ i < (z.length : Int)) : dropS nm (z.take i.toNat) = dropS nm z := by
  rw [List.take_of_length_le (by omega)]
theorem dropS_len (nm : LB) (l : List (LB × LB)) : (dropS nm l).length ≤ l.length := List.length_filter_le _ _
def getS (nm : LB) (l : List (LB × LB)) : List LB := (l.filter fun p => lowS p.1 == lowS nm).map fun p => p.2
theorem getS_y {nm : LB} {z : List (LB × LB)} {i : Int} (h0 : 0 ≤ i) (h1 : i < (z.length : Int)) (h : lowS (nthP z i.toNat).1 = lowS nm) : getS nm (z.take (i + 1).toNat) = getS nm (z.take i.toNat) ++ [(nthP z i.toNat).2] := by
  have e : (lowS (nthP z i.toNat).1 == lowS nm) = true := by simpa using h
  rw [takeP h0 h1, getS, getS, List.filter_append, List.filter_cons, e, List.map_append]; rfl
theorem getS_n {nm : LB} {z : List (LB × LB)} {i : Int} (h0 : 0 ≤ i) (h1 : i < (z.length : Int)) (h : ¬ lowS (nthP z i.toNat).1 = lowS nm) : getS nm (z.take (i + 1).toNat) = getS nm (z.take i.toNat) := by
  have e : (lowS (nthP z i.toNat).1 == lowS nm) = false := by simpa using h
  rw [takeP h0 h1, getS, getS, List.filter_append, List.filter_cons, e]; simp
theorem getS_x {nm : LB} {z : List (LB × LB)} {i : Int} (h0 : 0 ≤ i) (h1 : ¬ i < (z.length : Int)) : getS nm (z.take i.toNat) = getS nm z := by
  rw [List.take_of_length_le (by omega)]
theorem getS_len (nm : LB) (l : List (LB × LB)) : (getS nm l).length ≤ l.length := by
  rw [getS, List.length_map]; exact List.length_filter_le _ _
def czS (c k up : Int) : Int := if (up / k) % 2 = 1 then c - 32 else c
theorem cz_t {c k up d : Int} (h : (up / k) % 2 = 1) (e : d = c - 32) : d = czS c k up := by rw [czS, if_pos h]; exact e
theorem cz_f {c k up : Int} (h : ¬ (up / k) % 2 = 1) : c = czS c k up := by rw [czS, if_neg h]
def CTL : LB := [u8 99, u8 111, u8 110, u8 116, u8 101, u8 110, u8 116, u8 45, u8 116, u8 121, u8 112, u8 101]
theorem low_cz {c k up : Int} (h : 97 ≤ c ∧ c ≤ 122) : lowU (u8 (czS c k up)) = u8 c := by
  unfold czS; split
  · rw [lowU_u8 (by omega) (by omega), lowB, if_pos (by omega)]; congr 1; omega
  · rw [lowU_u8 (by omega) (by omega), lowB, if_neg (by omega)]
theorem cz_rng (c k up : Int) (h : 32 ≤ c ∧ c ≤ 255) : 0 ≤ czS c k up ∧ czS c k up ≤ 255 := by unfold czS; split <;> omega
theorem low_bn (up : Int) : lowS [u8 (czS 99 1 up), u8 (czS 111 2 up), u8 (czS 110 4 up), u8 (czS 116 8 up), u8 (czS 101 16 up), u8 (czS 110 32 up), u8 (czS 116 64 up), u8 45, u8 (czS 116 256 up), u8 (czS 121 512 up), u8 (czS 112 1024 up), u8 (czS 101 2048 up)] = CTL := by
  unfold lowS CTL; simp only [List.map_cons, List.map_nil, low_cz (c := 99) ⟨by omega, by omega⟩, low_cz (c := 111) ⟨by omega, by omega⟩, low_cz (c := 110) ⟨by omega, by omega⟩, low_cz (c := 116) ⟨by omega, by omega⟩, low_cz (c := 101) ⟨by omega, by omega⟩, low_cz (c := 121) ⟨by omega, by omega⟩, low_cz (c := 112) ⟨by omega, by omega⟩]; rfl
theorem getS_ap {nm nm0 b v : LB} {z : List (LB × LB)} (h0 : lowS nm0 = CTL) (h1 : lowS nm = CTL) (h2 : lowS b = CTL) : getS nm (dropS nm0 z ++ [(b, v)]) = [v] := by
  have e : (dropS nm0 z).filter (fun p => lowS p.1 == lowS nm) = [] := by
    rw [List.filter_eq_nil_iff]
    intro q hq
    have := (List.mem_filter.1 hq).2
    rw [h0] at this; rw [h1]; simpa using this
  rw [getS, List.filter_append, e, List.nil_append, List.filter_cons]
  simp [h1, h2]
theorem dropS_ap {nm nm0 b v : LB} {z : List (LB × LB)} (h0 : lowS nm0 = CTL) (h1 : lowS nm = CTL) (h2 : lowS b = CTL) : dropS nm (dropS nm0 z ++ [(b, v)]) = dropS nm0 z := by
  have e : (dropS nm0 z).filter (fun p => !(lowS p.1 == lowS nm)) = dropS nm0 z := by
    rw [List.filter_eq_self]
    intro q hq
    have := (List.mem_filter.1 hq).2
    rw [h0] at this; rw [h1]; simpa using this
  rw [dropS, List.filter_append, e, List.filter_cons]
  simp [h1, h2]
theorem dropS_mem {nm : LB} {z : List (LB × LB)} {q : LB × LB} (h : q ∈ dropS nm z) : q ∈ z := (List.mem_filter.1 h).1
theorem denSl {C : Cx} {len n : Nat} {l : LB} (e : strB len n = l) (h : n < 2 ^ (8 * len)) : Den C (.s len n) (St' l) := e ▸ denS h
end Go.Proofs.YtobklhnepmgbmaaDoor.fieldCases
