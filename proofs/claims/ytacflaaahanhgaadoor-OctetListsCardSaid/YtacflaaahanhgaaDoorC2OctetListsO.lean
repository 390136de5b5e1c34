/- A part of the proof: an interpreter of the model's own code on partly known states, and that what it answers is what the program answers. No condition of its own. -/
import Derived.Test.YtacflaaahanhgaaDoorSeatC2
import Derived.Test.YtacflaaahanhgaaDoorHXpart4
import Derived.Test.YtacflaaahanhgaaDoorTDx
set_option maxRecDepth 100000
set_option linter.unusedVariables false
set_option linter.unusedSimpArgs false
namespace Go.Proofs.YtacflaaahanhgaaDoor.octetLists
open Go Go.AX Go.Proofs Go.Proofs.YtacflaaahanhgaaDoor
/-- the variables that the runs read are laid -/
def laidE (w : World) : Prop := True
theorem laidE_stab : ∀ w w' : World, (∀ k, k < 0 → w'.heap[k]? = w.heap[k]?) → laidE w → laidE w' := fun w w' h _ => trivial
theorem laidE_size {w : World} (h : laidE w) : 0 ≤ w.heap.size := by
  exact Nat.zero_le _
noncomputable def H0 : T Ent := .leaf
theorem runP {nu : Nat → Value} {one : ∀ i, i < 1000000 → (nu i).oneCell' = true} {tb : Tab} (h : AllOk (cx nu one 0 laidE laidE_stab) tb) (hng : tb.ng = 7) {f g : Nat} {fi : FI} (hfi : tb.fn.get g = some fi) (hb : fi.body.isSome = true) {l : List AV} {args : List Value}
    (hr : okB (call tb f g l ⟨H0 , 7, 0, 0⟩) = true) (hl : RelL (cx nu one 0 laidE laidE_stab) (fun _ => none) l args) (w : World) (hw : laidE w) :
    Calls Tryd.prog g ⟨args⟩ w fun e w' => e = .returned (.bool true) ∧ Go.AX.Below (Go.AX.Fz.lt w.heap.size) w w' := by
  obtain ⟨S, hS⟩ := okB_inv hr
  refine (run_okG h (H := H0 ) hfi hb (by rw [hng]; exact hS) hl w hw (laidE_size hw) fun v k hv => ?_).mono fun e' w' he => ?_
  · unfold H0 at hv
    simp [T.get_leaf] at hv
  · obtain ⟨x, ρ, rfl, hx, hb⟩ := he
    simp only [Rel] at hx
    exact ⟨by rw [hx], hb⟩
theorem runS {nu : Nat → Value} {one : ∀ i, i < 1000000 → (nu i).oneCell' = true} {tb : Tab} (h : AllOk (cx nu one 0 laidE laidE_stab) tb) (hng : tb.ng = 7) {f g : Nat} {fi : FI} (hfi : tb.fn.get g = some fi) (hb : fi.body.isSome = true) {l : List AV} {args : List Value} {len n : Nat}
    (hr : okS (call tb f g l ⟨H0 , 7, 0, 0⟩) len n = true) (hl : RelL (cx nu one 0 laidE laidE_stab) (fun _ => none) l args) (w : World) (hw : laidE w) :
    Calls Tryd.prog g ⟨args⟩ w fun e w' => e = .returned (St' (strB len n)) ∧ Go.AX.Below (Go.AX.Fz.lt w.heap.size) w w' := by
  obtain ⟨S, hS⟩ := okS_inv hr
  refine (run_okG h (H := H0 ) hfi hb (by rw [hng]; exact hS) hl w hw (laidE_size hw) fun v k hv => ?_).mono fun e' w' he => ?_
  · unfold H0 at hv
    simp [T.get_leaf] at hv
  · obtain ⟨x, ρ, rfl, hx, hb⟩ := he
    simp only [Rel] at hx
    exact ⟨by rw [hx.1], hb⟩
theorem runA {nu : Nat → Value} {one : ∀ i, i < 1000000 → (nu i).oneCell' = true} {tb : Tab} (h : AllOk (cx nu one 0 laidE laidE_stab) tb) (hng : tb.ng = 7) {f g : Nat} {fi : FI} (hfi : tb.fn.get g = some fi) (hb : fi.body.isSome = true) {l : List AV} {args : List Value} {ra : AV} (hnr : noR 8 ra = true)
    (hr : okA (call tb f g l ⟨H0 , 7, 0, 0⟩) ra = true) (hl : RelL (cx nu one 0 laidE laidE_stab) (fun _ => none) l args) (w : World) (hw : laidE w) :
    Calls Tryd.prog g ⟨args⟩ w fun e w' => ∃ x, e = .returned x ∧ Rel (cx nu one 0 laidE laidE_stab) (fun _ => none) ra x ∧ Go.AX.Below (Go.AX.Fz.lt w.heap.size) w w' := by
  obtain ⟨S, hS⟩ := okA_inv hr
  refine (run_okG h (H := H0 ) hfi hb (by rw [hng]; exact hS) hl w hw (laidE_size hw) fun v k hv => ?_).mono fun e' w' he => ?_
  · unfold H0 at hv
    simp [T.get_leaf] at hv
  · obtain ⟨x, ρ, rfl, hx, hb⟩ := he
    exact ⟨x, rfl, noR_rel 8 _ hnr _ hx, hb⟩
theorem runPR {nu : Nat → Value} {one : ∀ i, i < 1000000 → (nu i).oneCell' = true} {tb : Tab} (h : AllOk (cx nu one 0 laidE laidE_stab) tb) (hng : tb.ng = 7) {f g : Nat} {fi : FI} (hfi : tb.fn.get g = some fi) (hb : fi.body.isSome = true) {l : List AV} {args : List Value} (rs0 : List Ent) (rs : List R)
    (hr : okB (call tb f g l ⟨addR 7 rs0 (H0 ), 7 + rs0.length, 0, 0⟩) = true) (hl : RelL (cx nu one 0 laidE laidE_stab) (rhoA 7 rs) l args) (w : World) (hw : laidE w) (hlen : rs0.length = rs.length) (hbd : 7 + rs0.length ≤ 16777213) (hA : ∀ (j : Nat) (k : Ent) (r : R), rs0[j]? = some k → rs[j]? = some r → ArgAt (cx nu one 0 laidE laidE_stab) w (H0 ) k r) (hnd : ∀ (i j : Nat) (r q : R), rs[i]? = some r → rs[j]? = some q → r.blk = q.blk → i = j) :
    Calls Tryd.prog g ⟨args⟩ w fun e w' => e = .returned (.bool true) ∧ Go.AX.Below (Go.AX.Fz.lt w.heap.size) w w' := by
  obtain ⟨S, hS⟩ := okB_inv hr
  refine (run_okGA h (H := H0 ) hfi hb rs0 rs (by rw [hng]; exact hS) (by rw [hng]; exact hl) w hw (laidE_size hw) hlen (by rw [hng]; exact hbd) (hA ) hnd fun v k hv => ?_).mono fun e' w' he => ?_
  · unfold H0 at hv
    simp [T.get_leaf] at hv
  · obtain ⟨x, ρ, rfl, hx, hb⟩ := he
    simp only [Rel] at hx
    exact ⟨by rw [hx], hb⟩
noncomputable def fk : FI := ⟨Tryd.f13.body, Tryd.f13.ntmps, Tryd.f13.results.toList, 0, none, []⟩
theorem fk_at : tab.fn.get 13 = some fk := by kernel_rfl
theorem fk_body : fk.body.isSome = true := by kernel_rfl
theorem kk : okB (call tab 6000 13 [] ⟨H0 , 7, 0, 0⟩) = true := by kernel_rfl
noncomputable def tabk : Tab := addSum tab 13 fk (.b true)
section
variable (nu : Nat → Value) (one : ∀ i, i < 1000000 → (nu i).oneCell' = true)
theorem sumk : SumOk (cx nu one 0 laidE laidE_stab) 13 (.b true) := fun w hi hs => by
  refine (runP (tabOk nu one 0 laidE laidE_stab) rfl fk_at fk_body kk (args := []) (by simp only [RelL]) w hi).mono fun e w' he => ?_
  exact ⟨.bool true, he.1, by simp only [Rel], he.2⟩
theorem tabkOk : AllOk (cx nu one 0 laidE laidE_stab) tabk := (tabOk nu one 0 laidE laidE_stab).sum (by omega) fk_at fk_body (sumk nu one)
end
noncomputable def tbl (h : LK) : Tab := { tabk with hyp := h }
theorem fiE : ∃ fi, tabk.fn.get 6 = some fi ∧ fi.body.isSome = true := ⟨_, rfl, by kernel_rfl⟩
abbrev CwR (g : Nat) (args : Array Value) (w : World) (v : Value) : Prop := Calls Tryd.prog g args w fun e w' => e = .returned v ∧ Go.AX.Below (Go.AX.Fz.lt w.heap.size) w w'
theorem runC {nu : Nat → Value} {one : ∀ i, i < 1000000 → (nu i).oneCell' = true} {tb : Tab} {ra : AV} {v : Value} (hnr : noR 8 ra = true) (h : AllOk (cx nu one 0 laidE laidE_stab) tb) (hng : tb.ng = 7) {f g : Nat} {fi : FI} (hfi : tb.fn.get g = some fi) (hb : fi.body.isSome = true) {l : List AV} {args : List Value}
    (hr : okA (call tb f g l ⟨H0 , 7, 0, 0⟩) ra = true) (hl : RelL (cx nu one 0 laidE laidE_stab) (fun _ => none) l args) (w : World) (hw : laidE w) (hv : ∀ x, Rel (cx nu one 0 laidE laidE_stab) (fun _ => none) ra x → x = v) : CwR g ⟨args⟩ w v :=
  (runA h hng hfi hb hnr hr hl w hw).mono fun e w' he => by
    obtain ⟨x, rfl, hx, hb2⟩ := he
    exact ⟨by rw [hv x hx], hb2⟩
def bl (b : UInt8) : Bool := tb8 4294967808 (b.toNat : Int)
def trR (l : LB) : LB := (l.reverse.dropWhile bl).reverse
def trL (l : LB) : LB := l.dropWhile bl
def trS (l : LB) : LB := trL (trR l)
theorem bt_last {l : LB} {i : Nat} (h : i + 1 = l.length) : ∃ p, l = p ++ [u8 (bt l i)] ∧ p = l.take i := by
  refine ⟨l.take i, ?_, rfl⟩
  rw [u8_bt, List.getD_eq_getElem?_getD, List.getElem?_eq_getElem (by omega), Option.getD_some]
  have := List.take_append_getElem (l := l) (i := i) (by omega)
  rw [this, h, List.take_length]
theorem bl_u8 {c : Int} (h0 : 0 ≤ c) (h1 : c ≤ 255) : bl (u8 c) = tb8 4294967808 c := by unfold bl; rw [u8_toNat h0 h1]
theorem trR_step {l : LB} {i : Nat} (h : i + 1 = l.length) (hb : tb8 4294967808 (bt l i) = true) : trR (l.take i) = trR l := by
  obtain ⟨p, e, hp⟩ := bt_last h
  rw [← hp]
  conv => rhs; rw [e]
  unfold trR
  rw [List.reverse_append, List.reverse_singleton, List.singleton_append, List.dropWhile_cons, bl_u8 (bt_lo _ _) (bt_hi _ _), hb]; rfl
theorem trR_end {l : LB} {i : Nat} (h : i + 1 = l.length) (hb : ¬ (tb8 4294967808 (bt l i) = true)) : trR l = l := by
  obtain ⟨p, e, hp⟩ := bt_last h
  have hb : tb8 4294967808 (bt l i) = false := by simpa using hb
  have : (l.reverse.dropWhile bl) = l.reverse := by
    conv => lhs; rw [e]
    conv => rhs; rw [e]
    rw [List.reverse_append, List.reverse_singleton, List.singleton_append, List.dropWhile_cons, bl_u8 (bt_lo _ _) (bt_hi _ _), hb]; rfl
  unfold trR; rw [this, List.reverse_reverse]
theorem trR_nil {l : LB} (h : l.length = 0) : trR l = l := by rw [List.eq_nil_of_length_eq_zero h]; rfl
theorem cons_bt {l : LB} (h : 0 < l.length) : l = u8 (bt l 0) :: l.drop 1 := by
  cases l with
  | nil => simp at h
  | cons a r => rw [u8_bt]; rfl
theorem trL_step {l : LB} (h : 0 < l.length) (hb : tb8 4294967808 (bt l 0) = true) : trL (l.drop 1) = trL l := by
  conv => rhs; rw [cons_bt h]
  unfold trL
  rw [List.dropWhile_cons, bl_u8 (bt_lo _ _) (bt_hi _ _), hb]; rfl
theorem trL_end {l : LB} (h : 0 < l.length) (hb : ¬ (tb8 4294967808 (bt l 0) = true)) : trL l = l := by
  have hb : tb8 4294967808 (bt l 0) = false := by simpa using hb
  conv => lhs; rw [cons_bt h]
  unfold trL
  rw [List.dropWhile_cons, bl_u8 (bt_lo _ _) (bt_hi _ _), hb]
  exact (cons_bt h).symm
theorem trL_nil {l : LB} (h : l.length = 0) : trL l = l := by rw [List.eq_nil_of_length_eq_zero h]; rfl
theorem trR_len (l : LB) : (trR l).length ≤ l.length := by
  have := (List.dropWhile_sublist (p := bl) (l := l.reverse)).length_le
  unfold trR; simpa using this
theorem trL_len (l : LB) : (trL l).length ≤ l.length := (List.dropWhile_sublist (p := bl) (l := l)).length_le
variable {nu : Nat → Value} {one : ∀ i, i < 1000000 → (nu i).oneCell' = true} {E' : Cx} {x' : Ex} {e' : LA} {h' : LE}
noncomputable def bodyTr : Code := loopNo (Tryd.f97.body.getD .skip) 0
theorem keyTr : oneKey (loopsOf (Tryd.f97.body.getD .skip)) 1 0 0 = true := by kernel_rfl
def keepTr : List Nat := []
def epTr_0 : LA := [(0, .x 0), (1, .p 8 0)]
def hpTr_0 : LE := [(8, .b ⟨135, .l [.b false, .b false, .b false, .b false, .b false, .b false, .b false, .b false, .b false, .b true, .b false, .b false, .b false, .b false, .b false, .b false, .b false, .b false, .b false, .b false, .b false, .b false, .b false, .b false, .b false, .b false, .b false, .b false, .b false, .b false, .b false, .b false, .b true, .b false, .b false, .b false, .b false, .b false, .b false, .b false, .b false, .b false, .b false, .b false, .b false, .b false, .b false, .b false, .b false, .b false, .b false, .b false, .b false, .b false, .b false, .b false, .b false, .b false, .b false, .b false, .b false, .b false, .b false, .b false, .b false, .b false, .b false, .b false, .b false, .b false, .b false, .b false, .b false, .b false, .b false, .b false, .b false, .b false, .b false, .b false, .b false, .b false, .b false, .b false, .b false, .b false, .b false, .b false, .b false, .b false, .b false, .b false, .b false, .b false, .b false, .b false, .b false, .b false, .b false, .b false, .b false, .b false, .b false, .b false, .b false, .b false, .b false, .b false, .b false, .b false, .b false, .b false, .b false, .b false, .b false, .b false, .b false, .b false, .b false, .b false, .b false, .b false, .b false, .b false, .b false, .b false, .b false, .b false, .b false, .b false, .b false, .b false, .b false, .b false, .b false, .b false, .b false, .b false, .b false, .b false, .b false, .b false, .b false, .b false, .b false, .b false, .b false, .b false, .b false, .b false, .b false, .b false, .b false, .b false, .b false, .b false, .b false, .b false, .b false, .b false, .b false, .b false, .b false, .b false, .b false, .b false, .b false, .b false, .b false, .b false, .b false, .b false, .b false, .b false, .b false, .b false, .b false, .b false, .b false, .b false, .b false, .b false, .b false, .b false, .b false, .b false, .b false, .b false, .b false, .b false, .b false, .b false, .b false, .b false, .b false, .b false, .b false, .b false, .b false, .b false, .b false, .b false, .b false, .b false, .b false, .b false, .b false, .b false, .b false, .b false, .b false, .b false, .b false, .b false, .b false, .b false, .b false, .b false, .b false, .b false, .b false, .b false, .b false, .b false, .b false, .b false, .b false, .b false, .b false, .b false, .b false, .b false, .b false, .b false, .b false, .b false, .b false, .b false, .b false, .b false, .b false, .b false, .b false, .b false, .b false, .b false, .b false, .b false, .b false, .b false, .b false, .b false, .b false, .b false, .b false, .b false], 0, 0, 0, false, false⟩)]
def nuTr_0 (T t : LB) : List Value := [St' t, .int .i64 ((t.length : Int)), .int .i64 ((t.length : Int)), .int .i64 ((t.length : Int) - 1), .int .u8 (bt t (Int.toNat ((t.length : Int) - 1))), St' (List.take (Int.toNat ((t.length : Int) - 1)) t), .int .i64 ((t.length : Int)), .int .i64 ((t.length : Int) - 1), .int .u8 (bt t (Int.toNat ((t.length : Int) - 1)))]
def roTr_0 (T t : LB) : List Value := []
def epTr (st : Nat × LB) : LA := epTr_0
def hpTr (st : Nat × LB) : LE := hpTr_0
def nuTr (T : LB) (st : Nat × LB) : List Value := nuTr_0 T (st.2)
def roTr (T : LB) (st : Nat × LB) : List Value := roTr_0 T (st.2)
theorem onTr (T : LB) (st : Nat × LB) : ∀ j, (nuL (nuTr T st) j).oneCell' = true := by
  intro j
  unfold nuTr
  exact nuL_one (l := nuTr_0 T (st.2)) rfl j
theorem ebTr (st : Nat × LB) : (lfB (epTr st) && lfC keepTr) = true := by
  unfold epTr
  rfl
noncomputable def DTr (T : LB) (st : Nat × LB) (X : Nat → Value) : Cx := cx (nuX (nuTr T st) (rX (roTr T st) X)) (nuX_one (onTr T st)) 0 laidE laidE_stab
def InvTr (T : LB) (st : Nat × LB) : Prop := (trR (st.2) = T) ∧ ((st.2).length ≤ 140737488355328) ∧ ((st.1) < 1)
abbrev CjTr (T : LB) (tag : Nat) (t : LB) : Prop := (trR t = T) ∧ (t.length ≤ 140737488355328) ∧ (tag < 1)
theorem mkITr (T : LB) (tag : Nat) (t : LB) (h : CjTr T tag t) : InvTr T (tag, t) := h
theorem unITr (T : LB) (tag : Nat) (t : LB) (h : InvTr T (tag, t)) : (trR t = T) ∧ (t.length ≤ 140737488355328) ∧ (tag < 1) := h
def muTr (T : LB) (st : Nat × LB) : Nat := (st.2).length
abbrev RHTr (T : LB) (E' : Cx) (ex' : Ex) (epx' : LA) (hpx' : LE) (st : Nat × LB) (X : Nat → Value) : Prop := RoundH E' bodyTr keepTr 22 ex' 7 9 9 9 epTr hpTr epx' hpx' (InvTr T) (muTr T) (DTr T) st X
noncomputable abbrev RNTr_0 (h : LK) (x : Ex) (th : LA) (sg : List (Nat × Nat)) (m : Nat) (ep : LA) (hp : LE) : Bool := okRdH (code (tbl h) 400 [] bodyTr (envOf (headOf epTr_0 keepTr) 22) ⟨lhSet hpTr_0 .leaf, 9, 0, 0⟩) x keepTr 22 9 th sg 9 m ep hp
theorem stTr_0 (T t : LB) {X : Nat → Value} {h : LK} (y : Nat × LB) {th : LA} {sg : List (Nat × Nat)} (ho : ∀ a' r', (a', r') ∈ h → HOk (cx (nuX (nuTr_0 T t) (rX (roTr_0 T t) X)) (nuX_one (nuL_one (l := nuTr_0 T t) rfl)) 0 laidE laidE_stab) a' r') (hy : InvTr T y) (lt : muTr T y < muTr T (0, t)) (ht : ThOk (cx (nuX (nuTr_0 T t) (rX (roTr_0 T t) X)) (nuX_one (nuL_one (l := nuTr_0 T t) rfl)) 0 laidE laidE_stab) (DTr T y X) th) (run : RNTr_0 h .normal th sg 9 (epTr y) (hpTr y) = true) : RHTr T E' x' e' h' (0, t) X :=
  RoundH.next (tb := tbl h) (L := []) (f := 400) y ((tabkOk _ _).hyps ho) (LpOk.nil _) rfl hy lt ht run
theorem lvTr_0 (T t : LB) {X : Nat → Value} {h : LK} {th : LA} {sg : List (Nat × Nat)} (hne : exB x' .normal = false) (ho : ∀ a' r', (a', r') ∈ h → HOk (cx (nuX (nuTr_0 T t) (rX (roTr_0 T t) X)) (nuX_one (nuL_one (l := nuTr_0 T t) rfl)) 0 laidE laidE_stab) a' r') (ht : ThOk (cx (nuX (nuTr_0 T t) (rX (roTr_0 T t) X)) (nuX_one (nuL_one (l := nuTr_0 T t) rfl)) 0 laidE laidE_stab) E' th) (run : RNTr_0 h x' th sg 9 e' h' = true) : RHTr T E' x' e' h' (0, t) X :=
  RoundH.leave (tb := tbl h) (L := []) (f := 400) ((tabkOk _ _).hyps ho) (LpOk.nil _) rfl hne ht run
def hyTr_p0 : LK := [(.len (.x 0), .x 1), (.bin .gtr (.x 1) (.i .i64 (.ofNat 0)), .b false)]
theorem runTr_p0 : RNTr_0 hyTr_p0 (.exit 0) [(0, .x 0)] [] 9 [(0, .x 0)] [(8, .b ⟨135, .l [.b false, .b false, .b false, .b false, .b false, .b false, .b false, .b false, .b false, .b true, .b false, .b false, .b false, .b false, .b false, .b false, .b false, .b false, .b false, .b false, .b false, .b false, .b false, .b false, .b false, .b false, .b false, .b false, .b false, .b false, .b false, .b false, .b true, .b false, .b false, .b false, .b false, .b false, .b false, .b false, .b false, .b false, .b false, .b false, .b false, .b false, .b false, .b false, .b false, .b false, .b false, .b false, .b false, .b false, .b false, .b false, .b false, .b false, .b false, .b false, .b false, .b false, .b false, .b false, .b false, .b false, .b false, .b false, .b false, .b false, .b false, .b false, .b false, .b false, .b false, .b false, .b false, .b false, .b false, .b false, .b false, .b false, .b false, .b false, .b false, .b false, .b false, .b false, .b false, .b false, .b false, .b false, .b false, .b false, .b false, .b false, .b false, .b false, .b false, .b false, .b false, .b false, .b false, .b false, .b false, .b false, .b false, .b false, .b false, .b false, .b false, .b false, .b false, .b false, .b false, .b false, .b false, .b false, .b false, .b false, .b false, .b false, .b false, .b false, .b false, .b false, .b false, .b false, .b false, .b false, .b false, .b false, .b false, .b false, .b false, .b false, .b false, .b false, .b false, .b false, .b false, .b false, .b false, .b false, .b false, .b false, .b false, .b false, .b false, .b false, .b false, .b false, .b false, .b false, .b false, .b false, .b false, .b false, .b false, .b false, .b false, .b false, .b false, .b false, .b false, .b false, .b false, .b false, .b false, .b false, .b false, .b false, .b false, .b false, .b false, .b false, .b false, .b false, .b false, .b false, .b false, .b false, .b false, .b false, .b false, .b false, .b false, .b false, .b false, .b false, .b false, .b false, .b false, .b false, .b false, .b false, .b false, .b false, .b false, .b false, .b false, .b false, .b false, .b false, .b false, .b false, .b false, .b false, .b false, .b false, .b false, .b false, .b false, .b false, .b false, .b false, .b false, .b false, .b false, .b false, .b false, .b false, .b false, .b false, .b false, .b false, .b false, .b false, .b false, .b false, .b false, .b false, .b false, .b false, .b false, .b false, .b false, .b false, .b false, .b false, .b false, .b false, .b false, .b false, .b false, .b false, .b false, .b false, .b false, .b false, .b false, .b false, .b false, .b false, .b false, .b false], 0, 0, 0, false, false⟩)] = true := by kernel_rfl
def hyTr_p1 : LK := [(.len (.x 0), .x 2), (.bin .gtr (.x 2) (.i .i64 (.ofNat 0)), .b true), (.bin .sub (.x 2) (.i .i64 (.ofNat 1)), .x 3), (.idx (.x 0) (.x 3), .x 4), (.tab [.b false, .b false, .b false, .b false, .b false, .b false, .b false, .b false, .b false, .b true, .b false, .b false, .b false, .b false, .b false, .b false, .b false, .b false, .b false, .b false, .b false, .b false, .b false, .b false, .b false, .b false, .b false, .b false, .b false, .b false, .b false, .b false, .b true, .b false, .b false, .b false, .b false, .b false, .b false, .b false, .b false, .b false, .b false, .b false, .b false, .b false, .b false, .b false, .b false, .b false, .b false, .b false, .b false, .b false, .b false, .b false, .b false, .b false, .b false, .b false, .b false, .b false, .b false, .b false, .b false, .b false, .b false, .b false, .b false, .b false, .b false, .b false, .b false, .b false, .b false, .b false, .b false, .b false, .b false, .b false, .b false, .b false, .b false, .b false, .b false, .b false, .b false, .b false, .b false, .b false, .b false, .b false, .b false, .b false, .b false, .b false, .b false, .b false, .b false, .b false, .b false, .b false, .b false, .b false, .b false, .b false, .b false, .b false, .b false, .b false, .b false, .b false, .b false, .b false, .b false, .b false, .b false, .b false, .b false, .b false, .b false, .b false, .b false, .b false, .b false, .b false, .b false, .b false, .b false, .b false, .b false, .b false, .b false, .b false, .b false, .b false, .b false, .b false, .b false, .b false, .b false, .b false, .b false, .b false, .b false, .b false, .b false, .b false, .b false, .b false, .b false, .b false, .b false, .b false, .b false, .b false, .b false, .b false, .b false, .b false, .b false, .b false, .b false, .b false, .b false, .b false, .b false, .b false, .b false, .b false, .b false, .b false, .b false, .b false, .b false, .b false, .b false, .b false, .b false, .b false, .b false, .b false, .b false, .b false, .b false, .b false, .b false, .b false, .b false, .b false, .b false, .b false, .b false, .b false, .b false, .b false, .b false, .b false, .b false, .b false, .b false, .b false, .b false, .b false, .b false, .b false, .b false, .b false, .b false, .b false, .b false, .b false, .b false, .b false, .b false, .b false, .b false, .b false, .b false, .b false, .b false, .b false, .b false, .b false, .b false, .b false, .b false, .b false, .b false, .b false, .b false, .b false, .b false, .b false, .b false, .b false, .b false, .b false, .b false, .b false, .b false, .b false, .b false, .b false, .b false, .b false, .b false, .b false, .b false, .b false, .b false, .b false, .b false, .b false, .b false, .b false] (.x 4), .b true), (.sub (.x 0) none (some (.x 3)), .x 5)]
theorem runTr_p1 : RNTr_0 hyTr_p1 .normal [(0, .x 5)] [] 9 epTr_0 hpTr_0 = true := by kernel_rfl
theorem nxTr_p1 (T : LB) (t : LB) (X : Nat → Value) (hI : InvTr T (0, t)) (h0 : 0 < (t.length : Int)) (h1 : tb8 4294967808 (bt t (Int.toNat ((t.length : Int) - 1))) = true) : RHTr T E' x' e' h' (0, t) X := by
  obtain ⟨i0, i1, it⟩ := unITr T 0 t hI
  have := bt_lo t (Int.toNat ((t.length : Int) - 1)); have := bt_hi t (Int.toNat ((t.length : Int) - 1))
  have := lenTake (l := t) (Q := (t.length : Int) - 1) (by omega) (by omega)
  refine stTr_0 T t (h := hyTr_p1) (0, (List.take (Int.toNat ((t.length : Int) - 1)) t)) ?_ (mkITr T 0 (List.take (Int.toNat ((t.length : Int) - 1)) t) ⟨by rw [← i0]; exact trR_step (i := (Int.toNat ((t.length : Int) - 1))) (by omega) (by assumption), by rw [List.length_take]; omega⟩) (by show (List.take (Int.toNat ((t.length : Int) - 1)) t).length < t.length; rw [List.length_take]; omega) (thXv (v := St' (List.take (Int.toNat ((t.length : Int) - 1)) t)) rfl rfl (thNil)) runTr_p1
  unfold hyTr_p1
  exact hc (lnV rfl rfl (by omega)) <|
   hc (gtcT rfl (by omega)) <|
   hc (sbC rfl rfl (by omega)) <|
   hc (ixV rfl rfl rfl (by omega)) <|
   hc (kTabB 4294967808 (by kernel_rfl) (isX rfl) (by omega) (by omega) ((by assumption))) <|
   hc (tkV rfl rfl rfl (by omega)) <|
   hnil
def hyTr_p2 : LK := [(.len (.x 0), .x 6), (.bin .gtr (.x 6) (.i .i64 (.ofNat 0)), .b true), (.bin .sub (.x 6) (.i .i64 (.ofNat 1)), .x 7), (.idx (.x 0) (.x 7), .x 8), (.tab [.b false, .b false, .b false, .b false, .b false, .b false, .b false, .b false, .b false, .b true, .b false, .b false, .b false, .b false, .b false, .b false, .b false, .b false, .b false, .b false, .b false, .b false, .b false, .b false, .b false, .b false, .b false, .b false, .b false, .b false, .b false, .b false, .b true, .b false, .b false, .b false, .b false, .b false, .b false, .b false, .b false, .b false, .b false, .b false, .b false, .b false, .b false, .b false, .b false, .b false, .b false, .b false, .b false, .b false, .b false, .b false, .b false, .b false, .b false, .b false, .b false, .b false, .b false, .b false, .b false, .b false, .b false, .b false, .b false, .b false, .b false, .b false, .b false, .b false, .b false, .b false, .b false, .b false, .b false, .b false, .b false, .b false, .b false, .b false, .b false, .b false, .b false, .b false, .b false, .b false, .b false, .b false, .b false, .b false, .b false, .b false, .b false, .b false, .b false, .b false, .b false, .b false, .b false, .b false, .b false, .b false, .b false, .b false, .b false, .b false, .b false, .b false, .b false, .b false, .b false, .b false, .b false, .b false, .b false, .b false, .b false, .b false, .b false, .b false, .b false, .b false, .b false, .b false, .b false, .b false, .b false, .b false, .b false, .b false, .b false, .b false, .b false, .b false, .b false, .b false, .b false, .b false, .b false, .b false, .b false, .b false, .b false, .b false, .b false, .b false, .b false, .b false, .b false, .b false, .b false, .b false, .b false, .b false, .b false, .b false, .b false, .b false, .b false, .b false, .b false, .b false, .b false, .b false, .b false, .b false, .b false, .b false, .b false, .b false, .b false, .b false, .b false, .b false, .b false, .b false, .b false, .b false, .b false, .b false, .b false, .b false, .b false, .b false, .b false, .b false, .b false, .b false, .b false, .b false, .b false, .b false, .b false, .b false, .b false, .b false, .b false, .b false, .b false, .b false, .b false, .b false, .b false, .b false, .b false, .b false, .b false, .b false, .b false, .b false, .b false, .b false, .b false, .b false, .b false, .b false, .b false, .b false, .b false, .b false, .b false, .b false, .b false, .b false, .b false, .b false, .b false, .b false, .b false, .b false, .b false, .b false, .b false, .b false, .b false, .b false, .b false, .b false, .b false, .b false, .b false, .b false, .b false, .b false, .b false, .b false, .b false, .b false, .b false, .b false, .b false, .b false] (.x 8), .b false)]
theorem runTr_p2 : RNTr_0 hyTr_p2 (.exit 0) [(0, .x 0)] [] 9 [(0, .x 0)] [(8, .b ⟨135, .l [.b false, .b false, .b false, .b false, .b false, .b false, .b false, .b false, .b false, .b true, .b false, .b false, .b false, .b false, .b false, .b false, .b false, .b false, .b false, .b false, .b false, .b false, .b false, .b false, .b false, .b false, .b false, .b false, .b false, .b false, .b false, .b false, .b true, .b false, .b false, .b false, .b false, .b false, .b false, .b false, .b false, .b false, .b false, .b false, .b false, .b false, .b false, .b false, .b false, .b false, .b false, .b false, .b false, .b false, .b false, .b false, .b false, .b false, .b false, .b false, .b false, .b false, .b false, .b false, .b false, .b false, .b false, .b false, .b false, .b false, .b false, .b false, .b false, .b false, .b false, .b false, .b false, .b false, .b false, .b false, .b false, .b false, .b false, .b false, .b false, .b false, .b false, .b false, .b false, .b false, .b false, .b false, .b false, .b false, .b false, .b false, .b false, .b false, .b false, .b false, .b false, .b false, .b false, .b false, .b false, .b false, .b false, .b false, .b false, .b false, .b false, .b false, .b false, .b false, .b false, .b false, .b false, .b false, .b false, .b false, .b false, .b false, .b false, .b false, .b false, .b false, .b false, .b false, .b false, .b false, .b false, .b false, .b false, .b false, .b false, .b false, .b false, .b false, .b false, .b false, .b false, .b false, .b false, .b false, .b false, .b false, .b false, .b false, .b false, .b false, .b false, .b false, .b false, .b false, .b false, .b false, .b false, .b false, .b false, .b false, .b false, .b false, .b false, .b false, .b false, .b false, .b false, .b false, .b false, .b false, .b false, .b false, .b false, .b false, .b false, .b false, .b false, .b false, .b false, .b false, .b false, .b false, .b false, .b false, .b false, .b false, .b false, .b false, .b false, .b false, .b false, .b false, .b false, .b false, .b false, .b false, .b false, .b false, .b false, .b false, .b false, .b false, .b false, .b false, .b false, .b false, .b false, .b false, .b false, .b false, .b false, .b false, .b false, .b false, .b false, .b false, .b false, .b false, .b false, .b false, .b false, .b false, .b false, .b false, .b false, .b false, .b false, .b false, .b false, .b false, .b false, .b false, .b false, .b false, .b false, .b false, .b false, .b false, .b false, .b false, .b false, .b false, .b false, .b false, .b false, .b false, .b false, .b false, .b false, .b false, .b false, .b false, .b false, .b false, .b false, .b false], 0, 0, 0, false, false⟩)] = true := by kernel_rfl
def nuETr_0 (T : LB) : List Value := [St' T]
def roETr_0 (T : LB) : List Value := []
noncomputable def ETr_0 (T : LB) : Cx := cx (nuX (nuETr_0 T) (rX (roETr_0 T) (fun _ => .bool true))) (nuX_one (nuL_one (l := nuETr_0 T) rfl)) 0 laidE laidE_stab
theorem roundsTr_0 (T : LB) (st : Nat × LB) (X : Nat → Value) (hI : InvTr T st) : RHTr T (ETr_0 T) (.exit 0) [(0, .x 0)] [(8, .b ⟨135, .l [.b false, .b false, .b false, .b false, .b false, .b false, .b false, .b false, .b false, .b true, .b false, .b false, .b false, .b false, .b false, .b false, .b false, .b false, .b false, .b false, .b false, .b false, .b false, .b false, .b false, .b false, .b false, .b false, .b false, .b false, .b false, .b false, .b true, .b false, .b false, .b false, .b false, .b false, .b false, .b false, .b false, .b false, .b false, .b false, .b false, .b false, .b false, .b false, .b false, .b false, .b false, .b false, .b false, .b false, .b false, .b false, .b false, .b false, .b false, .b false, .b false, .b false, .b false, .b false, .b false, .b false, .b false, .b false, .b false, .b false, .b false, .b false, .b false, .b false, .b false, .b false, .b false, .b false, .b false, .b false, .b false, .b false, .b false, .b false, .b false, .b false, .b false, .b false, .b false, .b false, .b false, .b false, .b false, .b false, .b false, .b false, .b false, .b false, .b false, .b false, .b false, .b false, .b false, .b false, .b false, .b false, .b false, .b false, .b false, .b false, .b false, .b false, .b false, .b false, .b false, .b false, .b false, .b false, .b false, .b false, .b false, .b false, .b false, .b false, .b false, .b false, .b false, .b false, .b false, .b false, .b false, .b false, .b false, .b false, .b false, .b false, .b false, .b false, .b false, .b false, .b false, .b false, .b false, .b false, .b false, .b false, .b false, .b false, .b false, .b false, .b false, .b false, .b false, .b false, .b false, .b false, .b false, .b false, .b false, .b false, .b false, .b false, .b false, .b false, .b false, .b false, .b false, .b false, .b false, .b false, .b false, .b false, .b false, .b false, .b false, .b false, .b false, .b false, .b false, .b false, .b false, .b false, .b false, .b false, .b false, .b false, .b false, .b false, .b false, .b false, .b false, .b false, .b false, .b false, .b false, .b false, .b false, .b false, .b false, .b false, .b false, .b false, .b false, .b false, .b false, .b false, .b false, .b false, .b false, .b false, .b false, .b false, .b false, .b false, .b false, .b false, .b false, .b false, .b false, .b false, .b false, .b false, .b false, .b false, .b false, .b false, .b false, .b false, .b false, .b false, .b false, .b false, .b false, .b false, .b false, .b false, .b false, .b false, .b false, .b false, .b false, .b false, .b false, .b false, .b false, .b false, .b false, .b false, .b false, .b false, .b false, .b false, .b false, .b false, .b false, .b false], 0, 0, 0, false, false⟩)] st X := by
  obtain ⟨tag, t⟩ := st
  have hI0 := hI
  obtain ⟨i0, i1, it⟩ := unITr T tag t hI
  obtain rfl : tag = 0 := by omega
  skip
  by_cases h0 : 0 < (t.length : Int)
  · by_cases h1 : tb8 4294967808 (bt t (Int.toNat ((t.length : Int) - 1))) = true
    · exact nxTr_p1 T t X hI0 h0 h1
    · skip
      have := bt_lo t (Int.toNat ((t.length : Int) - 1)); have := bt_hi t (Int.toNat ((t.length : Int) - 1))
      refine lvTr_0 T t (h := hyTr_p2) rfl ?_ (thXe (v := St' t) (u := St' T) rfl rfl (congrArg (fun l => St' l) (by rw [← i0]; exact (trR_end (i := (Int.toNat ((t.length : Int) - 1))) (by omega) (by assumption)).symm)) (thNil)) runTr_p2
      unfold hyTr_p2
      exact hc (lnV rfl rfl (by omega)) <|
       hc (gtcT rfl (by omega)) <|
       hc (sbC rfl rfl (by omega)) <|
       hc (ixV rfl rfl rfl (by omega)) <|
       hc (kTabB 4294967808 (by kernel_rfl) (isX rfl) (by omega) (by omega) (tbF (by assumption))) <|
       hnil
  · skip
    refine lvTr_0 T t (h := hyTr_p0) rfl ?_ (thXe (v := St' t) (u := St' T) rfl rfl (congrArg (fun l => St' l) (by rw [← i0]; exact (trR_nil (by omega)).symm)) (thNil)) runTr_p0
    unfold hyTr_p0
    exact hc (lnV rfl rfl (by omega)) <|
     hc (gtcF rfl (by omega)) <|
     hnil
theorem lfOkTr_0 {l : LF} {h : LH} (T : LB) (st : Nat × LB) (hI : InvTr T st) (hl : l.hp = some h) (hs : lfSame l h 22 keepTr (.exit 0) 7 9 9 = true) {th0 : LA} {sg0 : List (Nat × Nat)} (hth0 : ∀ X, ThOk (cx nu one 0 laidE laidE_stab) (DTr T st X) th0) (h0 : startOk l h 22 9 9 th0 sg0 (epTr st) (hpTr st) = true) {thx : LA} (hthx : ThOk (ETr_0 T) (cx nu one 0 laidE laidE_stab) thx) (hx : exitOk l h 22 9 9 thx [(0, .x 0)] [(8, .b ⟨135, .l [.b false, .b false, .b false, .b false, .b false, .b false, .b false, .b false, .b false, .b true, .b false, .b false, .b false, .b false, .b false, .b false, .b false, .b false, .b false, .b false, .b false, .b false, .b false, .b false, .b false, .b false, .b false, .b false, .b false, .b false, .b false, .b false, .b true, .b false, .b false, .b false, .b false, .b false, .b false, .b false, .b false, .b false, .b false, .b false, .b false, .b false, .b false, .b false, .b false, .b false, .b false, .b false, .b false, .b false, .b false, .b false, .b false, .b false, .b false, .b false, .b false, .b false, .b false, .b false, .b false, .b false, .b false, .b false, .b false, .b false, .b false, .b false, .b false, .b false, .b false, .b false, .b false, .b false, .b false, .b false, .b false, .b false, .b false, .b false, .b false, .b false, .b false, .b false, .b false, .b false, .b false, .b false, .b false, .b false, .b false, .b false, .b false, .b false, .b false, .b false, .b false, .b false, .b false, .b false, .b false, .b false, .b false, .b false, .b false, .b false, .b false, .b false, .b false, .b false, .b false, .b false, .b false, .b false, .b false, .b false, .b false, .b false, .b false, .b false, .b false, .b false, .b false, .b false, .b false, .b false, .b false, .b false, .b false, .b false, .b false, .b false, .b false, .b false, .b false, .b false, .b false, .b false, .b false, .b false, .b false, .b false, .b false, .b false, .b false, .b false, .b false, .b false, .b false, .b false, .b false, .b false, .b false, .b false, .b false, .b false, .b false, .b false, .b false, .b false, .b false, .b false, .b false, .b false, .b false, .b false, .b false, .b false, .b false, .b false, .b false, .b false, .b false, .b false, .b false, .b false, .b false, .b false, .b false, .b false, .b false, .b false, .b false, .b false, .b false, .b false, .b false, .b false, .b false, .b false, .b false, .b false, .b false, .b false, .b false, .b false, .b false, .b false, .b false, .b false, .b false, .b false, .b false, .b false, .b false, .b false, .b false, .b false, .b false, .b false, .b false, .b false, .b false, .b false, .b false, .b false, .b false, .b false, .b false, .b false, .b false, .b false, .b false, .b false, .b false, .b false, .b false, .b false, .b false, .b false, .b false, .b false, .b false, .b false, .b false, .b false, .b false, .b false, .b false, .b false, .b false, .b false, .b false, .b false, .b false, .b false, .b false, .b false, .b false, .b false, .b false, .b false], 0, 0, 0, false, false⟩)] = true) : LfOk (cx nu one 0 laidE laidE_stab) bodyTr l :=
  lfOkX (E := ETr_0 T) (InvTr T) (muTr T) (DTr T) (fun _ _ => rfl) (fun _ _ => rfl) (fun _ _ => rfl) (fun st X t ht => nuX_keep.trans (rX_keep ((by decide : ∀ t, t ∈ keepTr → t < 1000000) t ht))) rfl rfl rfl hl hs ebTr rfl rfl st hI hth0 h0 hthx hx (roundsTr_0 T)
noncomputable def bodyTl : Code := loopNo (Tryd.f96.body.getD .skip) 0
theorem keyTl : oneKey (loopsOf (Tryd.f96.body.getD .skip)) 1 0 0 = true := by kernel_rfl
def keepTl : List Nat := []
def epTl_0 : LA := [(0, .x 0), (1, .p 8 0)]
def hpTl_0 : LE := [(8, .b ⟨135, .l [.b false, .b false, .b false, .b false, .b false, .b false, .b false, .b false, .b false, .b true, .b false, .b false, .b false, .b false, .b false, .b false, .b false, .b false, .b false, .b false, .b false, .b false, .b false, .b false, .b false, .b false, .b false, .b false, .b false, .b false, .b false, .b false, .b true, .b false, .b false, .b false, .b false, .b false, .b false, .b false, .b false, .b false, .b false, .b false, .b false, .b false, .b false, .b false, .b false, .b false, .b false, .b false, .b false, .b false, .b false, .b false, .b false, .b false, .b false, .b false, .b false, .b false, .b false, .b false, .b false, .b false, .b false, .b false, .b false, .b false, .b false, .b false, .b false, .b false, .b false, .b false, .b false, .b false, .b false, .b false, .b false, .b false, .b false, .b false, .b false, .b false, .b false, .b false, .b false, .b false, .b false, .b false, .b false, .b false, .b false, .b false, .b false, .b false, .b false, .b false, .b false, .b false, .b false, .b false, .b false, .b false, .b false, .b false, .b false, .b false, .b false, .b false, .b false, .b false, .b false, .b false, .b false, .b false, .b false, .b false, .b false, .b false, .b false, .b false, .b false, .b false, .b false, .b false, .b false, .b false, .b false, .b false, .b false, .b false, .b false, .b false, .b false, .b false, .b false, .b false, .b false, .b false, .b false, .b false, .b false, .b false, .b false, .b false, .b false, .b false, .b false, .b false, .b false, .b false, .b false, .b false, .b false, .b false, .b false, .b false, .b false, .b false, .b false, .b false, .b false, .b false, .b false, .b false, .b false, .b false, .b false, .b false, .b false, .b false, .b false, .b false, .b false, .b false, .b false, .b false, .b false, .b false, .b false, .b false, .b false, .b false, .b false, .b false, .b false, .b false, .b false, .b false, .b false, .b false, .b false, .b false, .b false, .b false, .b false, .b false, .b false, .b false, .b false, .b false, .b false, .b false, .b false, .b false, .b false, .b false, .b false, .b false, .b false, .b false, .b false, .b false, .b false, .b false, .b false, .b false, .b false, .b false, .b false, .b false, .b false, .b false, .b false, .b false, .b false, .b false, .b false, .b false, .b false, .b false, .b false, .b false, .b false, .b false, .b false, .b false, .b false, .b false, .b false, .b false, .b false, .b false, .b false, .b false, .b false, .b false, .b false, .b false, .b false, .b false, .b false, .b false], 0, 0, 0, false, false⟩)]
def nuTl_0 (T t : LB) : List Value := [St' t, .int .i64 ((t.length : Int)), .int .i64 ((t.length : Int)), .int .u8 (bt t 0), St' (List.drop (Int.toNat (1)) t), .int .i64 ((t.length : Int)), .int .u8 (bt t 0)]
def roTl_0 (T t : LB) : List Value := []
def epTl (st : Nat × LB) : LA := epTl_0
def hpTl (st : Nat × LB) : LE := hpTl_0
def nuTl (T : LB) (st : Nat × LB) : List Value := nuTl_0 T (st.2)
def roTl (T : LB) (st : Nat × LB) : List Value := roTl_0 T (st.2)
theorem onTl (T : LB) (st : Nat × LB) : ∀ j, (nuL (nuTl T st) j).oneCell' = true := by
  intro j
  unfold nuTl
  exact nuL_one (l := nuTl_0 T (st.2)) rfl j
theorem ebTl (st : Nat × LB) : (lfB (epTl st) && lfC keepTl) = true := by
  unfold epTl
  rfl
noncomputable def DTl (T : LB) (st : Nat × LB) (X : Nat → Value) : Cx := cx (nuX (nuTl T st) (rX (roTl T st) X)) (nuX_one (onTl T st)) 0 laidE laidE_stab
def InvTl (T : LB) (st : Nat × LB) : Prop := (trL (st.2) = T) ∧ ((st.2).length ≤ 140737488355328) ∧ ((st.1) < 1)
abbrev CjTl (T : LB) (tag : Nat) (t : LB) : Prop := (trL t = T) ∧ (t.length ≤ 140737488355328) ∧ (tag < 1)
theorem mkITl (T : LB) (tag : Nat) (t : LB) (h : CjTl T tag t) : InvTl T (tag, t) := h
theorem unITl (T : LB) (tag : Nat) (t : LB) (h : InvTl T (tag, t)) : (trL t = T) ∧ (t.length ≤ 140737488355328) ∧ (tag < 1) := h
def muTl (T : LB) (st : Nat × LB) : Nat := (st.2).length
abbrev RHTl (T : LB) (E' : Cx) (ex' : Ex) (epx' : LA) (hpx' : LE) (st : Nat × LB) (X : Nat → Value) : Prop := RoundH E' bodyTl keepTl 16 ex' 7 9 9 9 epTl hpTl epx' hpx' (InvTl T) (muTl T) (DTl T) st X
noncomputable abbrev RNTl_0 (h : LK) (x : Ex) (th : LA) (sg : List (Nat × Nat)) (m : Nat) (ep : LA) (hp : LE) : Bool := okRdH (code (tbl h) 400 [] bodyTl (envOf (headOf epTl_0 keepTl) 16) ⟨lhSet hpTl_0 .leaf, 9, 0, 0⟩) x keepTl 16 9 th sg 9 m ep hp
theorem stTl_0 (T t : LB) {X : Nat → Value} {h : LK} (y : Nat × LB) {th : LA} {sg : List (Nat × Nat)} (ho : ∀ a' r', (a', r') ∈ h → HOk (cx (nuX (nuTl_0 T t) (rX (roTl_0 T t) X)) (nuX_one (nuL_one (l := nuTl_0 T t) rfl)) 0 laidE laidE_stab) a' r') (hy : InvTl T y) (lt : muTl T y < muTl T (0, t)) (ht : ThOk (cx (nuX (nuTl_0 T t) (rX (roTl_0 T t) X)) (nuX_one (nuL_one (l := nuTl_0 T t) rfl)) 0 laidE laidE_stab) (DTl T y X) th) (run : RNTl_0 h .normal th sg 9 (epTl y) (hpTl y) = true) : RHTl T E' x' e' h' (0, t) X :=
  RoundH.next (tb := tbl h) (L := []) (f := 400) y ((tabkOk _ _).hyps ho) (LpOk.nil _) rfl hy lt ht run
theorem lvTl_0 (T t : LB) {X : Nat → Value} {h : LK} {th : LA} {sg : List (Nat × Nat)} (hne : exB x' .normal = false) (ho : ∀ a' r', (a', r') ∈ h → HOk (cx (nuX (nuTl_0 T t) (rX (roTl_0 T t) X)) (nuX_one (nuL_one (l := nuTl_0 T t) rfl)) 0 laidE laidE_stab) a' r') (ht : ThOk (cx (nuX (nuTl_0 T t) (rX (roTl_0 T t) X)) (nuX_one (nuL_one (l := nuTl_0 T t) rfl)) 0 laidE laidE_stab) E' th) (run : RNTl_0 h x' th sg 9 e' h' = true) : RHTl T E' x' e' h' (0, t) X :=
  RoundH.leave (tb := tbl h) (L := []) (f := 400) ((tabkOk _ _).hyps ho) (LpOk.nil _) rfl hne ht run
def hyTl_p0 : LK := [(.len (.x 0), .x 1), (.bin .gtr (.x 1) (.i .i64 (.ofNat 0)), .b false)]
theorem runTl_p0 : RNTl_0 hyTl_p0 (.exit 0) [(0, .x 0)] [] 9 [(0, .x 0)] [(8, .b ⟨135, .l [.b false, .b false, .b false, .b false, .b false, .b false, .b false, .b false, .b false, .b true, .b false, .b false, .b false, .b false, .b false, .b false, .b false, .b false, .b false, .b false, .b false, .b false, .b false, .b false, .b false, .b false, .b false, .b false, .b false, .b false, .b false, .b false, .b true, .b false, .b false, .b false, .b false, .b false, .b false, .b false, .b false, .b false, .b false, .b false, .b false, .b false, .b false, .b false, .b false, .b false, .b false, .b false, .b false, .b false, .b false, .b false, .b false, .b false, .b false, .b false, .b false, .b false, .b false, .b false, .b false, .b false, .b false, .b false, .b false, .b false, .b false, .b false, .b false, .b false, .b false, .b false, .b false, .b false, .b false, .b false, .b false, .b false, .b false, .b false, .b false, .b false, .b false, .b false, .b false, .b false, .b false, .b false, .b false, .b false, .b false, .b false, .b false, .b false, .b false, .b false, .b false, .b false, .b false, .b false, .b false, .b false, .b false, .b false, .b false, .b false, .b false, .b false, .b false, .b false, .b false, .b false, .b false, .b false, .b false, .b false, .b false, .b false, .b false, .b false, .b false, .b false, .b false, .b false, .b false, .b false, .b false, .b false, .b false, .b false, .b false, .b false, .b false, .b false, .b false, .b false, .b false, .b false, .b false, .b false, .b false, .b false, .b false, .b false, .b false, .b false, .b false, .b false, .b false, .b false, .b false, .b false, .b false, .b false, .b false, .b false, .b false, .b false, .b false, .b false, .b false, .b false, .b false, .b false, .b false, .b false, .b false, .b false, .b false, .b false, .b false, .b false, .b false, .b false, .b false, .b false, .b false, .b false, .b false, .b false, .b false, .b false, .b false, .b false, .b false, .b false, .b false, .b false, .b false, .b false, .b false, .b false, .b false, .b false, .b false, .b false, .b false, .b false, .b false, .b false, .b false, .b false, .b false, .b false, .b false, .b false, .b false, .b false, .b false, .b false, .b false, .b false, .b false, .b false, .b false, .b false, .b false, .b false, .b false, .b false, .b false, .b false, .b false, .b false, .b false, .b false, .b false, .b false, .b false, .b false, .b false, .b false, .b false, .b false, .b false, .b false, .b false, .b false, .b false, .b false, .b false, .b false, .b false, .b false, .b false, .b false, .b false, .b false, .b false, .b false, .b false, .b false], 0, 0, 0, false, false⟩)] = true := by kernel_rfl
def hyTl_p1 : LK := [(.len (.x 0), .x 2), (.bin .gtr (.x 2) (.i .i64 (.ofNat 0)), .b true), (.idx (.x 0) (.i .i64 (.ofNat 0)), .x 3), (.tab [.b false, .b false, .b false, .b false, .b false, .b false, .b false, .b false, .b false, .b true, .b false, .b false, .b false, .b false, .b false, .b false, .b false, .b false, .b false, .b false, .b false, .b false, .b false, .b false, .b false, .b false, .b false, .b false, .b false, .b false, .b false, .b false, .b true, .b false, .b false, .b false, .b false, .b false, .b false, .b false, .b false, .b false, .b false, .b false, .b false, .b false, .b false, .b false, .b false, .b false, .b false, .b false, .b false, .b false, .b false, .b false, .b false, .b false, .b false, .b false, .b false, .b false, .b false, .b false, .b false, .b false, .b false, .b false, .b false, .b false, .b false, .b false, .b false, .b false, .b false, .b false, .b false, .b false, .b false, .b false, .b false, .b false, .b false, .b false, .b false, .b false, .b false, .b false, .b false, .b false, .b false, .b false, .b false, .b false, .b false, .b false, .b false, .b false, .b false, .b false, .b false, .b false, .b false, .b false, .b false, .b false, .b false, .b false, .b false, .b false, .b false, .b false, .b false, .b false, .b false, .b false, .b false, .b false, .b false, .b false, .b false, .b false, .b false, .b false, .b false, .b false, .b false, .b false, .b false, .b false, .b false, .b false, .b false, .b false, .b false, .b false, .b false, .b false, .b false, .b false, .b false, .b false, .b false, .b false, .b false, .b false, .b false, .b false, .b false, .b false, .b false, .b false, .b false, .b false, .b false, .b false, .b false, .b false, .b false, .b false, .b false, .b false, .b false, .b false, .b false, .b false, .b false, .b false, .b false, .b false, .b false, .b false, .b false, .b false, .b false, .b false, .b false, .b false, .b false, .b false, .b false, .b false, .b false, .b false, .b false, .b false, .b false, .b false, .b false, .b false, .b false, .b false, .b false, .b false, .b false, .b false, .b false, .b false, .b false, .b false, .b false, .b false, .b false, .b false, .b false, .b false, .b false, .b false, .b false, .b false, .b false, .b false, .b false, .b false, .b false, .b false, .b false, .b false, .b false, .b false, .b false, .b false, .b false, .b false, .b false, .b false, .b false, .b false, .b false, .b false, .b false, .b false, .b false, .b false, .b false, .b false, .b false, .b false, .b false, .b false, .b false, .b false, .b false, .b false, .b false, .b false, .b false, .b false, .b false, .b false, .b false, .b false, .b false, .b false, .b false, .b false] (.x 3), .b true), (.sub (.x 0) (some (.i .i64 (.ofNat 1))) none, .x 4)]
theorem runTl_p1 : RNTl_0 hyTl_p1 .normal [(0, .x 4)] [] 9 epTl_0 hpTl_0 = true := by kernel_rfl
theorem nxTl_p1 (T : LB) (t : LB) (X : Nat → Value) (hI : InvTl T (0, t)) (h0 : 0 < (t.length : Int)) (h1 : tb8 4294967808 (bt t 0) = true) : RHTl T E' x' e' h' (0, t) X := by
  obtain ⟨i0, i1, it⟩ := unITl T 0 t hI
  have := bt_lo t 0; have := bt_hi t 0
  have := lenDrop (l := t) (P := 1) (by omega) (by omega)
  refine stTl_0 T t (h := hyTl_p1) (0, (List.drop (Int.toNat (1)) t)) ?_ (mkITl T 0 (List.drop (Int.toNat (1)) t) ⟨by rw [← i0]; exact trL_step (by omega) (by assumption), by rw [List.length_drop]; omega⟩) (by show (List.drop (Int.toNat (1)) t).length < t.length; rw [List.length_drop]; omega) (thXv (v := St' (List.drop (Int.toNat (1)) t)) rfl rfl (thNil)) runTl_p1
  unfold hyTl_p1
  exact hc (lnV rfl rfl (by omega)) <|
   hc (gtcT rfl (by omega)) <|
   hc (ixC rfl rfl (by omega)) <|
   hc (kTabB 4294967808 (by kernel_rfl) (isX rfl) (by omega) (by omega) ((by assumption))) <|
   hc (drC rfl rfl (by omega)) <|
   hnil
def hyTl_p2 : LK := [(.len (.x 0), .x 5), (.bin .gtr (.x 5) (.i .i64 (.ofNat 0)), .b true), (.idx (.x 0) (.i .i64 (.ofNat 0)), .x 6), (.tab [.b false, .b false, .b false, .b false, .b false, .b false, .b false, .b false, .b false, .b true, .b false, .b false, .b false, .b false, .b false, .b false, .b false, .b false, .b false, .b false, .b false, .b false, .b false, .b false, .b false, .b false, .b false, .b false, .b false, .b false, .b false, .b false, .b true, .b false, .b false, .b false, .b false, .b false, .b false, .b false, .b false, .b false, .b false, .b false, .b false, .b false, .b false, .b false, .b false, .b false, .b false, .b false, .b false, .b false, .b false, .b false, .b false, .b false, .b false, .b false, .b false, .b false, .b false, .b false, .b false, .b false, .b false, .b false, .b false, .b false, .b false, .b false, .b false, .b false, .b false, .b false, .b false, .b false, .b false, .b false, .b false, .b false, .b false, .b false, .b false, .b false, .b false, .b false, .b false, .b false, .b false, .b false, .b false, .b false, .b false, .b false, .b false, .b false, .b false, .b false, .b false, .b false, .b false, .b false, .b false, .b false, .b false, .b false, .b false, .b false, .b false, .b false, .b false, .b false, .b false, .b false, .b false, .b false, .b false, .b false, .b false, .b false, .b false, .b false, .b false, .b false, .b false, .b false, .b false, .b false, .b false, .b false, .b false, .b false, .b false, .b false, .b false, .b false, .b false, .b false, .b false, .b false, .b false, .b false, .b false, .b false, .b false, .b false, .b false, .b false, .b false, .b false, .b false, .b false, .b false, .b false, .b false, .b false, .b false, .b false, .b false, .b false, .b false, .b false, .b false, .b false, .b false, .b false, .b false, .b false, .b false, .b false, .b false, .b false, .b false, .b false, .b false, .b false, .b false, .b false, .b false, .b false, .b false, .b false, .b false, .b false, .b false, .b false, .b false, .b false, .b false, .b false, .b false, .b false, .b false, .b false, .b false, .b false, .b false, .b false, .b false, .b false, .b false, .b false, .b false, .b false, .b false, .b false, .b false, .b false, .b false, .b false, .b false, .b false, .b false, .b false, .b false, .b false, .b false, .b false, .b false, .b false, .b false, .b false, .b false, .b false, .b false, .b false, .b false, .b false, .b false, .b false, .b false, .b false, .b false, .b false, .b false, .b false, .b false, .b false, .b false, .b false, .b false, .b false, .b false, .b false, .b false, .b false, .b false, .b false, .b false, .b false, .b false, .b false, .b false, .b false] (.x 6), .b false)]
theorem runTl_p2 : RNTl_0 hyTl_p2 (.exit 0) [(0, .x 0)] [] 9 [(0, .x 0)] [(8, .b ⟨135, .l [.b false, .b false, .b false, .b false, .b false, .b false, .b false, .b false, .b false, .b true, .b false, .b false, .b false, .b false, .b false, .b false, .b false, .b false, .b false, .b false, .b false, .b false, .b false, .b false, .b false, .b false, .b false, .b false, .b false, .b false, .b false, .b false, .b true, .b false, .b false, .b false, .b false, .b false, .b false, .b false, .b false, .b false, .b false, .b false, .b false, .b false, .b false, .b false, .b false, .b false, .b false, .b false, .b false, .b false, .b false, .b false, .b false, .b false, .b false, .b false, .b false, .b false, .b false, .b false, .b false, .b false, .b false, .b false, .b false, .b false, .b false, .b false, .b false, .b false, .b false, .b false, .b false, .b false, .b false, .b false, .b false, .b false, .b false, .b false, .b false, .b false, .b false, .b false, .b false, .b false, .b false, .b false, .b false, .b false, .b false, .b false, .b false, .b false, .b false, .b false, .b false, .b false, .b false, .b false, .b false, .b false, .b false, .b false, .b false, .b false, .b false, .b false, .b false, .b false, .b false, .b false, .b false, .b false, .b false, .b false, .b false, .b false, .b false, .b false, .b false, .b false, .b false, .b false, .b false, .b false, .b false, .b false, .b false, .b false, .b false, .b false, .b false, .b false, .b false, .b false, .b false, .b false, .b false, .b false, .b false, .b false, .b false, .b false, .b false, .b false, .b false, .b false, .b false, .b false, .b false, .b false, .b false, .b false, .b false, .b false, .b false, .b false, .b false, .b false, .b false, .b false, .b false, .b false, .b false, .b false, .b false, .b false, .b false, .b false, .b false, .b false, .b false, .b false, .b false, .b false, .b false, .b false, .b false, .b false, .b false, .b false, .b false, .b false, .b false, .b false, .b false, .b false, .b false, .b false, .b false, .b false, .b false, .b false, .b false, .b false, .b false, .b false, .b false, .b false, .b false, .b false, .b false, .b false, .b false, .b false, .b false, .b false, .b false, .b false, .b false, .b false, .b false, .b false, .b false, .b false, .b false, .b false, .b false, .b false, .b false, .b false, .b false, .b false, .b false, .b false, .b false, .b false, .b false, .b false, .b false, .b false, .b false, .b false, .b false, .b false, .b false, .b false, .b false, .b false, .b false, .b false, .b false, .b false, .b false, .b false, .b false, .b false, .b false, .b false, .b false, .b false], 0, 0, 0, false, false⟩)] = true := by kernel_rfl
def nuETl_0 (T : LB) : List Value := [St' T]
def roETl_0 (T : LB) : List Value := []
noncomputable def ETl_0 (T : LB) : Cx := cx (nuX (nuETl_0 T) (rX (roETl_0 T) (fun _ => .bool true))) (nuX_one (nuL_one (l := nuETl_0 T) rfl)) 0 laidE laidE_stab
theorem roundsTl_0 (T : LB) (st : Nat × LB) (X : Nat → Value) (hI : InvTl T st) : RHTl T (ETl_0 T) (.exit 0) [(0, .x 0)] [(8, .b ⟨135, .l [.b false, .b false, .b false, .b false, .b false, .b false, .b false, .b false, .b false, .b true, .b false, .b false, .b false, .b false, .b false, .b false, .b false, .b false, .b false, .b false, .b false, .b false, .b false, .b false, .b false, .b false, .b false, .b false, .b false, .b false, .b false, .b false, .b true, .b false, .b false, .b false, .b false, .b false, .b false, .b false, .b false, .b false, .b false, .b false, .b false, .b false, .b false, .b false, .b false, .b false, .b false, .b false, .b false, .b false, .b false, .b false, .b false, .b false, .b false, .b false, .b false, .b false, .b false, .b false, .b false, .b false, .b false, .b false, .b false, .b false, .b false, .b false, .b false, .b false, .b false, .b false, .b false, .b false, .b false, .b false, .b false, .b false, .b false, .b false, .b false, .b false, .b false, .b false, .b false, .b false, .b false, .b false, .b false, .b false, .b false, .b false, .b false, .b false, .b false, .b false, .b false, .b false, .b false, .b false, .b false, .b false, .b false, .b false, .b false, .b false, .b false, .b false, .b false, .b false, .b false, .b false, .b false, .b false, .b false, .b false, .b false, .b false, .b false, .b false, .b false, .b false, .b false, .b false, .b false, .b false, .b false, .b false, .b false, .b false, .b false, .b false, .b false, .b false, .b false, .b false, .b false, .b false, .b false, .b false, .b false, .b false, .b false, .b false, .b false, .b false, .b false, .b false, .b false, .b false, .b false, .b false, .b false, .b false, .b false, .b false, .b false, .b false, .b false, .b false, .b false, .b false, .b false, .b false, .b false, .b false, .b false, .b false, .b false, .b false, .b false, .b false, .b false, .b false, .b false, .b false, .b false, .b false, .b false, .b false, .b false, .b false, .b false, .b false, .b false, .b false, .b false, .b false, .b false, .b false, .b false, .b false, .b false, .b false, .b false, .b false, .b false, .b false, .b false, .b false, .b false, .b false, .b false, .b false, .b false, .b false, .b false, .b false, .b false, .b false, .b false, .b false, .b false, .b false, .b false, .b false, .b false, .b false, .b false, .b false, .b false, .b false, .b false, .b false, .b false, .b false, .b false, .b false, .b false, .b false, .b false, .b false, .b false, .b false, .b false, .b false, .b false, .b false, .b false, .b false, .b false, .b false, .b false, .b false, .b false, .b false, .b false, .b false, .b false, .b false, .b false, .b false], 0, 0, 0, false, false⟩)] st X := by
  obtain ⟨tag, t⟩ := st
  have hI0 := hI
  obtain ⟨i0, i1, it⟩ := unITl T tag t hI
  obtain rfl : tag = 0 := by omega
  skip
  by_cases h0 : 0 < (t.length : Int)
  · by_cases h1 : tb8 4294967808 (bt t 0) = true
    · exact nxTl_p1 T t X hI0 h0 h1
    · skip
      have := bt_lo t 0; have := bt_hi t 0
      refine lvTl_0 T t (h := hyTl_p2) rfl ?_ (thXe (v := St' t) (u := St' T) rfl rfl (congrArg (fun l => St' l) (by rw [← i0]; exact (trL_end (by omega) (by assumption)).symm)) (thNil)) runTl_p2
      unfold hyTl_p2
      exact hc (lnV rfl rfl (by omega)) <|
       hc (gtcT rfl (by omega)) <|
       hc (ixC rfl rfl (by omega)) <|
       hc (kTabB 4294967808 (by kernel_rfl) (isX rfl) (by omega) (by omega) (tbF (by assumption))) <|
       hnil
  · skip
    refine lvTl_0 T t (h := hyTl_p0) rfl ?_ (thXe (v := St' t) (u := St' T) rfl rfl (congrArg (fun l => St' l) (by rw [← i0]; exact (trL_nil (by omega)).symm)) (thNil)) runTl_p0
    unfold hyTl_p0
    exact hc (lnV rfl rfl (by omega)) <|
     hc (gtcF rfl (by omega)) <|
     hnil
theorem lfOkTl_0 {l : LF} {h : LH} (T : LB) (st : Nat × LB) (hI : InvTl T st) (hl : l.hp = some h) (hs : lfSame l h 16 keepTl (.exit 0) 7 9 9 = true) {th0 : LA} {sg0 : List (Nat × Nat)} (hth0 : ∀ X, ThOk (cx nu one 0 laidE laidE_stab) (DTl T st X) th0) (h0 : startOk l h 16 9 9 th0 sg0 (epTl st) (hpTl st) = true) {thx : LA} (hthx : ThOk (ETl_0 T) (cx nu one 0 laidE laidE_stab) thx) (hx : exitOk l h 16 9 9 thx [(0, .x 0)] [(8, .b ⟨135, .l [.b false, .b false, .b false, .b false, .b false, .b false, .b false, .b false, .b false, .b true, .b false, .b false, .b false, .b false, .b false, .b false, .b false, .b false, .b false, .b false, .b false, .b false, .b false, .b false, .b false, .b false, .b false, .b false, .b false, .b false, .b false, .b false, .b true, .b false, .b false, .b false, .b false, .b false, .b false, .b false, .b false, .b false, .b false, .b false, .b false, .b false, .b false, .b false, .b false, .b false, .b false, .b false, .b false, .b false, .b false, .b false, .b false, .b false, .b false, .b false, .b false, .b false, .b false, .b false, .b false, .b false, .b false, .b false, .b false, .b false, .b false, .b false, .b false, .b false, .b false, .b false, .b false, .b false, .b false, .b false, .b false, .b false, .b false, .b false, .b false, .b false, .b false, .b false, .b false, .b false, .b false, .b false, .b false, .b false, .b false, .b false, .b false, .b false, .b false, .b false, .b false, .b false, .b false, .b false, .b false, .b false, .b false, .b false, .b false, .b false, .b false, .b false, .b false, .b false, .b false, .b false, .b false, .b false, .b false, .b false, .b false, .b false, .b false, .b false, .b false, .b false, .b false, .b false, .b false, .b false, .b false, .b false, .b false, .b false, .b false, .b false, .b false, .b false, .b false, .b false, .b false, .b false, .b false, .b false, .b false, .b false, .b false, .b false, .b false, .b false, .b false, .b false, .b false, .b false, .b false, .b false, .b false, .b false, .b false, .b false, .b false, .b false, .b false, .b false, .b false, .b false, .b false, .b false, .b false, .b false, .b false, .b false, .b false, .b false, .b false, .b false, .b false, .b false, .b false, .b false, .b false, .b false, .b false, .b false, .b false, .b false, .b false, .b false, .b false, .b false, .b false, .b false, .b false, .b false, .b false, .b false, .b false, .b false, .b false, .b false, .b false, .b false, .b false, .b false, .b false, .b false, .b false, .b false, .b false, .b false, .b false, .b false, .b false, .b false, .b false, .b false, .b false, .b false, .b false, .b false, .b false, .b false, .b false, .b false, .b false, .b false, .b false, .b false, .b false, .b false, .b false, .b false, .b false, .b false, .b false, .b false, .b false, .b false, .b false, .b false, .b false, .b false, .b false, .b false, .b false, .b false, .b false, .b false, .b false, .b false, .b false, .b false, .b false, .b false, .b false, .b false], 0, 0, 0, false, false⟩)] = true) : LfOk (cx nu one 0 laidE laidE_stab) bodyTl l :=
  lfOkX (E := ETl_0 T) (InvTl T) (muTl T) (DTl T) (fun _ _ => rfl) (fun _ _ => rfl) (fun _ _ => rfl) (fun st X t ht => nuX_keep.trans (rX_keep ((by decide : ∀ t, t ∈ keepTl → t < 1000000) t ht))) rfl rfl rfl hl hs ebTl rfl rfl st hI hth0 h0 hthx hx (roundsTl_0 T)
noncomputable def fi97 : FI := (tabk.fn.get 97).getD default
theorem fi97_at : tabk.fn.get 97 = some fi97 := by kernel_rfl
theorem fi97_body : fi97.body = some (Tryd.f97.body.getD .skip) := by kernel_rfl
theorem fiB97 : fi97.body.isSome = true := by rw [fi97_body]; rfl
noncomputable def fi65 : FI := (tabk.fn.get 65).getD default
theorem fi65_at : tabk.fn.get 65 = some fi65 := by kernel_rfl
theorem fi65_body : fi65.body = some (Tryd.f65.body.getD .skip) := by kernel_rfl
theorem fiB65 : fi65.body.isSome = true := by rw [fi65_body]; rfl
noncomputable def fi96 : FI := (tabk.fn.get 96).getD default
theorem fi96_at : tabk.fn.get 96 = some fi96 := by kernel_rfl
theorem fi96_body : fi96.body = some (Tryd.f96.body.getD .skip) := by kernel_rfl
theorem fiB96 : fi96.body.isSome = true := by rw [fi96_body]; rfl
theorem fiNTrim : tabk.fn.get 65 = some (fI Tryd.f65 0) ∧ (fI Tryd.f65 0).body.isSome = true := ⟨rfl, by kernel_rfl⟩
def hyTrim_0 : LK := [(.bin .eql (.x 0) (.s 0 0), .b true)]
theorem runTrim_0 : okA (call (tbl hyTrim_0) 9000 65 [.x 0, .s 2 2336] ⟨H0 , 7, 0, 0⟩) (.x 0) = true := by kernel_rfl
def nuTrim_0 (s : LB) : List Value := [St' s]
theorem pathTrim_0 (s : LB) (b0 : s.length ≤ 9223372036854775807) (p0 : s.length ≤ 140737488355328) (h0 : (s.length : Int) = 0) (w : World) (hl : laidE w) : CwR 65 #[St' s, St' [u8 32, u8 9]] w (St' s) := by
  have ho : ∀ k r, (k, r) ∈ hyTrim_0 → HOk (cx (nuL (nuTrim_0 s)) (fun j _ => nuL_one (l := nuTrim_0 s) rfl j) 0 laidE laidE_stab) k r := by
    unfold hyTrim_0
    exact hc (kEqS (isX rfl) (isSx (l := ([] : LB)) 0 0 rfl) (nilT (by omega))) <|
     hnil
  refine runC (tb := (tbl hyTrim_0)) (ra := .x 0) rfl ((tabkOk (nuL (nuTrim_0 s)) (fun j _ => nuL_one (l := nuTrim_0 s) rfl j)).hyps ho) rfl fiNTrim.1 fiNTrim.2 (runTrim_0 ) (args := [St' s, St' [u8 32, u8 9]]) (by simp only [RelL, Rel]; exact ⟨_, _, rfl, rfl, ⟨_, _, rfl, ⟨rfl, by decide⟩, rfl⟩⟩) w hl fun x hx => ?_
  simp only [Rel, RelL] at hx
  exact hx
def hyTrim_1 : LK := [(.bin .eql (.x 0) (.s 0 0), .b false)]
def lh1 : LH := ⟨7, 9, 9, [(8, .b ⟨135, .l [.b false, .b false, .b false, .b false, .b false, .b false, .b false, .b false, .b false, .b true, .b false, .b false, .b false, .b false, .b false, .b false, .b false, .b false, .b false, .b false, .b false, .b false, .b false, .b false, .b false, .b false, .b false, .b false, .b false, .b false, .b false, .b false, .b true, .b false, .b false, .b false, .b false, .b false, .b false, .b false, .b false, .b false, .b false, .b false, .b false, .b false, .b false, .b false, .b false, .b false, .b false, .b false, .b false, .b false, .b false, .b false, .b false, .b false, .b false, .b false, .b false, .b false, .b false, .b false, .b false, .b false, .b false, .b false, .b false, .b false, .b false, .b false, .b false, .b false, .b false, .b false, .b false, .b false, .b false, .b false, .b false, .b false, .b false, .b false, .b false, .b false, .b false, .b false, .b false, .b false, .b false, .b false, .b false, .b false, .b false, .b false, .b false, .b false, .b false, .b false, .b false, .b false, .b false, .b false, .b false, .b false, .b false, .b false, .b false, .b false, .b false, .b false, .b false, .b false, .b false, .b false, .b false, .b false, .b false, .b false, .b false, .b false, .b false, .b false, .b false, .b false, .b false, .b false, .b false, .b false, .b false, .b false, .b false, .b false, .b false, .b false, .b false, .b false, .b false, .b false, .b false, .b false, .b false, .b false, .b false, .b false, .b false, .b false, .b false, .b false, .b false, .b false, .b false, .b false, .b false, .b false, .b false, .b false, .b false, .b false, .b false, .b false, .b false, .b false, .b false, .b false, .b false, .b false, .b false, .b false, .b false, .b false, .b false, .b false, .b false, .b false, .b false, .b false, .b false, .b false, .b false, .b false, .b false, .b false, .b false, .b false, .b false, .b false, .b false, .b false, .b false, .b false, .b false, .b false, .b false, .b false, .b false, .b false, .b false, .b false, .b false, .b false, .b false, .b false, .b false, .b false, .b false, .b false, .b false, .b false, .b false, .b false, .b false, .b false, .b false, .b false, .b false, .b false, .b false, .b false, .b false, .b false, .b false, .b false, .b false, .b false, .b false, .b false, .b false, .b false, .b false, .b false, .b false, .b false, .b false, .b false, .b false, .b false, .b false, .b false, .b false, .b false, .b false, .b false, .b false, .b false, .b false, .b false, .b false, .b false, .b false, .b false, .b false, .b false, .b false, .b false], 0, 0, 0, false, false⟩)], [(8, .b ⟨135, .l [.b false, .b false, .b false, .b false, .b false, .b false, .b false, .b false, .b false, .b true, .b false, .b false, .b false, .b false, .b false, .b false, .b false, .b false, .b false, .b false, .b false, .b false, .b false, .b false, .b false, .b false, .b false, .b false, .b false, .b false, .b false, .b false, .b true, .b false, .b false, .b false, .b false, .b false, .b false, .b false, .b false, .b false, .b false, .b false, .b false, .b false, .b false, .b false, .b false, .b false, .b false, .b false, .b false, .b false, .b false, .b false, .b false, .b false, .b false, .b false, .b false, .b false, .b false, .b false, .b false, .b false, .b false, .b false, .b false, .b false, .b false, .b false, .b false, .b false, .b false, .b false, .b false, .b false, .b false, .b false, .b false, .b false, .b false, .b false, .b false, .b false, .b false, .b false, .b false, .b false, .b false, .b false, .b false, .b false, .b false, .b false, .b false, .b false, .b false, .b false, .b false, .b false, .b false, .b false, .b false, .b false, .b false, .b false, .b false, .b false, .b false, .b false, .b false, .b false, .b false, .b false, .b false, .b false, .b false, .b false, .b false, .b false, .b false, .b false, .b false, .b false, .b false, .b false, .b false, .b false, .b false, .b false, .b false, .b false, .b false, .b false, .b false, .b false, .b false, .b false, .b false, .b false, .b false, .b false, .b false, .b false, .b false, .b false, .b false, .b false, .b false, .b false, .b false, .b false, .b false, .b false, .b false, .b false, .b false, .b false, .b false, .b false, .b false, .b false, .b false, .b false, .b false, .b false, .b false, .b false, .b false, .b false, .b false, .b false, .b false, .b false, .b false, .b false, .b false, .b false, .b false, .b false, .b false, .b false, .b false, .b false, .b false, .b false, .b false, .b false, .b false, .b false, .b false, .b false, .b false, .b false, .b false, .b false, .b false, .b false, .b false, .b false, .b false, .b false, .b false, .b false, .b false, .b false, .b false, .b false, .b false, .b false, .b false, .b false, .b false, .b false, .b false, .b false, .b false, .b false, .b false, .b false, .b false, .b false, .b false, .b false, .b false, .b false, .b false, .b false, .b false, .b false, .b false, .b false, .b false, .b false, .b false, .b false, .b false, .b false, .b false, .b false, .b false, .b false, .b false, .b false, .b false, .b false, .b false, .b false, .b false, .b false, .b false, .b false, .b false, .b false], 0, 0, 0, false, false⟩)]⟩
def lf1 : LF := ⟨1, 22, [(0, .x 0), (1, .p 8 0)], [], (.exit 0), [(0, .x 1)], some lh1⟩
def lh2 : LH := ⟨7, 9, 9, [(8, .b ⟨135, .l [.b false, .b false, .b false, .b false, .b false, .b false, .b false, .b false, .b false, .b true, .b false, .b false, .b false, .b false, .b false, .b false, .b false, .b false, .b false, .b false, .b false, .b false, .b false, .b false, .b false, .b false, .b false, .b false, .b false, .b false, .b false, .b false, .b true, .b false, .b false, .b false, .b false, .b false, .b false, .b false, .b false, .b false, .b false, .b false, .b false, .b false, .b false, .b false, .b false, .b false, .b false, .b false, .b false, .b false, .b false, .b false, .b false, .b false, .b false, .b false, .b false, .b false, .b false, .b false, .b false, .b false, .b false, .b false, .b false, .b false, .b false, .b false, .b false, .b false, .b false, .b false, .b false, .b false, .b false, .b false, .b false, .b false, .b false, .b false, .b false, .b false, .b false, .b false, .b false, .b false, .b false, .b false, .b false, .b false, .b false, .b false, .b false, .b false, .b false, .b false, .b false, .b false, .b false, .b false, .b false, .b false, .b false, .b false, .b false, .b false, .b false, .b false, .b false, .b false, .b false, .b false, .b false, .b false, .b false, .b false, .b false, .b false, .b false, .b false, .b false, .b false, .b false, .b false, .b false, .b false, .b false, .b false, .b false, .b false, .b false, .b false, .b false, .b false, .b false, .b false, .b false, .b false, .b false, .b false, .b false, .b false, .b false, .b false, .b false, .b false, .b false, .b false, .b false, .b false, .b false, .b false, .b false, .b false, .b false, .b false, .b false, .b false, .b false, .b false, .b false, .b false, .b false, .b false, .b false, .b false, .b false, .b false, .b false, .b false, .b false, .b false, .b false, .b false, .b false, .b false, .b false, .b false, .b false, .b false, .b false, .b false, .b false, .b false, .b false, .b false, .b false, .b false, .b false, .b false, .b false, .b false, .b false, .b false, .b false, .b false, .b false, .b false, .b false, .b false, .b false, .b false, .b false, .b false, .b false, .b false, .b false, .b false, .b false, .b false, .b false, .b false, .b false, .b false, .b false, .b false, .b false, .b false, .b false, .b false, .b false, .b false, .b false, .b false, .b false, .b false, .b false, .b false, .b false, .b false, .b false, .b false, .b false, .b false, .b false, .b false, .b false, .b false, .b false, .b false, .b false, .b false, .b false, .b false, .b false, .b false, .b false, .b false, .b false, .b false, .b false, .b false], 0, 0, 0, false, false⟩)], [(8, .b ⟨135, .l [.b false, .b false, .b false, .b false, .b false, .b false, .b false, .b false, .b false, .b true, .b false, .b false, .b false, .b false, .b false, .b false, .b false, .b false, .b false, .b false, .b false, .b false, .b false, .b false, .b false, .b false, .b false, .b false, .b false, .b false, .b false, .b false, .b true, .b false, .b false, .b false, .b false, .b false, .b false, .b false, .b false, .b false, .b false, .b false, .b false, .b false, .b false, .b false, .b false, .b false, .b false, .b false, .b false, .b false, .b false, .b false, .b false, .b false, .b false, .b false, .b false, .b false, .b false, .b false, .b false, .b false, .b false, .b false, .b false, .b false, .b false, .b false, .b false, .b false, .b false, .b false, .b false, .b false, .b false, .b false, .b false, .b false, .b false, .b false, .b false, .b false, .b false, .b false, .b false, .b false, .b false, .b false, .b false, .b false, .b false, .b false, .b false, .b false, .b false, .b false, .b false, .b false, .b false, .b false, .b false, .b false, .b false, .b false, .b false, .b false, .b false, .b false, .b false, .b false, .b false, .b false, .b false, .b false, .b false, .b false, .b false, .b false, .b false, .b false, .b false, .b false, .b false, .b false, .b false, .b false, .b false, .b false, .b false, .b false, .b false, .b false, .b false, .b false, .b false, .b false, .b false, .b false, .b false, .b false, .b false, .b false, .b false, .b false, .b false, .b false, .b false, .b false, .b false, .b false, .b false, .b false, .b false, .b false, .b false, .b false, .b false, .b false, .b false, .b false, .b false, .b false, .b false, .b false, .b false, .b false, .b false, .b false, .b false, .b false, .b false, .b false, .b false, .b false, .b false, .b false, .b false, .b false, .b false, .b false, .b false, .b false, .b false, .b false, .b false, .b false, .b false, .b false, .b false, .b false, .b false, .b false, .b false, .b false, .b false, .b false, .b false, .b false, .b false, .b false, .b false, .b false, .b false, .b false, .b false, .b false, .b false, .b false, .b false, .b false, .b false, .b false, .b false, .b false, .b false, .b false, .b false, .b false, .b false, .b false, .b false, .b false, .b false, .b false, .b false, .b false, .b false, .b false, .b false, .b false, .b false, .b false, .b false, .b false, .b false, .b false, .b false, .b false, .b false, .b false, .b false, .b false, .b false, .b false, .b false, .b false, .b false, .b false, .b false, .b false, .b false, .b false], 0, 0, 0, false, false⟩)]⟩
def lf2 : LF := ⟨1, 16, [(0, .x 1), (1, .p 8 0)], [], (.exit 0), [(0, .x 2)], some lh2⟩
noncomputable def tabTrim_1 : Tab := addLps (addLps ({ tabk with hyp := hyTrim_1 }) 97 fi97 [lf1]) 96 fi96 [lf2]
theorem runTrim_1 : okA (call tabTrim_1 9000 65 [.x 0, .s 2 2336] ⟨H0 , 7, 0, 0⟩) (.x 2) = true := by kernel_rfl
def nuTrim_1 (s : LB) : List Value := [St' s, St' (trR s), St' (trL (trR s))]
theorem pathTrim_1 (s : LB) (b0 : s.length ≤ 9223372036854775807) (p0 : s.length ≤ 140737488355328) (h0 : ¬ ((s.length : Int) = 0)) (w : World) (hl : laidE w) : CwR 65 #[St' s, St' [u8 32, u8 9]] w (St' (trL (trR s))) := by
  have := trR_len s
  have := trL_len (trR s)
  have ho : ∀ k r, (k, r) ∈ hyTrim_1 → HOk (cx (nuL (nuTrim_1 s)) (fun j _ => nuL_one (l := nuTrim_1 s) rfl j) 0 laidE laidE_stab) k r := by
    unfold hyTrim_1
    exact hc (kEqS (isX rfl) (isSx (l := ([] : LB)) 0 0 rfl) (nilF (by omega))) <|
     hnil
  refine runC (tb := tabTrim_1) (ra := .x 2) rfl (AllOk.lp1 (AllOk.lp1 ((tabkOk (nuL (nuTrim_1 s)) (fun j _ => nuL_one (l := nuTrim_1 s) rfl j)).hyps ho) (by omega) fi97_at fi97_body (lfCons (lpKnown rfl ⟨0, keyTr, lfOkTr_0 (l := lf1) (h := lh1) (trR s) (0, s) (mkITr (trR s) 0 s ⟨rfl, by first | omega | (simp <;> omega)⟩) rfl (by kernel_rfl) (th0 := [(0, .x 0)]) (sg0 := []) (fun X => thXv (v := St' s) rfl rfl (thNil)) (by kernel_rfl) (thx := [(1, .x 0)]) (thXv (v := St' (trR s)) rfl rfl (thNil)) (by kernel_rfl)⟩) lfNil)) (by omega) (get_lps2 (by omega) (by omega) fi96_at) fi96_body (lfCons (lpKnown rfl ⟨0, keyTl, lfOkTl_0 (l := lf2) (h := lh2) (trL (trR s)) (0, (trR s)) (mkITl (trL (trR s)) 0 (trR s) ⟨rfl, by first | omega | (simp <;> omega)⟩) rfl (by kernel_rfl) (th0 := [(0, .x 1)]) (sg0 := []) (fun X => thXv (v := St' (trR s)) rfl rfl (thNil)) (by kernel_rfl) (thx := [(2, .x 0)]) (thXv (v := St' (trL (trR s))) rfl rfl (thNil)) (by kernel_rfl)⟩) lfNil)) rfl (get_lps2 (by omega) (by omega) (get_lps2 (by omega) (by omega) fi65_at)) fiB65 (runTrim_1 ) (args := [St' s, St' [u8 32, u8 9]]) (by simp only [RelL, Rel]; exact ⟨_, _, rfl, rfl, ⟨_, _, rfl, ⟨rfl, by decide⟩, rfl⟩⟩) w hl fun x hx => ?_
  simp only [Rel, RelL] at hx
  exact hx
theorem callsTrim (s : LB) (b0 : s.length ≤ 9223372036854775807) (p0 : s.length ≤ 140737488355328) (w : World) (hl : laidE w) : CwR 65 #[St' s, St' [u8 32, u8 9]] w (St' (trS s)) := by
  by_cases h0 : (s.length : Int) = 0
  · rw [show (St' (trS s) : Value) = (St' s : Value) from by first | rfl | (have e : s = [] := List.eq_nil_of_length_eq_zero (by omega); subst e; rfl)]
    exact pathTrim_0 s b0 p0 h0 w hl
  · rw [show (St' (trS s) : Value) = (St' (trL (trR s)) : Value) from by first | rfl | (have e : s = [] := List.eq_nil_of_length_eq_zero (by omega); subst e; rfl)]
    exact pathTrim_1 s b0 p0 h0 w hl
theorem hokTrim {x0 x1 r : AV} {s : LB} (i0 : Is (cx nu one 0 laidE laidE_stab) x0 (St' s)) (i1 : Is (cx nu one 0 laidE laidE_stab) x1 (St' [u8 32, u8 9])) (hr : Den (cx nu one 0 laidE laidE_stab) r (St' (trS s))) (b0 : s.length ≤ 9223372036854775807) (p0 : s.length ≤ 140737488355328) : HOk (cx nu one 0 laidE laidE_stab) (.call 65 [x0, x1]) r := by
  intro ρ args ha w hl _
  simp only [RelL] at ha
  obtain ⟨v0, t0, rfl, a0, v1, t1, rfl, a1, rfl⟩ := ha
  have e0 := i0 ρ _ a0; subst e0
  have e1 := i1 ρ _ a1; subst e1
  exact (callsTrim s b0 p0 w hl).mono fun e w' he => ⟨_, he.1, hr ρ, he.2⟩
def trQ (l : LB) : LB := trR (trL l)
theorem bl_yes {c : Int} (h : c = 32 ∨ c = 9) : tb8 4294967808 c = true := by rcases h with rfl | rfl <;> decide
theorem bl_no {c : Int} (h0 : 0 ≤ c) (h1 : c ≤ 255) (a : ¬ c = 32) (b : ¬ c = 9) : ¬ (tb8 4294967808 c = true) := by
  obtain ⟨n, rfl⟩ := Int.eq_ofNat_of_zero_le h0
  have h : ∀ n : Nat, n < 256 → n ≠ 32 → n ≠ 9 → ¬ (tb8 4294967808 (n : Int) = true) := by decide
  exact h n (by omega) (by omega) (by omega)
theorem dw_app {p : UInt8 → Bool} : ∀ (l r : LB), (l ++ r).dropWhile p = if l.all p then r.dropWhile p else l.dropWhile p ++ r
  | [], r => by simp
  | a :: l, r => by
    rw [List.cons_append, List.dropWhile_cons, List.dropWhile_cons, List.all_cons]
    cases h : p a with
    | true => simp only [if_true, Bool.true_and]; exact dw_app l r
    | false => simp
theorem dw_all {p : UInt8 → Bool} : ∀ l : LB, l.all p = true → l.dropWhile p = []
  | [], _ => rfl
  | a :: l, h => by
    rw [List.all_cons, Bool.and_eq_true] at h
    rw [List.dropWhile_cons, h.1, if_pos rfl]; exact dw_all l h.2
theorem trR_cons {a : UInt8} {l : LB} (h : bl a = false) : trR (a :: l) = a :: trR l := by
  unfold trR
  rw [List.reverse_cons, dw_app]
  split
  · rename_i h2
    rw [dw_all l.reverse h2]
    simp [h]
  · simp
theorem trR_blank {a : UInt8} {l : LB} (h : bl a = true) : trL (trR (a :: l)) = trL (trR l) := by
  unfold trR
  rw [List.reverse_cons, dw_app]
  split
  · rename_i h2
    rw [dw_all l.reverse h2]
    simp [h]
  · rw [List.reverse_append, List.reverse_singleton, List.singleton_append]
    unfold trL; rw [List.dropWhile_cons, h, if_pos rfl]
theorem trSQ : ∀ l : LB, trS l = trQ l
  | [] => rfl
  | a :: l => by
    unfold trS trQ
    cases h : bl a with
    | true =>
      rw [trR_blank h]
      have e : trL (a :: l) = trL l := by unfold trL; rw [List.dropWhile_cons, h, if_pos rfl]
      rw [e]; exact trSQ l
    | false =>
      have e : trL (a :: l) = a :: l := by unfold trL; rw [List.dropWhile_cons, h]; rfl
      rw [e, trR_cons h]
      unfold trL; rw [List.dropWhile_cons, h]; rfl
def keepQ (c : LB) : List LB := if (trQ c).length = 0 then [] else [trQ c]
def lsQ : LB → LB → List LB
  | cur, [] => keepQ cur
  | cur, c :: r => if c = 44 then keepQ cur ++ lsQ [] r else lsQ (cur ++ [c]) r
def md (s : LB) (a b : Int) : LB := List.take (Int.toNat (b - (a))) (List.drop (Int.toNat (a)) s)
theorem trQ_len (l : LB) : (trQ l).length ≤ l.length := Nat.le_trans (trR_len _) (trL_len _)
theorem keepQ_yes {c : LB} (h : ¬ (trQ c).length = 0) : keepQ c = [trQ c] := if_neg h
theorem keepQ_no {c : LB} (h : (trQ c).length = 0) : keepQ c = [] := if_pos h
theorem ls_drop {l : LB} {i : Nat} (hi : i < l.length) : l.drop i = u8 (bt l i) :: l.drop (i + 1) := by
  rw [List.drop_eq_getElem_cons hi, u8_bt, List.getD_eq_getElem?_getD, List.getElem?_eq_getElem hi, Option.getD_some]
theorem md_nil {s : LB} {a : Int} : md s a a = [] := by unfold md; rw [show (a - a).toNat = 0 by omega]; rfl
theorem md_succ {s : LB} {fr i : Int} (h0 : 0 ≤ fr) (h1 : fr ≤ i) (h2 : i < s.length) : md s fr (i + 1) = md s fr i ++ [u8 (bt s i.toNat)] := by
  unfold md
  have e : (i + 1 - fr).toNat = (i - fr).toNat + 1 := by omega
  have hl : (i - fr).toNat < (s.drop fr.toNat).length := by rw [List.length_drop]; omega
  rw [e, List.take_succ_eq_append_getElem hl, u8_bt, List.getElem_drop, List.getD_eq_getElem?_getD, List.getElem?_eq_getElem (by omega), Option.getD_some]
  congr 3; congr 1; omega
theorem u8_44 {c : Int} (h0 : 0 ≤ c) (h1 : c ≤ 255) : (u8 c = 44) ↔ c = 44 := by
  constructor
  · intro h
    have := congrArg (fun b : UInt8 => (b.toNat : Int)) h
    simp only [u8_toNat h0 h1] at this
    exact this
  · rintro rfl; rfl
section
variable {s : LB} {o T : List LB} {fr i : Int}
theorem ls_a (h0 : 0 ≤ fr) (h1 : fr ≤ i) (h2 : i < s.length) (hc : ¬ bt s (Int.toNat (i)) = 44) (h : o ++ lsQ (md s fr i) (s.drop (Int.toNat (i))) = T) : o ++ lsQ (md s fr (i + 1)) (s.drop (Int.toNat (i + 1))) = T := by
  rw [← h, ls_drop (i := i.toNat) (by omega), lsQ, if_neg (fun e => hc ((u8_44 (bt_lo _ _) (bt_hi _ _)).1 e)), md_succ h0 h1 h2, show (i + 1).toNat = i.toNat + 1 by omega]
theorem ls_at (h0 : 0 ≤ fr) (h1 : fr ≤ i) (h2 : i < s.length) (hc : bt s (Int.toNat (i)) = 44) : lsQ (md s fr i) (s.drop (Int.toNat (i))) = keepQ (md s fr i) ++ lsQ (md s (i + 1) (i + 1)) (s.drop (Int.toNat (i + 1))) := by
  rw [ls_drop (i := i.toNat) (by omega), lsQ, if_pos ((u8_44 (bt_lo _ _) (bt_hi _ _)).2 hc), md_nil, show (i + 1).toNat = i.toNat + 1 by omega]
theorem ls_b1 (h0 : 0 ≤ fr) (h1 : fr ≤ i) (h2 : i < s.length) (hc : bt s (Int.toNat (i)) = 44) (hk : ¬ ((trQ (md s fr i)).length : Int) = 0) (h : o ++ lsQ (md s fr i) (s.drop (Int.toNat (i))) = T) : (o ++ [trQ (md s fr i)]) ++ lsQ (md s (i + 1) (i + 1)) (s.drop (Int.toNat (i + 1))) = T := by
  rw [← h, ls_at h0 h1 h2 hc, keepQ_yes (by omega), List.append_assoc]
theorem ls_b0 (h0 : 0 ≤ fr) (h1 : fr ≤ i) (h2 : i < s.length) (hc : bt s (Int.toNat (i)) = 44) (hk : ((trQ (md s fr i)).length : Int) = 0) (h : o ++ lsQ (md s fr i) (s.drop (Int.toNat (i))) = T) : o ++ lsQ (md s (i + 1) (i + 1)) (s.drop (Int.toNat (i + 1))) = T := by
  rw [← h, ls_at h0 h1 h2 hc, keepQ_no (by omega), List.nil_append]
theorem ls_last (he : i = s.length) : lsQ (md s fr i) (s.drop (Int.toNat (i))) = keepQ (md s fr i) := by
  rw [List.drop_eq_nil_of_le (by omega), lsQ]
theorem ls_c1 (he : i = s.length) (hk : ¬ ((trQ (md s fr i)).length : Int) = 0) (h : o ++ lsQ (md s fr i) (s.drop (Int.toNat (i))) = T) : o ++ [trQ (md s fr i)] = T := by
  rw [← h, ls_last he, keepQ_yes (by omega)]
theorem ls_c0 (he : i = s.length) (hk : ((trQ (md s fr i)).length : Int) = 0) (h : o ++ lsQ (md s fr i) (s.drop (Int.toNat (i))) = T) : o = T := by
  rw [← h, ls_last he, keepQ_no (by omega), List.append_nil]
end
def lsI : LB → LB → List LB × LB
  | cur, [] => ([], cur)
  | cur, c :: r => if c = 44 then (keepQ cur ++ (lsI [] r).1, (lsI [] r).2) else lsI (cur ++ [c]) r
theorem lsI_Q : ∀ (s cur : LB), lsQ cur s = (lsI cur s).1 ++ keepQ (lsI cur s).2
  | [], cur => rfl
  | c :: r, cur => by
    unfold lsQ lsI
    split
    · rw [lsI_Q r []]; simp
    · exact lsI_Q r _
theorem keepQ_len (c : LB) : (keepQ c).length ≤ 1 := by unfold keepQ; split <;> simp
theorem lsI_len : ∀ (s cur : LB), (lsI cur s).1.length ≤ s.length ∧ (lsI cur s).2.length ≤ cur.length + s.length
  | [], cur => by simp [lsI]
  | c :: r, cur => by
    unfold lsI
    split
    · have := lsI_len r []; have := keepQ_len cur
      simp only [List.length_append, List.length_cons, List.length_nil] at *; omega
    · have := lsI_len r (cur ++ [c])
      simp only [List.length_append, List.length_cons, List.length_nil] at *; omega
theorem ix_bd (l : LB) (c : Int) : -1 ≤ idxB l c ∧ idxB l c < (l.length : Int) := by
  unfold idxB
  induction l with
  | nil => simp [Lib.indexByte]
  | cons b l ih =>
    unfold Lib.indexByte
    split
    · simp only [List.length_cons]; omega
    · split
      · simp only [List.length_cons]; omega
      · simp only [List.length_cons]; omega
theorem lsI_no : ∀ (l cur : LB), idxB l 44 < 0 → lsI cur l = ([], cur ++ l)
  | [], cur, _ => by simp [lsI]
  | b :: l, cur, h => by
    unfold idxB at h
    unfold Lib.indexByte at h
    have h44 : u8 44 = 44 := rfl
    rw [h44] at h
    split at h
    · exact absurd h (by decide)
    · rename_i hb
      have hne : ¬ b = 44 := by simpa using hb
      have hl : idxB l 44 < 0 := by
        unfold idxB; rw [h44]
        split at h
        · rename_i h1; rw [beq_iff_eq] at h1; omega
        · have := Lib.indexByte_ge l 44; omega
      rw [lsI, if_neg hne, lsI_no l _ hl]; simp
theorem lsI_at : ∀ (l cur : LB), 0 ≤ idxB l 44 → lsI cur l = (keepQ (cur ++ l.take (idxB l 44).toNat) ++ (lsI [] (l.drop (idxB l 44 + 1).toNat)).1, (lsI [] (l.drop (idxB l 44 + 1).toNat)).2)
  | [], cur, h => absurd h (by decide)
  | b :: l, cur, h => by
    have h44 : u8 44 = 44 := rfl
    by_cases hb : b = 44
    · have e : idxB (b :: l) 44 = 0 := by unfold idxB Lib.indexByte; rw [h44, hb]; rfl
      rw [e]; subst hb
      rw [lsI, if_pos rfl]; simp
    · have hb' : (b == (44 : UInt8)) = false := by simpa using hb
      have e : idxB (b :: l) 44 = if Lib.indexByte l 44 == -1 then -1 else Lib.indexByte l 44 + 1 := by
        unfold idxB; rw [h44]; show Lib.indexByte (b :: l) 44 = _
        rw [Lib.indexByte, hb']; rfl
      have hl : idxB l 44 = Lib.indexByte l 44 := by unfold idxB; rw [h44]
      have h0 : 0 ≤ idxB l 44 ∧ idxB (b :: l) 44 = idxB l 44 + 1 := by
        rw [e] at h ⊢
        rw [hl]
        split at h
        · exact absurd h (by decide)
        · rename_i h1
          have := Lib.indexByte_ge l 44
          have h2 : ¬ Lib.indexByte l 44 = -1 := by simpa using h1
          rw [if_neg h1]
          omega
      rw [lsI, if_neg hb, lsI_at l _ h0.1, h0.2]
      have e1 : (idxB l 44 + 1).toNat = (idxB l 44).toNat + 1 := by omega
      have e2 : (idxB l 44 + 1 + 1).toNat = (idxB l 44 + 1).toNat + 1 := by omega
      rw [e2, List.drop_succ_cons, e1, List.take_succ_cons]; simp
theorem lsq_len (s : LB) : ((trQ (lsI [] s).2).length = 0 ∧ (lsQ [] s).length = (lsI [] s).1.length) ∨ (¬ (trQ (lsI [] s).2).length = 0 ∧ (lsQ [] s).length = (lsI [] s).1.length + 1) := by
  rw [lsI_Q]
  by_cases h : (trQ (lsI [] s).2).length = 0
  · left; refine ⟨h, ?_⟩; rw [keepQ_no h]; simp
  · right; refine ⟨h, ?_⟩; rw [keepQ_yes h]; simp
section
variable {r Tr : LB} {o To : List LB}
theorem sp_k (h : 0 ≤ idxB r 44) (h1 : o ++ (lsI [] r).1 = To) : o ++ keepQ (r.take (idxB r 44).toNat) ++ (lsI [] (r.drop (idxB r 44 + 1).toNat)).1 = To := by
  rw [← h1, lsI_at r [] h, List.append_assoc]; rfl
theorem sp_1 (h : 0 ≤ idxB r 44) (hk : ¬ ((trQ (r.take (idxB r 44).toNat)).length : Int) = 0) (h1 : o ++ (lsI [] r).1 = To) : (o ++ [trQ (r.take (idxB r 44).toNat)]) ++ (lsI [] (r.drop (idxB r 44 + 1).toNat)).1 = To := by
  have := sp_k h h1; rw [keepQ_yes (by omega)] at this; exact this
theorem sp_0 (h : 0 ≤ idxB r 44) (hk : ((trQ (r.take (idxB r 44).toNat)).length : Int) = 0) (h1 : o ++ (lsI [] r).1 = To) : o ++ (lsI [] (r.drop (idxB r 44 + 1).toNat)).1 = To := by
  have := sp_k h h1; rw [keepQ_no (by omega), List.append_nil] at this; exact this
theorem sp_eq (he : [u8 44] = r) : idxB r 44 = 0 := by subst he; rfl
theorem sp_0e (he : [u8 44] = r) (h1 : o ++ (lsI [] r).1 = To) : o ++ (lsI [] (r.drop (Int.toNat (1)))).1 = To := by
  have h := sp_eq he
  have hk : ((trQ (r.take (idxB r 44).toNat)).length : Int) = 0 := by
    rw [h]; rfl
  have := sp_0 (by omega) hk h1
  rw [h] at this; exact this
theorem sp_te (he : [u8 44] = r) (h1 : (lsI [] r).2 = Tr) : (lsI [] (r.drop (Int.toNat (1)))).2 = Tr := by
  have h := sp_eq he
  rw [← h1, lsI_at r [] (by omega), h]; rfl
theorem sp_t (h : 0 ≤ idxB r 44) (h1 : (lsI [] r).2 = Tr) : (lsI [] (r.drop (idxB r 44 + 1).toNat)).2 = Tr := by
  rw [← h1, lsI_at r [] h]
theorem sp_o (h : idxB r 44 < 0) (h1 : o ++ (lsI [] r).1 = To) : o = To := by rw [← h1, lsI_no r [] h]; simp
theorem sp_r (h : idxB r 44 < 0) (h1 : (lsI [] r).2 = Tr) : r = Tr := by rw [← h1, lsI_no r [] h]; rfl
end
theorem exFIx : Tryd.prog.funcs[117]? = some Tryd.f117 := Tryd.func117
theorem exAIx : (Extern.findNext Tryd.f117).isNone = true := by kernel_rfl
theorem exBIx : Extern.find Tryd.f117 = some Extern.BytealgIndexByte.indexByte := by kernel_rfl
noncomputable def bodySp21 : Code := loopNo (Tryd.f124.body.getD .skip) 1
theorem keySp21 : oneKey (loopsOf (Tryd.f124.body.getD .skip)) 5 1 0 = true := by kernel_rfl
def keepSp21 : List Nat := []
def epSp21_0 : LA := [(0, .yl 25), (1, .p 23 0), (2, .p 22 0), (3, .p 24 0), (9, .s 1 44)]
def hpSp21_0 : LE := [(21, .b ⟨35, .l [.nils], 0, 0, 0, false, false⟩), (22, .b ⟨9, .l [.x 0], 0, 0, 0, false, false⟩), (23, .b ⟨9, .l [.s 1 44], 0, 0, 0, false, false⟩), (24, .b ⟨3, .l [.i .i64 (.ofNat 0)], 0, 0, 0, false, false⟩), (25, .k 30 [(3, .p 21 0)] 17 0 .normal)]
def nuSp21_0 (To : List LB) (Tr r : LB) (o : List LB) : List Value := [St' r, .int .i64 (idxB r 44), .int .i64 ((idxB r 44)), St' (List.take (Int.toNat ((idxB r 44))) r), St' (trQ (List.take (Int.toNat ((idxB r 44))) r)), .int .i64 ((idxB r 44) + 1), St' (List.drop (Int.toNat ((idxB r 44) + 1)) r), .int .i64 (idxB r 44), .int .i64 ((idxB r 44)), St' (List.take (Int.toNat ((idxB r 44))) r), St' (trQ (List.take (Int.toNat ((idxB r 44))) r)), .int .i64 ((idxB r 44) + 1), St' (List.drop (Int.toNat ((idxB r 44) + 1)) r), .int .i64 (idxB r 44), St' (List.take (Int.toNat (0)) r), St' (trQ (List.take (Int.toNat (0)) r)), St' (List.drop (Int.toNat (1)) r)]
def roSp21_0 (To : List LB) (Tr r : LB) (o : List LB) : List Value := [rwS ([] : List LB), rwS (([] : List LB) ++ [(trQ (List.take (Int.toNat ((idxB r 44))) r))]), rwS ([] : List LB), rwS ([] : List LB), rwS ([] : List LB)]
def epSp21_1 : LA := [(0, .yl 25), (1, .p 23 0), (2, .p 22 0), (3, .p 24 0), (9, .s 1 44)]
def hpSp21_1 : LE := [(21, .b ⟨35, .l [.sr 26], 0, 0, 0, false, false⟩), (22, .b ⟨9, .l [.x 0], 0, 0, 0, false, false⟩), (23, .b ⟨9, .l [.s 1 44], 0, 0, 0, false, false⟩), (24, .b ⟨3, .l [.i .i64 (.ofNat 0)], 0, 0, 0, false, false⟩), (25, .k 30 [(3, .p 21 0)] 17 0 .normal), (26, .r 2000000 9 1 false)]
def nuSp21_1 (To : List LB) (Tr r : LB) (o : List LB) : List Value := [St' r, .int .i64 (idxB r 44), .int .i64 ((idxB r 44)), St' (List.take (Int.toNat ((idxB r 44))) r), St' (trQ (List.take (Int.toNat ((idxB r 44))) r)), .int .i64 ((idxB r 44) + 1), St' (List.drop (Int.toNat ((idxB r 44) + 1)) r), .int .i64 (idxB r 44), .int .i64 ((idxB r 44)), St' (List.take (Int.toNat ((idxB r 44))) r), St' (trQ (List.take (Int.toNat ((idxB r 44))) r)), .int .i64 ((idxB r 44) + 1), St' (List.drop (Int.toNat ((idxB r 44) + 1)) r), .int .i64 (idxB r 44), St' (List.take (Int.toNat (0)) r), St' (trQ (List.take (Int.toNat (0)) r)), St' (List.drop (Int.toNat (1)) r)]
def roSp21_1 (To : List LB) (Tr r : LB) (o : List LB) : List Value := [rwS o, rwS ([] : List LB), rwS (o ++ [(trQ (List.take (Int.toNat ((idxB r 44))) r))]), rwS ([] : List LB), rwS ([] : List LB), rwS ([] : List LB)]
def epSp21 (st : Nat × LB × List LB) : LA := if st.1 = 0 then epSp21_0 else epSp21_1
def hpSp21 (st : Nat × LB × List LB) : LE := if st.1 = 0 then hpSp21_0 else hpSp21_1
def nuSp21 (To : List LB) (Tr : LB) (st : Nat × LB × List LB) : List Value := if st.1 = 0 then nuSp21_0 To Tr (st.2.1) (st.2.2) else nuSp21_1 To Tr (st.2.1) (st.2.2)
def roSp21 (To : List LB) (Tr : LB) (st : Nat × LB × List LB) : List Value := if st.1 = 0 then roSp21_0 To Tr (st.2.1) (st.2.2) else roSp21_1 To Tr (st.2.1) (st.2.2)
theorem onSp21 (To : List LB) (Tr : LB) (st : Nat × LB × List LB) : ∀ j, (nuL (nuSp21 To Tr st) j).oneCell' = true := by
  intro j
  unfold nuSp21
  split
  · exact nuL_one (l := nuSp21_0 To Tr (st.2.1) (st.2.2)) rfl j
  exact nuL_one (l := nuSp21_1 To Tr (st.2.1) (st.2.2)) rfl j
theorem ebSp21 (st : Nat × LB × List LB) : (lfB (epSp21 st) && lfC keepSp21) = true := by
  unfold epSp21
  split
  · rfl
  rfl
noncomputable def DSp21 (To : List LB) (Tr : LB) (st : Nat × LB × List LB) (X : Nat → Value) : Cx := cx (nuX (nuSp21 To Tr st) (rX (roSp21 To Tr st) X)) (nuX_one (onSp21 To Tr st)) 0 laidE laidE_stab
def InvSp21 (To : List LB) (Tr : LB) (st : Nat × LB × List LB) : Prop := ((st.2.2) ++ (lsI [] (st.2.1)).1 = To) ∧ ((lsI [] (st.2.1)).2 = Tr) ∧ ((st.2.1).length ≤ 400) ∧ ((st.2.2).length + (st.2.1).length ≤ 401) ∧ ((st.1) = 0 → (st.2.2) = []) ∧ ((st.1) = 1 → 1 ≤ (st.2.2).length) ∧ ((st.1) < 2)
abbrev CjSp21 (To : List LB) (Tr : LB) (tag : Nat) (r : LB) (o : List LB) : Prop := (o ++ (lsI [] r).1 = To) ∧ ((lsI [] r).2 = Tr) ∧ (r.length ≤ 400) ∧ (o.length + r.length ≤ 401) ∧ (tag = 0 → o = []) ∧ (tag = 1 → 1 ≤ o.length) ∧ (tag < 2)
theorem mkISp21 (To : List LB) (Tr : LB) (tag : Nat) (r : LB) (o : List LB) (h : CjSp21 To Tr tag r o) : InvSp21 To Tr (tag, r, o) := h
theorem unISp21 (To : List LB) (Tr : LB) (tag : Nat) (r : LB) (o : List LB) (h : InvSp21 To Tr (tag, r, o)) : (o ++ (lsI [] r).1 = To) ∧ ((lsI [] r).2 = Tr) ∧ (r.length ≤ 400) ∧ (o.length + r.length ≤ 401) ∧ (tag = 0 → o = []) ∧ (tag = 1 → 1 ≤ o.length) ∧ (tag < 2) := h
def muSp21 (To : List LB) (Tr : LB) (st : Nat × LB × List LB) : Nat := (st.2.1).length
abbrev RHSp21 (To : List LB) (Tr : LB) (E' : Cx) (ex' : Ex) (epx' : LA) (hpx' : LE) (st : Nat × LB × List LB) (X : Nat → Value) : Prop := RoundH E' bodySp21 keepSp21 52 ex' 7 26 27 38 epSp21 hpSp21 epx' hpx' (InvSp21 To Tr) (muSp21 To Tr) (DSp21 To Tr) st X
noncomputable abbrev RNSp21_0 (h : LK) (x : Ex) (th : LA) (sg : List (Nat × Nat)) (m : Nat) (ep : LA) (hp : LE) : Bool := okRdH (code (tbl h) 2000 [] bodySp21 (envOf (headOf epSp21_0 keepSp21) 52) ⟨lhSet hpSp21_0 .leaf, 27, 0, 0⟩) x keepSp21 52 38 th sg 26 m ep hp
theorem stSp21_0 (To : List LB) (Tr r : LB) (o : List LB) {X : Nat → Value} {h : LK} (y : Nat × LB × List LB) {th : LA} {sg : List (Nat × Nat)} (ho : ∀ a' r', (a', r') ∈ h → HOk (cx (nuX (nuSp21_0 To Tr r o) (rX (roSp21_0 To Tr r o) X)) (nuX_one (nuL_one (l := nuSp21_0 To Tr r o) rfl)) 0 laidE laidE_stab) a' r') (hy : InvSp21 To Tr y) (lt : muSp21 To Tr y < muSp21 To Tr (0, r, o)) (ht : ThOk (cx (nuX (nuSp21_0 To Tr r o) (rX (roSp21_0 To Tr r o) X)) (nuX_one (nuL_one (l := nuSp21_0 To Tr r o) rfl)) 0 laidE laidE_stab) (DSp21 To Tr y X) th) (run : RNSp21_0 h .normal th sg 27 (epSp21 y) (hpSp21 y) = true) : RHSp21 To Tr E' x' e' h' (0, r, o) X :=
  RoundH.next (tb := tbl h) (L := []) (f := 2000) y ((tabkOk _ _).hyps ho) (LpOk.nil _) rfl hy lt ht run
theorem lvSp21_0 (To : List LB) (Tr r : LB) (o : List LB) {X : Nat → Value} {h : LK} {th : LA} {sg : List (Nat × Nat)} (hne : exB x' .normal = false) (ho : ∀ a' r', (a', r') ∈ h → HOk (cx (nuX (nuSp21_0 To Tr r o) (rX (roSp21_0 To Tr r o) X)) (nuX_one (nuL_one (l := nuSp21_0 To Tr r o) rfl)) 0 laidE laidE_stab) a' r') (ht : ThOk (cx (nuX (nuSp21_0 To Tr r o) (rX (roSp21_0 To Tr r o) X)) (nuX_one (nuL_one (l := nuSp21_0 To Tr r o) rfl)) 0 laidE laidE_stab) E' th) (run : RNSp21_0 h x' th sg 38 e' h' = true) : RHSp21 To Tr E' x' e' h' (0, r, o) X :=
  RoundH.leave (tb := tbl h) (L := []) (f := 2000) ((tabkOk _ _).hyps ho) (LpOk.nil _) rfl hne ht run
noncomputable abbrev RNSp21_1 (h : LK) (x : Ex) (th : LA) (sg : List (Nat × Nat)) (m : Nat) (ep : LA) (hp : LE) : Bool := okRdH (code (tbl h) 2000 [] bodySp21 (envOf (headOf epSp21_1 keepSp21) 52) ⟨lhSet hpSp21_1 .leaf, 27, 0, 0⟩) x keepSp21 52 38 th sg 26 m ep hp
theorem stSp21_1 (To : List LB) (Tr r : LB) (o : List LB) {X : Nat → Value} {h : LK} (y : Nat × LB × List LB) {th : LA} {sg : List (Nat × Nat)} (ho : ∀ a' r', (a', r') ∈ h → HOk (cx (nuX (nuSp21_1 To Tr r o) (rX (roSp21_1 To Tr r o) X)) (nuX_one (nuL_one (l := nuSp21_1 To Tr r o) rfl)) 0 laidE laidE_stab) a' r') (hy : InvSp21 To Tr y) (lt : muSp21 To Tr y < muSp21 To Tr (1, r, o)) (ht : ThOk (cx (nuX (nuSp21_1 To Tr r o) (rX (roSp21_1 To Tr r o) X)) (nuX_one (nuL_one (l := nuSp21_1 To Tr r o) rfl)) 0 laidE laidE_stab) (DSp21 To Tr y X) th) (run : RNSp21_1 h .normal th sg 27 (epSp21 y) (hpSp21 y) = true) : RHSp21 To Tr E' x' e' h' (1, r, o) X :=
  RoundH.next (tb := tbl h) (L := []) (f := 2000) y ((tabkOk _ _).hyps ho) (LpOk.nil _) rfl hy lt ht run
theorem lvSp21_1 (To : List LB) (Tr r : LB) (o : List LB) {X : Nat → Value} {h : LK} {th : LA} {sg : List (Nat × Nat)} (hne : exB x' .normal = false) (ho : ∀ a' r', (a', r') ∈ h → HOk (cx (nuX (nuSp21_1 To Tr r o) (rX (roSp21_1 To Tr r o) X)) (nuX_one (nuL_one (l := nuSp21_1 To Tr r o) rfl)) 0 laidE laidE_stab) a' r') (ht : ThOk (cx (nuX (nuSp21_1 To Tr r o) (rX (roSp21_1 To Tr r o) X)) (nuX_one (nuL_one (l := nuSp21_1 To Tr r o) rfl)) 0 laidE laidE_stab) E' th) (run : RNSp21_1 h x' th sg 38 e' h' = true) : RHSp21 To Tr E' x' e' h' (1, r, o) X :=
  RoundH.leave (tb := tbl h) (L := []) (f := 2000) ((tabkOk _ _).hyps ho) (LpOk.nil _) rfl hne ht run
def hySp21_p0 : LK := [(.rn, .x 2000000), (.bin .eql (.s 1 44) (.x 0), .b false), (.ext 117 [.x 0, .i .u8 (.ofNat 44)], .x 1), (.bin .lss (.x 1) (.i .i64 (.ofNat 0)), .b false), (.bin .add (.x 1) (.i .i64 (.ofNat 0)), .x 2), (.sub (.x 0) none (some (.x 2)), .x 3), (.call 65 [.x 3, .s 2 2336], .x 4), (.bin .neq (.x 4) (.s 0 0), .b true), (.ra (.x 2000000) [.x 4], .x 2000001), (.rf (.x 2000001) 1 16, .b true), (.bin .add (.x 1) (.i .i64 (.ofNat 1)), .x 5), (.sub (.x 0) (some (.x 5)) none, .x 6)]
theorem runSp21_p0 : RNSp21_0 hySp21_p0 .normal [(0, .x 6), (2000000, .x 2000001)] [(26, 28)] 27 epSp21_1 hpSp21_1 = true := by kernel_rfl
theorem nxSp21_p0 (To : List LB) (Tr : LB) (r : LB) (o : List LB) (X : Nat → Value) (hI : InvSp21 To Tr (0, r, o)) (h0 : ¬ ([u8 44] = r)) (h1 : ¬ (idxB r 44 < 0)) (h2 : ¬ (((trQ (List.take (Int.toNat ((idxB r 44))) r)).length : Int) = 0)) : RHSp21 To Tr E' x' e' h' (0, r, o) X := by
  obtain ⟨i0, i1, i2, i3, i4, i5, it⟩ := unISp21 To Tr 0 r o hI
  have := ix_bd r 44
  have := lenTake (l := r) (Q := (idxB r 44)) (by omega) (by omega)
  have := trQ_len (List.take (Int.toNat ((idxB r 44))) r)
  have := lenDrop (l := r) (P := (idxB r 44) + 1) (by omega) (by omega)
  refine stSp21_0 To Tr r o (h := hySp21_p0) (1, (List.drop (Int.toNat ((idxB r 44) + 1)) r), (([] : List LB) ++ [(trQ (List.take (Int.toNat ((idxB r 44))) r))])) ?_ (mkISp21 To Tr 1 (List.drop (Int.toNat ((idxB r 44) + 1)) r) (([] : List LB) ++ [(trQ (List.take (Int.toNat ((idxB r 44))) r))]) ⟨sp_1 (o := []) (by omega) (by assumption) (by have e := i0; rw [i4 rfl] at e; exact e), sp_t (by omega) i1, by rw [List.length_drop]; omega, by first | omega | (simp only [List.length_append, List.length_cons, List.length_nil, List.length_drop]; omega), fun h => by omega, fun _ => by simp, by omega⟩) (by show (List.drop _ r).length < r.length; rw [List.length_drop]; omega) (thXv (v := St' (List.drop (Int.toNat ((idxB r 44) + 1)) r)) rfl rfl (thXv (v := rwS (([] : List LB) ++ [(trQ (List.take (Int.toNat ((idxB r 44))) r))])) rfl rfl (thNil))) runSp21_p0
  unfold hySp21_p0
  exact hc (kRn (denX rfl)) <|
   hc (kEqS (isSx (l := [u8 44]) 1 44 rfl) (isX rfl) (decide_eq_false (by assumption))) <|
   hc (kExtI (n := idxB r 44) exFIx exAIx exBIx (isX rfl) (isZ (m := 44) rfl) (denX rfl) rfl) <|
   hc (ltcF rfl (by omega)) <|
   hc (adC rfl rfl (by omega)) <|
   hc (tkV rfl rfl rfl (by omega)) <|
   hc (hokTrim (s := (List.take (Int.toNat ((idxB r 44))) r)) (isX rfl) (isSx (l := [u8 32, u8 9]) 2 2336 rfl) (denX (congrArg (fun l => St' l) (trSQ _).symm)) (by omega) (by omega)) <|
   hc (kNeS (isX rfl) (isSx (l := ([] : LB)) 0 0 rfl) (bnT (nilF (by omega)))) <|
   hc (kRa (isX rfl) (isX rfl) (denX rfl)) <|
   hc (kRf (isX rfl) (by first | omega | (simp <;> omega)) (by first | omega | (simp <;> omega))) <|
   hc (adC rfl rfl (by omega)) <|
   hc (drV rfl rfl rfl (by omega)) <|
   hnil
def hySp21_p1 : LK := [(.rn, .x 2000002), (.bin .eql (.s 1 44) (.x 0), .b false), (.ext 117 [.x 0, .i .u8 (.ofNat 44)], .x 7), (.bin .lss (.x 7) (.i .i64 (.ofNat 0)), .b false), (.bin .add (.x 7) (.i .i64 (.ofNat 0)), .x 8), (.sub (.x 0) none (some (.x 8)), .x 9), (.call 65 [.x 9, .s 2 2336], .x 10), (.bin .neq (.x 10) (.s 0 0), .b false), (.bin .add (.x 7) (.i .i64 (.ofNat 1)), .x 11), (.sub (.x 0) (some (.x 11)) none, .x 12)]
theorem runSp21_p1 : RNSp21_0 hySp21_p1 .normal [(0, .x 12)] [] 27 epSp21_0 hpSp21_0 = true := by kernel_rfl
theorem nxSp21_p1 (To : List LB) (Tr : LB) (r : LB) (o : List LB) (X : Nat → Value) (hI : InvSp21 To Tr (0, r, o)) (h0 : ¬ ([u8 44] = r)) (h1 : ¬ (idxB r 44 < 0)) (h2 : ((trQ (List.take (Int.toNat ((idxB r 44))) r)).length : Int) = 0) : RHSp21 To Tr E' x' e' h' (0, r, o) X := by
  obtain ⟨i0, i1, i2, i3, i4, i5, it⟩ := unISp21 To Tr 0 r o hI
  have := ix_bd r 44
  have := lenTake (l := r) (Q := (idxB r 44)) (by omega) (by omega)
  have := trQ_len (List.take (Int.toNat ((idxB r 44))) r)
  have := lenDrop (l := r) (P := (idxB r 44) + 1) (by omega) (by omega)
  refine stSp21_0 To Tr r o (h := hySp21_p1) (0, (List.drop (Int.toNat ((idxB r 44) + 1)) r), ([] : List LB)) ?_ (mkISp21 To Tr 0 (List.drop (Int.toNat ((idxB r 44) + 1)) r) ([] : List LB) ⟨sp_0 (o := []) (by omega) (by assumption) (by have e := i0; rw [i4 rfl] at e; exact e), sp_t (by omega) i1, by rw [List.length_drop]; omega, by first | omega | (simp only [List.length_append, List.length_cons, List.length_nil, List.length_drop]; omega), fun _ => rfl, fun h => by omega, by omega⟩) (by show (List.drop _ r).length < r.length; rw [List.length_drop]; omega) (thXv (v := St' (List.drop (Int.toNat ((idxB r 44) + 1)) r)) rfl rfl (thNil)) runSp21_p1
  unfold hySp21_p1
  exact hc (kRn (denX rfl)) <|
   hc (kEqS (isSx (l := [u8 44]) 1 44 rfl) (isX rfl) (decide_eq_false (by assumption))) <|
   hc (kExtI (n := idxB r 44) exFIx exAIx exBIx (isX rfl) (isZ (m := 44) rfl) (denX rfl) rfl) <|
   hc (ltcF rfl (by omega)) <|
   hc (adC rfl rfl (by omega)) <|
   hc (tkV rfl rfl rfl (by omega)) <|
   hc (hokTrim (s := (List.take (Int.toNat ((idxB r 44))) r)) (isX rfl) (isSx (l := [u8 32, u8 9]) 2 2336 rfl) (denX (congrArg (fun l => St' l) (trSQ _).symm)) (by omega) (by omega)) <|
   hc (kNeS (isX rfl) (isSx (l := ([] : LB)) 0 0 rfl) (bnF (nilT (by omega)))) <|
   hc (adC rfl rfl (by omega)) <|
   hc (drV rfl rfl rfl (by omega)) <|
   hnil
def hySp21_p2 : LK := [(.rn, .x 2000003), (.bin .eql (.s 1 44) (.x 0), .b false), (.ext 117 [.x 0, .i .u8 (.ofNat 44)], .x 13), (.bin .lss (.x 13) (.i .i64 (.ofNat 0)), .b true)]
theorem runSp21_p2 : RNSp21_0 hySp21_p2 (.exit 2) [(0, .x 0)] [] 38 [(0, .yl 25), (2, .p 22 0)] [(21, .b ⟨35, .l [.nils], 0, 0, 0, false, false⟩), (22, .b ⟨9, .l [.x 0], 0, 0, 0, false, false⟩), (23, .b ⟨9, .l [.s 1 44], 0, 0, 0, false, false⟩), (24, .b ⟨3, .l [.i .i64 (.ofNat 0)], 0, 0, 0, false, false⟩), (25, .k 30 [(3, .p 21 0)] 17 0 .normal)] = true := by kernel_rfl
def hySp21_p3 : LK := [(.rn, .x 2000004), (.bin .eql (.s 1 44) (.x 0), .b true), (.sub (.x 0) none (some (.i .i64 (.ofNat 0))), .x 14), (.call 65 [.x 14, .s 2 2336], .x 15), (.bin .neq (.x 15) (.s 0 0), .b false), (.sub (.x 0) (some (.i .i64 (.ofNat 1))) none, .x 16)]
theorem runSp21_p3 : RNSp21_0 hySp21_p3 .normal [(0, .x 16)] [] 27 epSp21_0 hpSp21_0 = true := by kernel_rfl
theorem nxSp21_p3 (To : List LB) (Tr : LB) (r : LB) (o : List LB) (X : Nat → Value) (hI : InvSp21 To Tr (0, r, o)) (h0 : [u8 44] = r) : RHSp21 To Tr E' x' e' h' (0, r, o) X := by
  obtain ⟨i0, i1, i2, i3, i4, i5, it⟩ := unISp21 To Tr 0 r o hI
  have hr1 := congrArg List.length (‹[u8 44] = r›); simp only [List.length_cons, List.length_nil] at hr1
  have := lenTake (l := r) (Q := 0) (by omega) (by omega)
  have := trQ_len (List.take (Int.toNat (0)) r)
  have := lenDrop (l := r) (P := 1) (by omega) (by omega)
  refine stSp21_0 To Tr r o (h := hySp21_p3) (0, (List.drop (Int.toNat (1)) r), ([] : List LB)) ?_ (mkISp21 To Tr 0 (List.drop (Int.toNat (1)) r) ([] : List LB) ⟨sp_0e (o := []) (by assumption) (by have e := i0; rw [i4 rfl] at e; exact e), sp_te (by assumption) i1, by rw [List.length_drop]; omega, by first | omega | (simp only [List.length_append, List.length_cons, List.length_nil, List.length_drop]; omega), fun _ => rfl, fun h => by omega, by omega⟩) (by have := congrArg List.length (‹[u8 44] = r›); simp only [List.length_cons, List.length_nil] at this; show (List.drop _ r).length < r.length; rw [List.length_drop]; omega) (thXv (v := St' (List.drop (Int.toNat (1)) r)) rfl rfl (thNil)) runSp21_p3
  unfold hySp21_p3
  exact hc (kRn (denX rfl)) <|
   hc (kEqS (isSx (l := [u8 44]) 1 44 rfl) (isX rfl) (decide_eq_true (by assumption))) <|
   hc (tkC rfl rfl (by omega)) <|
   hc (hokTrim (s := (List.take (Int.toNat (0)) r)) (isX rfl) (isSx (l := [u8 32, u8 9]) 2 2336 rfl) (denX (congrArg (fun l => St' l) (trSQ _).symm)) (by omega) (by omega)) <|
   hc (kNeS (isX rfl) (isSx (l := ([] : LB)) 0 0 rfl) (bnF (nilT (by omega)))) <|
   hc (drC rfl rfl (by omega)) <|
   hnil
def hySp21_p4 : LK := [(.rn, .x 2000001), (.bin .eql (.s 1 44) (.x 0), .b false), (.ext 117 [.x 0, .i .u8 (.ofNat 44)], .x 1), (.bin .lss (.x 1) (.i .i64 (.ofNat 0)), .b false), (.bin .add (.x 1) (.i .i64 (.ofNat 0)), .x 2), (.sub (.x 0) none (some (.x 2)), .x 3), (.call 65 [.x 3, .s 2 2336], .x 4), (.bin .neq (.x 4) (.s 0 0), .b true), (.ra (.x 2000000) [.x 4], .x 2000002), (.rf (.x 2000002) 1 16, .b true), (.bin .add (.x 1) (.i .i64 (.ofNat 1)), .x 5), (.sub (.x 0) (some (.x 5)) none, .x 6)]
theorem runSp21_p4 : RNSp21_1 hySp21_p4 .normal [(0, .x 6), (2000000, .x 2000002)] [(26, 28)] 27 epSp21_1 hpSp21_1 = true := by kernel_rfl
theorem nxSp21_p4 (To : List LB) (Tr : LB) (r : LB) (o : List LB) (X : Nat → Value) (hI : InvSp21 To Tr (1, r, o)) (h0 : ¬ ([u8 44] = r)) (h1 : ¬ (idxB r 44 < 0)) (h2 : ¬ (((trQ (List.take (Int.toNat ((idxB r 44))) r)).length : Int) = 0)) : RHSp21 To Tr E' x' e' h' (1, r, o) X := by
  obtain ⟨i0, i1, i2, i3, i4, i5, it⟩ := unISp21 To Tr 1 r o hI
  have := ix_bd r 44
  have := lenTake (l := r) (Q := (idxB r 44)) (by omega) (by omega)
  have := trQ_len (List.take (Int.toNat ((idxB r 44))) r)
  have := lenDrop (l := r) (P := (idxB r 44) + 1) (by omega) (by omega)
  refine stSp21_1 To Tr r o (h := hySp21_p4) (1, (List.drop (Int.toNat ((idxB r 44) + 1)) r), (o ++ [(trQ (List.take (Int.toNat ((idxB r 44))) r))])) ?_ (mkISp21 To Tr 1 (List.drop (Int.toNat ((idxB r 44) + 1)) r) (o ++ [(trQ (List.take (Int.toNat ((idxB r 44))) r))]) ⟨sp_1 (by omega) (by assumption) i0, sp_t (by omega) i1, by rw [List.length_drop]; omega, by first | omega | (simp only [List.length_append, List.length_cons, List.length_nil, List.length_drop]; omega), fun h => by omega, fun _ => by simp, by omega⟩) (by show (List.drop _ r).length < r.length; rw [List.length_drop]; omega) (thXv (v := St' (List.drop (Int.toNat ((idxB r 44) + 1)) r)) rfl rfl (thXv (v := rwS (o ++ [(trQ (List.take (Int.toNat ((idxB r 44))) r))])) rfl rfl (thNil))) runSp21_p4
  unfold hySp21_p4
  exact hc (kRn (denX rfl)) <|
   hc (kEqS (isSx (l := [u8 44]) 1 44 rfl) (isX rfl) (decide_eq_false (by assumption))) <|
   hc (kExtI (n := idxB r 44) exFIx exAIx exBIx (isX rfl) (isZ (m := 44) rfl) (denX rfl) rfl) <|
   hc (ltcF rfl (by omega)) <|
   hc (adC rfl rfl (by omega)) <|
   hc (tkV rfl rfl rfl (by omega)) <|
   hc (hokTrim (s := (List.take (Int.toNat ((idxB r 44))) r)) (isX rfl) (isSx (l := [u8 32, u8 9]) 2 2336 rfl) (denX (congrArg (fun l => St' l) (trSQ _).symm)) (by omega) (by omega)) <|
   hc (kNeS (isX rfl) (isSx (l := ([] : LB)) 0 0 rfl) (bnT (nilF (by omega)))) <|
   hc (kRa (isX rfl) (isX rfl) (denX rfl)) <|
   hc (kRf (isX rfl) (by first | omega | (simp <;> omega)) (by first | omega | (simp <;> omega))) <|
   hc (adC rfl rfl (by omega)) <|
   hc (drV rfl rfl rfl (by omega)) <|
   hnil
def hySp21_p5 : LK := [(.rn, .x 2000003), (.bin .eql (.s 1 44) (.x 0), .b false), (.ext 117 [.x 0, .i .u8 (.ofNat 44)], .x 7), (.bin .lss (.x 7) (.i .i64 (.ofNat 0)), .b false), (.bin .add (.x 7) (.i .i64 (.ofNat 0)), .x 8), (.sub (.x 0) none (some (.x 8)), .x 9), (.call 65 [.x 9, .s 2 2336], .x 10), (.bin .neq (.x 10) (.s 0 0), .b false), (.bin .add (.x 7) (.i .i64 (.ofNat 1)), .x 11), (.sub (.x 0) (some (.x 11)) none, .x 12)]
theorem runSp21_p5 : RNSp21_1 hySp21_p5 .normal [(0, .x 12), (2000000, .x 2000000)] [(26, 26)] 27 epSp21_1 hpSp21_1 = true := by kernel_rfl
theorem nxSp21_p5 (To : List LB) (Tr : LB) (r : LB) (o : List LB) (X : Nat → Value) (hI : InvSp21 To Tr (1, r, o)) (h0 : ¬ ([u8 44] = r)) (h1 : ¬ (idxB r 44 < 0)) (h2 : ((trQ (List.take (Int.toNat ((idxB r 44))) r)).length : Int) = 0) : RHSp21 To Tr E' x' e' h' (1, r, o) X := by
  obtain ⟨i0, i1, i2, i3, i4, i5, it⟩ := unISp21 To Tr 1 r o hI
  have := ix_bd r 44
  have := lenTake (l := r) (Q := (idxB r 44)) (by omega) (by omega)
  have := trQ_len (List.take (Int.toNat ((idxB r 44))) r)
  have := lenDrop (l := r) (P := (idxB r 44) + 1) (by omega) (by omega)
  refine stSp21_1 To Tr r o (h := hySp21_p5) (1, (List.drop (Int.toNat ((idxB r 44) + 1)) r), o) ?_ (mkISp21 To Tr 1 (List.drop (Int.toNat ((idxB r 44) + 1)) r) o ⟨sp_0 (by omega) (by assumption) i0, sp_t (by omega) i1, by rw [List.length_drop]; omega, by first | omega | (simp only [List.length_append, List.length_cons, List.length_nil, List.length_drop]; omega), fun h => by omega, fun _ => i5 rfl, by omega⟩) (by show (List.drop _ r).length < r.length; rw [List.length_drop]; omega) (thXv (v := St' (List.drop (Int.toNat ((idxB r 44) + 1)) r)) rfl rfl (thXv (v := rwS o) rfl rfl (thNil))) runSp21_p5
  unfold hySp21_p5
  exact hc (kRn (denX rfl)) <|
   hc (kEqS (isSx (l := [u8 44]) 1 44 rfl) (isX rfl) (decide_eq_false (by assumption))) <|
   hc (kExtI (n := idxB r 44) exFIx exAIx exBIx (isX rfl) (isZ (m := 44) rfl) (denX rfl) rfl) <|
   hc (ltcF rfl (by omega)) <|
   hc (adC rfl rfl (by omega)) <|
   hc (tkV rfl rfl rfl (by omega)) <|
   hc (hokTrim (s := (List.take (Int.toNat ((idxB r 44))) r)) (isX rfl) (isSx (l := [u8 32, u8 9]) 2 2336 rfl) (denX (congrArg (fun l => St' l) (trSQ _).symm)) (by omega) (by omega)) <|
   hc (kNeS (isX rfl) (isSx (l := ([] : LB)) 0 0 rfl) (bnF (nilT (by omega)))) <|
   hc (adC rfl rfl (by omega)) <|
   hc (drV rfl rfl rfl (by omega)) <|
   hnil
def hySp21_p6 : LK := [(.rn, .x 2000004), (.bin .eql (.s 1 44) (.x 0), .b false), (.ext 117 [.x 0, .i .u8 (.ofNat 44)], .x 13), (.bin .lss (.x 13) (.i .i64 (.ofNat 0)), .b true)]
theorem runSp21_p6 : RNSp21_1 hySp21_p6 (.exit 2) [(0, .x 0), (2000000, .x 2000000)] [(26, 26)] 38 [(0, .yl 25), (2, .p 22 0)] [(21, .b ⟨35, .l [.sr 26], 0, 0, 0, false, false⟩), (22, .b ⟨9, .l [.x 0], 0, 0, 0, false, false⟩), (23, .b ⟨9, .l [.s 1 44], 0, 0, 0, false, false⟩), (24, .b ⟨3, .l [.i .i64 (.ofNat 0)], 0, 0, 0, false, false⟩), (25, .k 30 [(3, .p 21 0)] 17 0 .normal), (26, .r 2000000 9 1 false)] = true := by kernel_rfl
def hySp21_p7 : LK := [(.rn, .x 2000005), (.bin .eql (.s 1 44) (.x 0), .b true), (.sub (.x 0) none (some (.i .i64 (.ofNat 0))), .x 14), (.call 65 [.x 14, .s 2 2336], .x 15), (.bin .neq (.x 15) (.s 0 0), .b false), (.sub (.x 0) (some (.i .i64 (.ofNat 1))) none, .x 16)]
theorem runSp21_p7 : RNSp21_1 hySp21_p7 .normal [(0, .x 16), (2000000, .x 2000000)] [(26, 26)] 27 epSp21_1 hpSp21_1 = true := by kernel_rfl
theorem nxSp21_p7 (To : List LB) (Tr : LB) (r : LB) (o : List LB) (X : Nat → Value) (hI : InvSp21 To Tr (1, r, o)) (h0 : [u8 44] = r) : RHSp21 To Tr E' x' e' h' (1, r, o) X := by
  obtain ⟨i0, i1, i2, i3, i4, i5, it⟩ := unISp21 To Tr 1 r o hI
  have hr1 := congrArg List.length (‹[u8 44] = r›); simp only [List.length_cons, List.length_nil] at hr1
  have := lenTake (l := r) (Q := 0) (by omega) (by omega)
  have := trQ_len (List.take (Int.toNat (0)) r)
  have := lenDrop (l := r) (P := 1) (by omega) (by omega)
  refine stSp21_1 To Tr r o (h := hySp21_p7) (1, (List.drop (Int.toNat (1)) r), o) ?_ (mkISp21 To Tr 1 (List.drop (Int.toNat (1)) r) o ⟨sp_0e (by assumption) i0, sp_te (by assumption) i1, by rw [List.length_drop]; omega, by first | omega | (simp only [List.length_append, List.length_cons, List.length_nil, List.length_drop]; omega), fun h => by omega, fun _ => i5 rfl, by omega⟩) (by have := congrArg List.length (‹[u8 44] = r›); simp only [List.length_cons, List.length_nil] at this; show (List.drop _ r).length < r.length; rw [List.length_drop]; omega) (thXv (v := St' (List.drop (Int.toNat (1)) r)) rfl rfl (thXv (v := rwS o) rfl rfl (thNil))) runSp21_p7
  unfold hySp21_p7
  exact hc (kRn (denX rfl)) <|
   hc (kEqS (isSx (l := [u8 44]) 1 44 rfl) (isX rfl) (decide_eq_true (by assumption))) <|
   hc (tkC rfl rfl (by omega)) <|
   hc (hokTrim (s := (List.take (Int.toNat (0)) r)) (isX rfl) (isSx (l := [u8 32, u8 9]) 2 2336 rfl) (denX (congrArg (fun l => St' l) (trSQ _).symm)) (by omega) (by omega)) <|
   hc (kNeS (isX rfl) (isSx (l := ([] : LB)) 0 0 rfl) (bnF (nilT (by omega)))) <|
   hc (drC rfl rfl (by omega)) <|
   hnil
def nuESp21_0 (To : List LB) (Tr : LB) : List Value := [St' Tr]
def roESp21_0 (To : List LB) (Tr : LB) : List Value := []
noncomputable def ESp21_0 (To : List LB) (Tr : LB) : Cx := cx (nuX (nuESp21_0 To Tr) (rX (roESp21_0 To Tr) (fun _ => .bool true))) (nuX_one (nuL_one (l := nuESp21_0 To Tr) rfl)) 0 laidE laidE_stab
theorem roundsSp21_0 (To : List LB) (Tr : LB) (x0 : To.length = 0) (st : Nat × LB × List LB) (X : Nat → Value) (hI : InvSp21 To Tr st) : RHSp21 To Tr (ESp21_0 To Tr) (.exit 2) [(0, .yl 25), (2, .p 22 0)] [(21, .b ⟨35, .l [.nils], 0, 0, 0, false, false⟩), (22, .b ⟨9, .l [.x 0], 0, 0, 0, false, false⟩), (23, .b ⟨9, .l [.s 1 44], 0, 0, 0, false, false⟩), (24, .b ⟨3, .l [.i .i64 (.ofNat 0)], 0, 0, 0, false, false⟩), (25, .k 30 [(3, .p 21 0)] 17 0 .normal)] st X := by
  obtain ⟨tag, r, o⟩ := st
  have hI0 := hI
  obtain ⟨i0, i1, i2, i3, i4, i5, it⟩ := unISp21 To Tr tag r o hI
  rcases (show tag = 0 ∨ tag = 1 from by omega) with rfl | rfl
  · skip
    by_cases h0 : [u8 44] = r
    · exact nxSp21_p3 To Tr r o X hI0 h0
    · by_cases h1 : idxB r 44 < 0
      · skip
        have := ix_bd r 44
        refine lvSp21_0 To Tr r o (h := hySp21_p2) rfl ?_ (thXe (v := St' r) (u := St' Tr) rfl rfl (congrArg (fun l => St' l) (sp_r (by omega) i1)) (thNil)) runSp21_p2
        unfold hySp21_p2
        exact hc (kRn (denX rfl)) <|
         hc (kEqS (isSx (l := [u8 44]) 1 44 rfl) (isX rfl) (decide_eq_false (by assumption))) <|
         hc (kExtI (n := idxB r 44) exFIx exAIx exBIx (isX rfl) (isZ (m := 44) rfl) (denX rfl) rfl) <|
         hc (ltcT rfl (by omega)) <|
         hnil
      · by_cases h2 : ((trQ (List.take (Int.toNat ((idxB r 44))) r)).length : Int) = 0
        · exact nxSp21_p1 To Tr r o X hI0 h0 h1 h2
        · exact nxSp21_p0 To Tr r o X hI0 h0 h1 h2
  · skip
    by_cases h0 : [u8 44] = r
    · exact nxSp21_p7 To Tr r o X hI0 h0
    · by_cases h1 : idxB r 44 < 0
      · exfalso; have e := congrArg List.length (sp_o (by omega) i0); have := i5 rfl; omega
      · by_cases h2 : ((trQ (List.take (Int.toNat ((idxB r 44))) r)).length : Int) = 0
        · exact nxSp21_p5 To Tr r o X hI0 h0 h1 h2
        · exact nxSp21_p4 To Tr r o X hI0 h0 h1 h2
theorem lfOkSp21_0 {l : LF} {h : LH} (To : List LB) (Tr : LB) (x0 : To.length = 0) (st : Nat × LB × List LB) (hI : InvSp21 To Tr st) (hl : l.hp = some h) (hs : lfSame l h 52 keepSp21 (.exit 2) 7 26 38 = true) {th0 : LA} {sg0 : List (Nat × Nat)} (hth0 : ∀ X, ThOk (cx nu one 0 laidE laidE_stab) (DSp21 To Tr st X) th0) (h0 : startOk l h 52 26 27 th0 sg0 (epSp21 st) (hpSp21 st) = true) {thx : LA} (hthx : ThOk (ESp21_0 To Tr) (cx nu one 0 laidE laidE_stab) thx) (hx : exitOk l h 52 26 38 thx [(0, .yl 25), (2, .p 22 0)] [(21, .b ⟨35, .l [.nils], 0, 0, 0, false, false⟩), (22, .b ⟨9, .l [.x 0], 0, 0, 0, false, false⟩), (23, .b ⟨9, .l [.s 1 44], 0, 0, 0, false, false⟩), (24, .b ⟨3, .l [.i .i64 (.ofNat 0)], 0, 0, 0, false, false⟩), (25, .k 30 [(3, .p 21 0)] 17 0 .normal)] = true) : LfOk (cx nu one 0 laidE laidE_stab) bodySp21 l :=
  lfOkX (E := ESp21_0 To Tr) (InvSp21 To Tr) (muSp21 To Tr) (DSp21 To Tr) (fun _ _ => rfl) (fun _ _ => rfl) (fun _ _ => rfl) (fun st X t ht => nuX_keep.trans (rX_keep ((by decide : ∀ t, t ∈ keepSp21 → t < 1000000) t ht))) rfl rfl rfl hl hs ebSp21 rfl rfl st hI hth0 h0 hthx hx (roundsSp21_0 To Tr x0)
def nuESp21_1 (To : List LB) (Tr : LB) : List Value := [St' Tr]
def roESp21_1 (To : List LB) (Tr : LB) : List Value := [rwS To]
noncomputable def ESp21_1 (To : List LB) (Tr : LB) : Cx := cx (nuX (nuESp21_1 To Tr) (rX (roESp21_1 To Tr) (fun _ => .bool true))) (nuX_one (nuL_one (l := nuESp21_1 To Tr) rfl)) 0 laidE laidE_stab
theorem roundsSp21_1 (To : List LB) (Tr : LB) (x0 : ¬ To.length = 0) (st : Nat × LB × List LB) (X : Nat → Value) (hI : InvSp21 To Tr st) : RHSp21 To Tr (ESp21_1 To Tr) (.exit 2) [(0, .yl 25), (2, .p 22 0)] [(21, .b ⟨35, .l [.sr 26], 0, 0, 0, false, false⟩), (22, .b ⟨9, .l [.x 0], 0, 0, 0, false, false⟩), (23, .b ⟨9, .l [.s 1 44], 0, 0, 0, false, false⟩), (24, .b ⟨3, .l [.i .i64 (.ofNat 0)], 0, 0, 0, false, false⟩), (25, .k 30 [(3, .p 21 0)] 17 0 .normal), (26, .r 2000000 9 1 false)] st X := by
  obtain ⟨tag, r, o⟩ := st
  have hI0 := hI
  obtain ⟨i0, i1, i2, i3, i4, i5, it⟩ := unISp21 To Tr tag r o hI
  rcases (show tag = 0 ∨ tag = 1 from by omega) with rfl | rfl
  · skip
    by_cases h0 : [u8 44] = r
    · exact nxSp21_p3 To Tr r o X hI0 h0
    · by_cases h1 : idxB r 44 < 0
      · exfalso; have e := congrArg List.length (sp_o (by omega) i0); rw [i4 rfl] at e; exact x0 e.symm
      · by_cases h2 : ((trQ (List.take (Int.toNat ((idxB r 44))) r)).length : Int) = 0
        · exact nxSp21_p1 To Tr r o X hI0 h0 h1 h2
        · exact nxSp21_p0 To Tr r o X hI0 h0 h1 h2
  · skip
    by_cases h0 : [u8 44] = r
    · exact nxSp21_p7 To Tr r o X hI0 h0
    · by_cases h1 : idxB r 44 < 0
      · skip
        have := ix_bd r 44
        refine lvSp21_1 To Tr r o (h := hySp21_p6) rfl ?_ (thXe (v := St' r) (u := St' Tr) rfl rfl (congrArg (fun l => St' l) (sp_r (by omega) i1)) (thXe (v := rwS o) (u := rwS To) rfl rfl (congrArg rwS (sp_o (by omega) i0)) (thNil))) runSp21_p6
        unfold hySp21_p6
        exact hc (kRn (denX rfl)) <|
         hc (kEqS (isSx (l := [u8 44]) 1 44 rfl) (isX rfl) (decide_eq_false (by assumption))) <|
         hc (kExtI (n := idxB r 44) exFIx exAIx exBIx (isX rfl) (isZ (m := 44) rfl) (denX rfl) rfl) <|
         hc (ltcT rfl (by omega)) <|
         hnil
      · by_cases h2 : ((trQ (List.take (Int.toNat ((idxB r 44))) r)).length : Int) = 0
        · exact nxSp21_p5 To Tr r o X hI0 h0 h1 h2
        · exact nxSp21_p4 To Tr r o X hI0 h0 h1 h2
theorem lfOkSp21_1 {l : LF} {h : LH} (To : List LB) (Tr : LB) (x0 : ¬ To.length = 0) (st : Nat × LB × List LB) (hI : InvSp21 To Tr st) (hl : l.hp = some h) (hs : lfSame l h 52 keepSp21 (.exit 2) 7 26 38 = true) {th0 : LA} {sg0 : List (Nat × Nat)} (hth0 : ∀ X, ThOk (cx nu one 0 laidE laidE_stab) (DSp21 To Tr st X) th0) (h0 : startOk l h 52 26 27 th0 sg0 (epSp21 st) (hpSp21 st) = true) {thx : LA} (hthx : ThOk (ESp21_1 To Tr) (cx nu one 0 laidE laidE_stab) thx) (hx : exitOk l h 52 26 38 thx [(0, .yl 25), (2, .p 22 0)] [(21, .b ⟨35, .l [.sr 26], 0, 0, 0, false, false⟩), (22, .b ⟨9, .l [.x 0], 0, 0, 0, false, false⟩), (23, .b ⟨9, .l [.s 1 44], 0, 0, 0, false, false⟩), (24, .b ⟨3, .l [.i .i64 (.ofNat 0)], 0, 0, 0, false, false⟩), (25, .k 30 [(3, .p 21 0)] 17 0 .normal), (26, .r 2000000 9 1 false)] = true) : LfOk (cx nu one 0 laidE laidE_stab) bodySp21 l :=
  lfOkX (E := ESp21_1 To Tr) (InvSp21 To Tr) (muSp21 To Tr) (DSp21 To Tr) (fun _ _ => rfl) (fun _ _ => rfl) (fun _ _ => rfl) (fun st X t ht => nuX_keep.trans (rX_keep ((by decide : ∀ t, t ∈ keepSp21 → t < 1000000) t ht))) rfl rfl rfl hl hs ebSp21 rfl rfl st hI hth0 h0 hthx hx (roundsSp21_1 To Tr x0)
end Go.Proofs.YtacflaaahanhgaaDoor.octetLists
