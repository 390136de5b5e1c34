/- A part of the proof: an interpreter of the model's own code on partly known states, and that what it answers is what the program answers. No condition of its own. -/
import Derived.Test.YtlfmfmegnenohaaDoorSeatG1
import Derived.Test.YtlfmfmegnenohaaDoorHXpart4
import Derived.Test.YtlfmfmegnenohaaDoorAXro
import Derived.Test.YtlfmfmegnenohaaDoorHKA
import Derived.Test.YtlfmfmegnenohaaDoorHKI
import Derived.Test.YtlfmfmegnenohaaDoorHKJ
import Derived.Test.YtlfmfmegnenohaaDoorHKK
import Derived.Test.YtlfmfmegnenohaaDoorCT
import Derived.Test.YtlfmfmegnenohaaDoorAXcf
set_option maxRecDepth 100000
set_option linter.unusedVariables false
set_option linter.unusedSimpArgs false
namespace Go.Proofs.YtlfmfmegnenohaaDoor.cutterCuts
open Go Go.AX Go.Proofs Go.Proofs.YtlfmfmegnenohaaDoor
def laidE0 (w : World) : Prop := ∃ e fz, w.heap[0]? = some (.cells ⟨[.iface 73 (.agg #[typeHandle Tryd.prog 34])]⟩ e fz)
theorem laidE0_same {w w' : World} (h : laidE0 w) (hh : w'.heap[0]? = w.heap[0]?) : laidE0 w' := by
  obtain ⟨e, fz, hw⟩ := h
  exact ⟨e, fz, by rw [hh]; exact hw⟩
theorem laidE0_size {w : World} (h : laidE0 w) : 0 < w.heap.size := by
  obtain ⟨e, fz, hw⟩ := h
  rcases Nat.lt_or_ge 0 w.heap.size with h0 | h0
  · exact h0
  · rw [Array.getElem?_eq_none h0] at hw; cases hw
theorem geOf {C : Cx} {w : World} (hP : C.P = Tryd.prog) (h : laidE0 w) : ∃ e, GArr C w 0 e [.ifc 73 (.ag [.h 34])] := by
  obtain ⟨e, fz, h0⟩ := h
  refine ⟨e, _, fz, h0, rfl, fun j a hj => ?_⟩
  match j, hj with
  | 0, hj =>
    simp only [List.getElem?_cons_zero, Option.some.injEq] at hj
    subst hj
    refine ⟨.iface 73 (.agg #[typeHandle Tryd.prog 34]), rfl, ?_, rfl⟩
    simp only [Rel, RelL, hP]
    exact ⟨_, rfl, _, rfl, _, _, rfl, rfl, rfl⟩
  | j + 1, hj => simp at hj
/-- the variables that the runs read are laid -/
def laidE (w : World) : Prop := laidE0 w
theorem laidE_stab : ∀ w w' : World, (∀ k, k < 1 → w'.heap[k]? = w.heap[k]?) → laidE w → laidE w' := fun w w' h hE => laidE0_same hE (h 0 (by omega))
theorem laidE_size {w : World} (h : laidE w) : 1 ≤ w.heap.size := by
  have hE := h
  have := laidE0_size hE
  omega
noncomputable def H0 (e : Nat) : T Ent := T.set .leaf 0 (gBlk e (.l [.ifc 73 (.ag [.h 34])]))
theorem runP {nu : Nat → Value} {one : ∀ i, i < 1000000 → (nu i).oneCell' = true} {tb : Tab} (h : AllOk (cx nu one 1 laidE laidE_stab) tb) (hng : tb.ng = 1) {f g : Nat} {fi : FI} (hfi : tb.fn.get g = some fi) (hb : fi.body.isSome = true) {l : List AV} {args : List Value}
    (hr : ∀ e, okB (call tb f g l ⟨H0 e , 1, 0, 0⟩) = true) (hl : RelL (cx nu one 1 laidE laidE_stab) (fun _ => none) l args) (w : World) (hw : laidE w) :
    Calls Tryd.prog g ⟨args⟩ w fun e w' => e = .returned (.bool true) ∧ Go.AX.Below (Go.AX.Fz.lt w.heap.size) w w' := by
  have hE := id hw
  obtain ⟨e, g0⟩ := geOf (C := cx nu one 1 laidE laidE_stab) rfl hE
  obtain ⟨S, hS⟩ := okB_inv (hr e)
  refine (run_okG h (H := H0 e ) hfi hb (by rw [hng]; exact hS) hl w hw (laidE_size hw) fun v k hv => ?_).mono fun e' w' he => ?_
  · unfold H0 at hv
    rw [get_set _ _ _ _ (by omega)] at hv
    split at hv
    · rename_i e0; subst e0; injection hv with hv; subst hv
      exact ⟨by rw [hng]; omega, e, _, _, rfl, ⟨trivial, rfl⟩, g0⟩
    simp [T.get_leaf] at hv
  · obtain ⟨x, ρ, rfl, hx, hb⟩ := he
    simp only [Rel] at hx
    exact ⟨by rw [hx], hb⟩
theorem runS {nu : Nat → Value} {one : ∀ i, i < 1000000 → (nu i).oneCell' = true} {tb : Tab} (h : AllOk (cx nu one 1 laidE laidE_stab) tb) (hng : tb.ng = 1) {f g : Nat} {fi : FI} (hfi : tb.fn.get g = some fi) (hb : fi.body.isSome = true) {l : List AV} {args : List Value} {len n : Nat}
    (hr : ∀ e, okS (call tb f g l ⟨H0 e , 1, 0, 0⟩) len n = true) (hl : RelL (cx nu one 1 laidE laidE_stab) (fun _ => none) l args) (w : World) (hw : laidE w) :
    Calls Tryd.prog g ⟨args⟩ w fun e w' => e = .returned (St' (strB len n)) ∧ Go.AX.Below (Go.AX.Fz.lt w.heap.size) w w' := by
  have hE := id hw
  obtain ⟨e, g0⟩ := geOf (C := cx nu one 1 laidE laidE_stab) rfl hE
  obtain ⟨S, hS⟩ := okS_inv (hr e)
  refine (run_okG h (H := H0 e ) hfi hb (by rw [hng]; exact hS) hl w hw (laidE_size hw) fun v k hv => ?_).mono fun e' w' he => ?_
  · unfold H0 at hv
    rw [get_set _ _ _ _ (by omega)] at hv
    split at hv
    · rename_i e0; subst e0; injection hv with hv; subst hv
      exact ⟨by rw [hng]; omega, e, _, _, rfl, ⟨trivial, rfl⟩, g0⟩
    simp [T.get_leaf] at hv
  · obtain ⟨x, ρ, rfl, hx, hb⟩ := he
    simp only [Rel] at hx
    exact ⟨by rw [hx.1], hb⟩
theorem runA {nu : Nat → Value} {one : ∀ i, i < 1000000 → (nu i).oneCell' = true} {tb : Tab} (h : AllOk (cx nu one 1 laidE laidE_stab) tb) (hng : tb.ng = 1) {f g : Nat} {fi : FI} (hfi : tb.fn.get g = some fi) (hb : fi.body.isSome = true) {l : List AV} {args : List Value} {ra : AV} (hnr : noR 8 ra = true)
    (hr : ∀ e, okA (call tb f g l ⟨H0 e , 1, 0, 0⟩) ra = true) (hl : RelL (cx nu one 1 laidE laidE_stab) (fun _ => none) l args) (w : World) (hw : laidE w) :
    Calls Tryd.prog g ⟨args⟩ w fun e w' => ∃ x, e = .returned x ∧ Rel (cx nu one 1 laidE laidE_stab) (fun _ => none) ra x ∧ Go.AX.Below (Go.AX.Fz.lt w.heap.size) w w' := by
  have hE := id hw
  obtain ⟨e, g0⟩ := geOf (C := cx nu one 1 laidE laidE_stab) rfl hE
  obtain ⟨S, hS⟩ := okA_inv (hr e)
  refine (run_okG h (H := H0 e ) hfi hb (by rw [hng]; exact hS) hl w hw (laidE_size hw) fun v k hv => ?_).mono fun e' w' he => ?_
  · unfold H0 at hv
    rw [get_set _ _ _ _ (by omega)] at hv
    split at hv
    · rename_i e0; subst e0; injection hv with hv; subst hv
      exact ⟨by rw [hng]; omega, e, _, _, rfl, ⟨trivial, rfl⟩, g0⟩
    simp [T.get_leaf] at hv
  · obtain ⟨x, ρ, rfl, hx, hb⟩ := he
    exact ⟨x, rfl, noR_rel 8 _ hnr _ hx, hb⟩
theorem runPR {nu : Nat → Value} {one : ∀ i, i < 1000000 → (nu i).oneCell' = true} {tb : Tab} (h : AllOk (cx nu one 1 laidE laidE_stab) tb) (hng : tb.ng = 1) {f g : Nat} {fi : FI} (hfi : tb.fn.get g = some fi) (hb : fi.body.isSome = true) {l : List AV} {args : List Value} (rs0 : List Ent) (rs : List R)
    (hr : ∀ e, okB (call tb f g l ⟨addR 1 rs0 (H0 e ), 1 + rs0.length, 0, 0⟩) = true) (hl : RelL (cx nu one 1 laidE laidE_stab) (rhoA 1 rs) l args) (w : World) (hw : laidE w) (hlen : rs0.length = rs.length) (hbd : 1 + rs0.length ≤ 16777213) (hA : ∀ e, ∀ (j : Nat) (k : Ent) (r : R), rs0[j]? = some k → rs[j]? = some r → ArgAt (cx nu one 1 laidE laidE_stab) w (H0 e ) k r) (hnd : rs0.all roE = true) :
    Calls Tryd.prog g ⟨args⟩ w fun e w' => e = .returned (.bool true) ∧ Go.AX.Below (Go.AX.Fz.lt w.heap.size) w w' := by
  have hE := id hw
  obtain ⟨e, g0⟩ := geOf (C := cx nu one 1 laidE laidE_stab) rfl hE
  obtain ⟨S, hS⟩ := okB_inv (hr e)
  refine (run_okGA h (H := H0 e ) hfi hb rs0 rs (by rw [hng]; exact hS) (by rw [hng]; exact hl) w hw (laidE_size hw) hlen (by rw [hng]; exact hbd) (hA e ) hnd fun v k hv => ?_).mono fun e' w' he => ?_
  · unfold H0 at hv
    rw [get_set _ _ _ _ (by omega)] at hv
    split at hv
    · rename_i e0; subst e0; injection hv with hv; subst hv
      exact ⟨by rw [hng]; omega, e, _, _, rfl, ⟨trivial, rfl⟩, g0⟩
    simp [T.get_leaf] at hv
  · obtain ⟨x, ρ, rfl, hx, hb⟩ := he
    simp only [Rel] at hx
    exact ⟨by rw [hx], hb⟩
noncomputable def fk : FI := ⟨Tryd.f6.body, Tryd.f6.ntmps, Tryd.f6.results.toList, 0, none, []⟩
theorem fk_at : tab.fn.get 6 = some fk := by kernel_rfl
theorem fk_body : fk.body.isSome = true := by kernel_rfl
theorem kk (e : Nat) : okB (call tab 6000 6 [] ⟨H0 e , 1, 0, 0⟩) = true := by kernel_rfl
noncomputable def tabk : Tab := addSum tab 6 fk (.b true)
section
variable (nu : Nat → Value) (one : ∀ i, i < 1000000 → (nu i).oneCell' = true)
theorem sumk : SumOk (cx nu one 1 laidE laidE_stab) 6 (.b true) := fun w hi hs => by
  refine (runP (tabOk nu one 1 laidE laidE_stab) rfl fk_at fk_body kk (args := []) (by simp only [RelL]) w hi).mono fun e w' he => ?_
  exact ⟨.bool true, he.1, by simp only [Rel], he.2⟩
theorem tabkOk : AllOk (cx nu one 1 laidE laidE_stab) tabk := (tabOk nu one 1 laidE laidE_stab).sum (by omega) fk_at fk_body (sumk nu one)
end
theorem tu3 : Tryd.prog.underlying 3 = some (.int .i64) := by kernel_rfl
theorem tu5 : Tryd.prog.underlying 5 = some (.int .u8) := by kernel_rfl
theorem tu9 : Tryd.prog.underlying 9 = some .string := by kernel_rfl
noncomputable def tbl (h : LK) : Tab := { tabk with hyp := h }
theorem fiE : ∃ fi, tabk.fn.get 4 = some fi ∧ fi.body.isSome = true := ⟨_, rfl, by kernel_rfl⟩
abbrev CwR (g : Nat) (args : Array Value) (w : World) (v : Value) : Prop := Calls Tryd.prog g args w fun e w' => e = .returned v ∧ Go.AX.Below (Go.AX.Fz.lt w.heap.size) w w'
theorem runC {nu : Nat → Value} {one : ∀ i, i < 1000000 → (nu i).oneCell' = true} {tb : Tab} {ra : AV} {v : Value} (hnr : noR 8 ra = true) (h : AllOk (cx nu one 1 laidE laidE_stab) tb) (hng : tb.ng = 1) {f g : Nat} {fi : FI} (hfi : tb.fn.get g = some fi) (hb : fi.body.isSome = true) {l : List AV} {args : List Value}
    (hr : ∀ e, okA (call tb f g l ⟨H0 e , 1, 0, 0⟩) ra = true) (hl : RelL (cx nu one 1 laidE laidE_stab) (fun _ => none) l args) (w : World) (hw : laidE w) (hv : ∀ x, Rel (cx nu one 1 laidE laidE_stab) (fun _ => none) ra x → x = v) : CwR g ⟨args⟩ w v :=
  (runA h hng hfi hb hnr hr hl w hw).mono fun e w' he => by
    obtain ⟨x, rfl, hx, hb2⟩ := he
    exact ⟨by rw [hv x hx], hb2⟩
theorem isAg4 {C : Cx} {x y z w : AV} {u v a b : Value} (hx : Is C x u) (hy : Is C y v) (hz : Is C z a) (hw : Is C w b) : Is C (.ag [x, y, z, w]) (.agg #[u, v, a, b]) := fun ρ q h => by
  simp only [Rel, RelL] at h
  obtain ⟨l, rfl, c0, t0, rfl, h0, c1, t1, rfl, h1, c2, t2, rfl, h2, c3, t3, rfl, h3, rfl⟩ := h
  rw [hx ρ _ h0, hy ρ _ h1, hz ρ _ h2, hw ρ _ h3]
variable {nu : Nat → Value} {one : ∀ i, i < 1000000 → (nu i).oneCell' = true} {E' : Cx} {x' : Ex} {e' : LA} {h' : LE}
theorem fiNRIs : tabk.fn.get 7 = some (fI Tryd.f7 0) ∧ (fI Tryd.f7 0).body.isSome = true := ⟨rfl, by kernel_rfl⟩
def hyRIs_0 : LK := [(.bin .geq (.x 0) (.i .i64 (.ofNat 1)), .b true), (.bin .leq (.x 0) (.i .i64 (.ofNat 255)), .b true), (.bin .geq (.x 1) (.i .i64 (.ofNat 0)), .b true), (.bin .leq (.x 1) (.i .i64 (.ofNat 65535)), .b true), (.len (.x 2), .x 4), (.bin .leq (.x 4) (.i .i64 (.ofNat 65535)), .b true), (.bin .geq (.x 3) (.i .i64 (.ofNat 0)), .b true), (.bin .leq (.x 3) (.i .i64 (.ofNat 255)), .b true)]
theorem runRIs_0 (e : Nat) : okA (call (tbl hyRIs_0) 9000 7 [.ag [.x 0, .x 1, .x 2, .x 3]] ⟨H0 e , 1, 0, 0⟩) (.b true) = true := by kernel_rfl
def nuRIs_0 (T D : Int) (C : LB) (Q : Int) : List Value := [.int .i64 (T), .int .i64 (D), St' C, .int .i64 (Q), .int .i64 ((C.length : Int))]
theorem pathRIs_0 (T D : Int) (C : LB) (Q : Int) (b0 : -9223372036854775808 ≤ T) (b1 : T ≤ 9223372036854775807) (b2 : -9223372036854775808 ≤ D) (b3 : D ≤ 9223372036854775807) (b4 : C.length ≤ 9223372036854775807) (b5 : -9223372036854775808 ≤ Q) (b6 : Q ≤ 9223372036854775807) (h0 : 1 ≤ T) (h1 : T ≤ 255) (h2 : 0 ≤ D) (h3 : D ≤ 65535) (h4 : (C.length : Int) ≤ 65535) (h5 : 0 ≤ Q) (h6 : Q ≤ 255) (w : World) (hl : laidE w) : CwR 7 #[.agg #[.int .i64 T, .int .i64 D, St' C, .int .i64 Q]] w (.bool true) := by
  have ho : ∀ k r, (k, r) ∈ hyRIs_0 → HOk (cx (nuL (nuRIs_0 T D C Q)) (fun j _ => nuL_one (l := nuRIs_0 T D C Q) rfl j) 1 laidE laidE_stab) k r := by
    unfold hyRIs_0
    exact hc (gecT rfl (by omega)) <|
     hc (lecT rfl (by omega)) <|
     hc (gecT rfl (by omega)) <|
     hc (lecT rfl (by omega)) <|
     hc (lnV rfl rfl (by omega)) <|
     hc (lecT rfl (by omega)) <|
     hc (gecT rfl (by omega)) <|
     hc (lecT rfl (by omega)) <|
     hnil
  refine runC (tb := (tbl hyRIs_0)) (ra := .b true) rfl ((tabkOk (nuL (nuRIs_0 T D C Q)) (fun j _ => nuL_one (l := nuRIs_0 T D C Q) rfl j)).hyps ho) rfl fiNRIs.1 fiNRIs.2 (fun e => runRIs_0 e ) (args := [.agg #[.int .i64 T, .int .i64 D, St' C, .int .i64 Q]]) (by simp only [RelL, Rel]; exact ⟨_, _, rfl, ⟨_, rfl, ⟨_, _, rfl, rfl, ⟨_, _, rfl, rfl, ⟨_, _, rfl, rfl, ⟨_, _, rfl, rfl, rfl⟩⟩⟩⟩⟩, rfl⟩) w hl fun x hx => ?_
  simp only [Rel, RelL] at hx
  exact hx
def hyRIs_1 : LK := [(.bin .geq (.x 0) (.i .i64 (.ofNat 1)), .b false)]
theorem runRIs_1 (e : Nat) : okA (call (tbl hyRIs_1) 9000 7 [.ag [.x 0, .x 1, .x 2, .x 3]] ⟨H0 e , 1, 0, 0⟩) (.b false) = true := by kernel_rfl
def nuRIs_1 (T D : Int) (C : LB) (Q : Int) : List Value := [.int .i64 (T), .int .i64 (D), St' C, .int .i64 (Q)]
theorem pathRIs_1 (T D : Int) (C : LB) (Q : Int) (b0 : -9223372036854775808 ≤ T) (b1 : T ≤ 9223372036854775807) (b2 : -9223372036854775808 ≤ D) (b3 : D ≤ 9223372036854775807) (b4 : C.length ≤ 9223372036854775807) (b5 : -9223372036854775808 ≤ Q) (b6 : Q ≤ 9223372036854775807) (h0 : ¬ (1 ≤ T)) (w : World) (hl : laidE w) : CwR 7 #[.agg #[.int .i64 T, .int .i64 D, St' C, .int .i64 Q]] w (.bool false) := by
  have ho : ∀ k r, (k, r) ∈ hyRIs_1 → HOk (cx (nuL (nuRIs_1 T D C Q)) (fun j _ => nuL_one (l := nuRIs_1 T D C Q) rfl j) 1 laidE laidE_stab) k r := by
    unfold hyRIs_1
    exact hc (gecF rfl (by omega)) <|
     hnil
  refine runC (tb := (tbl hyRIs_1)) (ra := .b false) rfl ((tabkOk (nuL (nuRIs_1 T D C Q)) (fun j _ => nuL_one (l := nuRIs_1 T D C Q) rfl j)).hyps ho) rfl fiNRIs.1 fiNRIs.2 (fun e => runRIs_1 e ) (args := [.agg #[.int .i64 T, .int .i64 D, St' C, .int .i64 Q]]) (by simp only [RelL, Rel]; exact ⟨_, _, rfl, ⟨_, rfl, ⟨_, _, rfl, rfl, ⟨_, _, rfl, rfl, ⟨_, _, rfl, rfl, ⟨_, _, rfl, rfl, rfl⟩⟩⟩⟩⟩, rfl⟩) w hl fun x hx => ?_
  simp only [Rel, RelL] at hx
  exact hx
def hyRIs_2 : LK := [(.bin .geq (.x 0) (.i .i64 (.ofNat 1)), .b true), (.bin .leq (.x 0) (.i .i64 (.ofNat 255)), .b false)]
theorem runRIs_2 (e : Nat) : okA (call (tbl hyRIs_2) 9000 7 [.ag [.x 0, .x 1, .x 2, .x 3]] ⟨H0 e , 1, 0, 0⟩) (.b false) = true := by kernel_rfl
def nuRIs_2 (T D : Int) (C : LB) (Q : Int) : List Value := [.int .i64 (T), .int .i64 (D), St' C, .int .i64 (Q)]
theorem pathRIs_2 (T D : Int) (C : LB) (Q : Int) (b0 : -9223372036854775808 ≤ T) (b1 : T ≤ 9223372036854775807) (b2 : -9223372036854775808 ≤ D) (b3 : D ≤ 9223372036854775807) (b4 : C.length ≤ 9223372036854775807) (b5 : -9223372036854775808 ≤ Q) (b6 : Q ≤ 9223372036854775807) (h0 : 1 ≤ T) (h1 : ¬ (T ≤ 255)) (w : World) (hl : laidE w) : CwR 7 #[.agg #[.int .i64 T, .int .i64 D, St' C, .int .i64 Q]] w (.bool false) := by
  have ho : ∀ k r, (k, r) ∈ hyRIs_2 → HOk (cx (nuL (nuRIs_2 T D C Q)) (fun j _ => nuL_one (l := nuRIs_2 T D C Q) rfl j) 1 laidE laidE_stab) k r := by
    unfold hyRIs_2
    exact hc (gecT rfl (by omega)) <|
     hc (lecF rfl (by omega)) <|
     hnil
  refine runC (tb := (tbl hyRIs_2)) (ra := .b false) rfl ((tabkOk (nuL (nuRIs_2 T D C Q)) (fun j _ => nuL_one (l := nuRIs_2 T D C Q) rfl j)).hyps ho) rfl fiNRIs.1 fiNRIs.2 (fun e => runRIs_2 e ) (args := [.agg #[.int .i64 T, .int .i64 D, St' C, .int .i64 Q]]) (by simp only [RelL, Rel]; exact ⟨_, _, rfl, ⟨_, rfl, ⟨_, _, rfl, rfl, ⟨_, _, rfl, rfl, ⟨_, _, rfl, rfl, ⟨_, _, rfl, rfl, rfl⟩⟩⟩⟩⟩, rfl⟩) w hl fun x hx => ?_
  simp only [Rel, RelL] at hx
  exact hx
def hyRIs_3 : LK := [(.bin .geq (.x 0) (.i .i64 (.ofNat 1)), .b true), (.bin .leq (.x 0) (.i .i64 (.ofNat 255)), .b true), (.bin .geq (.x 1) (.i .i64 (.ofNat 0)), .b false)]
theorem runRIs_3 (e : Nat) : okA (call (tbl hyRIs_3) 9000 7 [.ag [.x 0, .x 1, .x 2, .x 3]] ⟨H0 e , 1, 0, 0⟩) (.b false) = true := by kernel_rfl
def nuRIs_3 (T D : Int) (C : LB) (Q : Int) : List Value := [.int .i64 (T), .int .i64 (D), St' C, .int .i64 (Q)]
theorem pathRIs_3 (T D : Int) (C : LB) (Q : Int) (b0 : -9223372036854775808 ≤ T) (b1 : T ≤ 9223372036854775807) (b2 : -9223372036854775808 ≤ D) (b3 : D ≤ 9223372036854775807) (b4 : C.length ≤ 9223372036854775807) (b5 : -9223372036854775808 ≤ Q) (b6 : Q ≤ 9223372036854775807) (h0 : 1 ≤ T) (h1 : T ≤ 255) (h2 : ¬ (0 ≤ D)) (w : World) (hl : laidE w) : CwR 7 #[.agg #[.int .i64 T, .int .i64 D, St' C, .int .i64 Q]] w (.bool false) := by
  have ho : ∀ k r, (k, r) ∈ hyRIs_3 → HOk (cx (nuL (nuRIs_3 T D C Q)) (fun j _ => nuL_one (l := nuRIs_3 T D C Q) rfl j) 1 laidE laidE_stab) k r := by
    unfold hyRIs_3
    exact hc (gecT rfl (by omega)) <|
     hc (lecT rfl (by omega)) <|
     hc (gecF rfl (by omega)) <|
     hnil
  refine runC (tb := (tbl hyRIs_3)) (ra := .b false) rfl ((tabkOk (nuL (nuRIs_3 T D C Q)) (fun j _ => nuL_one (l := nuRIs_3 T D C Q) rfl j)).hyps ho) rfl fiNRIs.1 fiNRIs.2 (fun e => runRIs_3 e ) (args := [.agg #[.int .i64 T, .int .i64 D, St' C, .int .i64 Q]]) (by simp only [RelL, Rel]; exact ⟨_, _, rfl, ⟨_, rfl, ⟨_, _, rfl, rfl, ⟨_, _, rfl, rfl, ⟨_, _, rfl, rfl, ⟨_, _, rfl, rfl, rfl⟩⟩⟩⟩⟩, rfl⟩) w hl fun x hx => ?_
  simp only [Rel, RelL] at hx
  exact hx
def hyRIs_4 : LK := [(.bin .geq (.x 0) (.i .i64 (.ofNat 1)), .b true), (.bin .leq (.x 0) (.i .i64 (.ofNat 255)), .b true), (.bin .geq (.x 1) (.i .i64 (.ofNat 0)), .b true), (.bin .leq (.x 1) (.i .i64 (.ofNat 65535)), .b false)]
theorem runRIs_4 (e : Nat) : okA (call (tbl hyRIs_4) 9000 7 [.ag [.x 0, .x 1, .x 2, .x 3]] ⟨H0 e , 1, 0, 0⟩) (.b false) = true := by kernel_rfl
def nuRIs_4 (T D : Int) (C : LB) (Q : Int) : List Value := [.int .i64 (T), .int .i64 (D), St' C, .int .i64 (Q)]
theorem pathRIs_4 (T D : Int) (C : LB) (Q : Int) (b0 : -9223372036854775808 ≤ T) (b1 : T ≤ 9223372036854775807) (b2 : -9223372036854775808 ≤ D) (b3 : D ≤ 9223372036854775807) (b4 : C.length ≤ 9223372036854775807) (b5 : -9223372036854775808 ≤ Q) (b6 : Q ≤ 9223372036854775807) (h0 : 1 ≤ T) (h1 : T ≤ 255) (h2 : 0 ≤ D) (h3 : ¬ (D ≤ 65535)) (w : World) (hl : laidE w) : CwR 7 #[.agg #[.int .i64 T, .int .i64 D, St' C, .int .i64 Q]] w (.bool false) := by
  have ho : ∀ k r, (k, r) ∈ hyRIs_4 → HOk (cx (nuL (nuRIs_4 T D C Q)) (fun j _ => nuL_one (l := nuRIs_4 T D C Q) rfl j) 1 laidE laidE_stab) k r := by
    unfold hyRIs_4
    exact hc (gecT rfl (by omega)) <|
     hc (lecT rfl (by omega)) <|
     hc (gecT rfl (by omega)) <|
     hc (lecF rfl (by omega)) <|
     hnil
  refine runC (tb := (tbl hyRIs_4)) (ra := .b false) rfl ((tabkOk (nuL (nuRIs_4 T D C Q)) (fun j _ => nuL_one (l := nuRIs_4 T D C Q) rfl j)).hyps ho) rfl fiNRIs.1 fiNRIs.2 (fun e => runRIs_4 e ) (args := [.agg #[.int .i64 T, .int .i64 D, St' C, .int .i64 Q]]) (by simp only [RelL, Rel]; exact ⟨_, _, rfl, ⟨_, rfl, ⟨_, _, rfl, rfl, ⟨_, _, rfl, rfl, ⟨_, _, rfl, rfl, ⟨_, _, rfl, rfl, rfl⟩⟩⟩⟩⟩, rfl⟩) w hl fun x hx => ?_
  simp only [Rel, RelL] at hx
  exact hx
def hyRIs_5 : LK := [(.bin .geq (.x 0) (.i .i64 (.ofNat 1)), .b true), (.bin .leq (.x 0) (.i .i64 (.ofNat 255)), .b true), (.bin .geq (.x 1) (.i .i64 (.ofNat 0)), .b true), (.bin .leq (.x 1) (.i .i64 (.ofNat 65535)), .b true), (.len (.x 2), .x 4), (.bin .leq (.x 4) (.i .i64 (.ofNat 65535)), .b false)]
theorem runRIs_5 (e : Nat) : okA (call (tbl hyRIs_5) 9000 7 [.ag [.x 0, .x 1, .x 2, .x 3]] ⟨H0 e , 1, 0, 0⟩) (.b false) = true := by kernel_rfl
def nuRIs_5 (T D : Int) (C : LB) (Q : Int) : List Value := [.int .i64 (T), .int .i64 (D), St' C, .int .i64 (Q), .int .i64 ((C.length : Int))]
theorem pathRIs_5 (T D : Int) (C : LB) (Q : Int) (b0 : -9223372036854775808 ≤ T) (b1 : T ≤ 9223372036854775807) (b2 : -9223372036854775808 ≤ D) (b3 : D ≤ 9223372036854775807) (b4 : C.length ≤ 9223372036854775807) (b5 : -9223372036854775808 ≤ Q) (b6 : Q ≤ 9223372036854775807) (h0 : 1 ≤ T) (h1 : T ≤ 255) (h2 : 0 ≤ D) (h3 : D ≤ 65535) (h4 : ¬ ((C.length : Int) ≤ 65535)) (w : World) (hl : laidE w) : CwR 7 #[.agg #[.int .i64 T, .int .i64 D, St' C, .int .i64 Q]] w (.bool false) := by
  have ho : ∀ k r, (k, r) ∈ hyRIs_5 → HOk (cx (nuL (nuRIs_5 T D C Q)) (fun j _ => nuL_one (l := nuRIs_5 T D C Q) rfl j) 1 laidE laidE_stab) k r := by
    unfold hyRIs_5
    exact hc (gecT rfl (by omega)) <|
     hc (lecT rfl (by omega)) <|
     hc (gecT rfl (by omega)) <|
     hc (lecT rfl (by omega)) <|
     hc (lnV rfl rfl (by omega)) <|
     hc (lecF rfl (by omega)) <|
     hnil
  refine runC (tb := (tbl hyRIs_5)) (ra := .b false) rfl ((tabkOk (nuL (nuRIs_5 T D C Q)) (fun j _ => nuL_one (l := nuRIs_5 T D C Q) rfl j)).hyps ho) rfl fiNRIs.1 fiNRIs.2 (fun e => runRIs_5 e ) (args := [.agg #[.int .i64 T, .int .i64 D, St' C, .int .i64 Q]]) (by simp only [RelL, Rel]; exact ⟨_, _, rfl, ⟨_, rfl, ⟨_, _, rfl, rfl, ⟨_, _, rfl, rfl, ⟨_, _, rfl, rfl, ⟨_, _, rfl, rfl, rfl⟩⟩⟩⟩⟩, rfl⟩) w hl fun x hx => ?_
  simp only [Rel, RelL] at hx
  exact hx
def hyRIs_6 : LK := [(.bin .geq (.x 0) (.i .i64 (.ofNat 1)), .b true), (.bin .leq (.x 0) (.i .i64 (.ofNat 255)), .b true), (.bin .geq (.x 1) (.i .i64 (.ofNat 0)), .b true), (.bin .leq (.x 1) (.i .i64 (.ofNat 65535)), .b true), (.len (.x 2), .x 4), (.bin .leq (.x 4) (.i .i64 (.ofNat 65535)), .b true), (.bin .geq (.x 3) (.i .i64 (.ofNat 0)), .b false)]
theorem runRIs_6 (e : Nat) : okA (call (tbl hyRIs_6) 9000 7 [.ag [.x 0, .x 1, .x 2, .x 3]] ⟨H0 e , 1, 0, 0⟩) (.b false) = true := by kernel_rfl
def nuRIs_6 (T D : Int) (C : LB) (Q : Int) : List Value := [.int .i64 (T), .int .i64 (D), St' C, .int .i64 (Q), .int .i64 ((C.length : Int))]
theorem pathRIs_6 (T D : Int) (C : LB) (Q : Int) (b0 : -9223372036854775808 ≤ T) (b1 : T ≤ 9223372036854775807) (b2 : -9223372036854775808 ≤ D) (b3 : D ≤ 9223372036854775807) (b4 : C.length ≤ 9223372036854775807) (b5 : -9223372036854775808 ≤ Q) (b6 : Q ≤ 9223372036854775807) (h0 : 1 ≤ T) (h1 : T ≤ 255) (h2 : 0 ≤ D) (h3 : D ≤ 65535) (h4 : (C.length : Int) ≤ 65535) (h5 : ¬ (0 ≤ Q)) (w : World) (hl : laidE w) : CwR 7 #[.agg #[.int .i64 T, .int .i64 D, St' C, .int .i64 Q]] w (.bool false) := by
  have ho : ∀ k r, (k, r) ∈ hyRIs_6 → HOk (cx (nuL (nuRIs_6 T D C Q)) (fun j _ => nuL_one (l := nuRIs_6 T D C Q) rfl j) 1 laidE laidE_stab) k r := by
    unfold hyRIs_6
    exact hc (gecT rfl (by omega)) <|
     hc (lecT rfl (by omega)) <|
     hc (gecT rfl (by omega)) <|
     hc (lecT rfl (by omega)) <|
     hc (lnV rfl rfl (by omega)) <|
     hc (lecT rfl (by omega)) <|
     hc (gecF rfl (by omega)) <|
     hnil
  refine runC (tb := (tbl hyRIs_6)) (ra := .b false) rfl ((tabkOk (nuL (nuRIs_6 T D C Q)) (fun j _ => nuL_one (l := nuRIs_6 T D C Q) rfl j)).hyps ho) rfl fiNRIs.1 fiNRIs.2 (fun e => runRIs_6 e ) (args := [.agg #[.int .i64 T, .int .i64 D, St' C, .int .i64 Q]]) (by simp only [RelL, Rel]; exact ⟨_, _, rfl, ⟨_, rfl, ⟨_, _, rfl, rfl, ⟨_, _, rfl, rfl, ⟨_, _, rfl, rfl, ⟨_, _, rfl, rfl, rfl⟩⟩⟩⟩⟩, rfl⟩) w hl fun x hx => ?_
  simp only [Rel, RelL] at hx
  exact hx
def hyRIs_7 : LK := [(.bin .geq (.x 0) (.i .i64 (.ofNat 1)), .b true), (.bin .leq (.x 0) (.i .i64 (.ofNat 255)), .b true), (.bin .geq (.x 1) (.i .i64 (.ofNat 0)), .b true), (.bin .leq (.x 1) (.i .i64 (.ofNat 65535)), .b true), (.len (.x 2), .x 4), (.bin .leq (.x 4) (.i .i64 (.ofNat 65535)), .b true), (.bin .geq (.x 3) (.i .i64 (.ofNat 0)), .b true), (.bin .leq (.x 3) (.i .i64 (.ofNat 255)), .b false)]
theorem runRIs_7 (e : Nat) : okA (call (tbl hyRIs_7) 9000 7 [.ag [.x 0, .x 1, .x 2, .x 3]] ⟨H0 e , 1, 0, 0⟩) (.b false) = true := by kernel_rfl
def nuRIs_7 (T D : Int) (C : LB) (Q : Int) : List Value := [.int .i64 (T), .int .i64 (D), St' C, .int .i64 (Q), .int .i64 ((C.length : Int))]
theorem pathRIs_7 (T D : Int) (C : LB) (Q : Int) (b0 : -9223372036854775808 ≤ T) (b1 : T ≤ 9223372036854775807) (b2 : -9223372036854775808 ≤ D) (b3 : D ≤ 9223372036854775807) (b4 : C.length ≤ 9223372036854775807) (b5 : -9223372036854775808 ≤ Q) (b6 : Q ≤ 9223372036854775807) (h0 : 1 ≤ T) (h1 : T ≤ 255) (h2 : 0 ≤ D) (h3 : D ≤ 65535) (h4 : (C.length : Int) ≤ 65535) (h5 : 0 ≤ Q) (h6 : ¬ (Q ≤ 255)) (w : World) (hl : laidE w) : CwR 7 #[.agg #[.int .i64 T, .int .i64 D, St' C, .int .i64 Q]] w (.bool false) := by
  have ho : ∀ k r, (k, r) ∈ hyRIs_7 → HOk (cx (nuL (nuRIs_7 T D C Q)) (fun j _ => nuL_one (l := nuRIs_7 T D C Q) rfl j) 1 laidE laidE_stab) k r := by
    unfold hyRIs_7
    exact hc (gecT rfl (by omega)) <|
     hc (lecT rfl (by omega)) <|
     hc (gecT rfl (by omega)) <|
     hc (lecT rfl (by omega)) <|
     hc (lnV rfl rfl (by omega)) <|
     hc (lecT rfl (by omega)) <|
     hc (gecT rfl (by omega)) <|
     hc (lecF rfl (by omega)) <|
     hnil
  refine runC (tb := (tbl hyRIs_7)) (ra := .b false) rfl ((tabkOk (nuL (nuRIs_7 T D C Q)) (fun j _ => nuL_one (l := nuRIs_7 T D C Q) rfl j)).hyps ho) rfl fiNRIs.1 fiNRIs.2 (fun e => runRIs_7 e ) (args := [.agg #[.int .i64 T, .int .i64 D, St' C, .int .i64 Q]]) (by simp only [RelL, Rel]; exact ⟨_, _, rfl, ⟨_, rfl, ⟨_, _, rfl, rfl, ⟨_, _, rfl, rfl, ⟨_, _, rfl, rfl, ⟨_, _, rfl, rfl, rfl⟩⟩⟩⟩⟩, rfl⟩) w hl fun x hx => ?_
  simp only [Rel, RelL] at hx
  exact hx
theorem callsRIs (T D : Int) (C : LB) (Q : Int) (b0 : -9223372036854775808 ≤ T) (b1 : T ≤ 9223372036854775807) (b2 : -9223372036854775808 ≤ D) (b3 : D ≤ 9223372036854775807) (b4 : C.length ≤ 9223372036854775807) (b5 : -9223372036854775808 ≤ Q) (b6 : Q ≤ 9223372036854775807) (w : World) (hl : laidE w) : CwR 7 #[.agg #[.int .i64 T, .int .i64 D, St' C, .int .i64 Q]] w (.bool (decide (isRB (T, D, C, Q)))) := by
  by_cases h0 : 1 ≤ T
  · by_cases h1 : T ≤ 255
    · by_cases h2 : 0 ≤ D
      · by_cases h3 : D ≤ 65535
        · by_cases h4 : (C.length : Int) ≤ 65535
          · by_cases h5 : 0 ≤ Q
            · by_cases h6 : Q ≤ 255
              · rw [show (.bool (decide (isRB (T, D, C, Q))) : Value) = (.bool true : Value) from by first | exact congrArg Value.bool (decide_eq_true (show 1 ≤ T ∧ T ≤ 255 ∧ 0 ≤ D ∧ D ≤ 65535 ∧ (C.length : Int) ≤ 65535 ∧ 0 ≤ Q ∧ Q ≤ 255 from ⟨by omega, by omega, by omega, by omega, by omega, by omega, by omega⟩)) | exact congrArg Value.bool (decide_eq_false (fun h => by have h : 1 ≤ T ∧ T ≤ 255 ∧ 0 ≤ D ∧ D ≤ 65535 ∧ (C.length : Int) ≤ 65535 ∧ 0 ≤ Q ∧ Q ≤ 255 := h; omega))]
                exact pathRIs_0 T D C Q b0 b1 b2 b3 b4 b5 b6 h0 h1 h2 h3 h4 h5 h6 w hl
              · rw [show (.bool (decide (isRB (T, D, C, Q))) : Value) = (.bool false : Value) from by first | exact congrArg Value.bool (decide_eq_true (show 1 ≤ T ∧ T ≤ 255 ∧ 0 ≤ D ∧ D ≤ 65535 ∧ (C.length : Int) ≤ 65535 ∧ 0 ≤ Q ∧ Q ≤ 255 from ⟨by omega, by omega, by omega, by omega, by omega, by omega, by omega⟩)) | exact congrArg Value.bool (decide_eq_false (fun h => by have h : 1 ≤ T ∧ T ≤ 255 ∧ 0 ≤ D ∧ D ≤ 65535 ∧ (C.length : Int) ≤ 65535 ∧ 0 ≤ Q ∧ Q ≤ 255 := h; omega))]
                exact pathRIs_7 T D C Q b0 b1 b2 b3 b4 b5 b6 h0 h1 h2 h3 h4 h5 h6 w hl
            · rw [show (.bool (decide (isRB (T, D, C, Q))) : Value) = (.bool false : Value) from by first | exact congrArg Value.bool (decide_eq_true (show 1 ≤ T ∧ T ≤ 255 ∧ 0 ≤ D ∧ D ≤ 65535 ∧ (C.length : Int) ≤ 65535 ∧ 0 ≤ Q ∧ Q ≤ 255 from ⟨by omega, by omega, by omega, by omega, by omega, by omega, by omega⟩)) | exact congrArg Value.bool (decide_eq_false (fun h => by have h : 1 ≤ T ∧ T ≤ 255 ∧ 0 ≤ D ∧ D ≤ 65535 ∧ (C.length : Int) ≤ 65535 ∧ 0 ≤ Q ∧ Q ≤ 255 := h; omega))]
              exact pathRIs_6 T D C Q b0 b1 b2 b3 b4 b5 b6 h0 h1 h2 h3 h4 h5 w hl
          · rw [show (.bool (decide (isRB (T, D, C, Q))) : Value) = (.bool false : Value) from by first | exact congrArg Value.bool (decide_eq_true (show 1 ≤ T ∧ T ≤ 255 ∧ 0 ≤ D ∧ D ≤ 65535 ∧ (C.length : Int) ≤ 65535 ∧ 0 ≤ Q ∧ Q ≤ 255 from ⟨by omega, by omega, by omega, by omega, by omega, by omega, by omega⟩)) | exact congrArg Value.bool (decide_eq_false (fun h => by have h : 1 ≤ T ∧ T ≤ 255 ∧ 0 ≤ D ∧ D ≤ 65535 ∧ (C.length : Int) ≤ 65535 ∧ 0 ≤ Q ∧ Q ≤ 255 := h; omega))]
            exact pathRIs_5 T D C Q b0 b1 b2 b3 b4 b5 b6 h0 h1 h2 h3 h4 w hl
        · rw [show (.bool (decide (isRB (T, D, C, Q))) : Value) = (.bool false : Value) from by first | exact congrArg Value.bool (decide_eq_true (show 1 ≤ T ∧ T ≤ 255 ∧ 0 ≤ D ∧ D ≤ 65535 ∧ (C.length : Int) ≤ 65535 ∧ 0 ≤ Q ∧ Q ≤ 255 from ⟨by omega, by omega, by omega, by omega, by omega, by omega, by omega⟩)) | exact congrArg Value.bool (decide_eq_false (fun h => by have h : 1 ≤ T ∧ T ≤ 255 ∧ 0 ≤ D ∧ D ≤ 65535 ∧ (C.length : Int) ≤ 65535 ∧ 0 ≤ Q ∧ Q ≤ 255 := h; omega))]
          exact pathRIs_4 T D C Q b0 b1 b2 b3 b4 b5 b6 h0 h1 h2 h3 w hl
      · rw [show (.bool (decide (isRB (T, D, C, Q))) : Value) = (.bool false : Value) from by first | exact congrArg Value.bool (decide_eq_true (show 1 ≤ T ∧ T ≤ 255 ∧ 0 ≤ D ∧ D ≤ 65535 ∧ (C.length : Int) ≤ 65535 ∧ 0 ≤ Q ∧ Q ≤ 255 from ⟨by omega, by omega, by omega, by omega, by omega, by omega, by omega⟩)) | exact congrArg Value.bool (decide_eq_false (fun h => by have h : 1 ≤ T ∧ T ≤ 255 ∧ 0 ≤ D ∧ D ≤ 65535 ∧ (C.length : Int) ≤ 65535 ∧ 0 ≤ Q ∧ Q ≤ 255 := h; omega))]
        exact pathRIs_3 T D C Q b0 b1 b2 b3 b4 b5 b6 h0 h1 h2 w hl
    · rw [show (.bool (decide (isRB (T, D, C, Q))) : Value) = (.bool false : Value) from by first | exact congrArg Value.bool (decide_eq_true (show 1 ≤ T ∧ T ≤ 255 ∧ 0 ≤ D ∧ D ≤ 65535 ∧ (C.length : Int) ≤ 65535 ∧ 0 ≤ Q ∧ Q ≤ 255 from ⟨by omega, by omega, by omega, by omega, by omega, by omega, by omega⟩)) | exact congrArg Value.bool (decide_eq_false (fun h => by have h : 1 ≤ T ∧ T ≤ 255 ∧ 0 ≤ D ∧ D ≤ 65535 ∧ (C.length : Int) ≤ 65535 ∧ 0 ≤ Q ∧ Q ≤ 255 := h; omega))]
      exact pathRIs_2 T D C Q b0 b1 b2 b3 b4 b5 b6 h0 h1 w hl
  · rw [show (.bool (decide (isRB (T, D, C, Q))) : Value) = (.bool false : Value) from by first | exact congrArg Value.bool (decide_eq_true (show 1 ≤ T ∧ T ≤ 255 ∧ 0 ≤ D ∧ D ≤ 65535 ∧ (C.length : Int) ≤ 65535 ∧ 0 ≤ Q ∧ Q ≤ 255 from ⟨by omega, by omega, by omega, by omega, by omega, by omega, by omega⟩)) | exact congrArg Value.bool (decide_eq_false (fun h => by have h : 1 ≤ T ∧ T ≤ 255 ∧ 0 ≤ D ∧ D ≤ 65535 ∧ (C.length : Int) ≤ 65535 ∧ 0 ≤ Q ∧ Q ≤ 255 := h; omega))]
    exact pathRIs_1 T D C Q b0 b1 b2 b3 b4 b5 b6 h0 w hl
theorem hokRIs {x0 r : AV} {T D : Int} {C : LB} {Q : Int} (i0 : Is (cx nu one 1 laidE laidE_stab) x0 (.agg #[.int .i64 T, .int .i64 D, St' C, .int .i64 Q])) (hr : Den (cx nu one 1 laidE laidE_stab) r (.bool (decide (isRB (T, D, C, Q))))) (b0 : -9223372036854775808 ≤ T) (b1 : T ≤ 9223372036854775807) (b2 : -9223372036854775808 ≤ D) (b3 : D ≤ 9223372036854775807) (b4 : C.length ≤ 9223372036854775807) (b5 : -9223372036854775808 ≤ Q) (b6 : Q ≤ 9223372036854775807) : HOk (cx nu one 1 laidE laidE_stab) (.call 7 [x0]) r := by
  intro ρ args ha w hl _
  simp only [RelL] at ha
  obtain ⟨v0, t0, rfl, a0, rfl⟩ := ha
  have e0 := i0 ρ _ a0; subst e0
  exact (callsRIs T D C Q b0 b1 b2 b3 b4 b5 b6 w hl).mono fun e w' he => ⟨_, he.1, hr ρ, he.2⟩
theorem fiNRBy : tabk.fn.get 8 = some (fI Tryd.f8 0) ∧ (fI Tryd.f8 0).body.isSome = true := ⟨rfl, by kernel_rfl⟩
def hyRBy_0 : LK := [(.call 7 [.ag [.x 0, .x 1, .x 2, .x 3]], .b true), (.conv 5 (.x 0), .x 4), (.bytes [.i .u8 (.ofNat 1), .x 4], .x 5), (.bin .quo (.x 1) (.i .i64 (.ofNat 256)), .x 6), (.conv 5 (.x 6), .x 7), (.bin .rem (.x 1) (.i .i64 (.ofNat 256)), .x 8), (.conv 5 (.x 8), .x 9), (.bytes [.x 7, .x 9], .x 10), (.bin .add (.x 5) (.x 10), .x 11), (.len (.x 2), .x 12), (.bin .quo (.x 12) (.i .i64 (.ofNat 256)), .x 13), (.conv 5 (.x 13), .x 14), (.bin .rem (.x 12) (.i .i64 (.ofNat 256)), .x 15), (.conv 5 (.x 15), .x 16), (.bytes [.x 14, .x 16], .x 17), (.bin .add (.x 11) (.x 17), .x 18), (.conv 5 (.x 3), .x 19), (.bytes [.x 19, .i .u8 (.ofNat 0)], .x 20), (.bin .add (.x 18) (.x 20), .x 21), (.bin .add (.x 21) (.x 2), .x 22), (.zer (.x 3), .x 23), (.bin .add (.x 22) (.x 23), .x 24)]
theorem runRBy_0 (e : Nat) : okA (call (tbl hyRBy_0) 9000 8 [.ag [.x 0, .x 1, .x 2, .x 3]] ⟨H0 e , 1, 0, 0⟩) (.x 24) = true := by kernel_rfl
def nuRBy_0 (T D : Int) (C : LB) (Q : Int) : List Value := [.int .i64 (T), .int .i64 (D), St' C, .int .i64 (Q), .int .u8 (T % 256), St' ([u8 1, u8 (T % 256)]), .int .i64 (D / 256), .int .u8 ((D / 256) % 256), .int .i64 (D % 256), .int .u8 ((D % 256)), St' ([u8 ((D / 256) % 256), u8 ((D % 256))]), St' ([u8 1, u8 (T % 256), u8 ((D / 256) % 256), u8 ((D % 256))]), .int .i64 ((C.length : Int)), .int .i64 ((C.length : Int) / 256), .int .u8 (((C.length : Int) / 256) % 256), .int .i64 ((C.length : Int) % 256), .int .u8 (((C.length : Int) % 256)), St' ([u8 (((C.length : Int) / 256) % 256), u8 (((C.length : Int) % 256))]), St' ([u8 1, u8 (T % 256), u8 ((D / 256) % 256), u8 ((D % 256)), u8 (((C.length : Int) / 256) % 256), u8 (((C.length : Int) % 256))]), .int .u8 (Q % 256), St' ([u8 (Q % 256), u8 0]), St' ([u8 1, u8 (T % 256), u8 ((D / 256) % 256), u8 ((D % 256)), u8 (((C.length : Int) / 256) % 256), u8 (((C.length : Int) % 256)), u8 (Q % 256), u8 0]), St' ([u8 1, u8 (T % 256), u8 ((D / 256) % 256), u8 ((D % 256)), u8 (((C.length : Int) / 256) % 256), u8 (((C.length : Int) % 256)), u8 (Q % 256), u8 0] ++ C), St' (List.replicate (Int.toNat (Q)) 0), St' ([u8 1, u8 (T % 256), u8 ((D / 256) % 256), u8 ((D % 256)), u8 (((C.length : Int) / 256) % 256), u8 (((C.length : Int) % 256)), u8 (Q % 256), u8 0] ++ (C ++ (List.replicate (Int.toNat (Q)) 0)))]
theorem pathRBy_0 (T D : Int) (C : LB) (Q : Int) (b0 : -9223372036854775808 ≤ T) (b1 : T ≤ 9223372036854775807) (b2 : -9223372036854775808 ≤ D) (b3 : D ≤ 9223372036854775807) (b4 : C.length ≤ 9223372036854775807) (b5 : -9223372036854775808 ≤ Q) (b6 : Q ≤ 9223372036854775807) (h0 : isRB (T, D, C, Q)) (w : World) (hl : laidE w) : CwR 8 #[.agg #[.int .i64 T, .int .i64 D, St' C, .int .i64 Q]] w (St' ([u8 1, u8 (T % 256), u8 ((D / 256) % 256), u8 ((D % 256)), u8 (((C.length : Int) / 256) % 256), u8 (((C.length : Int) % 256)), u8 (Q % 256), u8 0] ++ (C ++ (List.replicate (Int.toNat (Q)) 0)))) := by
  obtain ⟨r1, r2, r3, r4, r5, r6, r7⟩ : 1 ≤ T ∧ T ≤ 255 ∧ 0 ≤ D ∧ D ≤ 65535 ∧ (C.length : Int) ≤ 65535 ∧ 0 ≤ Q ∧ Q ≤ 255 := (by assumption : isRB (T, D, C, Q))
  have ho : ∀ k r, (k, r) ∈ hyRBy_0 → HOk (cx (nuL (nuRBy_0 T D C Q)) (fun j _ => nuL_one (l := nuRBy_0 T D C Q) rfl j) 1 laidE laidE_stab) k r := by
    unfold hyRBy_0
    exact hc (hokRIs (isAg4 (isX rfl) (isX rfl) (isX rfl) (isX rfl)) (denBT (decide_eq_true (by assumption))) (by omega) (by omega) (by omega) (by omega) (by omega) (by omega) (by omega)) <|
     hc (kConv8 (isX rfl) tu5 (denX rfl) rfl) <|
     hc (kBytesB (bs := [u8 1, u8 (T % 256)]) (.cons (isB8 (isZ (m := 1) rfl) (by omega) (by omega)) (.cons (isB8 (isX rfl) (by omega) (by omega)) .nil)) (denX rfl)) <|
     hc (kQuo (isX rfl) (isZ (m := 256) rfl) (denX rfl) (by omega) (by omega) rfl (fI64 (by omega) (by omega))) <|
     hc (kConv8 (isX rfl) tu5 (denX rfl) rfl) <|
     hc (kRem (isX rfl) (isZ (m := 256) rfl) (denX rfl) (by omega) (by omega) rfl) <|
     hc (kConvF (isX rfl) tu5 (denX rfl) (fU8 (by omega) (by omega))) <|
     hc (kBytesB (bs := [u8 ((D / 256) % 256), u8 ((D % 256))]) (.cons (isB8 (isX rfl) (by omega) (by omega)) (.cons (isB8 (isX rfl) (by omega) (by omega)) .nil)) (denX rfl)) <|
     hc (kCat (isX rfl) (isX rfl) (denX rfl) (by first | rfl | (simp; done)) (by first | omega | (simp <;> omega))) <|
     hc (lnV rfl rfl (by omega)) <|
     hc (kQuo (isX rfl) (isZ (m := 256) rfl) (denX rfl) (by omega) (by omega) rfl (fI64 (by omega) (by omega))) <|
     hc (kConv8 (isX rfl) tu5 (denX rfl) rfl) <|
     hc (kRem (isX rfl) (isZ (m := 256) rfl) (denX rfl) (by omega) (by omega) rfl) <|
     hc (kConvF (isX rfl) tu5 (denX rfl) (fU8 (by omega) (by omega))) <|
     hc (kBytesB (bs := [u8 (((C.length : Int) / 256) % 256), u8 (((C.length : Int) % 256))]) (.cons (isB8 (isX rfl) (by omega) (by omega)) (.cons (isB8 (isX rfl) (by omega) (by omega)) .nil)) (denX rfl)) <|
     hc (kCat (isX rfl) (isX rfl) (denX rfl) (by first | rfl | (simp; done)) (by first | omega | (simp <;> omega))) <|
     hc (kConv8 (isX rfl) tu5 (denX rfl) rfl) <|
     hc (kBytesB (bs := [u8 (Q % 256), u8 0]) (.cons (isB8 (isX rfl) (by omega) (by omega)) (.cons (isB8 (isZ (m := 0) rfl) (by omega) (by omega)) .nil)) (denX rfl)) <|
     hc (kCat (isX rfl) (isX rfl) (denX rfl) (by first | rfl | (simp; done)) (by first | omega | (simp <;> omega))) <|
     hc (kCat (isX rfl) (isX rfl) (denX rfl) (by first | rfl | (simp; done)) (by first | omega | (simp <;> omega))) <|
     hc (kZer (isX rfl) (by omega) (by omega) (denX rfl)) <|
     hc (kCat (isX rfl) (isX rfl) (denX rfl) (by first | rfl | (simp; done)) (by first | omega | (simp <;> omega))) <|
     hnil
  refine runC (tb := (tbl hyRBy_0)) (ra := .x 24) rfl ((tabkOk (nuL (nuRBy_0 T D C Q)) (fun j _ => nuL_one (l := nuRBy_0 T D C Q) rfl j)).hyps ho) rfl fiNRBy.1 fiNRBy.2 (fun e => runRBy_0 e ) (args := [.agg #[.int .i64 T, .int .i64 D, St' C, .int .i64 Q]]) (by simp only [RelL, Rel]; exact ⟨_, _, rfl, ⟨_, rfl, ⟨_, _, rfl, rfl, ⟨_, _, rfl, rfl, ⟨_, _, rfl, rfl, ⟨_, _, rfl, rfl, rfl⟩⟩⟩⟩⟩, rfl⟩) w hl fun x hx => ?_
  simp only [Rel, RelL] at hx
  exact hx
def hyRBy_1 : LK := [(.call 7 [.ag [.x 0, .x 1, .x 2, .x 3]], .b false)]
theorem runRBy_1 (e : Nat) : okA (call (tbl hyRBy_1) 9000 8 [.ag [.x 0, .x 1, .x 2, .x 3]] ⟨H0 e , 1, 0, 0⟩) (.s 0 0) = true := by kernel_rfl
def nuRBy_1 (T D : Int) (C : LB) (Q : Int) : List Value := [.int .i64 (T), .int .i64 (D), St' C, .int .i64 (Q)]
theorem pathRBy_1 (T D : Int) (C : LB) (Q : Int) (b0 : -9223372036854775808 ≤ T) (b1 : T ≤ 9223372036854775807) (b2 : -9223372036854775808 ≤ D) (b3 : D ≤ 9223372036854775807) (b4 : C.length ≤ 9223372036854775807) (b5 : -9223372036854775808 ≤ Q) (b6 : Q ≤ 9223372036854775807) (h0 : ¬ (isRB (T, D, C, Q))) (w : World) (hl : laidE w) : CwR 8 #[.agg #[.int .i64 T, .int .i64 D, St' C, .int .i64 Q]] w (St' ([] : LB)) := by
  have ho : ∀ k r, (k, r) ∈ hyRBy_1 → HOk (cx (nuL (nuRBy_1 T D C Q)) (fun j _ => nuL_one (l := nuRBy_1 T D C Q) rfl j) 1 laidE laidE_stab) k r := by
    unfold hyRBy_1
    exact hc (hokRIs (isAg4 (isX rfl) (isX rfl) (isX rfl) (isX rfl)) (denBF (by rw [decide_eq_false (by assumption)]; decide)) (by omega) (by omega) (by omega) (by omega) (by omega) (by omega) (by omega)) <|
     hnil
  refine runC (tb := (tbl hyRBy_1)) (ra := .s 0 0) rfl ((tabkOk (nuL (nuRBy_1 T D C Q)) (fun j _ => nuL_one (l := nuRBy_1 T D C Q) rfl j)).hyps ho) rfl fiNRBy.1 fiNRBy.2 (fun e => runRBy_1 e ) (args := [.agg #[.int .i64 T, .int .i64 D, St' C, .int .i64 Q]]) (by simp only [RelL, Rel]; exact ⟨_, _, rfl, ⟨_, rfl, ⟨_, _, rfl, rfl, ⟨_, _, rfl, rfl, ⟨_, _, rfl, rfl, ⟨_, _, rfl, rfl, rfl⟩⟩⟩⟩⟩, rfl⟩) w hl fun x hx => ?_
  simp only [Rel, RelL] at hx
  exact hx.1
theorem callsRBy (T D : Int) (C : LB) (Q : Int) (b0 : -9223372036854775808 ≤ T) (b1 : T ≤ 9223372036854775807) (b2 : -9223372036854775808 ≤ D) (b3 : D ≤ 9223372036854775807) (b4 : C.length ≤ 9223372036854775807) (b5 : -9223372036854775808 ≤ Q) (b6 : Q ≤ 9223372036854775807) (w : World) (hl : laidE w) : CwR 8 #[.agg #[.int .i64 T, .int .i64 D, St' C, .int .i64 Q]] w (St' (rbO (T, D, C, Q))) := by
  by_cases h0 : isRB (T, D, C, Q)
  · rw [show (St' (rbO (T, D, C, Q)) : Value) = (St' ([u8 1, u8 (T % 256), u8 ((D / 256) % 256), u8 ((D % 256)), u8 (((C.length : Int) / 256) % 256), u8 (((C.length : Int) % 256)), u8 (Q % 256), u8 0] ++ (C ++ (List.replicate (Int.toNat (Q)) 0))) : Value) from by rw [rbO]; first | (rw [if_pos (by assumption)]; rfl) | (rw [if_neg (by assumption)])]
    exact pathRBy_0 T D C Q b0 b1 b2 b3 b4 b5 b6 h0 w hl
  · rw [show (St' (rbO (T, D, C, Q)) : Value) = (St' ([] : LB) : Value) from by rw [rbO]; first | (rw [if_pos (by assumption)]; rfl) | (rw [if_neg (by assumption)])]
    exact pathRBy_1 T D C Q b0 b1 b2 b3 b4 b5 b6 h0 w hl
theorem hokRBy {x0 r : AV} {T D : Int} {C : LB} {Q : Int} (i0 : Is (cx nu one 1 laidE laidE_stab) x0 (.agg #[.int .i64 T, .int .i64 D, St' C, .int .i64 Q])) (hr : Den (cx nu one 1 laidE laidE_stab) r (St' (rbO (T, D, C, Q)))) (b0 : -9223372036854775808 ≤ T) (b1 : T ≤ 9223372036854775807) (b2 : -9223372036854775808 ≤ D) (b3 : D ≤ 9223372036854775807) (b4 : C.length ≤ 9223372036854775807) (b5 : -9223372036854775808 ≤ Q) (b6 : Q ≤ 9223372036854775807) : HOk (cx nu one 1 laidE laidE_stab) (.call 8 [x0]) r := by
  intro ρ args ha w hl _
  simp only [RelL] at ha
  obtain ⟨v0, t0, rfl, a0, rfl⟩ := ha
  have e0 := i0 ρ _ a0; subst e0
  exact (callsRBy T D C Q b0 b1 b2 b3 b4 b5 b6 w hl).mono fun e w' he => ⟨_, he.1, hr ρ, he.2⟩
end Go.Proofs.YtlfmfmegnenohaaDoor.cutterCuts
