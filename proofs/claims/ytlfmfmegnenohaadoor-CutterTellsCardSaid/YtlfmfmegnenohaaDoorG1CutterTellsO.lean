/- A part of the proof: an interpreter of the model's own code on partly known states, and that what it answers is what the program answers. No condition of its own. -/
import Derived.Test.YtlfmfmegnenohaaDoorSeatG1
import Derived.Test.YtlfmfmegnenohaaDoorHXpart4
import Derived.Test.YtlfmfmegnenohaaDoorAXro
import Derived.Test.YtlfmfmegnenohaaDoorHKA
import Derived.Test.YtlfmfmegnenohaaDoorHKI
import Derived.Test.YtlfmfmegnenohaaDoorHKJ
import Derived.Test.YtlfmfmegnenohaaDoorHKK
import Derived.Test.YtlfmfmegnenohaaDoorHKN
import Derived.Test.YtlfmfmegnenohaaDoorCT
import Derived.Test.YtlfmfmegnenohaaDoorAXcf
set_option maxRecDepth 100000
set_option linter.unusedVariables false
set_option linter.unusedSimpArgs false
namespace Go.Proofs.YtlfmfmegnenohaaDoor.cutterTells
open Go Go.AX Go.Proofs Go.Proofs.YtlfmfmegnenohaaDoor
def laidE0 (w : World) : Prop := ∃ e fz, w.heap[0]? = some (.cells ⟨[.iface 73 (.agg #[typeHandle Tryd.prog 34])]⟩ e fz)
theorem laidE0_same {w w' : World} (h : laidE0 w) (hh : w'.heap[0]? = w.heap[0]?) : laidE0 w' := by
  obtain ⟨e, fz, hw⟩ := h
  exact ⟨e, fz, by rw [hh]; exact hw⟩
theorem laidE0_size {w : World} (h : laidE0 w) : 0 < w.heap.size := by
  obtain ⟨e, fz, hw⟩ := h
  rcases Nat.lt_or_ge 0 w.heap.size with h0 | h0
  · exact h0
  · rw [Array.getElem?_eq_none h0] at hw; cases hw
theorem geOf {C : Cx} {w : World} (hP : C.P = Tryd.prog) (h : laidE0 w) : ∃ e, GArr C w 0 e [.ifc 73 (.ag [.h 34])] := by
  obtain ⟨e, fz, h0⟩ := h
  refine ⟨e, _, fz, h0, rfl, fun j a hj => ?_⟩
  match j, hj with
  | 0, hj =>
    simp only [List.getElem?_cons_zero, Option.some.injEq] at hj
    subst hj
    refine ⟨.iface 73 (.agg #[typeHandle Tryd.prog 34]), rfl, ?_, rfl⟩
    simp only [Rel, RelL, hP]
    exact ⟨_, rfl, _, rfl, _, _, rfl, rfl, rfl⟩
  | j + 1, hj => simp at hj
/-- the variables that the runs read are laid -/
def laidE (w : World) : Prop := laidE0 w
theorem laidE_stab : ∀ w w' : World, (∀ k, k < 1 → w'.heap[k]? = w.heap[k]?) → laidE w → laidE w' := fun w w' h hE => laidE0_same hE (h 0 (by omega))
theorem laidE_size {w : World} (h : laidE w) : 1 ≤ w.heap.size := by
  have hE := h
  have := laidE0_size hE
  omega
noncomputable def H0 (e : Nat) : T Ent := T.set .leaf 0 (gBlk e (.l [.ifc 73 (.ag [.h 34])]))
theorem runP {nu : Nat → Value} {one : ∀ i, i < 1000000 → (nu i).oneCell' = true} {tb : Tab} (h : AllOk (cx nu one 1 laidE laidE_stab) tb) (hng : tb.ng = 1) {f g : Nat} {fi : FI} (hfi : tb.fn.get g = some fi) (hb : fi.body.isSome = true) {l : List AV} {args : List Value}
    (hr : ∀ e, okB (call tb f g l ⟨H0 e , 1, 0, 0⟩) = true) (hl : RelL (cx nu one 1 laidE laidE_stab) (fun _ => none) l args) (w : World) (hw : laidE w) :
    Calls Tryd.prog g ⟨args⟩ w fun e w' => e = .returned (.bool true) ∧ Go.AX.Below (Go.AX.Fz.lt w.heap.size) w w' := by
  have hE := id hw
  obtain ⟨e, g0⟩ := geOf (C := cx nu one 1 laidE laidE_stab) rfl hE
  obtain ⟨S, hS⟩ := okB_inv (hr e)
  refine (run_okG h (H := H0 e ) hfi hb (by rw [hng]; exact hS) hl w hw (laidE_size hw) fun v k hv => ?_).mono fun e' w' he => ?_
  · unfold H0 at hv
    rw [get_set _ _ _ _ (by omega)] at hv
    split at hv
    · rename_i e0; subst e0; injection hv with hv; subst hv
      exact ⟨by rw [hng]; omega, e, _, _, rfl, ⟨trivial, rfl⟩, g0⟩
    simp [T.get_leaf] at hv
  · obtain ⟨x, ρ, rfl, hx, hb⟩ := he
    simp only [Rel] at hx
    exact ⟨by rw [hx], hb⟩
theorem runS {nu : Nat → Value} {one : ∀ i, i < 1000000 → (nu i).oneCell' = true} {tb : Tab} (h : AllOk (cx nu one 1 laidE laidE_stab) tb) (hng : tb.ng = 1) {f g : Nat} {fi : FI} (hfi : tb.fn.get g = some fi) (hb : fi.body.isSome = true) {l : List AV} {args : List Value} {len n : Nat}
    (hr : ∀ e, okS (call tb f g l ⟨H0 e , 1, 0, 0⟩) len n = true) (hl : RelL (cx nu one 1 laidE laidE_stab) (fun _ => none) l args) (w : World) (hw : laidE w) :
    Calls Tryd.prog g ⟨args⟩ w fun e w' => e = .returned (St' (strB len n)) ∧ Go.AX.Below (Go.AX.Fz.lt w.heap.size) w w' := by
  have hE := id hw
  obtain ⟨e, g0⟩ := geOf (C := cx nu one 1 laidE laidE_stab) rfl hE
  obtain ⟨S, hS⟩ := okS_inv (hr e)
  refine (run_okG h (H := H0 e ) hfi hb (by rw [hng]; exact hS) hl w hw (laidE_size hw) fun v k hv => ?_).mono fun e' w' he => ?_
  · unfold H0 at hv
    rw [get_set _ _ _ _ (by omega)] at hv
    split at hv
    · rename_i e0; subst e0; injection hv with hv; subst hv
      exact ⟨by rw [hng]; omega, e, _, _, rfl, ⟨trivial, rfl⟩, g0⟩
    simp [T.get_leaf] at hv
  · obtain ⟨x, ρ, rfl, hx, hb⟩ := he
    simp only [Rel] at hx
    exact ⟨by rw [hx.1], hb⟩
theorem runA {nu : Nat → Value} {one : ∀ i, i < 1000000 → (nu i).oneCell' = true} {tb : Tab} (h : AllOk (cx nu one 1 laidE laidE_stab) tb) (hng : tb.ng = 1) {f g : Nat} {fi : FI} (hfi : tb.fn.get g = some fi) (hb : fi.body.isSome = true) {l : List AV} {args : List Value} {ra : AV} (hnr : noR 8 ra = true)
    (hr : ∀ e, okA (call tb f g l ⟨H0 e , 1, 0, 0⟩) ra = true) (hl : RelL (cx nu one 1 laidE laidE_stab) (fun _ => none) l args) (w : World) (hw : laidE w) :
    Calls Tryd.prog g ⟨args⟩ w fun e w' => ∃ x, e = .returned x ∧ Rel (cx nu one 1 laidE laidE_stab) (fun _ => none) ra x ∧ Go.AX.Below (Go.AX.Fz.lt w.heap.size) w w' := by
  have hE := id hw
  obtain ⟨e, g0⟩ := geOf (C := cx nu one 1 laidE laidE_stab) rfl hE
  obtain ⟨S, hS⟩ := okA_inv (hr e)
  refine (run_okG h (H := H0 e ) hfi hb (by rw [hng]; exact hS) hl w hw (laidE_size hw) fun v k hv => ?_).mono fun e' w' he => ?_
  · unfold H0 at hv
    rw [get_set _ _ _ _ (by omega)] at hv
    split at hv
    · rename_i e0; subst e0; injection hv with hv; subst hv
      exact ⟨by rw [hng]; omega, e, _, _, rfl, ⟨trivial, rfl⟩, g0⟩
    simp [T.get_leaf] at hv
  · obtain ⟨x, ρ, rfl, hx, hb⟩ := he
    exact ⟨x, rfl, noR_rel 8 _ hnr _ hx, hb⟩
theorem runPR {nu : Nat → Value} {one : ∀ i, i < 1000000 → (nu i).oneCell' = true} {tb : Tab} (h : AllOk (cx nu one 1 laidE laidE_stab) tb) (hng : tb.ng = 1) {f g : Nat} {fi : FI} (hfi : tb.fn.get g = some fi) (hb : fi.body.isSome = true) {l : List AV} {args : List Value} (rs0 : List Ent) (rs : List R)
    (hr : ∀ e, okB (call tb f g l ⟨addR 1 rs0 (H0 e ), 1 + rs0.length, 0, 0⟩) = true) (hl : RelL (cx nu one 1 laidE laidE_stab) (rhoA 1 rs) l args) (w : World) (hw : laidE w) (hlen : rs0.length = rs.length) (hbd : 1 + rs0.length ≤ 16777213) (hA : ∀ e, ∀ (j : Nat) (k : Ent) (r : R), rs0[j]? = some k → rs[j]? = some r → ArgAt (cx nu one 1 laidE laidE_stab) w (H0 e ) k r) (hnd : rs0.all roE = true) :
    Calls Tryd.prog g ⟨args⟩ w fun e w' => e = .returned (.bool true) ∧ Go.AX.Below (Go.AX.Fz.lt w.heap.size) w w' := by
  have hE := id hw
  obtain ⟨e, g0⟩ := geOf (C := cx nu one 1 laidE laidE_stab) rfl hE
  obtain ⟨S, hS⟩ := okB_inv (hr e)
  refine (run_okGA h (H := H0 e ) hfi hb rs0 rs (by rw [hng]; exact hS) (by rw [hng]; exact hl) w hw (laidE_size hw) hlen (by rw [hng]; exact hbd) (hA e ) hnd fun v k hv => ?_).mono fun e' w' he => ?_
  · unfold H0 at hv
    rw [get_set _ _ _ _ (by omega)] at hv
    split at hv
    · rename_i e0; subst e0; injection hv with hv; subst hv
      exact ⟨by rw [hng]; omega, e, _, _, rfl, ⟨trivial, rfl⟩, g0⟩
    simp [T.get_leaf] at hv
  · obtain ⟨x, ρ, rfl, hx, hb⟩ := he
    simp only [Rel] at hx
    exact ⟨by rw [hx], hb⟩
noncomputable def fk : FI := ⟨Tryd.f6.body, Tryd.f6.ntmps, Tryd.f6.results.toList, 0, none, []⟩
theorem fk_at : tab.fn.get 6 = some fk := by kernel_rfl
theorem fk_body : fk.body.isSome = true := by kernel_rfl
theorem kk (e : Nat) : okB (call tab 6000 6 [] ⟨H0 e , 1, 0, 0⟩) = true := by kernel_rfl
noncomputable def tabk : Tab := addSum tab 6 fk (.b true)
section
variable (nu : Nat → Value) (one : ∀ i, i < 1000000 → (nu i).oneCell' = true)
theorem sumk : SumOk (cx nu one 1 laidE laidE_stab) 6 (.b true) := fun w hi hs => by
  refine (runP (tabOk nu one 1 laidE laidE_stab) rfl fk_at fk_body kk (args := []) (by simp only [RelL]) w hi).mono fun e w' he => ?_
  exact ⟨.bool true, he.1, by simp only [Rel], he.2⟩
theorem tabkOk : AllOk (cx nu one 1 laidE laidE_stab) tabk := (tabOk nu one 1 laidE laidE_stab).sum (by omega) fk_at fk_body (sumk nu one)
end
theorem tu3 : Tryd.prog.underlying 3 = some (.int .i64) := by kernel_rfl
theorem tu9 : Tryd.prog.underlying 9 = some .string := by kernel_rfl
noncomputable def tbl (h : LK) : Tab := { tabk with hyp := h }
theorem fiE : ∃ fi, tabk.fn.get 5 = some fi ∧ fi.body.isSome = true := ⟨_, rfl, by kernel_rfl⟩
abbrev CwR (g : Nat) (args : Array Value) (w : World) (v : Value) : Prop := Calls Tryd.prog g args w fun e w' => e = .returned v ∧ Go.AX.Below (Go.AX.Fz.lt w.heap.size) w w'
theorem runC {nu : Nat → Value} {one : ∀ i, i < 1000000 → (nu i).oneCell' = true} {tb : Tab} {ra : AV} {v : Value} (hnr : noR 8 ra = true) (h : AllOk (cx nu one 1 laidE laidE_stab) tb) (hng : tb.ng = 1) {f g : Nat} {fi : FI} (hfi : tb.fn.get g = some fi) (hb : fi.body.isSome = true) {l : List AV} {args : List Value}
    (hr : ∀ e, okA (call tb f g l ⟨H0 e , 1, 0, 0⟩) ra = true) (hl : RelL (cx nu one 1 laidE laidE_stab) (fun _ => none) l args) (w : World) (hw : laidE w) (hv : ∀ x, Rel (cx nu one 1 laidE laidE_stab) (fun _ => none) ra x → x = v) : CwR g ⟨args⟩ w v :=
  (runA h hng hfi hb hnr hr hl w hw).mono fun e w' he => by
    obtain ⟨x, rfl, hx, hb2⟩ := he
    exact ⟨by rw [hv x hx], hb2⟩
theorem isAg4 {C : Cx} {x y z w : AV} {u v a b : Value} (hx : Is C x u) (hy : Is C y v) (hz : Is C z a) (hw : Is C w b) : Is C (.ag [x, y, z, w]) (.agg #[u, v, a, b]) := fun ρ q h => by
  simp only [Rel, RelL] at h
  obtain ⟨l, rfl, c0, t0, rfl, h0, c1, t1, rfl, h1, c2, t2, rfl, h2, c3, t3, rfl, h3, rfl⟩ := h
  rw [hx ρ _ h0, hy ρ _ h1, hz ρ _ h2, hw ρ _ h3]
end Go.Proofs.YtlfmfmegnenohaaDoor.cutterTells
