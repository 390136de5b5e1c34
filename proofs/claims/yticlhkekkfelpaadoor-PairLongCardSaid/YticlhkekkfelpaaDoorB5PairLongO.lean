/- A part of the proof: an interpreter of the model's own code on partly known states, and that what it answers is what the program answers. No condition of its own. -/
import Derived.Test.YticlhkekkfelpaaDoorSeatB5
import Derived.Test.YticlhkekkfelpaaDoorCXpart4
set_option maxRecDepth 100000
set_option linter.unusedVariables false
namespace Go.Proofs.YticlhkekkfelpaaDoor.pairLong
open Go Go.AX Go.Proofs Go.Proofs.YticlhkekkfelpaaDoor
def laidE0 (w : World) : Prop := ∃ e fz, w.heap[0]? = some (.cells ⟨[.iface 140 (.agg #[typeHandle Tryd.prog 26])]⟩ e fz)
theorem laidE0_same {w w' : World} (h : laidE0 w) (hh : w'.heap[0]? = w.heap[0]?) : laidE0 w' := by
  obtain ⟨e, fz, hw⟩ := h
  exact ⟨e, fz, by rw [hh]; exact hw⟩
theorem laidE0_size {w : World} (h : laidE0 w) : 0 < w.heap.size := by
  obtain ⟨e, fz, hw⟩ := h
  rcases Nat.lt_or_ge 0 w.heap.size with h0 | h0
  · exact h0
  · rw [Array.getElem?_eq_none h0] at hw; cases hw
theorem geOf {C : Cx} {w : World} (hP : C.P = Tryd.prog) (h : laidE0 w) : ∃ e, GArr C w 0 e [.ifc 140 (.ag [.h 26])] := by
  obtain ⟨e, fz, h0⟩ := h
  refine ⟨e, _, fz, h0, rfl, fun j a hj => ?_⟩
  match j, hj with
  | 0, hj =>
    simp only [List.getElem?_cons_zero, Option.some.injEq] at hj
    subst hj
    refine ⟨.iface 140 (.agg #[typeHandle Tryd.prog 26]), rfl, ?_, rfl⟩
    simp only [Rel, RelL, hP]
    exact ⟨_, rfl, _, rfl, _, _, rfl, rfl, rfl⟩
  | j + 1, hj => simp at hj
/-- the variables that the runs read are laid -/
def laidE (w : World) : Prop := laidE0 w
theorem laidE_stab : ∀ w w' : World, (∀ k, k < 1 → w'.heap[k]? = w.heap[k]?) → laidE w → laidE w' := fun w w' h hE => laidE0_same hE (h 0 (by omega))
theorem laidE_size {w : World} (h : laidE w) : 1 ≤ w.heap.size := by
  have hE := h
  have := laidE0_size hE
  omega
noncomputable def H0 (e : Nat) : T Ent := T.set .leaf 0 (gBlk e (.l [.ifc 140 (.ag [.h 26])]))
theorem runP {nu : Nat → Value} {one : ∀ i, (nu i).oneCell' = true} {tb : Tab} (h : AllOk (cx nu one 1 laidE laidE_stab) tb) (hng : tb.ng = 7) {f g : Nat} {fi : FI} (hfi : tb.fn.get g = some fi) (hb : fi.body.isSome = true) {l : List AV} {args : List Value}
    (hr : ∀ e, okB (call tb f g l ⟨H0 e , 7, 0, 0⟩) = true) (hl : RelL (cx nu one 1 laidE laidE_stab) (fun _ => none) l args) (w : World) (hw : laidE w) :
    Calls Tryd.prog g ⟨args⟩ w fun e w' => e = .returned (.bool true) ∧ Go.AX.Below w.heap.size w w' := by
  have hE := id hw
  obtain ⟨e, g0⟩ := geOf (C := cx nu one 1 laidE laidE_stab) rfl hE
  obtain ⟨S, hS⟩ := okB_inv (hr e)
  refine (run_okG h (H := H0 e ) hfi hb (by rw [hng]; exact hS) hl w hw (laidE_size hw) fun v k hv => ?_).mono fun e' w' he => ?_
  · unfold H0 at hv
    rw [get_set _ _ _ _ (by omega)] at hv
    split at hv
    · rename_i e0; subst e0; injection hv with hv; subst hv
      exact ⟨by rw [hng]; omega, e, _, _, rfl, ⟨trivial, rfl⟩, g0⟩
    simp [T.get_leaf] at hv
  · obtain ⟨x, ρ, rfl, hx, hb⟩ := he
    simp only [Rel] at hx
    exact ⟨by rw [hx], hb⟩
theorem runS {nu : Nat → Value} {one : ∀ i, (nu i).oneCell' = true} {tb : Tab} (h : AllOk (cx nu one 1 laidE laidE_stab) tb) (hng : tb.ng = 7) {f g : Nat} {fi : FI} (hfi : tb.fn.get g = some fi) (hb : fi.body.isSome = true) {l : List AV} {args : List Value} {len n : Nat}
    (hr : ∀ e, okS (call tb f g l ⟨H0 e , 7, 0, 0⟩) len n = true) (hl : RelL (cx nu one 1 laidE laidE_stab) (fun _ => none) l args) (w : World) (hw : laidE w) :
    Calls Tryd.prog g ⟨args⟩ w fun e w' => e = .returned (St' (strB len n)) ∧ Go.AX.Below w.heap.size w w' := by
  have hE := id hw
  obtain ⟨e, g0⟩ := geOf (C := cx nu one 1 laidE laidE_stab) rfl hE
  obtain ⟨S, hS⟩ := okS_inv (hr e)
  refine (run_okG h (H := H0 e ) hfi hb (by rw [hng]; exact hS) hl w hw (laidE_size hw) fun v k hv => ?_).mono fun e' w' he => ?_
  · unfold H0 at hv
    rw [get_set _ _ _ _ (by omega)] at hv
    split at hv
    · rename_i e0; subst e0; injection hv with hv; subst hv
      exact ⟨by rw [hng]; omega, e, _, _, rfl, ⟨trivial, rfl⟩, g0⟩
    simp [T.get_leaf] at hv
  · obtain ⟨x, ρ, rfl, hx, hb⟩ := he
    simp only [Rel] at hx
    exact ⟨by rw [hx.1], hb⟩
noncomputable def fk : FI := ⟨Tryd.f11.body, Tryd.f11.ntmps, Tryd.f11.results.toList, 0, none, []⟩
theorem fk_at : tab.fn.get 11 = some fk := by kernel_rfl
theorem fk_body : fk.body.isSome = true := by kernel_rfl
theorem kk (e : Nat) : okB (call tab 6000 11 [] ⟨H0 e , 7, 0, 0⟩) = true := by kernel_rfl
noncomputable def tabk : Tab := addSum tab 11 fk (.b true)
section
variable (nu : Nat → Value) (one : ∀ i, (nu i).oneCell' = true)
theorem sumk : SumOk (cx nu one 1 laidE laidE_stab) 11 (.b true) := fun w hi hs => by
  refine (runP (tabOk nu one 1 laidE laidE_stab) rfl fk_at fk_body kk (args := []) (by simp only [RelL]) w hi).mono fun e w' he => ?_
  exact ⟨.bool true, he.1, by simp only [Rel], he.2⟩
theorem tabkOk : AllOk (cx nu one 1 laidE laidE_stab) tabk := (tabOk nu one 1 laidE laidE_stab).sum (by omega) fk_at fk_body (sumk nu one)
end
theorem tu3 : Tryd.prog.underlying 3 = some (.int .i64) := by kernel_rfl
end Go.Proofs.YticlhkekkfelpaaDoor.pairLong
