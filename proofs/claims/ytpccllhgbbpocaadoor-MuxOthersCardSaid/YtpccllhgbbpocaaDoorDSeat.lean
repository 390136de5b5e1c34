/- A part of the proof: an interpreter of the model's own code on partly known states, and that what it answers is what the program answers. No condition of its own. -/
import Derived.Test.YtpccllhgbbpocaaDoorSeatD
set_option maxRecDepth 100000
set_option linter.unusedVariables false
namespace Go.Proofs.YtpccllhgbbpocaaDoor
open Go Go.AX Go.Proofs
open Go.RowKit (Below)
/-- the variable errors.errorType is laid -/
def laidE (w : World) : Prop := ∃ e fz, w.heap[0]? = some (.cells ⟨[.iface 142 (.agg #[typeHandle Tryd.prog 30])]⟩ e fz)
theorem laidE_stab : ∀ w w' : World, (∀ k, k < 1 → w'.heap[k]? = w.heap[k]?) → laidE w → laidE w' := fun w w' h ⟨e, fz, hw⟩ => ⟨e, fz, by rw [h 0 (by omega)]; exact hw⟩
theorem laidE_size {w : World} (h : laidE w) : 1 ≤ w.heap.size := by
  obtain ⟨e, fz, hw⟩ := h
  rcases Nat.eq_zero_or_pos w.heap.size with h0 | h0
  · rw [Array.getElem?_eq_none (by omega)] at hw; cases hw
  · exact h0
def isTrue : Option (AV × St) → Bool
  | some (.b true, _) => true
  | _ => false
theorem isTrue_inv : ∀ {r : Option (AV × St)}, isTrue r = true → ∃ S, r = some (.b true, S)
  | some (.b true, S), _ => ⟨S, rfl⟩
noncomputable def H0 (e : Nat) : T Blk := T.set .leaf 0 (gBlk e (.l [.ifc 142 (.ag [.h 30])]))
theorem runD {nu : Nat → Value} {one : ∀ i, (nu i).oneCell' = true} {tb : Tab} (h : AllOk (cx nu one 1 laidE laidE_stab) tb) (hng : tb.ng = 7) {f g : Nat} {fi : FI} (hfi : tb.fn.get g = some fi) (hb : fi.body.isSome = true) {l : List AV} {args : List Value}
    (hr : ∀ e, isTrue ((fs tb f).call g l ⟨H0 e, 7, 0, 0⟩) = true) (hl : RelL (cx nu one 1 laidE laidE_stab) (fun _ => none) l args) (w : World) (hw : laidE w) :
    Calls Tryd.prog g ⟨args⟩ w fun e w' => e = .returned (.bool true) ∧ Below w.heap.size w w' := by
  obtain ⟨e, fz, h0⟩ := id hw
  obtain ⟨S, hS⟩ := isTrue_inv (hr e)
  rw [run_fs] at hS
  refine (run_okH h (H := H0 e) hfi hb (by rw [hng]; exact hS) hl w hw (laidE_size hw) fun v k hv => ?_).mono fun e' w' he => ?_
  · have hv : (T.set T.leaf 0 (gBlk e (.l [.ifc 142 (.ag [.h 30])]))).get v = some k := hv
    rw [get_set _ _ _ _ (by omega)] at hv
    split at hv
    · rename_i e0; subst e0; injection hv with hv; subst hv
      refine ⟨by rw [hng]; omega, e, _, rfl, _, fz, h0, ?_, ?_⟩
      · simp only [RelL, Rel]; exact ⟨_, _, rfl, ⟨_, rfl, _, rfl, _, _, rfl, rfl, rfl⟩, rfl⟩
      · intro x hx; simp only [List.mem_singleton] at hx; subst hx; rfl
    · simp [T.get_leaf] at hv
  · obtain ⟨x, ρ, rfl, hx, hb⟩ := he
    simp only [Rel] at hx
    exact ⟨by rw [hx], hb⟩
end Go.Proofs.YtpccllhgbbpocaaDoor
