/- A part of the proof: an interpreter of the model's own code on partly known states, and that what it answers is what the program answers. No condition of its own. -/
import Derived.Test.YtpccllhgbbpocaaDoorSeatD
set_option maxRecDepth 100000
set_option linter.unusedVariables false
namespace Go.Proofs.YtpccllhgbbpocaaDoor
open Go Go.AX Go.Proofs
open Go.RowKit (Below)
/-- the variable errors.errorType is laid -/
def laidE (w : World) : Prop := ∃ e fz, w.heap[0]? = some (.cells ⟨[.iface 142 (.agg #[typeHandle Tryd.prog 30])]⟩ e fz)
theorem laidE_stab : ∀ w w' : World, (∀ k, k < 1 → w'.heap[k]? = w.heap[k]?) → laidE w → laidE w' := fun w w' h ⟨e, fz, hw⟩ => ⟨e, fz, by rw [h 0 (by omega)]; exact hw⟩
theorem laidE_size {w : World} (h : laidE w) : 1 ≤ w.heap.size := by
  obtain ⟨e, fz, hw⟩ := h
  rcases Nat.eq_zero_or_pos w.heap.size with h0 | h0
  · rw [Array.getElem?_eq_none (by omega)] at hw; cases hw
  · exact h0
/-- all of n numbers from lo on -/
noncomputable def allN (p : Nat → Bool) (lo n : Nat) : Bool := Nat.rec (motive := fun _ => Bool) true (fun j ih => Bool.rec (motive := fun _ => Bool) false ih (p (lo + j))) n
theorem allN_at {p : Nat → Bool} {lo : Nat} : ∀ {n : Nat}, allN p lo n = true → ∀ i, lo ≤ i → i < lo + n → p i = true
  | 0, _, i, h1, h2 => by omega
  | n + 1, h, i, h1, h2 => by
    have h : Bool.rec (motive := fun _ => Bool) false (allN p lo n) (p (lo + n)) = true := h
    cases hp : p (lo + n) with
    | false => rw [hp] at h; cases h
    | true =>
      rw [hp] at h
      have h : allN p lo n = true := h
      by_cases e : i = lo + n
      · subst e; exact hp
      · exact allN_at h i h1 (by omega)
noncomputable def H0 (e : Nat) : T Blk := T.set .leaf 0 (gBlk e (.l [.ifc 142 (.ag [.h 30])]))
theorem runD {nu : Nat → Value} {one : ∀ i, (nu i).oneCell' = true} {tb : Tab} (h : AllOk (cx nu one 1 laidE laidE_stab) tb) (hng : tb.ng = 7) {f g : Nat} {fi : FI} (hfi : tb.fn.get g = some fi) (hb : fi.body.isSome = true) {l : List AV} {args : List Value}
    (hr : ∀ e, (cs tb f).call g l isB ⟨H0 e, 7, 0, 0⟩ = true) (hl : RelL (cx nu one 1 laidE laidE_stab) (fun _ => none) l args) (w : World) (hw : laidE w) :
    Calls Tryd.prog g ⟨args⟩ w fun e w' => e = .returned (.bool true) ∧ Below w.heap.size w w' := by
  obtain ⟨e, fz, h0⟩ := id hw
  obtain ⟨S, hS⟩ := run_cs (hr e)
  refine (run_okH h (H := H0 e) hfi hb (by rw [hng]; exact hS) hl w hw (laidE_size hw) fun v k hv => ?_).mono fun e' w' he => ?_
  · have hv : (T.set T.leaf 0 (gBlk e (.l [.ifc 142 (.ag [.h 30])]))).get v = some k := hv
    rw [get_set _ _ _ _ (by omega)] at hv
    split at hv
    · rename_i e0; subst e0; injection hv with hv; subst hv
      refine ⟨by rw [hng]; omega, e, _, rfl, _, fz, h0, ?_, ?_⟩
      · simp only [RelL, Rel]; exact ⟨_, _, rfl, ⟨_, rfl, _, rfl, _, _, rfl, rfl, rfl⟩, rfl⟩
      · intro x hx; simp only [List.mem_singleton] at hx; subst hx; rfl
    · simp [T.get_leaf] at hv
  · obtain ⟨x, ρ, rfl, hx, hb⟩ := he
    simp only [Rel] at hx
    exact ⟨by rw [hx], hb⟩
end Go.Proofs.YtpccllhgbbpocaaDoor
