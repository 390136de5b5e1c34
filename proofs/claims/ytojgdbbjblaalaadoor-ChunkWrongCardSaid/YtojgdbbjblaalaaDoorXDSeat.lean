/- A part of the proof: an interpreter of the model's own code on partly known states, and that what it answers is what the program answers. No condition of its own. -/
import Derived.Test.YtojgdbbjblaalaaDoorSeatX
import Derived.Test.YtojgdbbjblaalaaDoorAXzl
set_option maxRecDepth 100000
set_option linter.unusedVariables false
namespace Go.Proofs.YtojgdbbjblaalaaDoor
open Go Go.AX Go.Proofs
open Go.RowKit (Below)
def zs0 : List Int := [1, 10, 100, 1000, 10000, 100000, 1000000, 10000000, 100000000, 1000000000, 10000000000, 100000000000, 1000000000000, 10000000000000, 100000000000000, 1000000000000000, 10000000000000000, 100000000000000000, 1000000000000000000, 10000000000000000000]
def zs2 : List Int := [0, 1, 56, 2, 57, 49, 28, 3, 61, 58, 42, 50, 38, 29, 17, 4, 62, 47, 59, 36, 45, 43, 51, 22, 53, 39, 33, 30, 24, 18, 12, 5, 63, 55, 48, 27, 60, 41, 37, 16, 46, 35, 44, 21, 52, 32, 23, 11, 54, 26, 40, 15, 34, 20, 31, 10, 25, 14, 19, 9, 13, 8, 7, 6]
/-- the variables that the runs read are laid -/
def laidE (w : World) : Prop := ArrIs w 0 .u64 zs0 ∧ ArrIs w 2 .u8 zs2
theorem laidE_stab : ∀ w w' : World, (∀ k, k < 3 → w'.heap[k]? = w.heap[k]?) → laidE w → laidE w' := fun w w' h ⟨h0, h2⟩ => ⟨h0.same (h 0 (by omega)), h2.same (h 2 (by omega))⟩
theorem laidE_size {w : World} (h : laidE w) : 3 ≤ w.heap.size := by
  obtain ⟨h0, h2⟩ := h
  have := h2.size
  omega
/-- all of n numbers from lo on -/
noncomputable def allN (p : Nat → Bool) (lo n : Nat) : Bool := Nat.rec (motive := fun _ => Bool) true (fun j ih => Bool.rec (motive := fun _ => Bool) false ih (p (lo + j))) n
theorem allN_at {p : Nat → Bool} {lo : Nat} : ∀ {n : Nat}, allN p lo n = true → ∀ i, lo ≤ i → i < lo + n → p i = true
  | 0, _, i, h1, h2 => by omega
  | n + 1, h, i, h1, h2 => by
    have h : Bool.rec (motive := fun _ => Bool) false (allN p lo n) (p (lo + n)) = true := h
    cases hp : p (lo + n) with
    | false => rw [hp] at h; cases h
    | true =>
      rw [hp] at h
      have h : allN p lo n = true := h
      by_cases e : i = lo + n
      · subst e; exact hp
      · exact allN_at h i h1 (by omega)
noncomputable def H0 (e0 : Nat) (e2 : Nat) : T Blk := T.set (T.set (.leaf) 0 (gBlk e0 (.l (zs0.map fun z => .i .u64 z)))) 2 (gBlk e2 (.l (zs2.map fun z => .i .u8 z)))
theorem runD {nu : Nat → Value} {one : ∀ i, (nu i).oneCell' = true} {tb : Tab} (h : AllOk (cx nu one 3 laidE laidE_stab) tb) (hng : tb.ng = 4) {f g : Nat} {fi : FI} (hfi : tb.fn.get g = some fi) (hb : fi.body.isSome = true) {l : List AV} {args : List Value}
    (hr : ∀ e0 e2, (cs tb f).call g l isB ⟨H0 e0 e2, 4, 0, 0⟩ = true) (hl : RelL (cx nu one 3 laidE laidE_stab) (fun _ => none) l args) (w : World) (hw : laidE w) :
    Calls Tryd.prog g ⟨args⟩ w fun e w' => e = .returned (.bool true) ∧ Below w.heap.size w w' := by
  obtain ⟨h0, h2⟩ := id hw
  obtain ⟨e0, g0⟩ := h0.gArr (C := cx nu one 3 laidE laidE_stab)
  obtain ⟨e2, g2⟩ := h2.gArr (C := cx nu one 3 laidE laidE_stab)
  obtain ⟨S, hS⟩ := run_cs (hr e0 e2)
  refine (run_okG h (H := H0 e0 e2) hfi hb (by rw [hng]; exact hS) hl w hw (laidE_size hw) fun v k hv => ?_).mono fun e' w' he => ?_
  · unfold H0 at hv
    rw [get_set _ _ _ _ (by omega)] at hv
    split at hv
    · rename_i q0; subst q0; injection hv with hv; subst hv
      exact ⟨by rw [hng]; omega, e2, _, _, rfl, ⟨trivial, rfl⟩, g2⟩
    rw [get_set _ _ _ _ (by omega)] at hv
    split at hv
    · rename_i q0; subst q0; injection hv with hv; subst hv
      exact ⟨by rw [hng]; omega, e0, _, _, rfl, ⟨trivial, rfl⟩, g0⟩
    simp [T.get_leaf] at hv
  · obtain ⟨x, ρ, rfl, hx, hb⟩ := he
    simp only [Rel] at hx
    exact ⟨by rw [hx], hb⟩
end Go.Proofs.YtojgdbbjblaalaaDoor
