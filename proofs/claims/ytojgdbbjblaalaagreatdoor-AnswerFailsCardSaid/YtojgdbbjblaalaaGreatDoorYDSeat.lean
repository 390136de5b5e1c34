/- A part of the proof: an interpreter of the model's own code on partly known states, and that what it answers is what the program answers. No condition of its own. -/
import Derived.Test.YtojgdbbjblaalaaGreatDoorSeatY
import Derived.Test.YtojgdbbjblaalaaGreatDoorAXzl
set_option maxRecDepth 100000
set_option linter.unusedVariables false
namespace Go.Proofs.YtojgdbbjblaalaaGreatDoor
open Go Go.AX Go.Proofs
open Go.RowKit (Below)
def zs1 : List Int := [1, 10, 100, 1000, 10000, 100000, 1000000, 10000000, 100000000, 1000000000, 10000000000, 100000000000, 1000000000000, 10000000000000, 100000000000000, 1000000000000000, 10000000000000000, 100000000000000000, 1000000000000000000, 10000000000000000000]
def zs6 : List Int := [0, 1, 56, 2, 57, 49, 28, 3, 61, 58, 42, 50, 38, 29, 17, 4, 62, 47, 59, 36, 45, 43, 51, 22, 53, 39, 33, 30, 24, 18, 12, 5, 63, 55, 48, 27, 60, 41, 37, 16, 46, 35, 44, 21, 52, 32, 23, 11, 54, 26, 40, 15, 34, 20, 31, 10, 25, 14, 19, 9, 13, 8, 7, 6]
def laidE0 (w : World) : Prop := ∃ e fz, w.heap[0]? = some (.cells ⟨[.iface 82 (.agg #[typeHandle Tryz.prog 29])]⟩ e fz)
theorem laidE0_same {w w' : World} (h : laidE0 w) (hh : w'.heap[0]? = w.heap[0]?) : laidE0 w' := by
  obtain ⟨e, fz, hw⟩ := h
  exact ⟨e, fz, by rw [hh]; exact hw⟩
theorem laidE0_size {w : World} (h : laidE0 w) : 0 < w.heap.size := by
  obtain ⟨e, fz, hw⟩ := h
  rcases Nat.lt_or_ge 0 w.heap.size with h0 | h0
  · exact h0
  · rw [Array.getElem?_eq_none h0] at hw; cases hw
/-- the variables that the runs read are laid -/
def laidE (w : World) : Prop := laidE0 w ∧ ArrIs w 1 .u64 zs1 ∧ ArrIs w 6 .u8 zs6
theorem laidE_stab : ∀ w w' : World, (∀ k, k < 7 → w'.heap[k]? = w.heap[k]?) → laidE w → laidE w' := fun w w' h ⟨hE, h1, h6⟩ => ⟨laidE0_same hE (h 0 (by omega)), h1.same (h 1 (by omega)), h6.same (h 6 (by omega))⟩
theorem laidE_size {w : World} (h : laidE w) : 7 ≤ w.heap.size := by
  obtain ⟨hE, h1, h6⟩ := h
  have := h6.size
  omega
/-- all of n numbers from lo on -/
noncomputable def allN (p : Nat → Bool) (lo n : Nat) : Bool := Nat.rec (motive := fun _ => Bool) true (fun j ih => Bool.rec (motive := fun _ => Bool) false ih (p (lo + j))) n
theorem allN_at {p : Nat → Bool} {lo : Nat} : ∀ {n : Nat}, allN p lo n = true → ∀ i, lo ≤ i → i < lo + n → p i = true
  | 0, _, i, h1, h2 => by omega
  | n + 1, h, i, h1, h2 => by
    have h : Bool.rec (motive := fun _ => Bool) false (allN p lo n) (p (lo + n)) = true := h
    cases hp : p (lo + n) with
    | false => rw [hp] at h; cases h
    | true =>
      rw [hp] at h
      have h : allN p lo n = true := h
      by_cases e : i = lo + n
      · subst e; exact hp
      · exact allN_at h i h1 (by omega)
noncomputable def H0 (e : Nat) (e1 : Nat) (e6 : Nat) : T Blk := T.set (T.set (T.set .leaf 0 (gBlk e (.l [.ifc 82 (.ag [.h 29])]))) 1 (gBlk e1 (.l (zs1.map fun z => .i .u64 z)))) 6 (gBlk e6 (.l (zs6.map fun z => .i .u8 z)))
theorem geOf {C : Cx} {w : World} (hP : C.P = Tryz.prog) (h : laidE0 w) : ∃ e, GArr C w 0 e [.ifc 82 (.ag [.h 29])] := by
  obtain ⟨e, fz, h0⟩ := h
  refine ⟨e, _, fz, h0, rfl, fun j a hj => ?_⟩
  match j, hj with
  | 0, hj =>
    simp only [List.getElem?_cons_zero, Option.some.injEq] at hj
    subst hj
    refine ⟨.iface 82 (.agg #[typeHandle Tryz.prog 29]), rfl, ?_, rfl⟩
    simp only [Rel, RelL, hP]
    exact ⟨_, rfl, _, rfl, _, _, rfl, rfl, rfl⟩
  | j + 1, hj => simp at hj
theorem runD {nu : Nat → Value} {one : ∀ i, (nu i).oneCell' = true} {tb : Tab} (h : AllOk (cx nu one 7 laidE laidE_stab) tb) (hng : tb.ng = 7) {f g : Nat} {fi : FI} (hfi : tb.fn.get g = some fi) (hb : fi.body.isSome = true) {l : List AV} {args : List Value}
    (hr : ∀ e e1 e6, (cs tb f).call g l isB ⟨H0 e e1 e6, 7, 0, 0⟩ = true) (hl : RelL (cx nu one 7 laidE laidE_stab) (fun _ => none) l args) (w : World) (hw : laidE w) :
    Calls Tryz.prog g ⟨args⟩ w fun e w' => e = .returned (.bool true) ∧ Below w.heap.size w w' := by
  obtain ⟨hE, h1, h6⟩ := id hw
  obtain ⟨e, g0⟩ := geOf (C := cx nu one 7 laidE laidE_stab) rfl hE
  obtain ⟨e1, g1⟩ := h1.gArr (C := cx nu one 7 laidE laidE_stab)
  obtain ⟨e6, g6⟩ := h6.gArr (C := cx nu one 7 laidE laidE_stab)
  obtain ⟨S, hS⟩ := run_cs (hr e e1 e6)
  refine (run_okG h (H := H0 e e1 e6) hfi hb (by rw [hng]; exact hS) hl w hw (laidE_size hw) fun v k hv => ?_).mono fun e' w' he => ?_
  · unfold H0 at hv
    rw [get_set _ _ _ _ (by omega)] at hv
    split at hv
    · rename_i e0; subst e0; injection hv with hv; subst hv
      exact ⟨by rw [hng]; omega, e6, _, _, rfl, ⟨trivial, rfl⟩, g6⟩
    rw [get_set _ _ _ _ (by omega)] at hv
    split at hv
    · rename_i e0; subst e0; injection hv with hv; subst hv
      exact ⟨by rw [hng]; omega, e1, _, _, rfl, ⟨trivial, rfl⟩, g1⟩
    rw [get_set _ _ _ _ (by omega)] at hv
    split at hv
    · rename_i e0; subst e0; injection hv with hv; subst hv
      exact ⟨by rw [hng]; omega, e, _, _, rfl, ⟨trivial, rfl⟩, g0⟩
    simp [T.get_leaf] at hv
  · obtain ⟨x, ρ, rfl, hx, hb⟩ := he
    simp only [Rel] at hx
    exact ⟨by rw [hx], hb⟩
end Go.Proofs.YtojgdbbjblaalaaGreatDoor
