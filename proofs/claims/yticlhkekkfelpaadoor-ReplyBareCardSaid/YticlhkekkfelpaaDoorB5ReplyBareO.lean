/- A part of the proof: an interpreter of the model's own code on partly known states, and that what it answers is what the program answers. No condition of its own. -/
import Derived.Test.YticlhkekkfelpaaDoorSeatB5
import Derived.Test.YticlhkekkfelpaaDoorCXpart4
set_option maxRecDepth 100000
set_option linter.unusedVariables false
namespace Go.Proofs.YticlhkekkfelpaaDoor.replyBare
open Go Go.AX Go.Proofs Go.Proofs.YticlhkekkfelpaaDoor
def zs1 : List Int := [1, 10, 100, 1000, 10000, 100000, 1000000, 10000000, 100000000, 1000000000, 10000000000, 100000000000, 1000000000000, 10000000000000, 100000000000000, 1000000000000000, 10000000000000000, 100000000000000000, 1000000000000000000, 10000000000000000000]
def zs6 : List Int := [0, 1, 56, 2, 57, 49, 28, 3, 61, 58, 42, 50, 38, 29, 17, 4, 62, 47, 59, 36, 45, 43, 51, 22, 53, 39, 33, 30, 24, 18, 12, 5, 63, 55, 48, 27, 60, 41, 37, 16, 46, 35, 44, 21, 52, 32, 23, 11, 54, 26, 40, 15, 34, 20, 31, 10, 25, 14, 19, 9, 13, 8, 7, 6]
/-- the variables that the runs read are laid -/
def laidE (w : World) : Prop := ArrIs w 1 .u64 zs1 ∧ ArrIs w 6 .u8 zs6
theorem laidE_stab : ∀ w w' : World, (∀ k, k < 7 → w'.heap[k]? = w.heap[k]?) → laidE w → laidE w' := fun w w' h ⟨h1, h6⟩ => ⟨h1.same (h 1 (by omega)), h6.same (h 6 (by omega))⟩
theorem laidE_size {w : World} (h : laidE w) : 7 ≤ w.heap.size := by
  obtain ⟨h1, h6⟩ := h
  have := h6.size
  omega
noncomputable def H0 (e1 : Nat) (e6 : Nat) : T Ent := T.set (T.set (.leaf) 1 (gBlk e1 (.l (zs1.map fun z => .i .u64 z)))) 6 (gBlk e6 (.l (zs6.map fun z => .i .u8 z)))
theorem runP {nu : Nat → Value} {one : ∀ i, (nu i).oneCell' = true} {tb : Tab} (h : AllOk (cx nu one 7 laidE laidE_stab) tb) (hng : tb.ng = 7) {f g : Nat} {fi : FI} (hfi : tb.fn.get g = some fi) (hb : fi.body.isSome = true) {l : List AV} {args : List Value}
    (hr : ∀ e1 e6, okB (call tb f g l ⟨H0 e1 e6 , 7, 0, 0⟩) = true) (hl : RelL (cx nu one 7 laidE laidE_stab) (fun _ => none) l args) (w : World) (hw : laidE w) :
    Calls Tryd.prog g ⟨args⟩ w fun e w' => e = .returned (.bool true) ∧ Go.AX.Below w.heap.size w w' := by
  obtain ⟨h1, h6⟩ := id hw
  obtain ⟨e1, g1⟩ := h1.gArr (C := cx nu one 7 laidE laidE_stab)
  obtain ⟨e6, g6⟩ := h6.gArr (C := cx nu one 7 laidE laidE_stab)
  obtain ⟨S, hS⟩ := okB_inv (hr e1 e6)
  refine (run_okG h (H := H0 e1 e6 ) hfi hb (by rw [hng]; exact hS) hl w hw (laidE_size hw) fun v k hv => ?_).mono fun e' w' he => ?_
  · unfold H0 at hv
    rw [get_set _ _ _ _ (by omega)] at hv
    split at hv
    · rename_i e0; subst e0; injection hv with hv; subst hv
      exact ⟨by rw [hng]; omega, e6, _, _, rfl, ⟨trivial, rfl⟩, g6⟩
    rw [get_set _ _ _ _ (by omega)] at hv
    split at hv
    · rename_i e0; subst e0; injection hv with hv; subst hv
      exact ⟨by rw [hng]; omega, e1, _, _, rfl, ⟨trivial, rfl⟩, g1⟩
    simp [T.get_leaf] at hv
  · obtain ⟨x, ρ, rfl, hx, hb⟩ := he
    simp only [Rel] at hx
    exact ⟨by rw [hx], hb⟩
theorem runS {nu : Nat → Value} {one : ∀ i, (nu i).oneCell' = true} {tb : Tab} (h : AllOk (cx nu one 7 laidE laidE_stab) tb) (hng : tb.ng = 7) {f g : Nat} {fi : FI} (hfi : tb.fn.get g = some fi) (hb : fi.body.isSome = true) {l : List AV} {args : List Value} {len n : Nat}
    (hr : ∀ e1 e6, okS (call tb f g l ⟨H0 e1 e6 , 7, 0, 0⟩) len n = true) (hl : RelL (cx nu one 7 laidE laidE_stab) (fun _ => none) l args) (w : World) (hw : laidE w) :
    Calls Tryd.prog g ⟨args⟩ w fun e w' => e = .returned (St' (strB len n)) ∧ Go.AX.Below w.heap.size w w' := by
  obtain ⟨h1, h6⟩ := id hw
  obtain ⟨e1, g1⟩ := h1.gArr (C := cx nu one 7 laidE laidE_stab)
  obtain ⟨e6, g6⟩ := h6.gArr (C := cx nu one 7 laidE laidE_stab)
  obtain ⟨S, hS⟩ := okS_inv (hr e1 e6)
  refine (run_okG h (H := H0 e1 e6 ) hfi hb (by rw [hng]; exact hS) hl w hw (laidE_size hw) fun v k hv => ?_).mono fun e' w' he => ?_
  · unfold H0 at hv
    rw [get_set _ _ _ _ (by omega)] at hv
    split at hv
    · rename_i e0; subst e0; injection hv with hv; subst hv
      exact ⟨by rw [hng]; omega, e6, _, _, rfl, ⟨trivial, rfl⟩, g6⟩
    rw [get_set _ _ _ _ (by omega)] at hv
    split at hv
    · rename_i e0; subst e0; injection hv with hv; subst hv
      exact ⟨by rw [hng]; omega, e1, _, _, rfl, ⟨trivial, rfl⟩, g1⟩
    simp [T.get_leaf] at hv
  · obtain ⟨x, ρ, rfl, hx, hb⟩ := he
    simp only [Rel] at hx
    exact ⟨by rw [hx.1], hb⟩
noncomputable def fk : FI := ⟨Tryd.f23.body, Tryd.f23.ntmps, Tryd.f23.results.toList, 0, none, []⟩
theorem fk_at : tab.fn.get 23 = some fk := by kernel_rfl
theorem fk_body : fk.body.isSome = true := by kernel_rfl
theorem kk (e1 : Nat) (e6 : Nat) : okB (call tab 6000 23 [] ⟨H0 e1 e6 , 7, 0, 0⟩) = true := by kernel_rfl
noncomputable def tabk : Tab := addSum tab 23 fk (.b true)
section
variable (nu : Nat → Value) (one : ∀ i, (nu i).oneCell' = true)
theorem sumk : SumOk (cx nu one 7 laidE laidE_stab) 23 (.b true) := fun w hi hs => by
  refine (runP (tabOk nu one 7 laidE laidE_stab) rfl fk_at fk_body kk (args := []) (by simp only [RelL]) w hi).mono fun e w' he => ?_
  exact ⟨.bool true, he.1, by simp only [Rel], he.2⟩
theorem tabkOk : AllOk (cx nu one 7 laidE laidE_stab) tabk := (tabOk nu one 7 laidE laidE_stab).sum (by omega) fk_at fk_body (sumk nu one)
end
theorem tu105 : Tryd.prog.underlying 105 = some (.int .u64) := by kernel_rfl
end Go.Proofs.YticlhkekkfelpaaDoor.replyBare
