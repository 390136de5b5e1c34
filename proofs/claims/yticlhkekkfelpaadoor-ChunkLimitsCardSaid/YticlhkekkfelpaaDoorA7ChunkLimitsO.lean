/- A part of the proof: an interpreter of the model's own code on partly known states, and that what it answers is what the program answers. No condition of its own. -/
import Derived.Test.YticlhkekkfelpaaDoorSeatA7
import Derived.Test.YticlhkekkfelpaaDoorAXpart4
set_option maxRecDepth 100000
set_option linter.unusedVariables false
namespace Go.Proofs.YticlhkekkfelpaaDoor.chunkLimits
open Go Go.AX Go.Proofs Go.Proofs.YticlhkekkfelpaaDoor
def zs6 : List Int := [0, 1, 56, 2, 57, 49, 28, 3, 61, 58, 42, 50, 38, 29, 17, 4, 62, 47, 59, 36, 45, 43, 51, 22, 53, 39, 33, 30, 24, 18, 12, 5, 63, 55, 48, 27, 60, 41, 37, 16, 46, 35, 44, 21, 52, 32, 23, 11, 54, 26, 40, 15, 34, 20, 31, 10, 25, 14, 19, 9, 13, 8, 7, 6]
/-- the variables that the runs read are laid -/
def laidE (w : World) : Prop := ArrIs w 6 .u8 zs6
theorem laidE_stab : ∀ w w' : World, (∀ k, k < 7 → w'.heap[k]? = w.heap[k]?) → laidE w → laidE w' := fun w w' h h6 => h6.same (h 6 (by omega))
theorem laidE_size {w : World} (h : laidE w) : 7 ≤ w.heap.size := by
  have h6 := h
  have := h6.size
  omega
noncomputable def H0 (e6 : Nat) : T Ent := T.set (.leaf) 6 (gBlk e6 (.l (zs6.map fun z => .i .u8 z)))
theorem runD {nu : Nat → Value} {one : ∀ i, (nu i).oneCell' = true} {tb : Tab} (h : AllOk (cx nu one 7 laidE laidE_stab) tb) (hng : tb.ng = 7) {f g : Nat} {fi : FI} (hfi : tb.fn.get g = some fi) (hb : fi.body.isSome = true) {l : List AV} {args : List Value}
    (hr : ∀ e6, (xs tb f).call g l isB ⟨H0 e6 , 7, 0, 0⟩ = true) (hl : RelL (cx nu one 7 laidE laidE_stab) (fun _ => none) l args) (w : World) (hw : laidE w) :
    Calls Tryd.prog g ⟨args⟩ w fun e w' => e = .returned (.bool true) ∧ Go.AX.Below w.heap.size w w' := by
  have h6 := id hw
  obtain ⟨e6, g6⟩ := h6.gArr (C := cx nu one 7 laidE laidE_stab)
  obtain ⟨F, S, hS⟩ := run_xs (hr e6)
  refine (run_okG h (H := H0 e6 ) hfi hb (by rw [hng]; exact hS) hl w hw (laidE_size hw) fun v k hv => ?_).mono fun e' w' he => ?_
  · unfold H0 at hv
    rw [get_set _ _ _ _ (by omega)] at hv
    split at hv
    · rename_i e0; subst e0; injection hv with hv; subst hv
      exact ⟨by rw [hng]; omega, e6, _, _, rfl, ⟨trivial, rfl⟩, g6⟩
    simp [T.get_leaf] at hv
  · obtain ⟨x, ρ, rfl, hx, hb⟩ := he
    simp only [Rel] at hx
    exact ⟨by rw [hx], hb⟩
noncomputable def fk : FI := ⟨Tryd.f16.body, Tryd.f16.ntmps, Tryd.f16.results.toList, 0, none⟩
theorem fk_at : tab.fn.get 16 = some fk := by kernel_rfl
theorem fk_body : fk.body.isSome = true := by kernel_rfl
theorem kk (e6 : Nat) : (xs tab 6000).call 16 [] isB ⟨H0 e6 , 7, 0, 0⟩ = true := by kernel_rfl
noncomputable def tabk : Tab := addSum tab 16 fk (.b true)
section
variable (nu : Nat → Value) (one : ∀ i, (nu i).oneCell' = true)
theorem sumk : SumOk (cx nu one 7 laidE laidE_stab) 16 (.b true) := fun w hi hs => by
  refine (runD (tabOk nu one 7 laidE laidE_stab) rfl fk_at fk_body kk (args := []) (by simp only [RelL]) w hi).mono fun e w' he => ?_
  exact ⟨.bool true, he.1, by simp only [Rel], he.2⟩
theorem tabkOk : AllOk (cx nu one 7 laidE laidE_stab) tabk := (tabOk nu one 7 laidE laidE_stab).sum (by omega) fk_at fk_body (sumk nu one)
end
def hy (c0 : Nat) (c1 : Nat) : List (HK × AV) := [(.bin .rem (.x 0) (.i .u16 (.ofNat 500)), .i .u16 (.ofNat c0)), (.bin .rem (.x 100) (.i .u8 (.ofNat 3)), .i .u8 (.ofNat c1))]
noncomputable def tabC (c0 : Nat) (c1 : Nat) : Tab := { tabk with hyp := hy c0 c1 }
noncomputable def run (e6 : Nat) (c0 : Nat) (c1 : Nat) : Bool := (xs (tabC c0 c1) 9000).call 5 [.x 0, .x 100] isB ⟨H0 e6 , 7, 0, 0⟩
noncomputable def runI (e6 : Nat) (i : Nat) : Bool := run e6 (Nat.mod i 500) (Nat.mod (Nat.div i 500) 3)
end Go.Proofs.YticlhkekkfelpaaDoor.chunkLimits
