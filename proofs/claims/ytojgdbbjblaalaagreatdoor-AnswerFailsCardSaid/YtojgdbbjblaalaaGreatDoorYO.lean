/- A part of the proof: an interpreter of the model's own code on partly known states, and that what it answers is what the program answers. No condition of its own. -/
import Derived.Test.YtojgdbbjblaalaaGreatDoorYDRow
set_option maxRecDepth 100000
set_option linter.unusedVariables false
namespace Go.Proofs.YtojgdbbjblaalaaGreatDoor
open Go Go.AX Go.Proofs
open Go.RowKit (Below)
noncomputable def f5 : FI := ⟨Tryz.f5.body, Tryz.f5.ntmps, Tryz.f5.results.toList, 0, none⟩
theorem f5_at : tab.fn.get 5 = some f5 := by kernel_rfl
theorem f5_body : f5.body.isSome = true := by kernel_rfl
theorem k5 (e : Nat) (e1 : Nat) (e6 : Nat) : (cs tab 4000).call 5 [] isB ⟨H0 e e1 e6, 7, 0, 0⟩ = true := by kernel_rfl
noncomputable def tab22 : Tab := addSum tab 5 f5 (.b true)
section
variable (nu : Nat → Value) (one : ∀ i, (nu i).oneCell' = true)
theorem sum5 : SumOk (cx nu one 7 laidE laidE_stab) 5 (.b true) := fun w hi hs => by
  refine (runD (tabOk nu one 7 laidE laidE_stab) rfl f5_at f5_body k5 (args := []) (by simp only [RelL]) w hi).mono fun e w' he => ?_
  exact ⟨.bool true, he.1, by simp only [Rel], he.2⟩
theorem tab22Ok : AllOk (cx nu one 7 laidE laidE_stab) tab22 := (tabOk nu one 7 laidE laidE_stab).sum (by omega) f5_at f5_body (sum5 nu one)
end
end Go.Proofs.YtojgdbbjblaalaaGreatDoor
