/- A part of the proof: an interpreter of the model's own code on partly known states, and that what it answers is what the program answers. No condition of its own. -/
import Derived.Test.YtojgdbbjblaalaaDoorXDRow
set_option maxRecDepth 100000
set_option linter.unusedVariables false
namespace Go.Proofs.YtojgdbbjblaalaaDoor
open Go Go.AX Go.Proofs
open Go.RowKit (Below)
noncomputable def f4 : FI := ⟨Tryd.f4.body, Tryd.f4.ntmps, Tryd.f4.results.toList, 0, none⟩
theorem f4_at : tab.fn.get 4 = some f4 := by kernel_rfl
theorem f4_body : f4.body.isSome = true := by kernel_rfl
theorem k4 (e0 : Nat) (e2 : Nat) : (cs tab 4000).call 4 [] isB ⟨H0 e0 e2, 4, 0, 0⟩ = true := by kernel_rfl
noncomputable def tab8 : Tab := addSum tab 4 f4 (.b true)
section
variable (nu : Nat → Value) (one : ∀ i, (nu i).oneCell' = true)
theorem sum4 : SumOk (cx nu one 3 laidE laidE_stab) 4 (.b true) := fun w hi hs => by
  refine (runD (tabOk nu one 3 laidE laidE_stab) rfl f4_at f4_body k4 (args := []) (by simp only [RelL]) w hi).mono fun e w' he => ?_
  exact ⟨.bool true, he.1, by simp only [Rel], he.2⟩
theorem tab8Ok : AllOk (cx nu one 3 laidE laidE_stab) tab8 := (tabOk nu one 3 laidE laidE_stab).sum (by omega) f4_at f4_body (sum4 nu one)
end
end Go.Proofs.YtojgdbbjblaalaaDoor
