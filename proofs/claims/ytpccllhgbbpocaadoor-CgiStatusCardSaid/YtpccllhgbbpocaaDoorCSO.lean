/- A part of the proof: an interpreter of the model's own code on partly known states, and that what it answers is what the program answers. No condition of its own. -/
import Derived.Test.YtpccllhgbbpocaaDoorDRow
set_option maxRecDepth 100000
set_option linter.unusedVariables false
namespace Go.Proofs.YtpccllhgbbpocaaDoor
open Go Go.AX Go.Proofs
open Go.RowKit (Below)
noncomputable def f24 : FI := ⟨Tryd.f24.body, Tryd.f24.ntmps, Tryd.f24.results.toList, 0, none⟩
theorem f24_at : tab.fn.get 24 = some f24 := by kernel_rfl
theorem f24_body : f24.body.isSome = true := by kernel_rfl
theorem k24 (e : Nat) : (cs tab 4000).call 24 [] isB ⟨H0 e, 7, 0, 0⟩ = true := by kernel_rfl
noncomputable def tab16 : Tab := addSum tab 24 f24 (.b true)
section
variable (nu : Nat → Value) (one : ∀ i, (nu i).oneCell' = true)
theorem sum24 : SumOk (cx nu one 1 laidE laidE_stab) 24 (.b true) := fun w hi hs => by
  refine (runD (tabOk nu one 1 laidE laidE_stab) rfl f24_at f24_body k24 (args := []) (by simp only [RelL]) w hi).mono fun e w' he => ?_
  exact ⟨.bool true, he.1, by simp only [Rel], he.2⟩
theorem tab16Ok : AllOk (cx nu one 1 laidE laidE_stab) tab16 := (tabOk nu one 1 laidE laidE_stab).sum (by omega) f24_at f24_body (sum24 nu one)
end
namespace cgiStatus
noncomputable def run (e : Nat) (a b c d : Bool) : Bool := (cs tab16 9000).call 9 [.b a, .b b, .b c, .b d] isB ⟨H0 e, 7, 0, 0⟩
end cgiStatus
end Go.Proofs.YtpccllhgbbpocaaDoor
