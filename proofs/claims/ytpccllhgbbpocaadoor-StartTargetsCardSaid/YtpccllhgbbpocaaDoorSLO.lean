/- A part of the proof: an interpreter of the model's own code on partly known states, and that what it answers is what the program answers. No condition of its own. -/
import Derived.Test.YtpccllhgbbpocaaDoorDRow
set_option maxRecDepth 100000
set_option linter.unusedVariables false
namespace Go.Proofs.YtpccllhgbbpocaaDoor
open Go Go.AX Go.Proofs
open Go.RowKit (Below)
noncomputable def f22 : FI := ⟨Tryd.f22.body, Tryd.f22.ntmps, Tryd.f22.results.toList, 0, none⟩
theorem f22_at : tab.fn.get 22 = some f22 := by kernel_rfl
theorem f22_body : f22.body.isSome = true := by kernel_rfl
theorem k22 (e : Nat) : (cs tab 4000).call 22 [] isB ⟨H0 e, 7, 0, 0⟩ = true := by kernel_rfl
noncomputable def tab7 : Tab := addSum tab 22 f22 (.b true)
section
variable (nu : Nat → Value) (one : ∀ i, (nu i).oneCell' = true)
theorem sum22 : SumOk (cx nu one 1 laidE laidE_stab) 22 (.b true) := fun w hi hs => by
  refine (runD (tabOk nu one 1 laidE laidE_stab) rfl f22_at f22_body k22 (args := []) (by simp only [RelL]) w hi).mono fun e w' he => ?_
  exact ⟨.bool true, he.1, by simp only [Rel], he.2⟩
theorem tab7Ok : AllOk (cx nu one 1 laidE laidE_stab) tab7 := (tabOk nu one 1 laidE laidE_stab).sum (by omega) f22_at f22_body (sum22 nu one)
end
namespace startLimits
def hy (a b : Int) : List (HK × AV) := [(.bin .rem (.x 0) (.i .u8 3), .i .u8 a), (.bin .rem (.x 1) (.i .u8 3), .i .u8 b)]
noncomputable def tabC (a b : Int) : Tab := { tab7 with hyp := hy a b }
noncomputable def run (e : Nat) (a b : Int) : Bool := (cs (tabC a b) 9000).call 8 [.x 0, .x 1] isB ⟨H0 e, 7, 0, 0⟩
end startLimits
end Go.Proofs.YtpccllhgbbpocaaDoor
