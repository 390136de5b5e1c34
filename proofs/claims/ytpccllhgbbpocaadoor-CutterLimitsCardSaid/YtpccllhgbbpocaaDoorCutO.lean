/- A part of the proof: an interpreter of the model's own code on partly known states, and that what it answers is what the program answers. No condition of its own. -/
import Derived.Test.YtpccllhgbbpocaaDoorDSeat
set_option maxRecDepth 100000
set_option linter.unusedVariables false
namespace Go.Proofs.YtpccllhgbbpocaaDoor
open Go Go.AX Go.Proofs
open Go.RowKit (Below)
noncomputable def f17 : FI := ⟨Tryd.f17.body, Tryd.f17.ntmps, Tryd.f17.results.toList, 0, none⟩
theorem f17_at : tab.fn.get 17 = some f17 := by kernel_rfl
theorem f17_body : f17.body.isSome = true := by kernel_rfl
theorem k17 (e : Nat) : (cs tab 400).call 17 [] isB ⟨H0 e, 7, 0, 0⟩ = true := by kernel_rfl
noncomputable def tab5 : Tab := addSum tab 17 f17 (.b true)
section
variable (nu : Nat → Value) (one : ∀ i, (nu i).oneCell' = true)
theorem sum17 : SumOk (cx nu one 1 laidE laidE_stab) 17 (.b true) := fun w hi hs => by
  refine (runD (tabOk nu one 1 laidE laidE_stab) rfl f17_at f17_body k17 (args := []) (by simp only [RelL]) w hi).mono fun e w' he => ?_
  exact ⟨.bool true, he.1, by simp only [Rel], he.2⟩
theorem tab5Ok : AllOk (cx nu one 1 laidE laidE_stab) tab5 := (tabOk nu one 1 laidE laidE_stab).sum (by omega) f17_at f17_body (sum17 nu one)
end
namespace cutterLimits
def hy (i : Nat) : List (HK × AV) := [(.bin .rem (.x 0) (.i .u16 1000), .i .u16 (.ofNat i))]
noncomputable def tabC (i : Nat) : Tab := { tab5 with hyp := hy i }
noncomputable def run (e : Nat) (m : Bool) (i : Nat) : Bool := (cs (tabC i) 4000).call 6 [.x 0, .b m] isB ⟨H0 e, 7, 0, 0⟩
end cutterLimits
end Go.Proofs.YtpccllhgbbpocaaDoor
