/- A part of the proof: an interpreter of the model's own code on partly known states, and that what it answers is what the program answers. No condition of its own. -/
import Derived.Test.YtpccllhgbbpocaaDoorDRow
set_option maxRecDepth 100000
set_option linter.unusedVariables false
namespace Go.Proofs.YtpccllhgbbpocaaDoor
open Go Go.AX Go.Proofs
open Go.RowKit (Below)
noncomputable def f12 : FI := ⟨Tryd.f12.body, Tryd.f12.ntmps, Tryd.f12.results.toList, 0, none⟩
theorem f12_at : tab.fn.get 12 = some f12 := by kernel_rfl
theorem f12_body : f12.body.isSome = true := by kernel_rfl
theorem k12 (e : Nat) : (cs tab 4000).call 12 [] isB ⟨H0 e, 7, 0, 0⟩ = true := by kernel_rfl
noncomputable def tab3 : Tab := addSum tab 12 f12 (.b true)
section
variable (nu : Nat → Value) (one : ∀ i, (nu i).oneCell' = true)
theorem sum12 : SumOk (cx nu one 1 laidE laidE_stab) 12 (.b true) := fun w hi hs => by
  refine (runD (tabOk nu one 1 laidE laidE_stab) rfl f12_at f12_body k12 (args := []) (by simp only [RelL]) w hi).mono fun e w' he => ?_
  exact ⟨.bool true, he.1, by simp only [Rel], he.2⟩
theorem tab3Ok : AllOk (cx nu one 1 laidE laidE_stab) tab3 := (tabOk nu one 1 laidE laidE_stab).sum (by omega) f12_at f12_body (sum12 nu one)
end
namespace pairLengths
def hy (i : Nat) : List (HK × AV) := [(.bin .rem (.x 0) (.i .u16 700), .i .u16 (.ofNat i))]
noncomputable def tabC (i : Nat) : Tab := { tab3 with hyp := hy i }
noncomputable def run (e : Nat) (m : Bool) (i : Nat) : Bool := (cs (tabC i) 9000).call 3 [.x 0, .b m] isB ⟨H0 e, 7, 0, 0⟩
end pairLengths
end Go.Proofs.YtpccllhgbbpocaaDoor
