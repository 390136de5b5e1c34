/- A part of the proof: an interpreter of the model's own code on partly known states, and that what it answers is what the program answers. No condition of its own. -/
import Derived.Test.YtpccllhgbbpocaaDoorDSeat
set_option maxRecDepth 100000
set_option linter.unusedVariables false
namespace Go.Proofs.YtpccllhgbbpocaaDoor
open Go Go.AX Go.Proofs
open Go.RowKit (Below)
noncomputable def f30 : FI := ⟨Tryd.f30.body, Tryd.f30.ntmps, Tryd.f30.results.toList, 0, none⟩
theorem f30_at : tab.fn.get 30 = some f30 := by kernel_rfl
theorem f30_body : f30.body.isSome = true := by kernel_rfl
theorem k30 (e : Nat) : isTrue ((fs tab 400).call 30 [] ⟨H0 e, 7, 0, 0⟩) = true := by kernel_rfl
noncomputable def tab20 : Tab := addSum tab 30 f30 (.b true)
section
variable (nu : Nat → Value) (one : ∀ i, (nu i).oneCell' = true)
theorem sum30 : SumOk (cx nu one 1 laidE laidE_stab) 30 (.b true) := fun w hi hs => by
  refine (runD (tabOk nu one 1 laidE laidE_stab) rfl f30_at f30_body k30 (args := []) (by simp only [RelL]) w hi).mono fun e w' he => ?_
  exact ⟨.bool true, he.1, by simp only [Rel], he.2⟩
theorem tab20Ok : AllOk (cx nu one 1 laidE laidE_stab) tab20 := (tabOk nu one 1 laidE laidE_stab).sum (by omega) f30_at f30_body (sum30 nu one)
end
namespace muxOthers
def hyF (a b : Int) : List (HK × AV) := [(.bin .rem (.x 0) (.i .u8 13), .i .u8 a), (.bin .rem (.x 1) (.i .u8 4), .i .u8 b)]
def hyT (a : Int) : List (HK × AV) := [(.bin .rem (.x 0) (.i .u8 13), .i .u8 a), (.bin .rem (.x 1) (.i .u8 4), .x 2), (.conv 3 (.x 2), .x 3)]
noncomputable def tabF (a b : Int) : Tab := { tab20 with hyp := hyF a b }
noncomputable def tabT (a : Int) : Tab := { tab20 with hyp := hyT a }
def runF (e : Nat) (a b : Int) : Prop := isTrue ((fs (tabF a b) 400).call 10 [.x 0, .x 1, .b false] ⟨H0 e, 7, 0, 0⟩) = true
def runT (e : Nat) (a : Int) : Prop := isTrue ((fs (tabT a) 400).call 10 [.x 0, .x 1, .b true] ⟨H0 e, 7, 0, 0⟩) = true
end muxOthers
end Go.Proofs.YtpccllhgbbpocaaDoor
