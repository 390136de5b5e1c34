/- A part of the proof: an interpreter of the model's own code on partly known states, and that what it answers is what the program answers. No condition of its own. -/
import Derived.Test.YtpccllhgbbpocaaDoorPLO
set_option maxRecDepth 100000
set_option linter.unusedVariables false
namespace Go.Proofs.YtpccllhgbbpocaaDoor
open Go Go.AX Go.Proofs
namespace pairMany
def hy (a : Int) : List (HK × AV) := [(.bin .rem (.x 0) (.i .u8 5), .i .u8 a)]
noncomputable def tabC (a : Int) : Tab := { tab3 with hyp := hy a }
noncomputable def run (e : Nat) (a : Int) : Bool := (cs (tabC a) 9000).call 5 [.x 0] isB ⟨H0 e, 7, 0, 0⟩
end pairMany
end Go.Proofs.YtpccllhgbbpocaaDoor
