/- A part of the proof: an interpreter of the model's own code on partly known states, and that what it answers is what the program answers. No condition of its own. -/
import Derived.Test.YtckjigiafmiieaaDoorA3VarsJoinO
set_option maxRecDepth 100000
set_option linter.unusedVariables false
namespace Go.Proofs.YtckjigiafmiieaaDoor.varsJoin
open Go Go.AX Go.Proofs Go.Proofs.YtckjigiafmiieaaDoor
theorem r0 : allN (runI ) 0 3 = true := by kernel_rfl
theorem r12 : allN (runI ) 12 3 = true := by kernel_rfl
end Go.Proofs.YtckjigiafmiieaaDoor.varsJoin
