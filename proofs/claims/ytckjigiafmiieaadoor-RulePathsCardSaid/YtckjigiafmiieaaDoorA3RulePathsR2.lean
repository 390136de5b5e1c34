/- A part of the proof: an interpreter of the model's own code on partly known states, and that what it answers is what the program answers. No condition of its own. -/
import Derived.Test.YtckjigiafmiieaaDoorA3RulePathsO
set_option maxRecDepth 100000
set_option linter.unusedVariables false
namespace Go.Proofs.YtckjigiafmiieaaDoor.rulePaths
open Go Go.AX Go.Proofs Go.Proofs.YtckjigiafmiieaaDoor
theorem r46 : allN (runI ) 46 23 = true := by kernel_rfl
theorem r138 : allN (runI ) 138 2 = true := by kernel_rfl
end Go.Proofs.YtckjigiafmiieaaDoor.rulePaths
