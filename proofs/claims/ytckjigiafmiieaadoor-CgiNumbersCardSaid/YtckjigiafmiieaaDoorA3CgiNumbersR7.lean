/- A part of the proof: an interpreter of the model's own code on partly known states, and that what it answers is what the program answers. No condition of its own. -/
import Derived.Test.YtckjigiafmiieaaDoorA3CgiNumbersO
set_option maxRecDepth 100000
set_option linter.unusedVariables false
namespace Go.Proofs.YtckjigiafmiieaaDoor.cgiNumbers
open Go Go.AX Go.Proofs Go.Proofs.YtckjigiafmiieaaDoor
theorem r343 (e : Nat) : allN (runI e) 343 49 = true := by kernel_rfl
theorem r2303 (e : Nat) : allN (runI e) 2303 49 = true := by kernel_rfl
theorem r4263 (e : Nat) : allN (runI e) 4263 49 = true := by kernel_rfl
end Go.Proofs.YtckjigiafmiieaaDoor.cgiNumbers
