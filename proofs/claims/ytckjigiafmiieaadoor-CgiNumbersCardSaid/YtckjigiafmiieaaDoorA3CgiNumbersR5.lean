/- A part of the proof: an interpreter of the model's own code on partly known states, and that what it answers is what the program answers. No condition of its own. -/
import Derived.Test.YtckjigiafmiieaaDoorA3CgiNumbersO
set_option maxRecDepth 100000
set_option linter.unusedVariables false
namespace Go.Proofs.YtckjigiafmiieaaDoor.cgiNumbers
open Go Go.AX Go.Proofs Go.Proofs.YtckjigiafmiieaaDoor
theorem r245 (e : Nat) : allN (runI e) 245 49 = true := by kernel_rfl
theorem r2205 (e : Nat) : allN (runI e) 2205 49 = true := by kernel_rfl
theorem r4165 (e : Nat) : allN (runI e) 4165 49 = true := by kernel_rfl
end Go.Proofs.YtckjigiafmiieaaDoor.cgiNumbers
