/- A part of the proof: an interpreter of the model's own code on partly known states, and that what it answers is what the program answers. No condition of its own. -/
import Derived.Test.YtckjigiafmiieaaGreatDoorA4AnswerKeepsO
set_option maxRecDepth 100000
set_option linter.unusedVariables false
namespace Go.Proofs.YtckjigiafmiieaaGreatDoor.answerKeeps
open Go Go.AX Go.Proofs Go.Proofs.YtckjigiafmiieaaGreatDoor
theorem r8 (e1 : Nat) (e6 : Nat) : allN (runI e1 e6) 8 4 = true := by kernel_rfl
end Go.Proofs.YtckjigiafmiieaaGreatDoor.answerKeeps
