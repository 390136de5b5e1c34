/- A part of the proof: an interpreter of the model's own code on partly known states, and that what it answers is what the program answers. No condition of its own. -/
import Derived.Test.YtejdkoheodambaaGreatDoorA5MuxAbortsO
set_option maxRecDepth 100000
set_option linter.unusedVariables false
namespace Go.Proofs.YtejdkoheodambaaGreatDoor.muxAborts
open Go Go.AX Go.Proofs Go.Proofs.YtejdkoheodambaaGreatDoor
theorem r9 (e : Nat) : allN (runI e) 9 9 = true := by kernel_rfl
end Go.Proofs.YtejdkoheodambaaGreatDoor.muxAborts
