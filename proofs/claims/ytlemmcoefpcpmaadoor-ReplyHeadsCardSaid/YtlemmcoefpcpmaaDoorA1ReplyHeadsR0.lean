/- A part of the proof: an interpreter of the model's own code on partly known states, and that what it answers is what the program answers. No condition of its own. -/
import Derived.Test.YtlemmcoefpcpmaaDoorA1ReplyHeadsO
set_option maxRecDepth 100000
set_option linter.unusedVariables false
namespace Go.Proofs.YtlemmcoefpcpmaaDoor.replyHeads
open Go Go.AX Go.Proofs Go.Proofs.YtlemmcoefpcpmaaDoor
theorem r0 (e4 : Nat) (e6 : Nat) : allN (runI e4 e6) 0 17 = true := by kernel_rfl
theorem r68 (e4 : Nat) (e6 : Nat) : allN (runI e4 e6) 68 17 = true := by kernel_rfl
theorem r136 (e4 : Nat) (e6 : Nat) : allN (runI e4 e6) 136 17 = true := by kernel_rfl
theorem r204 (e4 : Nat) (e6 : Nat) : allN (runI e4 e6) 204 17 = true := by kernel_rfl
theorem r272 (e4 : Nat) (e6 : Nat) : allN (runI e4 e6) 272 17 = true := by kernel_rfl
theorem r340 (e4 : Nat) (e6 : Nat) : allN (runI e4 e6) 340 17 = true := by kernel_rfl
theorem r408 (e4 : Nat) (e6 : Nat) : allN (runI e4 e6) 408 17 = true := by kernel_rfl
theorem r476 (e4 : Nat) (e6 : Nat) : allN (runI e4 e6) 476 17 = true := by kernel_rfl
theorem r544 (e4 : Nat) (e6 : Nat) : allN (runI e4 e6) 544 17 = true := by kernel_rfl
theorem r612 (e4 : Nat) (e6 : Nat) : allN (runI e4 e6) 612 17 = true := by kernel_rfl
theorem r680 (e4 : Nat) (e6 : Nat) : allN (runI e4 e6) 680 17 = true := by kernel_rfl
theorem r748 (e4 : Nat) (e6 : Nat) : allN (runI e4 e6) 748 17 = true := by kernel_rfl
theorem r816 (e4 : Nat) (e6 : Nat) : allN (runI e4 e6) 816 17 = true := by kernel_rfl
theorem r884 (e4 : Nat) (e6 : Nat) : allN (runI e4 e6) 884 17 = true := by kernel_rfl
theorem r952 (e4 : Nat) (e6 : Nat) : allN (runI e4 e6) 952 17 = true := by kernel_rfl
theorem r1020 (e4 : Nat) (e6 : Nat) : allN (runI e4 e6) 1020 4 = true := by kernel_rfl
end Go.Proofs.YtlemmcoefpcpmaaDoor.replyHeads
