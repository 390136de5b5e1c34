/- A part of the proof: an interpreter of the model's own code on partly known states, and that what it answers is what the program answers. No condition of its own. -/
import Derived.Test.YtlemmcoefpcpmaaDoorA1ReplyHeadsO
set_option maxRecDepth 100000
set_option linter.unusedVariables false
namespace Go.Proofs.YtlemmcoefpcpmaaDoor.replyHeads
open Go Go.AX Go.Proofs Go.Proofs.YtlemmcoefpcpmaaDoor
theorem r51 (e4 : Nat) (e6 : Nat) : allN (runI e4 e6) 51 17 = true := by kernel_rfl
theorem r119 (e4 : Nat) (e6 : Nat) : allN (runI e4 e6) 119 17 = true := by kernel_rfl
theorem r187 (e4 : Nat) (e6 : Nat) : allN (runI e4 e6) 187 17 = true := by kernel_rfl
theorem r255 (e4 : Nat) (e6 : Nat) : allN (runI e4 e6) 255 17 = true := by kernel_rfl
theorem r323 (e4 : Nat) (e6 : Nat) : allN (runI e4 e6) 323 17 = true := by kernel_rfl
theorem r391 (e4 : Nat) (e6 : Nat) : allN (runI e4 e6) 391 17 = true := by kernel_rfl
theorem r459 (e4 : Nat) (e6 : Nat) : allN (runI e4 e6) 459 17 = true := by kernel_rfl
theorem r527 (e4 : Nat) (e6 : Nat) : allN (runI e4 e6) 527 17 = true := by kernel_rfl
theorem r595 (e4 : Nat) (e6 : Nat) : allN (runI e4 e6) 595 17 = true := by kernel_rfl
theorem r663 (e4 : Nat) (e6 : Nat) : allN (runI e4 e6) 663 17 = true := by kernel_rfl
theorem r731 (e4 : Nat) (e6 : Nat) : allN (runI e4 e6) 731 17 = true := by kernel_rfl
theorem r799 (e4 : Nat) (e6 : Nat) : allN (runI e4 e6) 799 17 = true := by kernel_rfl
theorem r867 (e4 : Nat) (e6 : Nat) : allN (runI e4 e6) 867 17 = true := by kernel_rfl
theorem r935 (e4 : Nat) (e6 : Nat) : allN (runI e4 e6) 935 17 = true := by kernel_rfl
theorem r1003 (e4 : Nat) (e6 : Nat) : allN (runI e4 e6) 1003 17 = true := by kernel_rfl
end Go.Proofs.YtlemmcoefpcpmaaDoor.replyHeads
