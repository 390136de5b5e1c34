/- A part of the proof: an interpreter of the model's own code on partly known states, and that what it answers is what the program answers. No condition of its own. -/
import Derived.Test.YtlemmcoefpcpmaaDoorA1ReplyHeadsO
set_option maxRecDepth 100000
set_option linter.unusedVariables false
namespace Go.Proofs.YtlemmcoefpcpmaaDoor.replyHeads
open Go Go.AX Go.Proofs Go.Proofs.YtlemmcoefpcpmaaDoor
theorem r17 (e4 : Nat) (e6 : Nat) : allN (runI e4 e6) 17 17 = true := by kernel_rfl
theorem r85 (e4 : Nat) (e6 : Nat) : allN (runI e4 e6) 85 17 = true := by kernel_rfl
theorem r153 (e4 : Nat) (e6 : Nat) : allN (runI e4 e6) 153 17 = true := by kernel_rfl
theorem r221 (e4 : Nat) (e6 : Nat) : allN (runI e4 e6) 221 17 = true := by kernel_rfl
theorem r289 (e4 : Nat) (e6 : Nat) : allN (runI e4 e6) 289 17 = true := by kernel_rfl
theorem r357 (e4 : Nat) (e6 : Nat) : allN (runI e4 e6) 357 17 = true := by kernel_rfl
theorem r425 (e4 : Nat) (e6 : Nat) : allN (runI e4 e6) 425 17 = true := by kernel_rfl
theorem r493 (e4 : Nat) (e6 : Nat) : allN (runI e4 e6) 493 17 = true := by kernel_rfl
theorem r561 (e4 : Nat) (e6 : Nat) : allN (runI e4 e6) 561 17 = true := by kernel_rfl
theorem r629 (e4 : Nat) (e6 : Nat) : allN (runI e4 e6) 629 17 = true := by kernel_rfl
theorem r697 (e4 : Nat) (e6 : Nat) : allN (runI e4 e6) 697 17 = true := by kernel_rfl
theorem r765 (e4 : Nat) (e6 : Nat) : allN (runI e4 e6) 765 17 = true := by kernel_rfl
theorem r833 (e4 : Nat) (e6 : Nat) : allN (runI e4 e6) 833 17 = true := by kernel_rfl
theorem r901 (e4 : Nat) (e6 : Nat) : allN (runI e4 e6) 901 17 = true := by kernel_rfl
theorem r969 (e4 : Nat) (e6 : Nat) : allN (runI e4 e6) 969 17 = true := by kernel_rfl
end Go.Proofs.YtlemmcoefpcpmaaDoor.replyHeads
