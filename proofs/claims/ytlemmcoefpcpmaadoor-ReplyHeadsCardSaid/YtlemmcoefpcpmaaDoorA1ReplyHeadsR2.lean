/- A part of the proof: an interpreter of the model's own code on partly known states, and that what it answers is what the program answers. No condition of its own. -/
import Derived.Test.YtlemmcoefpcpmaaDoorA1ReplyHeadsO
set_option maxRecDepth 100000
set_option linter.unusedVariables false
namespace Go.Proofs.YtlemmcoefpcpmaaDoor.replyHeads
open Go Go.AX Go.Proofs Go.Proofs.YtlemmcoefpcpmaaDoor
theorem r34 (e4 : Nat) (e6 : Nat) : allN (runI e4 e6) 34 17 = true := by kernel_rfl
theorem r102 (e4 : Nat) (e6 : Nat) : allN (runI e4 e6) 102 17 = true := by kernel_rfl
theorem r170 (e4 : Nat) (e6 : Nat) : allN (runI e4 e6) 170 17 = true := by kernel_rfl
theorem r238 (e4 : Nat) (e6 : Nat) : allN (runI e4 e6) 238 17 = true := by kernel_rfl
theorem r306 (e4 : Nat) (e6 : Nat) : allN (runI e4 e6) 306 17 = true := by kernel_rfl
theorem r374 (e4 : Nat) (e6 : Nat) : allN (runI e4 e6) 374 17 = true := by kernel_rfl
theorem r442 (e4 : Nat) (e6 : Nat) : allN (runI e4 e6) 442 17 = true := by kernel_rfl
theorem r510 (e4 : Nat) (e6 : Nat) : allN (runI e4 e6) 510 17 = true := by kernel_rfl
theorem r578 (e4 : Nat) (e6 : Nat) : allN (runI e4 e6) 578 17 = true := by kernel_rfl
theorem r646 (e4 : Nat) (e6 : Nat) : allN (runI e4 e6) 646 17 = true := by kernel_rfl
theorem r714 (e4 : Nat) (e6 : Nat) : allN (runI e4 e6) 714 17 = true := by kernel_rfl
theorem r782 (e4 : Nat) (e6 : Nat) : allN (runI e4 e6) 782 17 = true := by kernel_rfl
theorem r850 (e4 : Nat) (e6 : Nat) : allN (runI e4 e6) 850 17 = true := by kernel_rfl
theorem r918 (e4 : Nat) (e6 : Nat) : allN (runI e4 e6) 918 17 = true := by kernel_rfl
theorem r986 (e4 : Nat) (e6 : Nat) : allN (runI e4 e6) 986 17 = true := by kernel_rfl
end Go.Proofs.YtlemmcoefpcpmaaDoor.replyHeads
