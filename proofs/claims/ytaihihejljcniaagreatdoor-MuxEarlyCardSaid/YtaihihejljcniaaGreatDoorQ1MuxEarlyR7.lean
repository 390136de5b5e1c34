/- A part of the proof: an interpreter of the model's own code on partly known states, and that what it answers is what the program answers. No condition of its own. -/
import Derived.Test.YtaihihejljcniaaGreatDoorQ1MuxEarlyO
set_option maxRecDepth 100000
set_option linter.unusedVariables false
set_option linter.unusedSimpArgs false
set_option maxHeartbeats 4000000
namespace Go.Proofs.YtaihihejljcniaaGreatDoor.muxEarly
open Go Go.AX Go.Proofs Go.Proofs.YtaihihejljcniaaGreatDoor
theorem c6_9 : (allN (rnC (ksT 6 9)) 0 9 && rxC (ksT 6 9)) = true := by kernel_rfl
theorem c5_8 : (allN (rnC (ksT 5 8)) 0 8 && rxC (ksT 5 8)) = true := by kernel_rfl
theorem dA1 : (rnA 4 320 (stD 4 2 3 320 1) (kdF 1) 0 0 && allN (fun j => rnA 4 320 (stD 4 2 3 320 1) (kdF 1) j 1) 1 3) = true := by kernel_rfl
theorem c6_5 : (allN (rnC (ksT 6 5)) 0 6 && rxC (ksT 6 5)) = true := by kernel_rfl
theorem c3_3 : (allN (rnC (ksT 3 3)) 0 4 && rxC (ksT 3 3)) = true := by kernel_rfl
theorem dX0 : (allN (fun j => rnX 4 320 false (stD 4 2 3 320 0 j 1)) 1 3 && rnX 4 320 true (stD 4 2 3 320 0 3 1)) = true := by kernel_rfl
theorem wX2 : (allN (fun j => rnX 30 100 false (stD 30 28 29 100 2 j 1)) 1 5 && rnX 30 100 true (stD 30 28 29 100 2 5 1)) = true := by kernel_rfl
theorem c4_2 : (allN (rnC (ksT 4 2)) 0 3 && rxC (ksT 4 2)) = true := by kernel_rfl
theorem c0_1 : (allN (rnC (ksT 0 1)) 0 2 && rxC (ksT 0 1)) = true := by kernel_rfl
end Go.Proofs.YtaihihejljcniaaGreatDoor.muxEarly
