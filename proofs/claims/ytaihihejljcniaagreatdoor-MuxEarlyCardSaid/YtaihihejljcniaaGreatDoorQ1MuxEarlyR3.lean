/- A part of the proof: an interpreter of the model's own code on partly known states, and that what it answers is what the program answers. No condition of its own. -/
import Derived.Test.YtaihihejljcniaaGreatDoorQ1MuxEarlyO
set_option maxRecDepth 100000
set_option linter.unusedVariables false
set_option linter.unusedSimpArgs false
set_option maxHeartbeats 4000000
namespace Go.Proofs.YtaihihejljcniaaGreatDoor.muxEarly
open Go Go.AX Go.Proofs Go.Proofs.YtaihihejljcniaaGreatDoor
theorem dA5 : (rnA 4 320 (stD 4 2 3 320 5) (kdF 5) 0 0 && allN (fun j => rnA 4 320 (stD 4 2 3 320 5) (kdF 5) j 1) 1 7) = true := by kernel_rfl
theorem wA2 : (rnA 30 100 (stD 30 28 29 100 2) (kdF 2) 0 0 && allN (fun j => rnA 30 100 (stD 30 28 29 100 2) (kdF 2) j 1) 1 4) = true := by kernel_rfl
theorem c4_7 : (allN (rnC (ksT 4 7)) 0 7 && rxC (ksT 4 7)) = true := by kernel_rfl
theorem c2_4 : (allN (rnC (ksT 2 4)) 0 5 && rxC (ksT 2 4)) = true := by kernel_rfl
theorem c6_4 : (allN (rnC (ksT 6 4)) 0 5 && rxC (ksT 6 4)) = true := by kernel_rfl
theorem dX1 : (allN (fun j => rnX 4 320 false (stD 4 2 3 320 1 j 1)) 1 4 && rnX 4 320 true (stD 4 2 3 320 1 4 1)) = true := by kernel_rfl
theorem dX3 : (allN (fun j => rnX 4 320 false (stD 4 2 3 320 3 j 1)) 1 6 && rnX 4 320 true (stD 4 2 3 320 3 6 1)) = true := by kernel_rfl
theorem wX6 : (allN (fun j => rnX 42 100 false (stD 42 40 41 100 6 j 1)) 1 9 && rnX 42 100 true (stD 42 40 41 100 6 9 1)) = true := by kernel_rfl
theorem c4_1 : (allN (rnC (ksT 4 1)) 0 2 && rxC (ksT 4 1)) = true := by kernel_rfl
end Go.Proofs.YtaihihejljcniaaGreatDoor.muxEarly
