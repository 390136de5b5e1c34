/- A part of the proof: an interpreter of the model's own code on partly known states, and that what it answers is what the program answers. No condition of its own. -/
import Derived.Test.YtaihihejljcniaaGreatDoorQ1MuxEarlyO
set_option maxRecDepth 100000
set_option linter.unusedVariables false
set_option linter.unusedSimpArgs false
set_option maxHeartbeats 4000000
namespace Go.Proofs.YtaihihejljcniaaGreatDoor.muxEarly
open Go Go.AX Go.Proofs Go.Proofs.YtaihihejljcniaaGreatDoor
theorem wA5 : (rnA 39 100 (stD 39 37 38 100 5) (kdF 5) 0 0 && allN (fun j => rnA 39 100 (stD 39 37 38 100 5) (kdF 5) j 1) 1 7) = true := by kernel_rfl
theorem c6_7 : (allN (rnC (ksT 6 7)) 0 8 && rxC (ksT 6 7)) = true := by kernel_rfl
theorem c4_5 : (allN (rnC (ksT 4 5)) 0 6 && rxC (ksT 4 5)) = true := by kernel_rfl
theorem dA0 : (rnA 4 320 (stD 4 2 3 320 0) (kdF 0) 0 0 && allN (fun j => rnA 4 320 (stD 4 2 3 320 0) (kdF 0) j 1) 1 2) = true := by kernel_rfl
theorem c5_4 : (allN (rnC (ksT 5 4)) 0 5 && rxC (ksT 5 4)) = true := by kernel_rfl
theorem wX1 : (allN (fun j => rnX 27 100 false (stD 27 25 26 100 1 j 1)) 1 4 && rnX 27 100 true (stD 27 25 26 100 1 4 1)) = true := by kernel_rfl
theorem wX3 : (allN (fun j => rnX 33 100 false (stD 33 31 32 100 3 j 1)) 1 6 && rnX 33 100 true (stD 33 31 32 100 3 6 1)) = true := by kernel_rfl
theorem c5_2 : (allN (rnC (ksT 5 2)) 0 3 && rxC (ksT 5 2)) = true := by kernel_rfl
theorem c3_1 : (allN (rnC (ksT 3 1)) 0 2 && rxC (ksT 3 1)) = true := by kernel_rfl
end Go.Proofs.YtaihihejljcniaaGreatDoor.muxEarly
