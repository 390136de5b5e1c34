/- A part of the proof: an interpreter of the model's own code on partly known states, and that what it answers is what the program answers. No condition of its own. -/
import Derived.Test.YtaihihejljcniaaGreatDoorQ1MuxEarlyO
set_option maxRecDepth 100000
set_option linter.unusedVariables false
set_option linter.unusedSimpArgs false
set_option maxHeartbeats 4000000
namespace Go.Proofs.YtaihihejljcniaaGreatDoor.muxEarly
open Go Go.AX Go.Proofs Go.Proofs.YtaihihejljcniaaGreatDoor
theorem dA4 : (rnA 4 320 (stD 4 2 3 320 4) (kdF 4) 0 0 && allN (fun j => rnA 4 320 (stD 4 2 3 320 4) (kdF 4) j 1) 1 6) = true := by kernel_rfl
theorem dA3 : (rnA 4 320 (stD 4 2 3 320 3) (kdF 3) 0 0 && allN (fun j => rnA 4 320 (stD 4 2 3 320 3) (kdF 3) j 1) 1 5) = true := by kernel_rfl
theorem c6_6 : (allN (rnC (ksT 6 6)) 0 7 && rxC (ksT 6 6)) = true := by kernel_rfl
theorem c3_4 : (allN (rnC (ksT 3 4)) 0 5 && rxC (ksT 3 4)) = true := by kernel_rfl
theorem c1_4 : (allN (rnC (ksT 1 4)) 0 4 && rxC (ksT 1 4)) = true := by kernel_rfl
theorem c6_3 : (allN (rnC (ksT 6 3)) 0 4 && rxC (ksT 6 3)) = true := by kernel_rfl
theorem wX4 : (allN (fun j => rnX 36 100 false (stD 36 34 35 100 4 j 1)) 1 7 && rnX 36 100 true (stD 36 34 35 100 4 7 1)) = true := by kernel_rfl
theorem c6_2 : (allN (rnC (ksT 6 2)) 0 3 && rxC (ksT 6 2)) = true := by kernel_rfl
theorem c6_1 : (allN (rnC (ksT 6 1)) 0 2 && rxC (ksT 6 1)) = true := by kernel_rfl
end Go.Proofs.YtaihihejljcniaaGreatDoor.muxEarly
