/- A part of the proof: an interpreter of the model's own code on partly known states, and that what it answers is what the program answers. No condition of its own. -/
import Derived.Test.YtaihihejljcniaaGreatDoorQ1MuxEarlyO
set_option maxRecDepth 100000
set_option linter.unusedVariables false
set_option linter.unusedSimpArgs false
set_option maxHeartbeats 4000000
namespace Go.Proofs.YtaihihejljcniaaGreatDoor.muxEarly
open Go Go.AX Go.Proofs Go.Proofs.YtaihihejljcniaaGreatDoor
theorem dA6 : (rnA 4 320 (stD 4 2 3 320 6) (kdF 6) 0 0 && allN (fun j => rnA 4 320 (stD 4 2 3 320 6) (kdF 6) j 1) 1 8) = true := by kernel_rfl
theorem c4_6 : (allN (rnC (ksT 4 6)) 0 7 && rxC (ksT 4 6)) = true := by kernel_rfl
theorem c3_6 : (allN (rnC (ksT 3 6)) 0 6 && rxC (ksT 3 6)) = true := by kernel_rfl
theorem wA0 : (rnA 24 100 (stD 24 22 23 100 0) (kdF 0) 0 0 && allN (fun j => rnA 24 100 (stD 24 22 23 100 0) (kdF 0) j 1) 1 2) = true := by kernel_rfl
theorem c4_4 : (allN (rnC (ksT 4 4)) 0 5 && rxC (ksT 4 4)) = true := by kernel_rfl
theorem c0_3 : (allN (rnC (ksT 0 3)) 0 3 && rxC (ksT 0 3)) = true := by kernel_rfl
theorem c2_2 : (allN (rnC (ksT 2 2)) 0 3 && rxC (ksT 2 2)) = true := by kernel_rfl
theorem dX5 : (allN (fun j => rnX 4 320 false (stD 4 2 3 320 5 j 1)) 1 8 && rnX 4 320 true (stD 4 2 3 320 5 8 1)) = true := by kernel_rfl
theorem c2_1 : (allN (rnC (ksT 2 1)) 0 2 && rxC (ksT 2 1)) = true := by kernel_rfl
end Go.Proofs.YtaihihejljcniaaGreatDoor.muxEarly
