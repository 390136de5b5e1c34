/- A part of the proof: an interpreter of the model's own code on partly known states, and that what it answers is what the program answers. No condition of its own. -/
import Derived.Test.YtaihihejljcniaaGreatDoorQ1MuxEarlyO
set_option maxRecDepth 100000
set_option linter.unusedVariables false
set_option linter.unusedSimpArgs false
set_option maxHeartbeats 4000000
namespace Go.Proofs.YtaihihejljcniaaGreatDoor.muxEarly
open Go Go.AX Go.Proofs Go.Proofs.YtaihihejljcniaaGreatDoor
theorem wA4 : (rnA 36 100 (stD 36 34 35 100 4) (kdF 4) 0 0 && allN (fun j => rnA 36 100 (stD 36 34 35 100 4) (kdF 4) j 1) 1 6) = true := by kernel_rfl
theorem wA3 : (rnA 33 100 (stD 33 31 32 100 3) (kdF 3) 0 0 && allN (fun j => rnA 33 100 (stD 33 31 32 100 3) (kdF 3) j 1) 1 5) = true := by kernel_rfl
theorem c5_6 : (allN (rnC (ksT 5 6)) 0 7 && rxC (ksT 5 6)) = true := by kernel_rfl
theorem c2_5 : (allN (rnC (ksT 2 5)) 0 5 && rxC (ksT 2 5)) = true := by kernel_rfl
theorem c1_3 : (allN (rnC (ksT 1 3)) 0 4 && rxC (ksT 1 3)) = true := by kernel_rfl
theorem c5_3 : (allN (rnC (ksT 5 3)) 0 4 && rxC (ksT 5 3)) = true := by kernel_rfl
theorem c3_2 : (allN (rnC (ksT 3 2)) 0 3 && rxC (ksT 3 2)) = true := by kernel_rfl
theorem dX6 : (allN (fun j => rnX 4 320 false (stD 4 2 3 320 6 j 1)) 1 9 && rnX 4 320 true (stD 4 2 3 320 6 9 1)) = true := by kernel_rfl
theorem c5_1 : (allN (rnC (ksT 5 1)) 0 2 && rxC (ksT 5 1)) = true := by kernel_rfl
end Go.Proofs.YtaihihejljcniaaGreatDoor.muxEarly
