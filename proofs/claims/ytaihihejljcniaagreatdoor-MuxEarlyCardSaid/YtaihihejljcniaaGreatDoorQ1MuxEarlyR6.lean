/- A part of the proof: an interpreter of the model's own code on partly known states, and that what it answers is what the program answers. No condition of its own. -/
import Derived.Test.YtaihihejljcniaaGreatDoorQ1MuxEarlyO
set_option maxRecDepth 100000
set_option linter.unusedVariables false
set_option linter.unusedSimpArgs false
set_option maxHeartbeats 4000000
namespace Go.Proofs.YtaihihejljcniaaGreatDoor.muxEarly
open Go Go.AX Go.Proofs Go.Proofs.YtaihihejljcniaaGreatDoor
theorem c6_8 : (allN (rnC (ksT 6 8)) 0 9 && rxC (ksT 6 8)) = true := by kernel_rfl
theorem c5_7 : (allN (rnC (ksT 5 7)) 0 8 && rxC (ksT 5 7)) = true := by kernel_rfl
theorem wA1 : (rnA 27 100 (stD 27 25 26 100 1) (kdF 1) 0 0 && allN (fun j => rnA 27 100 (stD 27 25 26 100 1) (kdF 1) j 1) 1 3) = true := by kernel_rfl
theorem c5_5 : (allN (rnC (ksT 5 5)) 0 6 && rxC (ksT 5 5)) = true := by kernel_rfl
theorem c2_3 : (allN (rnC (ksT 2 3)) 0 4 && rxC (ksT 2 3)) = true := by kernel_rfl
theorem wX0 : (allN (fun j => rnX 24 100 false (stD 24 22 23 100 0 j 1)) 1 3 && rnX 24 100 true (stD 24 22 23 100 0 3 1)) = true := by kernel_rfl
theorem c1_2 : (allN (rnC (ksT 1 2)) 0 3 && rxC (ksT 1 2)) = true := by kernel_rfl
theorem dX4 : (allN (fun j => rnX 4 320 false (stD 4 2 3 320 4 j 1)) 1 7 && rnX 4 320 true (stD 4 2 3 320 4 7 1)) = true := by kernel_rfl
theorem fX : (allN (fun j => rnX 4 700 false (stF (.sl 552 0 1 0 true) 700 j 1)) 0 2 && rnX 4 700 true (stF (.sl 552 0 1 0 true) 700 1 1)) = true := by kernel_rfl
end Go.Proofs.YtaihihejljcniaaGreatDoor.muxEarly
