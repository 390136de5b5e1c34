/- A part of the proof: an interpreter of the model's own code on partly known states, and that what it answers is what the program answers. No condition of its own. -/
import Derived.Test.YtaihihejljcniaaGreatDoorQ1MuxEarlyO
set_option maxRecDepth 100000
set_option linter.unusedVariables false
set_option linter.unusedSimpArgs false
set_option maxHeartbeats 4000000
namespace Go.Proofs.YtaihihejljcniaaGreatDoor.muxEarly
open Go Go.AX Go.Proofs Go.Proofs.YtaihihejljcniaaGreatDoor
theorem wA6 : (rnA 42 100 (stD 42 40 41 100 6) (kdF 6) 0 0 && allN (fun j => rnA 42 100 (stD 42 40 41 100 6) (kdF 6) j 1) 1 8) = true := by kernel_rfl
theorem dA2 : (rnA 4 320 (stD 4 2 3 320 2) (kdF 2) 0 0 && allN (fun j => rnA 4 320 (stD 4 2 3 320 2) (kdF 2) j 1) 1 4) = true := by kernel_rfl
theorem c3_5 : (allN (rnC (ksT 3 5)) 0 6 && rxC (ksT 3 5)) = true := by kernel_rfl
theorem fA : (rnA 4 700 (stF (.sl 552 0 1 0 true) 700) (fun _ => 5) 0 0 && allN (fun j => rnA 4 700 (stF (.sl 552 0 1 0 true) 700) (fun _ => 5) j 1) 0 1 && rnR 4 700 (stF (.sl 552 0 1 0 true) 700)) = true := by kernel_rfl
theorem c4_3 : (allN (rnC (ksT 4 3)) 0 4 && rxC (ksT 4 3)) = true := by kernel_rfl
theorem c0_2 : (allN (rnC (ksT 0 2)) 0 3 && rxC (ksT 0 2)) = true := by kernel_rfl
theorem dX2 : (allN (fun j => rnX 4 320 false (stD 4 2 3 320 2 j 1)) 1 5 && rnX 4 320 true (stD 4 2 3 320 2 5 1)) = true := by kernel_rfl
theorem wX5 : (allN (fun j => rnX 39 100 false (stD 39 37 38 100 5 j 1)) 1 8 && rnX 39 100 true (stD 39 37 38 100 5 8 1)) = true := by kernel_rfl
theorem c1_1 : (allN (rnC (ksT 1 1)) 0 2 && rxC (ksT 1 1)) = true := by kernel_rfl
end Go.Proofs.YtaihihejljcniaaGreatDoor.muxEarly
