/- A part of the proof: an interpreter of the model's own code on partly known states, and that what it answers is what the program answers. No condition of its own. -/
import Derived.Test.YtkhcgoeccmkmdaaGreatDoorM1MuxFairS0
import Derived.Test.YtkhcgoeccmkmdaaGreatDoorM1MuxFairS1
import Derived.Test.YtkhcgoeccmkmdaaGreatDoorM1MuxFairS2
import Derived.Test.YtkhcgoeccmkmdaaGreatDoorM1MuxFairS3
import Derived.Test.YtkhcgoeccmkmdaaGreatDoorM1MuxFairS4
import Derived.Test.YtkhcgoeccmkmdaaGreatDoorM1MuxFairS5
import Derived.Test.YtkhcgoeccmkmdaaGreatDoorM1MuxFairS6
import Derived.Test.YtkhcgoeccmkmdaaGreatDoorM1MuxFairS7
import Derived.Test.YtkhcgoeccmkmdaaGreatDoorM1MuxFairS8
import Derived.Test.YtkhcgoeccmkmdaaGreatDoorM1MuxFairS9
set_option maxRecDepth 100000
set_option linter.unusedVariables false
set_option linter.unusedSimpArgs false
set_option maxHeartbeats 4000000
namespace Go.Proofs.YtkhcgoeccmkmdaaGreatDoor.muxFair
open Go Go.AX Go.Proofs Go.Proofs.YtkhcgoeccmkmdaaGreatDoor
theorem walk (n : Int) (body : Int) (b0 : 0 ≤ n) (b1 : n ≤ 255) (b2 : 0 ≤ body) (b3 : body ≤ 65535) (w : World) (hl : laidE w) : Calls Tryz.prog 4 #[.int .u8 n, .int .u16 body] w fun e w' => e = .returned (.bool true) ∧ Go.AX.Below (Go.AX.Fz.lt w.heap.size) w w' := by
  rcases (show (n) % 6 = 0 ∨ (n) % 6 = 1 ∨ (n) % 6 = 2 ∨ (n) % 6 = 3 ∨ (n) % 6 = 4 ∨ (n) % 6 = 5 from by omega) with h0 | h0 | h0 | h0 | h0 | h0
  · by_cases h1 : 512 < (body % 2000)
    · by_cases h2 : 512 < (body % 2000) - 512
      · by_cases h3 : 512 < (body % 2000) - 1024
        · exact path4 n body b0 b1 b2 b3 h0 h1 h2 h3 w hl
        · exact path3 n body b0 b1 b2 b3 h0 h1 h2 h3 w hl
      · exact path2 n body b0 b1 b2 b3 h0 h1 h2 w hl
    · by_cases h2 : (body % 2000) = 0
      · exact path0 n body b0 b1 b2 b3 h0 h1 h2 w hl
      · exact path1 n body b0 b1 b2 b3 h0 h1 h2 w hl
  · by_cases h1 : 512 < (body % 2000)
    · by_cases h2 : 512 < (body % 2000) - 512
      · by_cases h3 : 512 < (body % 2000) - 1024
        · exact path9 n body b0 b1 b2 b3 h0 h1 h2 h3 w hl
        · exact path8 n body b0 b1 b2 b3 h0 h1 h2 h3 w hl
      · exact path7 n body b0 b1 b2 b3 h0 h1 h2 w hl
    · by_cases h2 : (body % 2000) = 0
      · exact path5 n body b0 b1 b2 b3 h0 h1 h2 w hl
      · exact path6 n body b0 b1 b2 b3 h0 h1 h2 w hl
  · by_cases h1 : 512 < (body % 2000)
    · by_cases h2 : 512 < (body % 2000) - 512
      · by_cases h3 : 512 < (body % 2000) - 1024
        · exact path14 n body b0 b1 b2 b3 h0 h1 h2 h3 w hl
        · exact path13 n body b0 b1 b2 b3 h0 h1 h2 h3 w hl
      · exact path12 n body b0 b1 b2 b3 h0 h1 h2 w hl
    · by_cases h2 : (body % 2000) = 0
      · exact path10 n body b0 b1 b2 b3 h0 h1 h2 w hl
      · exact path11 n body b0 b1 b2 b3 h0 h1 h2 w hl
  · by_cases h1 : 512 < (body % 2000)
    · by_cases h2 : 512 < (body % 2000) - 512
      · by_cases h3 : 512 < (body % 2000) - 1024
        · exact path19 n body b0 b1 b2 b3 h0 h1 h2 h3 w hl
        · exact path18 n body b0 b1 b2 b3 h0 h1 h2 h3 w hl
      · exact path17 n body b0 b1 b2 b3 h0 h1 h2 w hl
    · by_cases h2 : (body % 2000) = 0
      · exact path15 n body b0 b1 b2 b3 h0 h1 h2 w hl
      · exact path16 n body b0 b1 b2 b3 h0 h1 h2 w hl
  · by_cases h1 : 512 < (body % 2000)
    · by_cases h2 : 512 < (body % 2000) - 512
      · by_cases h3 : 512 < (body % 2000) - 1024
        · exact path24 n body b0 b1 b2 b3 h0 h1 h2 h3 w hl
        · exact path23 n body b0 b1 b2 b3 h0 h1 h2 h3 w hl
      · exact path22 n body b0 b1 b2 b3 h0 h1 h2 w hl
    · by_cases h2 : (body % 2000) = 0
      · exact path20 n body b0 b1 b2 b3 h0 h1 h2 w hl
      · exact path21 n body b0 b1 b2 b3 h0 h1 h2 w hl
  · by_cases h1 : 512 < (body % 2000)
    · by_cases h2 : 512 < (body % 2000) - 512
      · by_cases h3 : 512 < (body % 2000) - 1024
        · exact path29 n body b0 b1 b2 b3 h0 h1 h2 h3 w hl
        · exact path28 n body b0 b1 b2 b3 h0 h1 h2 h3 w hl
      · exact path27 n body b0 b1 b2 b3 h0 h1 h2 w hl
    · by_cases h2 : (body % 2000) = 0
      · exact path25 n body b0 b1 b2 b3 h0 h1 h2 w hl
      · exact path26 n body b0 b1 b2 b3 h0 h1 h2 w hl
end Go.Proofs.YtkhcgoeccmkmdaaGreatDoor.muxFair
