/- A part of the proof: an interpreter of the model's own code on partly known states, and that what it answers is what the program answers. No condition of its own. -/
import Derived.Test.YtaihihejljcniaaGreatDoorQ1MuxEarlyS0
import Derived.Test.YtaihihejljcniaaGreatDoorQ1MuxEarlyS1
import Derived.Test.YtaihihejljcniaaGreatDoorQ1MuxEarlyS2
import Derived.Test.YtaihihejljcniaaGreatDoorQ1MuxEarlyS3
import Derived.Test.YtaihihejljcniaaGreatDoorQ1MuxEarlyS4
import Derived.Test.YtaihihejljcniaaGreatDoorQ1MuxEarlyS5
import Derived.Test.YtaihihejljcniaaGreatDoorQ1MuxEarlyS6
import Derived.Test.YtaihihejljcniaaGreatDoorQ1MuxEarlyS7
import Derived.Test.YtaihihejljcniaaGreatDoorQ1MuxEarlyS8
import Derived.Test.YtaihihejljcniaaGreatDoorQ1MuxEarlyS9
set_option maxRecDepth 100000
set_option linter.unusedVariables false
set_option linter.unusedSimpArgs false
set_option maxHeartbeats 4000000
namespace Go.Proofs.YtaihihejljcniaaGreatDoor.muxEarly
open Go Go.AX Go.Proofs Go.Proofs.YtaihihejljcniaaGreatDoor
theorem walk (n : Int) (body : Int) (b0 : 0 ≤ n) (b1 : n ≤ 65535) (b2 : 0 ≤ body) (b3 : body ≤ 65535) (w : World) (hl : laidE w) : Calls Tryz.prog 3 #[.int .u16 n, .int .u16 body] w fun e w' => e = .returned (.bool true) ∧ Go.AX.Below (Go.AX.Fz.lt w.heap.size) w w' := by
  by_cases h0 : 512 < (body % 3000)
  · by_cases h1 : 512 < (body % 3000) - 512
    · by_cases h2 : 512 < (body % 3000) - 1024
      · by_cases h3 : 512 < (body % 3000) - 1536
        · by_cases h4 : 512 < (body % 3000) - 2048
          · by_cases h8 : (NN6 n body) ≤ LC6 body 1
            · exact path39 n body b0 b1 b2 b3 h0 h1 h2 h3 h4 h8 w hl
            · by_cases h9 : (NN6 n body) ≤ LC6 body 2
              · exact path40 n body b0 b1 b2 b3 h0 h1 h2 h3 h4 h8 h9 w hl
              · by_cases h10 : (NN6 n body) ≤ LC6 body 3
                · exact path41 n body b0 b1 b2 b3 h0 h1 h2 h3 h4 h8 h9 h10 w hl
                · by_cases h11 : (NN6 n body) ≤ LC6 body 4
                  · exact path42 n body b0 b1 b2 b3 h0 h1 h2 h3 h4 h8 h9 h10 h11 w hl
                  · by_cases h12 : (NN6 n body) ≤ LC6 body 5
                    · exact path43 n body b0 b1 b2 b3 h0 h1 h2 h3 h4 h8 h9 h10 h11 h12 w hl
                    · by_cases h13 : (NN6 n body) ≤ LC6 body 6
                      · exact path44 n body b0 b1 b2 b3 h0 h1 h2 h3 h4 h8 h9 h10 h11 h12 h13 w hl
                      · by_cases h14 : (NN6 n body) ≤ LC6 body 7
                        · exact path45 n body b0 b1 b2 b3 h0 h1 h2 h3 h4 h8 h9 h10 h11 h12 h13 h14 w hl
                        · by_cases h15 : (NN6 n body) ≤ LC6 body 8
                          · exact path46 n body b0 b1 b2 b3 h0 h1 h2 h3 h4 h8 h9 h10 h11 h12 h13 h14 h15 w hl
                          · by_cases h16 : (RR6 body 9 (NN6 n body)).length = 0
                            · exact path48 n body b0 b1 b2 b3 h0 h1 h2 h3 h4 h8 h9 h10 h11 h12 h13 h14 h15 h16 w hl
                            · exact path47 n body b0 b1 b2 b3 h0 h1 h2 h3 h4 h8 h9 h10 h11 h12 h13 h14 h15 h16 w hl
          · by_cases h7 : (NN5 n body) ≤ LC5 body 1
            · exact path30 n body b0 b1 b2 b3 h0 h1 h2 h3 h4 h7 w hl
            · by_cases h8 : (NN5 n body) ≤ LC5 body 2
              · exact path31 n body b0 b1 b2 b3 h0 h1 h2 h3 h4 h7 h8 w hl
              · by_cases h9 : (NN5 n body) ≤ LC5 body 3
                · exact path32 n body b0 b1 b2 b3 h0 h1 h2 h3 h4 h7 h8 h9 w hl
                · by_cases h10 : (NN5 n body) ≤ LC5 body 4
                  · exact path33 n body b0 b1 b2 b3 h0 h1 h2 h3 h4 h7 h8 h9 h10 w hl
                  · by_cases h11 : (NN5 n body) ≤ LC5 body 5
                    · exact path34 n body b0 b1 b2 b3 h0 h1 h2 h3 h4 h7 h8 h9 h10 h11 w hl
                    · by_cases h12 : (NN5 n body) ≤ LC5 body 6
                      · exact path35 n body b0 b1 b2 b3 h0 h1 h2 h3 h4 h7 h8 h9 h10 h11 h12 w hl
                      · by_cases h13 : (NN5 n body) ≤ LC5 body 7
                        · exact path36 n body b0 b1 b2 b3 h0 h1 h2 h3 h4 h7 h8 h9 h10 h11 h12 h13 w hl
                        · by_cases h14 : (RR5 body 8 (NN5 n body)).length = 0
                          · exact path38 n body b0 b1 b2 b3 h0 h1 h2 h3 h4 h7 h8 h9 h10 h11 h12 h13 h14 w hl
                          · exact path37 n body b0 b1 b2 b3 h0 h1 h2 h3 h4 h7 h8 h9 h10 h11 h12 h13 h14 w hl
        · by_cases h6 : (NN4 n body) ≤ LC4 body 1
          · exact path22 n body b0 b1 b2 b3 h0 h1 h2 h3 h6 w hl
          · by_cases h7 : (NN4 n body) ≤ LC4 body 2
            · exact path23 n body b0 b1 b2 b3 h0 h1 h2 h3 h6 h7 w hl
            · by_cases h8 : (NN4 n body) ≤ LC4 body 3
              · exact path24 n body b0 b1 b2 b3 h0 h1 h2 h3 h6 h7 h8 w hl
              · by_cases h9 : (NN4 n body) ≤ LC4 body 4
                · exact path25 n body b0 b1 b2 b3 h0 h1 h2 h3 h6 h7 h8 h9 w hl
                · by_cases h10 : (NN4 n body) ≤ LC4 body 5
                  · exact path26 n body b0 b1 b2 b3 h0 h1 h2 h3 h6 h7 h8 h9 h10 w hl
                  · by_cases h11 : (NN4 n body) ≤ LC4 body 6
                    · exact path27 n body b0 b1 b2 b3 h0 h1 h2 h3 h6 h7 h8 h9 h10 h11 w hl
                    · by_cases h12 : (RR4 body 7 (NN4 n body)).length = 0
                      · exact path29 n body b0 b1 b2 b3 h0 h1 h2 h3 h6 h7 h8 h9 h10 h11 h12 w hl
                      · exact path28 n body b0 b1 b2 b3 h0 h1 h2 h3 h6 h7 h8 h9 h10 h11 h12 w hl
      · by_cases h5 : (NN3 n body) ≤ LC3 body 1
        · exact path15 n body b0 b1 b2 b3 h0 h1 h2 h5 w hl
        · by_cases h6 : (NN3 n body) ≤ LC3 body 2
          · exact path16 n body b0 b1 b2 b3 h0 h1 h2 h5 h6 w hl
          · by_cases h7 : (NN3 n body) ≤ LC3 body 3
            · exact path17 n body b0 b1 b2 b3 h0 h1 h2 h5 h6 h7 w hl
            · by_cases h8 : (NN3 n body) ≤ LC3 body 4
              · exact path18 n body b0 b1 b2 b3 h0 h1 h2 h5 h6 h7 h8 w hl
              · by_cases h9 : (NN3 n body) ≤ LC3 body 5
                · exact path19 n body b0 b1 b2 b3 h0 h1 h2 h5 h6 h7 h8 h9 w hl
                · by_cases h10 : (RR3 body 6 (NN3 n body)).length = 0
                  · exact path21 n body b0 b1 b2 b3 h0 h1 h2 h5 h6 h7 h8 h9 h10 w hl
                  · exact path20 n body b0 b1 b2 b3 h0 h1 h2 h5 h6 h7 h8 h9 h10 w hl
    · by_cases h4 : (NN2 n body) ≤ LC2 body 1
      · exact path9 n body b0 b1 b2 b3 h0 h1 h4 w hl
      · by_cases h5 : (NN2 n body) ≤ LC2 body 2
        · exact path10 n body b0 b1 b2 b3 h0 h1 h4 h5 w hl
        · by_cases h6 : (NN2 n body) ≤ LC2 body 3
          · exact path11 n body b0 b1 b2 b3 h0 h1 h4 h5 h6 w hl
          · by_cases h7 : (NN2 n body) ≤ LC2 body 4
            · exact path12 n body b0 b1 b2 b3 h0 h1 h4 h5 h6 h7 w hl
            · by_cases h8 : (RR2 body 5 (NN2 n body)).length = 0
              · exact path14 n body b0 b1 b2 b3 h0 h1 h4 h5 h6 h7 h8 w hl
              · exact path13 n body b0 b1 b2 b3 h0 h1 h4 h5 h6 h7 h8 w hl
  · by_cases h1 : (body % 3000) = 0
    · by_cases h2 : (NN0 n body) ≤ LC0 body 1
      · exact path0 n body b0 b1 b2 b3 h0 h1 h2 w hl
      · by_cases h3 : (NN0 n body) ≤ LC0 body 2
        · exact path1 n body b0 b1 b2 b3 h0 h1 h2 h3 w hl
        · by_cases h4 : (RR0 body 3 (NN0 n body)).length = 0
          · exact path3 n body b0 b1 b2 b3 h0 h1 h2 h3 h4 w hl
          · exact path2 n body b0 b1 b2 b3 h0 h1 h2 h3 h4 w hl
    · by_cases h3 : (NN1 n body) ≤ LC1 body 1
      · exact path4 n body b0 b1 b2 b3 h0 h1 h3 w hl
      · by_cases h4 : (NN1 n body) ≤ LC1 body 2
        · exact path5 n body b0 b1 b2 b3 h0 h1 h3 h4 w hl
        · by_cases h5 : (NN1 n body) ≤ LC1 body 3
          · exact path6 n body b0 b1 b2 b3 h0 h1 h3 h4 h5 w hl
          · by_cases h6 : (RR1 body 4 (NN1 n body)).length = 0
            · exact path8 n body b0 b1 b2 b3 h0 h1 h3 h4 h5 h6 w hl
            · exact path7 n body b0 b1 b2 b3 h0 h1 h3 h4 h5 h6 w hl
end Go.Proofs.YtaihihejljcniaaGreatDoor.muxEarly
