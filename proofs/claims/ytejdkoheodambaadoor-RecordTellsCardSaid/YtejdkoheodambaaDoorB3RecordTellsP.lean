/- A part of the proof: an interpreter of the model's own code on partly known states, and that what it answers is what the program answers. No condition of its own. -/
import Derived.Test.YtejdkoheodambaaDoorB3RecordTellsR0
import Derived.Test.YtejdkoheodambaaDoorB3RecordTellsR1
import Derived.Test.YtejdkoheodambaaDoorB3RecordTellsR2
import Derived.Test.YtejdkoheodambaaDoorB3RecordTellsR3
import Derived.Test.YtejdkoheodambaaDoorB3RecordTellsR4
set_option maxRecDepth 100000
set_option linter.unusedVariables false
set_option linter.unusedSimpArgs false
namespace Go.Proofs.YtejdkoheodambaaDoor.recordTells
open Go Go.AX Go.Proofs Go.Proofs.YtejdkoheodambaaDoor
theorem walk (rt : Int) (ri : Int) (c : List UInt8) (rp : Int) (s : List UInt8) (n : Int) (b0 : -9223372036854775808 ≤ rt) (b1 : rt ≤ 9223372036854775807) (b2 : -9223372036854775808 ≤ ri) (b3 : ri ≤ 9223372036854775807) (b4 : c.length ≤ 9223372036854775807) (b5 : -9223372036854775808 ≤ rp) (b6 : rp ≤ 9223372036854775807) (b7 : s.length ≤ 9223372036854775807) (b8 : -9223372036854775808 ≤ n) (b9 : n ≤ 9223372036854775807) (w : World) (hl : laidE w) : Calls Tryd.prog 5 #[.agg #[.int .i64 rt, .int .i64 ri, St' c, .int .i64 rp], St' s, .int .i64 n] w fun e w' => e = .returned (.bool true) ∧ Go.AX.Below w.heap.size w w' := by
  by_cases h0 : 3000 < (s.length : Int)
  · exact path6 rt ri c rp s n b0 b1 b2 b3 b4 b5 b6 b7 b8 b9 h0 w hl
  · by_cases h1 : 70000 < (c.length : Int)
    · exact path37 rt ri c rp s n b0 b1 b2 b3 b4 b5 b6 b7 b8 b9 h0 h1 w hl
    · by_cases h2 : (s.length : Int) = 0
      · by_cases h5 : 1 ≤ rt
        · by_cases h6 : rt ≤ 255
          · by_cases h7 : 0 ≤ ri
            · by_cases h8 : ri ≤ 65535
              · by_cases h9 : (c.length : Int) ≤ 65535
                · by_cases h10 : 0 ≤ rp
                  · by_cases h11 : rp ≤ 255
                    · exact path0 rt ri c rp s n b0 b1 b2 b3 b4 b5 b6 b7 b8 b9 h0 h1 h2 h5 h6 h7 h8 h9 h10 h11 w hl
                    · exact path44 rt ri c rp s n b0 b1 b2 b3 b4 b5 b6 b7 b8 b9 h0 h1 h2 h5 h6 h7 h8 h9 h10 h11 w hl
                  · exact path38 rt ri c rp s n b0 b1 b2 b3 b4 b5 b6 b7 b8 b9 h0 h1 h2 h5 h6 h7 h8 h9 h10 w hl
                · exact path31 rt ri c rp s n b0 b1 b2 b3 b4 b5 b6 b7 b8 b9 h0 h1 h2 h5 h6 h7 h8 h9 w hl
              · exact path25 rt ri c rp s n b0 b1 b2 b3 b4 b5 b6 b7 b8 b9 h0 h1 h2 h5 h6 h7 h8 w hl
            · exact path19 rt ri c rp s n b0 b1 b2 b3 b4 b5 b6 b7 b8 b9 h0 h1 h2 h5 h6 h7 w hl
          · exact path13 rt ri c rp s n b0 b1 b2 b3 b4 b5 b6 b7 b8 b9 h0 h1 h2 h5 h6 w hl
        · exact path7 rt ri c rp s n b0 b1 b2 b3 b4 b5 b6 b7 b8 b9 h0 h1 h2 h5 w hl
      · by_cases h3 : bt s 0 = 1
        · by_cases h4 : (s.length : Int) < 8
          · by_cases h6 : 1 ≤ rt
            · by_cases h7 : rt ≤ 255
              · by_cases h8 : 0 ≤ ri
                · by_cases h9 : ri ≤ 65535
                  · by_cases h10 : (c.length : Int) ≤ 65535
                    · by_cases h11 : 0 ≤ rp
                      · by_cases h12 : rp ≤ 255
                        · exact path2 rt ri c rp s n b0 b1 b2 b3 b4 b5 b6 b7 b8 b9 h0 h1 h2 h3 h4 h6 h7 h8 h9 h10 h11 h12 w hl
                        · exact path46 rt ri c rp s n b0 b1 b2 b3 b4 b5 b6 b7 b8 b9 h0 h1 h2 h3 h4 h6 h7 h8 h9 h10 h11 h12 w hl
                      · exact path40 rt ri c rp s n b0 b1 b2 b3 b4 b5 b6 b7 b8 b9 h0 h1 h2 h3 h4 h6 h7 h8 h9 h10 h11 w hl
                    · exact path33 rt ri c rp s n b0 b1 b2 b3 b4 b5 b6 b7 b8 b9 h0 h1 h2 h3 h4 h6 h7 h8 h9 h10 w hl
                  · exact path27 rt ri c rp s n b0 b1 b2 b3 b4 b5 b6 b7 b8 b9 h0 h1 h2 h3 h4 h6 h7 h8 h9 w hl
                · exact path21 rt ri c rp s n b0 b1 b2 b3 b4 b5 b6 b7 b8 b9 h0 h1 h2 h3 h4 h6 h7 h8 w hl
              · exact path15 rt ri c rp s n b0 b1 b2 b3 b4 b5 b6 b7 b8 b9 h0 h1 h2 h3 h4 h6 h7 w hl
            · exact path9 rt ri c rp s n b0 b1 b2 b3 b4 b5 b6 b7 b8 b9 h0 h1 h2 h3 h4 h6 w hl
          · by_cases h5 : (s.length : Int) < (bt s 4) * 256 + (bt s 5) + (bt s 6) + 8
            · by_cases h8 : 1 ≤ rt
              · by_cases h9 : rt ≤ 255
                · by_cases h10 : 0 ≤ ri
                  · by_cases h11 : ri ≤ 65535
                    · by_cases h12 : (c.length : Int) ≤ 65535
                      · by_cases h13 : 0 ≤ rp
                        · by_cases h14 : rp ≤ 255
                          · exact path5 rt ri c rp s n b0 b1 b2 b3 b4 b5 b6 b7 b8 b9 h0 h1 h2 h3 h4 h5 h8 h9 h10 h11 h12 h13 h14 w hl
                          · exact path49 rt ri c rp s n b0 b1 b2 b3 b4 b5 b6 b7 b8 b9 h0 h1 h2 h3 h4 h5 h8 h9 h10 h11 h12 h13 h14 w hl
                        · exact path43 rt ri c rp s n b0 b1 b2 b3 b4 b5 b6 b7 b8 b9 h0 h1 h2 h3 h4 h5 h8 h9 h10 h11 h12 h13 w hl
                      · exact path36 rt ri c rp s n b0 b1 b2 b3 b4 b5 b6 b7 b8 b9 h0 h1 h2 h3 h4 h5 h8 h9 h10 h11 h12 w hl
                    · exact path30 rt ri c rp s n b0 b1 b2 b3 b4 b5 b6 b7 b8 b9 h0 h1 h2 h3 h4 h5 h8 h9 h10 h11 w hl
                  · exact path24 rt ri c rp s n b0 b1 b2 b3 b4 b5 b6 b7 b8 b9 h0 h1 h2 h3 h4 h5 h8 h9 h10 w hl
                · exact path18 rt ri c rp s n b0 b1 b2 b3 b4 b5 b6 b7 b8 b9 h0 h1 h2 h3 h4 h5 h8 h9 w hl
              · exact path12 rt ri c rp s n b0 b1 b2 b3 b4 b5 b6 b7 b8 b9 h0 h1 h2 h3 h4 h5 h8 w hl
            · by_cases h6 : bt s 1 = 0
              · by_cases h9 : 1 ≤ rt
                · by_cases h10 : rt ≤ 255
                  · by_cases h11 : 0 ≤ ri
                    · by_cases h12 : ri ≤ 65535
                      · by_cases h13 : (c.length : Int) ≤ 65535
                        · by_cases h14 : 0 ≤ rp
                          · by_cases h15 : rp ≤ 255
                            · exact path4 rt ri c rp s n b0 b1 b2 b3 b4 b5 b6 b7 b8 b9 h0 h1 h2 h3 h4 h5 h6 h9 h10 h11 h12 h13 h14 h15 w hl
                            · exact path48 rt ri c rp s n b0 b1 b2 b3 b4 b5 b6 b7 b8 b9 h0 h1 h2 h3 h4 h5 h6 h9 h10 h11 h12 h13 h14 h15 w hl
                          · exact path42 rt ri c rp s n b0 b1 b2 b3 b4 b5 b6 b7 b8 b9 h0 h1 h2 h3 h4 h5 h6 h9 h10 h11 h12 h13 h14 w hl
                        · exact path35 rt ri c rp s n b0 b1 b2 b3 b4 b5 b6 b7 b8 b9 h0 h1 h2 h3 h4 h5 h6 h9 h10 h11 h12 h13 w hl
                      · exact path29 rt ri c rp s n b0 b1 b2 b3 b4 b5 b6 b7 b8 b9 h0 h1 h2 h3 h4 h5 h6 h9 h10 h11 h12 w hl
                    · exact path23 rt ri c rp s n b0 b1 b2 b3 b4 b5 b6 b7 b8 b9 h0 h1 h2 h3 h4 h5 h6 h9 h10 h11 w hl
                  · exact path17 rt ri c rp s n b0 b1 b2 b3 b4 b5 b6 b7 b8 b9 h0 h1 h2 h3 h4 h5 h6 h9 h10 w hl
                · exact path11 rt ri c rp s n b0 b1 b2 b3 b4 b5 b6 b7 b8 b9 h0 h1 h2 h3 h4 h5 h6 h9 w hl
              · by_cases h9 : 1 ≤ rt
                · by_cases h10 : rt ≤ 255
                  · by_cases h11 : 0 ≤ ri
                    · by_cases h12 : ri ≤ 65535
                      · by_cases h13 : (c.length : Int) ≤ 65535
                        · by_cases h14 : 0 ≤ rp
                          · by_cases h15 : rp ≤ 255
                            · exact path3 rt ri c rp s n b0 b1 b2 b3 b4 b5 b6 b7 b8 b9 h0 h1 h2 h3 h4 h5 h6 h9 h10 h11 h12 h13 h14 h15 w hl
                            · exact path47 rt ri c rp s n b0 b1 b2 b3 b4 b5 b6 b7 b8 b9 h0 h1 h2 h3 h4 h5 h6 h9 h10 h11 h12 h13 h14 h15 w hl
                          · exact path41 rt ri c rp s n b0 b1 b2 b3 b4 b5 b6 b7 b8 b9 h0 h1 h2 h3 h4 h5 h6 h9 h10 h11 h12 h13 h14 w hl
                        · exact path34 rt ri c rp s n b0 b1 b2 b3 b4 b5 b6 b7 b8 b9 h0 h1 h2 h3 h4 h5 h6 h9 h10 h11 h12 h13 w hl
                      · exact path28 rt ri c rp s n b0 b1 b2 b3 b4 b5 b6 b7 b8 b9 h0 h1 h2 h3 h4 h5 h6 h9 h10 h11 h12 w hl
                    · exact path22 rt ri c rp s n b0 b1 b2 b3 b4 b5 b6 b7 b8 b9 h0 h1 h2 h3 h4 h5 h6 h9 h10 h11 w hl
                  · exact path16 rt ri c rp s n b0 b1 b2 b3 b4 b5 b6 b7 b8 b9 h0 h1 h2 h3 h4 h5 h6 h9 h10 w hl
                · exact path10 rt ri c rp s n b0 b1 b2 b3 b4 b5 b6 b7 b8 b9 h0 h1 h2 h3 h4 h5 h6 h9 w hl
        · by_cases h5 : 1 ≤ rt
          · by_cases h6 : rt ≤ 255
            · by_cases h7 : 0 ≤ ri
              · by_cases h8 : ri ≤ 65535
                · by_cases h9 : (c.length : Int) ≤ 65535
                  · by_cases h10 : 0 ≤ rp
                    · by_cases h11 : rp ≤ 255
                      · exact path1 rt ri c rp s n b0 b1 b2 b3 b4 b5 b6 b7 b8 b9 h0 h1 h2 h3 h5 h6 h7 h8 h9 h10 h11 w hl
                      · exact path45 rt ri c rp s n b0 b1 b2 b3 b4 b5 b6 b7 b8 b9 h0 h1 h2 h3 h5 h6 h7 h8 h9 h10 h11 w hl
                    · exact path39 rt ri c rp s n b0 b1 b2 b3 b4 b5 b6 b7 b8 b9 h0 h1 h2 h3 h5 h6 h7 h8 h9 h10 w hl
                  · exact path32 rt ri c rp s n b0 b1 b2 b3 b4 b5 b6 b7 b8 b9 h0 h1 h2 h3 h5 h6 h7 h8 h9 w hl
                · exact path26 rt ri c rp s n b0 b1 b2 b3 b4 b5 b6 b7 b8 b9 h0 h1 h2 h3 h5 h6 h7 h8 w hl
              · exact path20 rt ri c rp s n b0 b1 b2 b3 b4 b5 b6 b7 b8 b9 h0 h1 h2 h3 h5 h6 h7 w hl
            · exact path14 rt ri c rp s n b0 b1 b2 b3 b4 b5 b6 b7 b8 b9 h0 h1 h2 h3 h5 h6 w hl
          · exact path8 rt ri c rp s n b0 b1 b2 b3 b4 b5 b6 b7 b8 b9 h0 h1 h2 h3 h5 w hl
end Go.Proofs.YtejdkoheodambaaDoor.recordTells
