/- A part of the proof: an interpreter of the model's own code on partly known states, and that what it answers is what the program answers. No condition of its own. -/
import Derived.Test.YtejdkoheodambaaB1RecordBackR0
import Derived.Test.YtejdkoheodambaaB1RecordBackR1
import Derived.Test.YtejdkoheodambaaB1RecordBackR2
set_option maxRecDepth 100000
set_option linter.unusedVariables false
set_option linter.unusedSimpArgs false
namespace Go.Proofs.Ytejdkoheodambaa.recordBack
open Go Go.AX Go.Proofs Go.Proofs.Ytejdkoheodambaa
theorem walk (t : Int) (id : Int) (c : List UInt8) (pad : Bool) (more : List UInt8) (cut : Int) (b0 : 0 ≤ t) (b1 : t ≤ 255) (b2 : 0 ≤ id) (b3 : id ≤ 65535) (b4 : c.length ≤ 9223372036854775807) (b5 : more.length ≤ 9223372036854775807) (b6 : 0 ≤ cut) (b7 : cut ≤ 65535) (w : World) (hl : laidE w) : Calls Try.prog 3 #[.int .u8 t, .int .u16 id, St' c, .bool pad, St' more, .int .u16 cut] w fun e w' => e = .returned (.bool true) ∧ Go.AX.Below w.heap.size w w' := by
  cases pad
  · by_cases h0 : 2000 < (c.length : Int)
    · exact path27 t id c more cut b0 b1 b2 b3 b4 b5 b6 b7 h0 w hl
    · by_cases h1 : 200 < (more.length : Int)
      · exact path32 t id c more cut b0 b1 b2 b3 b4 b5 b6 b7 h0 h1 w hl
      · by_cases h2 : t = 0
        · exact path29 t id c more cut b0 b1 b2 b3 b4 b5 b6 b7 h0 h1 h2 w hl
        · by_cases h13 : (cut % ((c.length : Int) + 8)) = 0
          · exact path0 t id c more cut b0 b1 b2 b3 b4 b5 b6 b7 h0 h1 h2 h13 w hl
          · by_cases h14 : (cut % ((c.length : Int) + 8)) < 8
            · exact path1 t id c more cut b0 b1 b2 b3 b4 b5 b6 b7 h0 h1 h2 h13 h14 w hl
            · exact path2 t id c more cut b0 b1 b2 b3 b4 b5 b6 b7 h0 h1 h2 h13 h14 w hl
  · by_cases h0 : 2000 < (c.length : Int)
    · exact path28 t id c more cut b0 b1 b2 b3 b4 b5 b6 b7 h0 w hl
    · by_cases h1 : 200 < (more.length : Int)
      · exact path31 t id c more cut b0 b1 b2 b3 b4 b5 b6 b7 h0 h1 w hl
      · by_cases h2 : t = 0
        · exact path30 t id c more cut b0 b1 b2 b3 b4 b5 b6 b7 h0 h1 h2 w hl
        · by_cases h3 : (-(max ((c.length : Int)) 0)) % 8 = 0
          · by_cases h15 : (cut % ((c.length : Int) + 8)) = 0
            · exact path24 t id c more cut b0 b1 b2 b3 b4 b5 b6 b7 h0 h1 h2 h3 h15 w hl
            · by_cases h16 : (cut % ((c.length : Int) + 8)) < 8
              · exact path25 t id c more cut b0 b1 b2 b3 b4 b5 b6 b7 h0 h1 h2 h3 h15 h16 w hl
              · exact path26 t id c more cut b0 b1 b2 b3 b4 b5 b6 b7 h0 h1 h2 h3 h15 h16 w hl
          · by_cases h4 : (-(max ((c.length : Int)) 0)) % 8 = 1
            · by_cases h16 : (cut % ((c.length : Int) + 9)) = 0
              · exact path21 t id c more cut b0 b1 b2 b3 b4 b5 b6 b7 h0 h1 h2 h3 h4 h16 w hl
              · by_cases h17 : (cut % ((c.length : Int) + 9)) < 8
                · exact path22 t id c more cut b0 b1 b2 b3 b4 b5 b6 b7 h0 h1 h2 h3 h4 h16 h17 w hl
                · exact path23 t id c more cut b0 b1 b2 b3 b4 b5 b6 b7 h0 h1 h2 h3 h4 h16 h17 w hl
            · by_cases h5 : (-(max ((c.length : Int)) 0)) % 8 = 2
              · by_cases h17 : (cut % ((c.length : Int) + 10)) = 0
                · exact path18 t id c more cut b0 b1 b2 b3 b4 b5 b6 b7 h0 h1 h2 h3 h4 h5 h17 w hl
                · by_cases h18 : (cut % ((c.length : Int) + 10)) < 8
                  · exact path19 t id c more cut b0 b1 b2 b3 b4 b5 b6 b7 h0 h1 h2 h3 h4 h5 h17 h18 w hl
                  · exact path20 t id c more cut b0 b1 b2 b3 b4 b5 b6 b7 h0 h1 h2 h3 h4 h5 h17 h18 w hl
              · by_cases h6 : (-(max ((c.length : Int)) 0)) % 8 = 3
                · by_cases h18 : (cut % ((c.length : Int) + 11)) = 0
                  · exact path15 t id c more cut b0 b1 b2 b3 b4 b5 b6 b7 h0 h1 h2 h3 h4 h5 h6 h18 w hl
                  · by_cases h19 : (cut % ((c.length : Int) + 11)) < 8
                    · exact path16 t id c more cut b0 b1 b2 b3 b4 b5 b6 b7 h0 h1 h2 h3 h4 h5 h6 h18 h19 w hl
                    · exact path17 t id c more cut b0 b1 b2 b3 b4 b5 b6 b7 h0 h1 h2 h3 h4 h5 h6 h18 h19 w hl
                · by_cases h7 : (-(max ((c.length : Int)) 0)) % 8 = 4
                  · by_cases h19 : (cut % ((c.length : Int) + 12)) = 0
                    · exact path12 t id c more cut b0 b1 b2 b3 b4 b5 b6 b7 h0 h1 h2 h3 h4 h5 h6 h7 h19 w hl
                    · by_cases h20 : (cut % ((c.length : Int) + 12)) < 8
                      · exact path13 t id c more cut b0 b1 b2 b3 b4 b5 b6 b7 h0 h1 h2 h3 h4 h5 h6 h7 h19 h20 w hl
                      · exact path14 t id c more cut b0 b1 b2 b3 b4 b5 b6 b7 h0 h1 h2 h3 h4 h5 h6 h7 h19 h20 w hl
                  · by_cases h8 : (-(max ((c.length : Int)) 0)) % 8 = 5
                    · by_cases h20 : (cut % ((c.length : Int) + 13)) = 0
                      · exact path9 t id c more cut b0 b1 b2 b3 b4 b5 b6 b7 h0 h1 h2 h3 h4 h5 h6 h7 h8 h20 w hl
                      · by_cases h21 : (cut % ((c.length : Int) + 13)) < 8
                        · exact path10 t id c more cut b0 b1 b2 b3 b4 b5 b6 b7 h0 h1 h2 h3 h4 h5 h6 h7 h8 h20 h21 w hl
                        · exact path11 t id c more cut b0 b1 b2 b3 b4 b5 b6 b7 h0 h1 h2 h3 h4 h5 h6 h7 h8 h20 h21 w hl
                    · by_cases h9 : (-(max ((c.length : Int)) 0)) % 8 = 6
                      · by_cases h21 : (cut % ((c.length : Int) + 14)) = 0
                        · exact path6 t id c more cut b0 b1 b2 b3 b4 b5 b6 b7 h0 h1 h2 h3 h4 h5 h6 h7 h8 h9 h21 w hl
                        · by_cases h22 : (cut % ((c.length : Int) + 14)) < 8
                          · exact path7 t id c more cut b0 b1 b2 b3 b4 b5 b6 b7 h0 h1 h2 h3 h4 h5 h6 h7 h8 h9 h21 h22 w hl
                          · exact path8 t id c more cut b0 b1 b2 b3 b4 b5 b6 b7 h0 h1 h2 h3 h4 h5 h6 h7 h8 h9 h21 h22 w hl
                      · by_cases h21 : (cut % ((c.length : Int) + 15)) = 0
                        · exact path3 t id c more cut b0 b1 b2 b3 b4 b5 b6 b7 h0 h1 h2 h3 h4 h5 h6 h7 h8 h9 h21 w hl
                        · by_cases h22 : (cut % ((c.length : Int) + 15)) < 8
                          · exact path4 t id c more cut b0 b1 b2 b3 b4 b5 b6 b7 h0 h1 h2 h3 h4 h5 h6 h7 h8 h9 h21 h22 w hl
                          · exact path5 t id c more cut b0 b1 b2 b3 b4 b5 b6 b7 h0 h1 h2 h3 h4 h5 h6 h7 h8 h9 h21 h22 w hl
end Go.Proofs.Ytejdkoheodambaa.recordBack
