/- A part of the proof: an interpreter of the model's own code on partly known states, and that what it answers is what the program answers. No condition of its own. -/
import Derived.Test.YtacflaaahanhgaaDoorC2OctetNumbersR0
import Derived.Test.YtacflaaahanhgaaDoorC2OctetNumbersR1
import Derived.Test.YtacflaaahanhgaaDoorC2OctetNumbersR2
import Derived.Test.YtacflaaahanhgaaDoorC2OctetNumbersR3
set_option maxRecDepth 100000
set_option linter.unusedVariables false
set_option linter.unusedSimpArgs false
namespace Go.Proofs.YtacflaaahanhgaaDoor.octetNumbers
open Go Go.AX Go.Proofs Go.Proofs.YtacflaaahanhgaaDoor
theorem walk (n : Int) (zeros : Int) (big : Bool) (b0 : 0 ≤ n) (b1 : n ≤ 4294967295) (b2 : 0 ≤ zeros) (b3 : zeros ≤ 255) (w : World) (hl : laidE w) : Calls Tryd.prog 5 #[.int .u32 n, .int .u8 zeros, .bool big] w fun e w' => e = .returned (.bool true) ∧ Go.AX.Below (Go.AX.Fz.lt w.heap.size) w w' := by
  cases big
  · rcases (show zeros % 8 = 0 ∨ zeros % 8 = 1 ∨ zeros % 8 = 2 ∨ zeros % 8 = 3 ∨ zeros % 8 = 4 ∨ zeros % 8 = 5 ∨ zeros % 8 = 6 ∨ zeros % 8 = 7 from by omega) with h0 | h0 | h0 | h0 | h0 | h0 | h0 | h0
    · exact path0 n zeros b0 b1 b2 b3 h0 w hl
    · exact path2 n zeros b0 b1 b2 b3 h0 w hl
    · exact path4 n zeros b0 b1 b2 b3 h0 w hl
    · exact path6 n zeros b0 b1 b2 b3 h0 w hl
    · by_cases h2 : 7 < ((digs 16 false (n % 10000)).length : Int) + 4
      · exact path24 n zeros b0 b1 b2 b3 h0 h2 w hl
      · exact path8 n zeros b0 b1 b2 b3 h0 h2 w hl
    · by_cases h2 : 7 < ((digs 16 false (n % 10000)).length : Int) + 5
      · exact path10 n zeros b0 b1 b2 b3 h0 h2 w hl
      · exact path16 n zeros b0 b1 b2 b3 h0 h2 w hl
    · by_cases h1 : 9 < ((digs 10 false (n % 10000)).length : Int) + 6
      · exact path12 n zeros b0 b1 b2 b3 h0 h1 w hl
      · by_cases h2 : 7 < ((digs 16 false (n % 10000)).length : Int) + 6
        · exact path22 n zeros b0 b1 b2 b3 h0 h1 h2 w hl
        · exact path18 n zeros b0 b1 b2 b3 h0 h1 h2 w hl
    · by_cases h1 : 9 < ((digs 10 false (n % 10000)).length : Int) + 7
      · exact path14 n zeros b0 b1 b2 b3 h0 h1 w hl
      · exact path20 n zeros b0 b1 b2 b3 h0 h1 w hl
  · rcases (show zeros % 8 = 0 ∨ zeros % 8 = 1 ∨ zeros % 8 = 2 ∨ zeros % 8 = 3 ∨ zeros % 8 = 4 ∨ zeros % 8 = 5 ∨ zeros % 8 = 6 ∨ zeros % 8 = 7 from by omega) with h0 | h0 | h0 | h0 | h0 | h0 | h0 | h0
    · exact path1 n zeros b0 b1 b2 b3 h0 w hl
    · exact path3 n zeros b0 b1 b2 b3 h0 w hl
    · exact path5 n zeros b0 b1 b2 b3 h0 w hl
    · exact path7 n zeros b0 b1 b2 b3 h0 w hl
    · by_cases h2 : 7 < ((digs 16 true (n % 10000)).length : Int) + 4
      · exact path25 n zeros b0 b1 b2 b3 h0 h2 w hl
      · exact path9 n zeros b0 b1 b2 b3 h0 h2 w hl
    · by_cases h2 : 7 < ((digs 16 true (n % 10000)).length : Int) + 5
      · exact path11 n zeros b0 b1 b2 b3 h0 h2 w hl
      · exact path17 n zeros b0 b1 b2 b3 h0 h2 w hl
    · by_cases h1 : 9 < ((digs 10 false (n % 10000)).length : Int) + 6
      · exact path13 n zeros b0 b1 b2 b3 h0 h1 w hl
      · by_cases h2 : 7 < ((digs 16 true (n % 10000)).length : Int) + 6
        · exact path23 n zeros b0 b1 b2 b3 h0 h1 h2 w hl
        · exact path19 n zeros b0 b1 b2 b3 h0 h1 h2 w hl
    · by_cases h1 : 9 < ((digs 10 false (n % 10000)).length : Int) + 7
      · exact path15 n zeros b0 b1 b2 b3 h0 h1 w hl
      · exact path21 n zeros b0 b1 b2 b3 h0 h1 w hl
end Go.Proofs.YtacflaaahanhgaaDoor.octetNumbers
