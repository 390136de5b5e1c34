/- A part of the proof: an interpreter of the model's own code on partly known states, and that what it answers is what the program answers. No condition of its own. -/
import Derived.Test.YtacflaaahanhgaaC1RecordJunkS0
set_option maxRecDepth 100000
set_option linter.unusedVariables false
set_option linter.unusedSimpArgs false
namespace Go.Proofs.Ytacflaaahanhgaa.recordJunk
open Go Go.AX Go.Proofs Go.Proofs.Ytacflaaahanhgaa
theorem walk (c : List UInt8) (pad : Int) (a : Int) (b : Int) (b0 : c.length ≤ 9223372036854775807) (b1 : 0 ≤ pad) (b2 : pad ≤ 255) (b3 : 0 ≤ a) (b4 : a ≤ 255) (b5 : 0 ≤ b) (b6 : b ≤ 255) (w : World) (hl : laidE w) : Calls Try.prog 4 #[St' c, .int .u8 pad, .int .u8 a, .int .u8 b] w fun e w' => e = .returned (.bool true) ∧ Go.AX.Below (Go.AX.Fz.lt w.heap.size) w w' := by
  by_cases h0 : 200 < (c.length : Int)
  · exact path1 c pad a b b0 b1 b2 b3 b4 b5 b6 h0 w hl
  · by_cases h1 : pad = 0
    · exact path2 c pad a b b0 b1 b2 b3 b4 b5 b6 h0 h1 w hl
    · exact path0 c pad a b b0 b1 b2 b3 b4 b5 b6 h0 h1 w hl
end Go.Proofs.Ytacflaaahanhgaa.recordJunk
