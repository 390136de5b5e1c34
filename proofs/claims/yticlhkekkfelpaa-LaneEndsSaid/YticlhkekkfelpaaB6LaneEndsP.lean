/- A part of the proof: an interpreter of the model's own code on partly known states, and that what it answers is what the program answers. No condition of its own. -/
import Derived.Test.YticlhkekkfelpaaB6LaneEndsR0
set_option maxRecDepth 100000
set_option linter.unusedVariables false
set_option linter.unusedSimpArgs false
namespace Go.Proofs.Yticlhkekkfelpaa.laneEnds
open Go Go.AX Go.Proofs Go.Proofs.Yticlhkekkfelpaa
theorem walk (which : Int) (s : List UInt8) (b0 : 0 ≤ which) (b1 : which ≤ 255) (b2 : s.length ≤ 9223372036854775807) (w : World) (hl : laidE w) : Calls Try.prog 4 #[.int .u8 which, St' s] w fun e w' => e = .returned (.bool true) ∧ Go.AX.Below w.heap.size w w' := by
  by_cases h0 : 100 < (s.length : Int)
  · exact path3 which s b0 b1 b2 h0 w hl
  · by_cases h1 : (s.length : Int) = 0
    · exact path2 which s b0 b1 b2 h0 h1 w hl
    · rcases (show which % 2 = 0 ∨ which % 2 = 1 from by omega) with h2 | h2
      · exact path0 which s b0 b1 b2 h0 h1 h2 w hl
      · exact path1 which s b0 b1 b2 h0 h1 h2 w hl
end Go.Proofs.Yticlhkekkfelpaa.laneEnds
