/- A part of the proof: an interpreter of the model's own code on partly known states, and that what it answers is what the program answers. No condition of its own. -/
import Derived.Test.YtalblkipoopdgaaDoorM1StartBackR0
import Derived.Test.YtalblkipoopdgaaDoorM1StartBackR1
set_option maxRecDepth 100000
set_option linter.unusedVariables false
set_option linter.unusedSimpArgs false
set_option maxHeartbeats 4000000
namespace Go.Proofs.YtalblkipoopdgaaDoor.startBack
open Go Go.AX Go.Proofs Go.Proofs.YtalblkipoopdgaaDoor
theorem walk (line : LB) (b0 : line.length ≤ 1048576) (w : World) (hl : laidE w) : Calls Tryd.prog 4 #[St' line] w fun e w' => e = .returned (.bool true) ∧ Go.AX.Below (Go.AX.Fz.lt w.heap.size) w w' := by
  by_cases h0 : stK line = 0
  · by_cases h1 : (nthS (spl line) 2) = lV1
    · by_cases h2 : idxB (nthS (spl line) 1) 63 < 0
      · exact path1 line b0 h0 h1 h2 w hl
      · exact path3 line b0 h0 h1 h2 w hl
    · by_cases h2 : idxB (nthS (spl line) 1) 63 < 0
      · exact path2 line b0 h0 h1 h2 w hl
      · exact path4 line b0 h0 h1 h2 w hl
  · exact path0 line b0 h0 w hl
end Go.Proofs.YtalblkipoopdgaaDoor.startBack
