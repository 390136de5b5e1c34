/- A part of the proof: an interpreter of the model's own code on partly known states, and that what it answers is what the program answers. No condition of its own. -/
import Derived.Test.YtalblkipoopdgaaDoorM1StartTellsR0
import Derived.Test.YtalblkipoopdgaaDoorM1StartTellsR1
set_option maxRecDepth 100000
set_option linter.unusedVariables false
set_option linter.unusedSimpArgs false
set_option maxHeartbeats 4000000
namespace Go.Proofs.YtalblkipoopdgaaDoor.startTells
open Go Go.AX Go.Proofs Go.Proofs.YtalblkipoopdgaaDoor
theorem walk (line : LB) (tg : LB) (b0 : line.length ≤ 9223372036854775807) (b1 : tg.length ≤ 9223372036854775807) (w : World) (hl : laidE w) : Calls Tryd.prog 3 #[St' line, St' tg] w fun e w' => e = .returned (.bool true) ∧ Go.AX.Below (Go.AX.Fz.lt w.heap.size) w w' := by
  by_cases h0 : 800 < (line.length : Int)
  · exact path2 line tg b0 b1 h0 w hl
  · by_cases h1 : 800 < (tg.length : Int)
    · exact path3 line tg b0 b1 h0 h1 w hl
    · by_cases h2 : stK line = 0
      · exact path0 line tg b0 b1 h0 h1 h2 w hl
      · exact path1 line tg b0 b1 h0 h1 h2 w hl
end Go.Proofs.YtalblkipoopdgaaDoor.startTells
