/- A part of the proof: an interpreter of the model's own code on partly known states, and that what it answers is what the program answers. No condition of its own. -/
import Derived.Test.YtipdlfkjablekaaDoorR1PathBackR0
import Derived.Test.YtipdlfkjablekaaDoorR1PathBackR1
set_option maxRecDepth 100000
set_option linter.unusedVariables false
set_option linter.unusedSimpArgs false
set_option maxHeartbeats 4000000
namespace Go.Proofs.YtipdlfkjablekaaDoor.pathBack
open Go Go.AX Go.Proofs Go.Proofs.YtipdlfkjablekaaDoor
theorem walk (p : LB) (b0 : p.length ≤ 9223372036854775807) (w : World) (hl : laidE w) : Calls Tryd.prog 3 #[St' p] w fun e w' => e = .returned (.bool true) ∧ Go.AX.Below (Go.AX.Fz.lt w.heap.size) w w' := by
  by_cases h0 : 400 < (p.length : Int)
  · exact path0 p b0 h0 w hl
  · by_cases h1 : cleanG unS p = none
    · exact path1 p b0 h0 h1 w hl
    · by_cases h2 : (segS (cA p)).length = 0
      · exact path3 p b0 h0 h1 h2 w hl
      · by_cases h3 : (cA p) = (fl47 (segS (cA p)))
        · exact path2 p b0 h0 h1 h2 h3 w hl
        · exact path4 p b0 h0 h1 h2 h3 w hl
end Go.Proofs.YtipdlfkjablekaaDoor.pathBack
