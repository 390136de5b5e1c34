/- A part of the proof: an interpreter of the model's own code on partly known states, and that what it answers is what the program answers. No condition of its own. -/
import Derived.Test.YtbipkiiaajklhaaDoorS1PathTellsR0
import Derived.Test.YtbipkiiaajklhaaDoorS1PathTellsR1
set_option maxRecDepth 100000
set_option linter.unusedVariables false
set_option linter.unusedSimpArgs false
set_option maxHeartbeats 4000000
namespace Go.Proofs.YtbipkiiaajklhaaDoor.pathTells
open Go Go.AX Go.Proofs Go.Proofs.YtbipkiiaajklhaaDoor
theorem walk (p : LB) (q : LB) (b0 : p.length ≤ 9223372036854775807) (b1 : q.length ≤ 9223372036854775807) (w : World) (hl : aA3 w) : Calls Tryd.prog 3 #[St' p, St' q] w fun e w' => e = .returned (.bool true) ∧ Go.AX.Below (Go.AX.Fz.lt w.heap.size) w w' := by
  by_cases h0 : 400 < (p.length : Int)
  · exact path0 p q b0 b1 h0 w hl
  · by_cases h1 : 400 < (q.length : Int)
    · exact path1 p q b0 b1 h0 h1 w hl
    · by_cases h2 : aB4 unS p = none
      · by_cases h3 : (segS p).length = 0
        · exact path3 p q b0 b1 h0 h1 h2 h3 w hl
        · exact path2 p q b0 b1 h0 h1 h2 h3 w hl
      · by_cases h3 : (segS p).length = 0
        · exact path5 p q b0 b1 h0 h1 h2 h3 w hl
        · exact path4 p q b0 b1 h0 h1 h2 h3 w hl
end Go.Proofs.YtbipkiiaajklhaaDoor.pathTells
