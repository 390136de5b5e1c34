/- A part of the proof: an interpreter of the model's own code on partly known states, and that what it answers is what the program answers. No condition of its own. -/
import Derived.Test.YtacflaaahanhgaaDoorC2OctetTellsR0
import Derived.Test.YtacflaaahanhgaaDoorC2OctetTellsR1
import Derived.Test.YtacflaaahanhgaaDoorC2OctetTellsR2
set_option maxRecDepth 100000
set_option linter.unusedVariables false
set_option linter.unusedSimpArgs false
set_option maxHeartbeats 4000000
namespace Go.Proofs.YtacflaaahanhgaaDoor.octetTells
open Go Go.AX Go.Proofs Go.Proofs.YtacflaaahanhgaaDoor
theorem walk (s : LB) (b0 : s.length ≤ 9223372036854775807) (w : World) (hl : laidE w) : Calls Tryd.prog 3 #[St' s] w fun e w' => e = .returned (.bool true) ∧ Go.AX.Below (Go.AX.Fz.lt w.heap.size) w w' := by
  by_cases h0 : 400 < (s.length : Int)
  · exact path0 s b0 h0 w hl
  · by_cases h4 : ((lsI [] s).1).length = 0
    · by_cases h5 : ((trQ ((lsI [] s).2)).length : Int) = 0
      · exact path4 s b0 h0 h4 h5 w hl
      · exact path3 s b0 h0 h4 h5 w hl
    · by_cases h5 : ((trQ ((lsI [] s).2)).length : Int) = 0
      · exact path2 s b0 h0 h4 h5 w hl
      · exact path1 s b0 h0 h4 h5 w hl
end Go.Proofs.YtacflaaahanhgaaDoor.octetTells
