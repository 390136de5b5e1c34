/- A part of the proof: an interpreter of the model's own code on partly known states, and that what it answers is what the program answers. No condition of its own. -/
import Derived.Test.YtacflaaahanhgaaDoorC2OctetBackR0
set_option maxRecDepth 100000
set_option linter.unusedVariables false
set_option linter.unusedSimpArgs false
namespace Go.Proofs.YtacflaaahanhgaaDoor.octetBack
open Go Go.AX Go.Proofs Go.Proofs.YtacflaaahanhgaaDoor
theorem walk (s : List UInt8) (b0 : s.length ≤ 9223372036854775807) (w : World) (hl : laidE w) : Calls Tryd.prog 4 #[St' s] w fun e w' => e = .returned (.bool true) ∧ Go.AX.Below (Go.AX.Fz.lt w.heap.size) w w' := by
  by_cases h0 : 400 < (s.length : Int)
  · exact path0 s b0 h0 w hl
  · by_cases h1 : hasZ s = true
    · exact path2 s b0 h0 h1 w hl
    · exact path1 s b0 h0 h1 w hl
end Go.Proofs.YtacflaaahanhgaaDoor.octetBack
