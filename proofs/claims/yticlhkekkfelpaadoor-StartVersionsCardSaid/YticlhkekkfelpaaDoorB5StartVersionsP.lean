/- A part of the proof: an interpreter of the model's own code on partly known states, and that what it answers is what the program answers. No condition of its own. -/
import Derived.Test.YticlhkekkfelpaaDoorB5StartVersionsR0
set_option maxRecDepth 100000
set_option linter.unusedVariables false
set_option linter.unusedSimpArgs false
namespace Go.Proofs.YticlhkekkfelpaaDoor.startVersions
open Go Go.AX Go.Proofs Go.Proofs.YticlhkekkfelpaaDoor
theorem walk (a : Int) (b : Int) (b0 : 0 ≤ a) (b1 : a ≤ 255) (b2 : 0 ≤ b) (b3 : b ≤ 255) (w : World) (hl : laidE w) : Calls Tryd.prog 4 #[.int .u8 a, .int .u8 b] w fun e w' => e = .returned (.bool true) ∧ Go.AX.Below w.heap.size w w' := by
  by_cases h0 : a = 32
  · exact path4 a b b0 b1 b2 b3 h0 w hl
  · by_cases h1 : b = 32
    · exact path5 a b b0 b1 b2 b3 h0 h1 w hl
    · by_cases h5 : a = 49
      · by_cases h6 : b = 48
        · exact path0 a b b0 b1 b2 b3 h0 h1 h5 h6 w hl
        · by_cases h8 : b = 49
          · exact path1 a b b0 b1 b2 b3 h0 h1 h5 h6 h8 w hl
          · exact path2 a b b0 b1 b2 b3 h0 h1 h5 h6 h8 w hl
      · exact path3 a b b0 b1 b2 b3 h0 h1 h5 w hl
end Go.Proofs.YticlhkekkfelpaaDoor.startVersions
