/- A part of the proof: an interpreter of the model's own code on partly known states, and that what it answers is what the program answers. No condition of its own. -/
import Derived.Test.YticlhkekkfelpaaDoorB5VarsNeverR0
import Derived.Test.YticlhkekkfelpaaDoorB5VarsNeverR1
import Derived.Test.YticlhkekkfelpaaDoorB5VarsNeverR2
import Derived.Test.YticlhkekkfelpaaDoorB5VarsNeverR3
import Derived.Test.YticlhkekkfelpaaDoorB5VarsNeverR4
import Derived.Test.YticlhkekkfelpaaDoorB5VarsNeverR5
import Derived.Test.YticlhkekkfelpaaDoorB5VarsNeverR6
import Derived.Test.YticlhkekkfelpaaDoorB5VarsNeverR7
import Derived.Test.YticlhkekkfelpaaDoorB5VarsNeverR8
set_option maxRecDepth 100000
set_option linter.unusedVariables false
set_option linter.unusedSimpArgs false
namespace Go.Proofs.YticlhkekkfelpaaDoor.varsNever
open Go Go.AX Go.Proofs Go.Proofs.YticlhkekkfelpaaDoor
theorem walk (which : Int) (v : List UInt8) (b0 : 0 ≤ which) (b1 : which ≤ 255) (b2 : v.length ≤ 9223372036854775807) (w : World) (hl : laidE w) : Calls Tryd.prog 10 #[.int .u8 which, St' v] w fun e w' => e = .returned (.bool true) ∧ Go.AX.Below w.heap.size w w' := by
  by_cases h0 : 100 < (v.length : Int)
  · exact path8 which v b0 b1 b2 h0 w hl
  · by_cases h1 : which % 8 = 0
    · exact path0 which v b0 b1 b2 h0 h1 w hl
    · by_cases h2 : which % 8 = 1
      · exact path1 which v b0 b1 b2 h0 h1 h2 w hl
      · by_cases h3 : which % 8 = 2
        · exact path2 which v b0 b1 b2 h0 h1 h2 h3 w hl
        · by_cases h4 : which % 8 = 3
          · exact path3 which v b0 b1 b2 h0 h1 h2 h3 h4 w hl
          · by_cases h5 : which % 8 = 4
            · exact path4 which v b0 b1 b2 h0 h1 h2 h3 h4 h5 w hl
            · by_cases h6 : which % 8 = 5
              · exact path5 which v b0 b1 b2 h0 h1 h2 h3 h4 h5 h6 w hl
              · by_cases h7 : which % 8 = 6
                · exact path6 which v b0 b1 b2 h0 h1 h2 h3 h4 h5 h6 h7 w hl
                · exact path7 which v b0 b1 b2 h0 h1 h2 h3 h4 h5 h6 h7 w hl
end Go.Proofs.YticlhkekkfelpaaDoor.varsNever
