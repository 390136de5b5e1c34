/- A part of the proof: an interpreter of the model's own code on partly known states, and that what it answers is what the program answers. No condition of its own. -/
import Derived.Test.YticlhkekkfelpaaDoorB5PairLongR0
set_option maxRecDepth 100000
set_option linter.unusedVariables false
set_option linter.unusedSimpArgs false
namespace Go.Proofs.YticlhkekkfelpaaDoor.pairLong
open Go Go.AX Go.Proofs Go.Proofs.YticlhkekkfelpaaDoor
theorem walk (n : Int) (m : Int) (b0 : 0 ≤ n) (b1 : n ≤ 255) (b2 : 0 ≤ m) (b3 : m ≤ 255) (w : World) (hl : laidE w) : Calls Tryd.prog 3 #[.int .u8 n, .int .u8 m] w fun e w' => e = .returned (.bool true) ∧ Go.AX.Below w.heap.size w w' := by
  by_cases h7 : (n % 100) + 8 ≤ (m % 100) + (n % 100) + 7
  · exact path0 n m b0 b1 b2 b3 h7 w hl
  · by_cases h8 : 8 ≤ (m % 100) + (n % 100) + 7
    · exact path1 n m b0 b1 b2 b3 h7 h8 w hl
    · exact path2 n m b0 b1 b2 b3 h7 h8 w hl
end Go.Proofs.YticlhkekkfelpaaDoor.pairLong
