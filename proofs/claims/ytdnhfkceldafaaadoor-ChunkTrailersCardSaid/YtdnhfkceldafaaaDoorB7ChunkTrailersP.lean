/- A part of the proof: an interpreter of the model's own code on partly known states, and that what it answers is what the program answers. No condition of its own. -/
import Derived.Test.YtdnhfkceldafaaaDoorB7ChunkTrailersR0
import Derived.Test.YtdnhfkceldafaaaDoorB7ChunkTrailersR1
import Derived.Test.YtdnhfkceldafaaaDoorB7ChunkTrailersR2
import Derived.Test.YtdnhfkceldafaaaDoorB7ChunkTrailersR3
import Derived.Test.YtdnhfkceldafaaaDoorB7ChunkTrailersR4
import Derived.Test.YtdnhfkceldafaaaDoorB7ChunkTrailersR5
import Derived.Test.YtdnhfkceldafaaaDoorB7ChunkTrailersR6
import Derived.Test.YtdnhfkceldafaaaDoorB7ChunkTrailersR7
import Derived.Test.YtdnhfkceldafaaaDoorB7ChunkTrailersR8
import Derived.Test.YtdnhfkceldafaaaDoorB7ChunkTrailersR9
import Derived.Test.YtdnhfkceldafaaaDoorB7ChunkTrailersR10
set_option maxRecDepth 100000
set_option linter.unusedVariables false
set_option linter.unusedSimpArgs false
namespace Go.Proofs.YtdnhfkceldafaaaDoor.chunkTrailers
open Go Go.AX Go.Proofs Go.Proofs.YtdnhfkceldafaaaDoor
theorem walk (n : Int) (ext : Int) (body : List UInt8) (b0 : 0 ≤ n) (b1 : n ≤ 255) (b2 : 0 ≤ ext) (b3 : ext ≤ 255) (b4 : body.length ≤ 9223372036854775807) (w : World) (hl : laidE w) : Calls Tryd.prog 6 #[.int .u8 n, .int .u8 ext, St' body] w fun e w' => e = .returned (.bool true) ∧ Go.AX.Below w.heap.size w w' := by
  have bb : BB n ext body := ⟨b0, b1, b2, b3, b4⟩
  by_cases h0 : 200 < (body.length : Int)
  · exact path1 n ext body bb h0 w hl
  · by_cases h1 : (body.length : Int) = 0
    · exact path0 n ext body bb h0 h1 w hl
    · by_cases h3 : (body.length : Int) < 16
      · rcases (show ext % 3 = 0 ∨ ext % 3 = 1 ∨ ext % 3 = 2 from by omega) with h7 | h7 | h7
        · rcases (show n % 5 = 0 ∨ n % 5 = 1 ∨ n % 5 = 2 ∨ n % 5 = 3 ∨ n % 5 = 4 from by omega) with h8 | h8 | h8 | h8 | h8
          · exact path2 n ext body bb h0 h1 h3 h7 h8 w hl
          · exact path8 n ext body bb h0 h1 h3 h7 h8 w hl
          · exact path14 n ext body bb h0 h1 h3 h7 h8 w hl
          · exact path20 n ext body bb h0 h1 h3 h7 h8 w hl
          · exact path26 n ext body bb h0 h1 h3 h7 h8 w hl
        · rcases (show n % 5 = 0 ∨ n % 5 = 1 ∨ n % 5 = 2 ∨ n % 5 = 3 ∨ n % 5 = 4 from by omega) with h8 | h8 | h8 | h8 | h8
          · exact path4 n ext body bb h0 h1 h3 h7 h8 w hl
          · exact path10 n ext body bb h0 h1 h3 h7 h8 w hl
          · exact path16 n ext body bb h0 h1 h3 h7 h8 w hl
          · exact path22 n ext body bb h0 h1 h3 h7 h8 w hl
          · exact path28 n ext body bb h0 h1 h3 h7 h8 w hl
        · rcases (show n % 5 = 0 ∨ n % 5 = 1 ∨ n % 5 = 2 ∨ n % 5 = 3 ∨ n % 5 = 4 from by omega) with h8 | h8 | h8 | h8 | h8
          · exact path6 n ext body bb h0 h1 h3 h7 h8 w hl
          · exact path12 n ext body bb h0 h1 h3 h7 h8 w hl
          · exact path18 n ext body bb h0 h1 h3 h7 h8 w hl
          · exact path24 n ext body bb h0 h1 h3 h7 h8 w hl
          · exact path30 n ext body bb h0 h1 h3 h7 h8 w hl
      · rcases (show ext % 3 = 0 ∨ ext % 3 = 1 ∨ ext % 3 = 2 from by omega) with h9 | h9 | h9
        · rcases (show n % 5 = 0 ∨ n % 5 = 1 ∨ n % 5 = 2 ∨ n % 5 = 3 ∨ n % 5 = 4 from by omega) with h10 | h10 | h10 | h10 | h10
          · exact path3 n ext body bb h0 h1 h3 h9 h10 w hl
          · exact path9 n ext body bb h0 h1 h3 h9 h10 w hl
          · exact path15 n ext body bb h0 h1 h3 h9 h10 w hl
          · exact path21 n ext body bb h0 h1 h3 h9 h10 w hl
          · exact path27 n ext body bb h0 h1 h3 h9 h10 w hl
        · rcases (show n % 5 = 0 ∨ n % 5 = 1 ∨ n % 5 = 2 ∨ n % 5 = 3 ∨ n % 5 = 4 from by omega) with h10 | h10 | h10 | h10 | h10
          · exact path5 n ext body bb h0 h1 h3 h9 h10 w hl
          · exact path11 n ext body bb h0 h1 h3 h9 h10 w hl
          · exact path17 n ext body bb h0 h1 h3 h9 h10 w hl
          · exact path23 n ext body bb h0 h1 h3 h9 h10 w hl
          · exact path29 n ext body bb h0 h1 h3 h9 h10 w hl
        · rcases (show n % 5 = 0 ∨ n % 5 = 1 ∨ n % 5 = 2 ∨ n % 5 = 3 ∨ n % 5 = 4 from by omega) with h10 | h10 | h10 | h10 | h10
          · exact path7 n ext body bb h0 h1 h3 h9 h10 w hl
          · exact path13 n ext body bb h0 h1 h3 h9 h10 w hl
          · exact path19 n ext body bb h0 h1 h3 h9 h10 w hl
          · exact path25 n ext body bb h0 h1 h3 h9 h10 w hl
          · exact path31 n ext body bb h0 h1 h3 h9 h10 w hl
end Go.Proofs.YtdnhfkceldafaaaDoor.chunkTrailers
