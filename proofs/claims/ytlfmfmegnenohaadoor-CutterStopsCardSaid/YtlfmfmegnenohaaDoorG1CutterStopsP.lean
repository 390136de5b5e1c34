/- A part of the proof: an interpreter of the model's own code on partly known states, and that what it answers is what the program answers. No condition of its own. -/
import Derived.Test.YtlfmfmegnenohaaDoorG1CutterStopsR0
import Derived.Test.YtlfmfmegnenohaaDoorG1CutterStopsR1
import Derived.Test.YtlfmfmegnenohaaDoorG1CutterStopsR2
import Derived.Test.YtlfmfmegnenohaaDoorG1CutterStopsR3
import Derived.Test.YtlfmfmegnenohaaDoorG1CutterStopsR4
import Derived.Test.YtlfmfmegnenohaaDoorG1CutterStopsR5
import Derived.Test.YtlfmfmegnenohaaDoorG1CutterStopsR6
import Derived.Test.YtlfmfmegnenohaaDoorG1CutterStopsR7
import Derived.Test.YtlfmfmegnenohaaDoorG1CutterStopsR8
import Derived.Test.YtlfmfmegnenohaaDoorG1CutterStopsR9
set_option maxRecDepth 100000
set_option linter.unusedVariables false
set_option linter.unusedSimpArgs false
set_option maxHeartbeats 4000000
namespace Go.Proofs.YtlfmfmegnenohaaDoor.cutterStops
open Go Go.AX Go.Proofs Go.Proofs.YtlfmfmegnenohaaDoor
theorem walkE (ad_z : Addr) (kd : Int) (tl : LB) (at_ : Int) (b0 : 0 ≤ kd) (b1 : kd ≤ 255) (b2 : tl.length ≤ 9223372036854775807) (b3 : 0 ≤ at_) (b4 : at_ ≤ 255) (w : World) (hl : laidE w) : CwR 3 #[.slice (some ad_z) 0 0, .int .u8 kd, St' tl, .int .u8 at_] w (.bool true) := by
  by_cases h0 : 100 < (tl.length : Int)
  · exact path24 ad_z kd tl at_ b0 b1 b2 b3 b4 h0 w hl
  · rcases (show kd % 3 = 0 ∨ kd % 3 = 1 ∨ kd % 3 = 2 from by omega) with h1 | h1 | h1
    · by_cases h3 : 6 ≤ (tl.length : Int) + 1
      · exact path27 ad_z kd tl at_ b0 b1 b2 b3 b4 h0 h1 h3 w hl
      · exact path2 ad_z kd tl at_ b0 b1 b2 b3 b4 h0 h1 h3 w hl
    · exact path9 ad_z kd tl at_ b0 b1 b2 b3 b4 h0 h1 w hl
    · exact path15 ad_z kd tl at_ b0 b1 b2 b3 b4 h0 h1 w hl
theorem walkN (kd : Int) (tl : LB) (at_ : Int) (b0 : 0 ≤ kd) (b1 : kd ≤ 255) (b2 : tl.length ≤ 9223372036854775807) (b3 : 0 ≤ at_) (b4 : at_ ≤ 255) (w : World) (hl : laidE w) : CwR 3 #[.slice none 0 0, .int .u8 kd, St' tl, .int .u8 at_] w (.bool true) := by
  by_cases h0 : 100 < (tl.length : Int)
  · exact path23 kd tl at_ b0 b1 b2 b3 b4 h0 w hl
  · rcases (show kd % 3 = 0 ∨ kd % 3 = 1 ∨ kd % 3 = 2 from by omega) with h1 | h1 | h1
    · by_cases h3 : 6 ≤ (tl.length : Int) + 1
      · exact path26 kd tl at_ b0 b1 b2 b3 b4 h0 h1 h3 w hl
      · exact path1 kd tl at_ b0 b1 b2 b3 b4 h0 h1 h3 w hl
    · exact path8 kd tl at_ b0 b1 b2 b3 b4 h0 h1 w hl
    · exact path14 kd tl at_ b0 b1 b2 b3 b4 h0 h1 w hl
theorem walkR (blk_z : Nat) (base_z : Nat) (es_z : Nat) (z : List (Int × Int × LB × Int)) (kd : Int) (tl : LB) (at_ : Int) (b0 : ∀ n, n ∈ z → reB n) (b1 : z.length ≤ 9223372036854775807) (b2 : 0 ≤ kd) (b3 : kd ≤ 255) (b4 : tl.length ≤ 9223372036854775807) (b5 : 0 ≤ at_) (b6 : at_ ≤ 255) (w : World) (hl : laidE w) (w_z : InRow w 4 (z.flatMap reC) blk_z base_z z.length es_z) (g_z : ∀ e, (H0 e ).get blk_z = none) : CwR 3 #[.slice (some ⟨blk_z, base_z, none⟩) z.length es_z, .int .u8 kd, St' tl, .int .u8 at_] w (.bool true) := by
  by_cases h0 : 6 < (z.length : Int)
  · exact path22 blk_z base_z es_z z kd tl at_ b0 b1 b2 b3 b4 b5 b6 h0 w hl w_z g_z
  · by_cases h1 : 100 < (tl.length : Int)
    · exact path21 blk_z base_z es_z z kd tl at_ b0 b1 b2 b3 b4 b5 b6 h0 h1 w hl w_z g_z
    · by_cases h2 : okR 100 z
      · rcases (show kd % 3 = 0 ∨ kd % 3 = 1 ∨ kd % 3 = 2 from by omega) with h3 | h3 | h3
        · by_cases h4 : (kA z at_) = 0
          · by_cases h6 : (cM z at_ ([u8 7] ++ tl)).1.length = 0
            · exact path3 blk_z base_z es_z z kd tl at_ b0 b1 b2 b3 b4 b5 b6 h0 h1 h2 h3 h4 h6 w hl w_z g_z
            · exact path4 blk_z base_z es_z z kd tl at_ b0 b1 b2 b3 b4 b5 b6 h0 h1 h2 h3 h4 h6 w hl w_z g_z
          · by_cases h6 : (cA z at_).1.length = 0
            · exact path5 blk_z base_z es_z z kd tl at_ b0 b1 b2 b3 b4 b5 b6 h0 h1 h2 h3 h4 h6 w hl w_z g_z
            · by_cases h8 : (cB z at_ ([u8 7] ++ tl)).1.length = 0
              · exact path6 blk_z base_z es_z z kd tl at_ b0 b1 b2 b3 b4 b5 b6 h0 h1 h2 h3 h4 h6 h8 w hl w_z g_z
              · exact path7 blk_z base_z es_z z kd tl at_ b0 b1 b2 b3 b4 b5 b6 h0 h1 h2 h3 h4 h6 h8 w hl w_z g_z
        · by_cases h4 : (kA z at_) = 0
          · by_cases h6 : (cM z at_ ([u8 1, u8 6, u8 0, u8 1, u8 1, u8 0] ++ tl)).1.length = 0
            · exact path10 blk_z base_z es_z z kd tl at_ b0 b1 b2 b3 b4 b5 b6 h0 h1 h2 h3 h4 h6 w hl w_z g_z
            · exact path11 blk_z base_z es_z z kd tl at_ b0 b1 b2 b3 b4 b5 b6 h0 h1 h2 h3 h4 h6 w hl w_z g_z
          · by_cases h6 : (cA z at_).1.length = 0
            · exact path0 blk_z base_z es_z z kd tl at_ b0 b1 b2 b3 b4 b5 b6 h0 h1 h2 h3 h4 h6 w hl w_z g_z
            · by_cases h8 : (cB z at_ ([u8 1, u8 6, u8 0, u8 1, u8 1, u8 0] ++ tl)).1.length = 0
              · exact path12 blk_z base_z es_z z kd tl at_ b0 b1 b2 b3 b4 b5 b6 h0 h1 h2 h3 h4 h6 h8 w hl w_z g_z
              · exact path13 blk_z base_z es_z z kd tl at_ b0 b1 b2 b3 b4 b5 b6 h0 h1 h2 h3 h4 h6 h8 w hl w_z g_z
        · by_cases h4 : (kA z at_) = 0
          · by_cases h6 : (cM z at_ ([u8 1, u8 0, u8 0, u8 1, u8 0, u8 0, u8 0, u8 0] ++ tl)).1.length = 0
            · exact path16 blk_z base_z es_z z kd tl at_ b0 b1 b2 b3 b4 b5 b6 h0 h1 h2 h3 h4 h6 w hl w_z g_z
            · exact path17 blk_z base_z es_z z kd tl at_ b0 b1 b2 b3 b4 b5 b6 h0 h1 h2 h3 h4 h6 w hl w_z g_z
          · by_cases h6 : (cA z at_).1.length = 0
            · exact path18 blk_z base_z es_z z kd tl at_ b0 b1 b2 b3 b4 b5 b6 h0 h1 h2 h3 h4 h6 w hl w_z g_z
            · by_cases h8 : (cB z at_ ([u8 1, u8 0, u8 0, u8 1, u8 0, u8 0, u8 0, u8 0] ++ tl)).1.length = 0
              · exact path19 blk_z base_z es_z z kd tl at_ b0 b1 b2 b3 b4 b5 b6 h0 h1 h2 h3 h4 h6 h8 w hl w_z g_z
              · exact path20 blk_z base_z es_z z kd tl at_ b0 b1 b2 b3 b4 b5 b6 h0 h1 h2 h3 h4 h6 h8 w hl w_z g_z
      · exact path25 blk_z base_z es_z z kd tl at_ b0 b1 b2 b3 b4 b5 b6 h0 h1 h2 w hl w_z g_z
end Go.Proofs.YtlfmfmegnenohaaDoor.cutterStops
