/- A part of the proof: an interpreter of the model's own code on partly known states, and that what it answers is what the program answers. No condition of its own. -/
import Derived.Test.YtgimfcnobfelbaaL1LaneGrammarS0
import Derived.Test.YtgimfcnobfelbaaL1LaneGrammarS1
import Derived.Test.YtgimfcnobfelbaaL1LaneGrammarS2
import Derived.Test.YtgimfcnobfelbaaL1LaneGrammarS3
import Derived.Test.YtgimfcnobfelbaaL1LaneGrammarS4
import Derived.Test.YtgimfcnobfelbaaL1LaneGrammarS5
import Derived.Test.YtgimfcnobfelbaaL1LaneGrammarS6
set_option maxRecDepth 100000
set_option linter.unusedVariables false
set_option linter.unusedSimpArgs false
set_option maxHeartbeats 4000000
namespace Go.Proofs.Ytgimfcnobfelbaa.laneGrammar
open Go Go.AX Go.Proofs Go.Proofs.Ytgimfcnobfelbaa
theorem walkE (body : LB) (ad_z : Addr) (b0 : body.length ≤ 9223372036854775807) (w : World) (hl : laidE w) : CwR 3 #[St' body, .slice (some ad_z) 0 0] w (.bool true) := by
  by_cases h0 : 2000 < (body.length : Int)
  · exact path11 body ad_z b0 h0 w hl
  · by_cases h1 : 512 < (body.length : Int)
    · by_cases h2 : 512 < (body.length : Int) - 512
      · by_cases h3 : 512 < (body.length : Int) - 1024
        · exact path10 body ad_z b0 h0 h1 h2 h3 w hl
        · exact path9 body ad_z b0 h0 h1 h2 h3 w hl
      · exact path8 body ad_z b0 h0 h1 h2 w hl
    · by_cases h2 : (body.length : Int) = 0
      · exact path6 body ad_z b0 h0 h1 h2 w hl
      · exact path7 body ad_z b0 h0 h1 h2 w hl
theorem walkN (body : LB) (b0 : body.length ≤ 9223372036854775807) (w : World) (hl : laidE w) : CwR 3 #[St' body, .slice none 0 0] w (.bool true) := by
  by_cases h0 : 2000 < (body.length : Int)
  · exact path5 body b0 h0 w hl
  · by_cases h1 : 512 < (body.length : Int)
    · by_cases h2 : 512 < (body.length : Int) - 512
      · by_cases h3 : 512 < (body.length : Int) - 1024
        · exact path4 body b0 h0 h1 h2 h3 w hl
        · exact path3 body b0 h0 h1 h2 h3 w hl
      · exact path2 body b0 h0 h1 h2 w hl
    · by_cases h2 : (body.length : Int) = 0
      · exact path0 body b0 h0 h1 h2 w hl
      · exact path1 body b0 h0 h1 h2 w hl
theorem walkR (body : LB) (blk_z : Nat) (base_z : Nat) (es_z : Nat) (z : List (Int × Int × Int × LB × Int)) (b0 : body.length ≤ 9223372036854775807) (b1 : ∀ n, n ∈ z → stB n) (b2 : z.length ≤ 9223372036854775807) (w : World) (hl : laidE w) (w_z : InRow w 5 (z.flatMap stC) blk_z base_z z.length es_z) (g_z : (H0 ).get blk_z = none) : CwR 3 #[St' body, .slice (some ⟨blk_z, base_z, none⟩) z.length es_z] w (.bool true) := by
  by_cases h0 : 2000 < (body.length : Int)
  · exact path17 body blk_z base_z es_z z b0 b1 b2 h0 w hl w_z g_z
  · by_cases h1 : 60 < (z.length : Int)
    · exact path18 body blk_z base_z es_z z b0 b1 b2 h0 h1 w hl w_z g_z
    · by_cases h2 : 512 < (body.length : Int)
      · by_cases h3 : 512 < (body.length : Int) - 512
        · by_cases h4 : 512 < (body.length : Int) - 1024
          · exact path16 body blk_z base_z es_z z b0 b1 b2 h0 h1 h2 h3 h4 w hl w_z g_z
          · exact path15 body blk_z base_z es_z z b0 b1 b2 h0 h1 h2 h3 h4 w hl w_z g_z
        · exact path14 body blk_z base_z es_z z b0 b1 b2 h0 h1 h2 h3 w hl w_z g_z
      · by_cases h3 : (body.length : Int) = 0
        · exact path12 body blk_z base_z es_z z b0 b1 b2 h0 h1 h2 h3 w hl w_z g_z
        · exact path13 body blk_z base_z es_z z b0 b1 b2 h0 h1 h2 h3 w hl w_z g_z
end Go.Proofs.Ytgimfcnobfelbaa.laneGrammar
