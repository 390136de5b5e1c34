/- A part of the proof: an interpreter of the model's own code on partly known states, and that what it answers is what the program answers. No condition of its own. -/
import Derived.Test.YtjkdkpdjmapieaaDoorE1FieldBackR0
import Derived.Test.YtjkdkpdjmapieaaDoorE1FieldBackR1
import Derived.Test.YtjkdkpdjmapieaaDoorE1FieldBackR2
import Derived.Test.YtjkdkpdjmapieaaDoorE1FieldBackR3
set_option maxRecDepth 100000
set_option linter.unusedVariables false
set_option linter.unusedSimpArgs false
set_option maxHeartbeats 4000000
namespace Go.Proofs.YtjkdkpdjmapieaaDoor.fieldBack
open Go Go.AX Go.Proofs Go.Proofs.YtjkdkpdjmapieaaDoor
theorem walkE (pn : LB) (pv : LB) (ad_z : Addr) (be : Int) (bh : Int) (b0 : pn.length ≤ 140737488351232) (b1 : pv.length ≤ 140737488351232) (b2 : 0 ≤ be) (b3 : be ≤ 255) (b4 : 0 ≤ bh) (b5 : bh ≤ 255) (w : World) (hl : laidE w) : CwR 3 #[.agg #[St' pn, St' pv], .slice (some ad_z) 0 0, .int .u8 be, .int .u8 bh] w (.bool true) := by
  by_cases h0 : isF pn pv = true
  · exact path1 pn pv ad_z be bh b0 b1 b2 b3 b4 b5 h0 w hl
  · exact path7 pn pv ad_z be bh b0 b1 b2 b3 b4 b5 h0 w hl
theorem walkN (pn : LB) (pv : LB) (be : Int) (bh : Int) (b0 : pn.length ≤ 140737488351232) (b1 : pv.length ≤ 140737488351232) (b2 : 0 ≤ be) (b3 : be ≤ 255) (b4 : 0 ≤ bh) (b5 : bh ≤ 255) (w : World) (hl : laidE w) : CwR 3 #[.agg #[St' pn, St' pv], .slice none 0 0, .int .u8 be, .int .u8 bh] w (.bool true) := by
  by_cases h0 : isF pn pv = true
  · exact path0 pn pv be bh b0 b1 b2 b3 b4 b5 h0 w hl
  · exact path6 pn pv be bh b0 b1 b2 b3 b4 b5 h0 w hl
theorem walkR (pn : LB) (pv : LB) (blk_z : Nat) (base_z : Nat) (es_z : Nat) (z : List (LB × LB)) (be : Int) (bh : Int) (b0 : pn.length ≤ 140737488351232) (b1 : pv.length ≤ 140737488351232) (b2 : ∀ n, n ∈ z → prB n) (b3 : ∀ q, q ∈ z → q.1.length ≤ 140737488351232) (b4 : ∀ q, q ∈ z → q.2.length ≤ 140737488351232) (b5 : z.length ≤ 9223372036854775807) (b6 : 0 ≤ be) (b7 : be ≤ 255) (b8 : 0 ≤ bh) (b9 : bh ≤ 255) (w : World) (hl : laidE w) (w_z : InRow w 2 (z.flatMap prC) blk_z base_z z.length es_z) (g_z : (H0 ).get blk_z = none) : CwR 3 #[.agg #[St' pn, St' pv], .slice (some ⟨blk_z, base_z, none⟩) z.length es_z, .int .u8 be, .int .u8 bh] w (.bool true) := by
  by_cases h0 : isF pn pv = true
  · by_cases h1 : 20 < (z.length : Int)
    · exact path9 pn pv blk_z base_z es_z z be bh b0 b1 b2 b3 b4 b5 b6 b7 b8 b9 h0 h1 w hl w_z g_z
    · by_cases h13 : 0 < (z.length : Int)
      · by_cases h14 : (dropS pn z).length = 0
        · exact path4 pn pv blk_z base_z es_z z be bh b0 b1 b2 b3 b4 b5 b6 b7 b8 b9 h0 h1 h13 h14 w hl w_z g_z
        · by_cases h15 : (getS pn z).length = 0
          · exact path3 pn pv blk_z base_z es_z z be bh b0 b1 b2 b3 b4 b5 b6 b7 b8 b9 h0 h1 h13 h14 h15 w hl w_z g_z
          · exact path5 pn pv blk_z base_z es_z z be bh b0 b1 b2 b3 b4 b5 b6 b7 b8 b9 h0 h1 h13 h14 h15 w hl w_z g_z
      · exact path2 pn pv blk_z base_z es_z z be bh b0 b1 b2 b3 b4 b5 b6 b7 b8 b9 h0 h1 h13 w hl w_z g_z
  · exact path8 pn pv blk_z base_z es_z z be bh b0 b1 b2 b3 b4 b5 b6 b7 b8 b9 h0 w hl w_z g_z
end Go.Proofs.YtjkdkpdjmapieaaDoor.fieldBack
