/- A part of the proof: an interpreter of the model's own code on partly known states, and that what it answers is what the program answers. No condition of its own. -/
import Derived.Test.YtobklhnepmgbmaaDoorD1FieldCasesR0
import Derived.Test.YtobklhnepmgbmaaDoorD1FieldCasesR1
set_option maxRecDepth 100000
set_option linter.unusedVariables false
set_option linter.unusedSimpArgs false
set_option maxHeartbeats 4000000
namespace Go.Proofs.YtobklhnepmgbmaaDoor.fieldCases
open Go Go.AX Go.Proofs Go.Proofs.YtobklhnepmgbmaaDoor
theorem walkE (up : Int) (ad_z : Addr) (b0 : 0 ≤ up) (b1 : up ≤ 65535) (w : World) (hl : laidE w) : CwR 3 #[.int .u16 up, .slice (some ad_z) 0 0] w (.bool true) := by
  exact path1 up ad_z b0 b1 w hl
theorem walkN (up : Int) (b0 : 0 ≤ up) (b1 : up ≤ 65535) (w : World) (hl : laidE w) : CwR 3 #[.int .u16 up, .slice none 0 0] w (.bool true) := by
  exact path0 up b0 b1 w hl
theorem walkR (up : Int) (blk_z : Nat) (base_z : Nat) (es_z : Nat) (z : List (LB × LB)) (b0 : 0 ≤ up) (b1 : up ≤ 65535) (b2 : ∀ n, n ∈ z → prB n) (b3 : ∀ q, q ∈ z → q.1.length ≤ 140737488351232) (b4 : ∀ q, q ∈ z → q.2.length ≤ 140737488351232) (b5 : z.length ≤ 9223372036854775807) (w : World) (hl : laidE w) (w_z : InRow w 2 (z.flatMap prC) blk_z base_z z.length es_z) (g_z : (H0 ).get blk_z = none) : CwR 3 #[.int .u16 up, .slice (some ⟨blk_z, base_z, none⟩) z.length es_z] w (.bool true) := by
  by_cases h0 : 10 < (z.length : Int)
  · exact path2 up blk_z base_z es_z z b0 b1 b2 b3 b4 b5 h0 w hl w_z g_z
  · by_cases h1 : (dropS [u8 67, u8 111, u8 110, u8 116, u8 101, u8 110, u8 116, u8 45, u8 84, u8 121, u8 112, u8 101] z).length = 0
    · exact path4 up blk_z base_z es_z z b0 b1 b2 b3 b4 b5 h0 h1 w hl w_z g_z
    · exact path3 up blk_z base_z es_z z b0 b1 b2 b3 b4 b5 h0 h1 w hl w_z g_z
end Go.Proofs.YtobklhnepmgbmaaDoor.fieldCases
