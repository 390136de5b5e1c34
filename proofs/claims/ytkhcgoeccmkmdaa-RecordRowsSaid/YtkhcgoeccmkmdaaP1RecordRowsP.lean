/- A part of the proof: an interpreter of the model's own code on partly known states, and that what it answers is what the program answers. No condition of its own. -/
import Derived.Test.YtkhcgoeccmkmdaaP1RecordRowsR0
import Derived.Test.YtkhcgoeccmkmdaaP1RecordRowsR1
set_option maxRecDepth 100000
set_option linter.unusedVariables false
set_option linter.unusedSimpArgs false
set_option maxHeartbeats 4000000
namespace Go.Proofs.Ytkhcgoeccmkmdaa.recordRows
open Go Go.AX Go.Proofs Go.Proofs.Ytkhcgoeccmkmdaa
theorem walkE (ad_l : Addr) (w : World) (hl : laidE w) : CwR 3 #[.slice (some ad_l) 0 0] w (.bool true) := by
  exact path1 ad_l w hl
theorem walkN (w : World) (hl : laidE w) : CwR 3 #[.slice none 0 0] w (.bool true) := by
  exact path0 w hl
theorem walkR (blk_l : Nat) (base_l : Nat) (es_l : Nat) (l : List (Int × Int × LB × Int)) (b0 : ∀ n, n ∈ l → reB n) (b1 : l.length ≤ 9223372036854775807) (w : World) (hl : laidE w) (w_l : InRow w 4 (l.flatMap reC) blk_l base_l l.length es_l) (g_l : (H0 ).get blk_l = none) : CwR 3 #[.slice (some ⟨blk_l, base_l, none⟩) l.length es_l] w (.bool true) := by
  by_cases h0 : 12 < (l.length : Int)
  · exact path2 blk_l base_l es_l l b0 b1 h0 w hl w_l g_l
  · by_cases h1 : okC l = true
    · exact path3 blk_l base_l es_l l b0 b1 h0 h1 w hl w_l g_l
    · exact path4 blk_l base_l es_l l b0 b1 h0 h1 w hl w_l g_l
end Go.Proofs.Ytkhcgoeccmkmdaa.recordRows
